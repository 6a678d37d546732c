"""Glazetold: trials of mixtures, told by rows."""
