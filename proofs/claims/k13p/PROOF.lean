import Lay
import KE.KSortTupG
import PySem.Challenge.RW_glazetold_k13_trees_that_settle
import KE.KRevSl
import PyProof.ListRange
import PyProof.TupleOfSeq
import KE.KItemsList
set_option Elab.async false
set_option linter.all false
set_option maxRecDepth 100000
set_option maxHeartbeats 4000000
namespace L2
open PySem PySem.Spec PyProof.Rows
/-! ### isinstance, the class a built-in one or one of the text -/
def clsV : V → Value
  | .ty n => .type n
  | .ref a => .ref a
  | _ => .none
def isClsV : V → Bool
  | .ty _ => true
  | .ref _ => true
  | _ => false
theorem clsV_rel {y : V} {u : Value} (h : isClsV y = true) (r : RelV y u) : u = clsV y := by
  cases y <;> first | exact r | (simp only [isClsV] at h; cases h)
def rIsi (K : PySem.W.Frag) : List V → Hp → VK → Prop := fun xs H Q => ∃ x y t b, xs = [x, y] ∧ isClsV y = true ∧ TyOf K H x t ∧ PySem.W.kitOne K t (clsV y) = some b ∧ Q (.bl b) H
section
variable {X : Cx}
theorem cr_isi : CallR X (.builtin "isinstance") (rIsi X.K) := by
  rintro pins s σ H xs us Q I r ⟨x, y, t, b, rfl, hc, ty, e, q⟩
  obtain ⟨u, u', rfl, rx, ry⟩ := vals2 r
  cases clsV_rel hc ry
  exact isinst_ok I rx ty e fun tk => ⟨.bl b, H, I.tok tk, rfl, q⟩
end
/-! ### a comprehension over the signs of a text -/
theorem lc_str {x : Str} {g : TG} {tt : TT} {te : TE} {vs : List Nat} {σ : St} {H1 : Hp} {D : Addr} {Qd : Hp → Prop} (Pv : Nat → Hp → Prop) (h0 : Pv 0 (upd H1 D (.lst [])))
    (hs : ∀ i c H, x.cps[i]? = some c → Pv i H → g (.str ⟨#[c]⟩) (wipe σ vs) H fun σ2 H2 => wipe σ2 vs = wipe σ vs ∧ tt σ2 H2 fun b H3 =>
      if b = true then te σ2 H3 fun y H4 => ∃ acc, H4 D = some (.lst acc) ∧ acc.length < sizeLine ∧ Pv (i + 1) (upd H4 D (.lst (acc ++ [y]))) else Pv (i + 1) H3) (hd : ∀ H, Pv x.cps.size H → Qd H) :
    ∃ W : Nat → Nat → Hp → Prop, (∃ m, W 0 m (upd H1 D (.lst []))) ∧ ∀ i m H, W i m H →
      ((Its x).stop i H ∧ Qd H) ∨ ((Its x).go i H ∧ ∃ Nx : Hp → Prop, (∀ H', Nx H' → ∃ m', m' < m ∧ W (i + 1) m' H') ∧ ∀ y H', (Its x).yld i H y H' → g y (wipe σ vs) H' fun σ2 H2 => wipe σ2 vs = wipe σ vs ∧ tt σ2 H2 fun b H3 =>
        if b = true then te σ2 H3 fun y H4 => ∃ acc, H4 D = some (.lst acc) ∧ acc.length < sizeLine ∧ Nx (upd H4 D (.lst (acc ++ [y]))) else Nx H3) := by
  refine ⟨fun i m H => m = x.cps.size - i ∧ i ≤ x.cps.size ∧ Pv i H, ⟨x.cps.size, by simp, Nat.zero_le _, h0⟩, ?_⟩
  rintro i m H ⟨rfl, hi, p⟩
  by_cases hlt : i < x.cps.size
  · refine .inr ⟨hlt, Pv (i + 1), fun H' p' => ⟨x.cps.size - (i + 1), by omega, rfl, hlt, p'⟩, fun y H' hy => ?_⟩
    obtain ⟨e, c, hc, ey⟩ := hy
    subst e ey
    exact hs i c _ hc p
  · have e : i = x.cps.size := by omega
    subst e
    exact .inl ⟨Nat.le_refl _, hd H p⟩
/-! ### sets of texts -/
/-- a set of texts: its members, its size -/
def setO (P : Program) (w : World) (a : Addr) (S : Str → Bool) (n : Nat) : HO := .ext fun h => h.SetOf (strKind P w) a S n
theorem setOf_keep {P : Program} {w : World} {a : Addr} {S : Str → Bool} {n : Nat} {h1 h2 : Heap} (q : h1.SetOf (strKind P w) a S n) (k : ∀ o, h1.get? a = some o → h2.get? a = some o) : h2.SetOf (strKind P w) a S n := by
  obtain ⟨o, es, ep, t, e, r⟩ := q
  exact ⟨o, es, ep, t, k o e, r⟩
theorem setOk {P : Program} {w : World} {H : Hp} {h : Heap} {a : Addr} {S : Str → Bool} {n : Nat} (q : h.SetOf (strKind P w) a S n) : ObjOk P w H h a (setO P w a S n) :=
  ⟨q, let ⟨o, _, _, _, e, _⟩ := q; ⟨o, e⟩, fun _ _ p k => setOf_keep p k⟩
def rSetNew (P : Program) (w : World) : List V → Hp → VK → Prop := fun xs H Q => xs = [] ∧ ∀ p, H p = none → Q (.ref p) (upd H p (setO P w p (fun _ => false) 0))
def rSetIn (P : Program) (w : World) : R2 := fun x y H Q => ∃ k a S n, x = .str k ∧ y = .ref a ∧ H a = some (setO P w a S n) ∧ Q (.bl (S k)) H
def rSetAdd (P : Program) (w : World) : V → List V → Hp → VK → Prop := fun x xs H Q => ∃ k a S n, x = .ref a ∧ xs = [.str k] ∧ H a = some (setO P w a S n) ∧ n < 1000 ∧ Q .non (upd H a (setO P w a (fun k' => S k' || decide (k' = k)) (if S k then n else n + 1)))
section
variable {X : Cx}
theorem Inv.setAt {pins : List (Addr × Obj)} {σ : St} {H : Hp} {s : Shared} {a : Addr} {S : Str → Bool} {n : Nat} (I : Inv X pins σ H s) (h : H a = some (setO X.prog X.w a S n)) : s.heap.SetOf (strKind X.prog X.w) a S n := (I.hok a _ h).1
theorem cr_setNew : CallR X (.type "set") (rSetNew X.prog X.w) := by
  rintro pins s σ H xs us Q I r ⟨rfl, q⟩
  cases r
  refine call_set_0 fun led => ?_
  refine ⟨.ref s.heap.objs.size, _, I.laid (t' := s.toks) (fun b u e => Heap.get?_push_of_some _ e) (Nat.le_refl _) (setOk ?_), rfl, q _ (I.hok.fresh (Nat.le_refl _))⟩
  exact (setObjOf_fresh (knd := strKind X.prog X.w) led).setOf (Heap.get?_push_size _ rfl) (by decide)
theorem op_in_set : OpR X (compareOp .In) (rSetIn X.prog X.w) := by
  rintro pins s σ H x y v u Q I rx ry ⟨k, a, S, n, rfl, rfl, h, q⟩
  obtain ⟨t, rfl⟩ := rx
  cases ry
  exact wpAny_inSet_of (strKind_is _ _ k t) rfl (I.setAt h) ⟨.bl (S k), H, I.tok _, rfl, q⟩
theorem mt_setAdd : MtR X "set.add" (rSetAdd X.prog X.w) := by
  rintro pins s σ H x xs v us Q I rx r ⟨k, a, S, n, rfl, rfl, h, hn, q⟩
  cases rx
  obtain ⟨u, rfl, ru⟩ := vals1 r
  obtain ⟨t, rfl⟩ := ru
  refine call_set_add (strKind_is _ _ k t) rfl (I.setAt h) (by unfold scanBound; omega) fun h' sb hS => ?_
  refine ⟨.non, _, I.write (x := a) (e := a) (by rw [h]; trivial) (.inl rfl) (fun b o hb e => (sb.2 b hb).trans e) (let ⟨o, _, _, _, e, _⟩ := hS; ⟨o, e⟩) (setOk hS), rfl, q⟩
end
end L2

set_option Elab.async false
set_option linter.all false
set_option maxRecDepth 100000
set_option maxHeartbeats 4000000
namespace L2
open PySem PySem.Spec PyProof.Rows
open PySem.SeqAt
open PySem.AutoSeq1 (wpAny_loadPart')
theorem Same.upd {H : Hp} {p : Addr} {o : HO} (h : H p = none) : Same H (L2.upd H p o) := fun b u e => by rw [upd_ne (ne_of_none e h)]; exact e
theorem tupleAt {X : Cx} {pins : List (Addr × Obj)} {σ : St} {H : Hp} {s : Shared} {a : Addr} {xs : List V} (I : Inv X pins σ H s) (h : H a = some (.tup xs)) : ∃ its : List Value, Vals xs its ∧ IsTup s.heap a its.toArray ∧ xs.length ≤ sizeLine := I.tuple (SqT.of (K := X.K) h)
/-! ### t[a:b], whole or not; t + u, any of them empty: some tuple of the items, nothing else touched -/
def rSlTA : V → Option Int → Option Int → Hp → VK → Prop := fun x lo hi H Q => ∃ a xs, x = .ref a ∧ H a = some (.tup xs) ∧ ∀ p H', Same H H' → H' p = some (.tup (cutV xs lo hi)) → Q (.ref p) H'
theorem cutV_whole {xs : List V} {lo hi : Option Int} (h : HT.sIx xs.length 0 lo = 0 ∧ HT.sIx xs.length xs.length hi = xs.length) : cutV xs lo hi = xs := by
  unfold cutV
  rw [h.1, h.2, List.drop_zero, Nat.sub_zero, List.take_length]
section
variable {prog : Program} {w : World} {A : Around} {E : Value → Shared → Prop} {s : Shared}
open HT
theorem tuple_slice_same {t sl : Addr} {items : Array Value} {vl vu : Value} {lo hi : Option Int} {Q : Value → Shared → Prop} (ht : IsTup s.heap t items) (hs : s.heap.IsSliceOf sl vl vu .none) (pl : IsPart vl lo) (pu : IsPart vu hi)
    (hw : sIx items.size 0 lo = 0 ∧ sIx items.size items.size hi = items.size) (h : Q (.ref t) s) : wpAny (model prog w) A (getItem (.ref t) (.ref sl)) Q E s := by
  obtain ⟨os, hos, hcs, hds⟩ := id hs
  have hTs : s.TypeIs (.ref sl) "slice" := ⟨os, hos, hcs⟩
  unfold getItem
  try with_reducible refine wpAny_holding ?_
  first | refine wpAny_bind (wpAny_pure ?_) | skip
  refine wpAny_bind (wpAny_sequenceKey ht.typeIs (by decide) ?_)
  refine wpAny_bind (wpAny_callSpecial?_slot (name := Str.ofString "__getitem__") ht.typeIs PyProof.Rows.slot_tuple_getitem
    (wpAny_call_entry PyProof.Rows.slot_tuple_getitem ht.typeIs entry_tuple_getitem ?_ (args_tuple_getitem _ _)))
  show wpAny _ _ (Builtin.Tuple.tupleItemsOf (.ref t) >>= _) _ _ s
  refine wpAny_bind (tupleItemsOf_ ht ?_)
  refine wpAny_bind (wpAny_typeOf hTs ?_)
  rw [if_pos (by decide)]
  refine wpAny_bind (sliceApplied_gen hs pl pu ?_)
  have hyes : (((sIx items.size 0 lo : Nat) : Int) == 0 && (1 : Int) == 1 && (sIx items.size items.size hi - sIx items.size 0 lo) == items.size) = true := by
    rw [hw.1, hw.2]; simp
  show wpAny _ _ (if (((sIx items.size 0 lo : Nat) : Int) == 0 && (1 : Int) == 1 && (sIx items.size items.size hi - sIx items.size 0 lo) == items.size) = true then _ else _) _ _ s
  rw [if_pos hyes]
  unfold Builtin.Tuple.tupleIsExact
  refine wpAny_bind (wpAny_bind (wpAny_typeOf ht.typeIs (wpAny_pure ?_)))
  rw [if_pos (by decide)]
  exact wpAny_bind (wpAny_rule (wpAny_pure ⟨_, rfl, wpAny_pure h⟩))
end
section
variable {X : Cx}
theorem sl_tupA : SlR X rSlTA := by
  intro pins s σ H x v vl vu lo hi sl Q I rx hs pl pu h
  obtain ⟨a, xs, rfl, hx, q⟩ := h
  by_cases hw : HT.sIx xs.length 0 lo = 0 ∧ HT.sIx xs.length xs.length hi = xs.length
  · cases rx
    obtain ⟨its, r, ht, hz⟩ := tupleAt I hx
    have hlen : its.toArray.size = xs.length := by rw [List.size_toArray]; exact r.length.symm
    refine ⟨"tuple", _, PyProof.Rows.slot_tuple_getitem.lookup, ht.typeIs, ?_⟩
    exact tuple_slice_same ht hs pl pu (by rw [hlen]; exact hw) ⟨.ref a, H, I, rfl, q a H (Same.refl H) (by rw [cutV_whole hw]; exact hx)⟩
  · exact sl_tup pins s σ H _ v vl vu lo hi sl Q I rx hs pl pu ⟨a, xs, rfl, SqT.of hx, hw, fun p hp => q p _ (Same.upd hp) upd_same⟩
def rCatTA : R2 := fun x y H Q => ∃ a b xs ys, x = .ref a ∧ y = .ref b ∧ H a = some (.tup xs) ∧ H b = some (.tup ys) ∧ xs.length + ys.length ≤ sizeLine ∧ ∀ p H', Same H H' → H' p = some (.tup (xs ++ ys)) → Q (.ref p) H'
theorem op_catTA : OpR X (binaryOp .Add) rCatTA := by
  intro pins s σ H x y v u Q I rx ry h
  obtain ⟨a, b, xs, ys, rfl, rfl, ha, hb, hz, q⟩ := h
  by_cases hx : xs = []
  · subst hx
    cases rx
    cases ry
    obtain ⟨its, r1, p1, _⟩ := tupleAt I ha
    obtain ⟨its2, r2, p2, _⟩ := tupleAt I hb
    cases r1
    obtain ⟨⟨cls, dd, data, sl⟩, ho, hc, n, hd⟩ := id p1
    obtain ⟨⟨cls2, dd2, data2, sl2⟩, ho2, hc2, n2, hd2⟩ := id p2
    simp only at hc hd hc2 hd2
    subst hc hd hc2 hd2
    have fin : EP X pins σ Q (.ref b) s := ⟨.ref b, H, I, rfl, q b H (Same.refl H) hb⟩
    exact concat_meets ⟨_, ho, rfl⟩ ⟨_, ho2, rfl⟩ noFill_tuple_add seq_tuple_add PySem.F.slot_tuple_add PySem.F.entry_tuple_add (PySem.F.args_tuple_add_2 _ _) (tuple_addW0 a b #[] its2.toArray n n2 dd dd2 sl sl2 rfl) ⟨ho, ho2, fin⟩
  · refine op_catT pins s σ H _ _ v u Q I rx ry ⟨a, b, xs, ys, rfl, rfl, SqT.of ha, SqT.of hb, hx, hz, fun e => ?_, fun _ p hp => q p _ (Same.upd hp) upd_same⟩
    subst e
    exact q a H (Same.refl H) (by rw [List.append_nil]; exact ha)
end
end L2

set_option Elab.async false
set_option linter.all false
set_option maxRecDepth 100000
set_option maxHeartbeats 4000000
namespace L2
open PySem PySem.Spec PyProof.Rows
open PySem.AutoSeq1 (wpAny_loadPart')
/-! ### enumerate over a tuple -/
section
variable {prog : Program} {w : World} {A : Around} {E : Value → Shared → Prop} {s : Shared}
theorem next_tup_item {it t : Addr} {i : Nat} {items : Array Value} {x : Value} {Q : Value → Shared → Prop} (hit : s.heap.IsTupleIter it t i) (ht : s.heap.IsTuple t items) (hx : items[i]? = some x)
    (hQ : ∀ h', h'.IsTupleIter it t (i + 1) → Heap.SameBut it s.heap h' → Q x { s with heap := h' }) : wpAny (model prog w) A (Builtin.SmallTypes.nextOf (.ref it)) Q E s := by
  obtain ⟨oi, hoi, hci, hdi⟩ := id hit
  obtain ⟨ot, hot, _, nt, hdt⟩ := ht
  unfold Builtin.SmallTypes.nextOf
  refine wpAny_bind (wpAny_callSpecial?_slot (name := Str.ofString "__next__") hit.typeIs F.slot_tuple_iterator_next (wpAny_call_entry F.slot_tuple_iterator_next hit.typeIs F.entry_tuple_iterator_next ?_ (F.args_tuple_iterator_next_1 _)))
  show wpAny _ _ (field (.ref it) 0 >>= _) _ _ s
  refine wpAny_bind (wpAny_field hoi hdi (x := .ref t) rfl ?_)
  show wpAny _ _ (if (Value.ref t == Value.none) = true then _ else _) _ _ s
  rw [if_neg (show ¬ ((Value.ref t == Value.none) = true) from Bool.false_ne_true)]
  show wpAny _ _ (field (.ref it) 1 >>= _) _ _ s
  refine wpAny_bind (wpAny_field hoi hdi (x := .int i 0) rfl ?_)
  show wpAny _ _ (seqItems? (.ref t) >>= _) _ _ s
  refine wpAny_bind (wpAny_seqItems hot hdt ?_)
  simp only [Int.toNat_natCast, hx]
  refine wpAny_bind (wpAny_setField hoi hdi (by simp) (wpAny_pure ⟨x, rfl, wpAny_pure (hQ _ ?_ (Heap.SameBut.update ..))⟩))
  exact ⟨_, Heap.get?_update_self _ hoi (Obj.isFreed_of_fields (Obj.data_mapFields hdi _)), (Obj.cls_mapFields ..).trans hci, by rw [Obj.data_mapFields hdi]; simp [rawInt]⟩
theorem next_tup_end {it t : Addr} {i : Nat} {items : Array Value} {Q : Value → Shared → Prop} (hh : A.handled = none) (hit : s.heap.IsTupleIter it t i) (ht : s.heap.IsTuple t items) (hx : items[i]? = none)
    (hE : ∀ h' e, Heap.ExtBut it s.heap h' → (∃ o, h'.get? e = some o ∧ o.cls = .type "StopIteration") → E (.ref e) { s with heap := h' }) : wpAny (model prog w) A (Builtin.SmallTypes.nextOf (.ref it)) Q E s := by
  obtain ⟨oi, hoi, hci, hdi⟩ := id hit
  obtain ⟨ot, hot, _, nt, hdt⟩ := ht
  unfold Builtin.SmallTypes.nextOf
  refine wpAny_bind (wpAny_callSpecial?_slot (name := Str.ofString "__next__") hit.typeIs F.slot_tuple_iterator_next (wpAny_call_entry F.slot_tuple_iterator_next hit.typeIs F.entry_tuple_iterator_next ?_ (F.args_tuple_iterator_next_1 _)))
  show wpAny _ _ (field (.ref it) 0 >>= _) _ _ s
  refine wpAny_bind (wpAny_field hoi hdi (x := .ref t) rfl ?_)
  show wpAny _ _ (if (Value.ref t == Value.none) = true then _ else _) _ _ s
  rw [if_neg (show ¬ ((Value.ref t == Value.none) = true) from Bool.false_ne_true)]
  show wpAny _ _ (field (.ref it) 1 >>= _) _ _ s
  refine wpAny_bind (wpAny_field hoi hdi (x := .int i 0) rfl ?_)
  show wpAny _ _ (seqItems? (.ref t) >>= _) _ _ s
  refine wpAny_bind (wpAny_seqItems hot hdt ?_)
  simp only [Int.toNat_natCast, hx]
  refine wpAny_bind (wpAny_rule (wpAny_bind (wpAny_setField hoi hdi (by simp) ?_)))
  show wpAny _ _ (newExc (.type "StopIteration") [] >>= _) _ _ _
  refine wpAny_bind ?_
  simp only [newExc, newTuple]
  refine wpAny_bind (wpAny_newObj_type ?_ (by size_fits))
  refine wpAny_bind (m := firstArgMember _ _) (wpAny_of_eq (a := Value.none) (by first | rfl | (simp only [firstArgMember]; rfl)) ?_)
  refine wpAny_newObj_type ?_ (by size_fits)
  simp only [raiseNew]
  refine wpAny_bind (wpAny_handled ?_)
  first | rw [show A.in1.handled = none from hh] | rw [hh]
  refine wpAny_bind (wpAny_pure (wpAny_throw ?_))
  exact hE _ _ (((Heap.SameBut.update ..).extBut.push _).push _) ⟨_, Heap.get?_push_size _ rfl, rfl⟩
end
theorem drawsTup {prog : Program} {w : World} {A : Around} (hh : A.handled = none) (it t : Addr) (hne : t ≠ it) (items : Array Value) :
    Draws prog w A it [it, t] items.size (fun i v => items[i]? = some v) (fun i h => h.IsTupleIter it t i ∧ h.IsTuple t items) where
  live := fun _ _ st => let ⟨o, ho, _⟩ := st.1; ⟨o, ho⟩
  frame := fun _ _ _ st hk => ⟨let ⟨o, ho, r⟩ := st.1; ⟨o, hk it (by simp) o ho, r⟩, let ⟨o, ho, r⟩ := st.2; ⟨o, hk t (by simp) o ho, r⟩⟩
  item := fun i s Q E hi st hQ => next_tup_item st.1 st.2 (x := items[i]) (by simp [hi]) fun h' hit' hs' => hQ _ h' s.toks (by simp [hi]) ⟨hit', st.2.extBut hs'.extBut hne⟩ hs'
  done := fun s Q E st hE => next_tup_end hh st.1 st.2 (by simp) hE
set_option maxHeartbeats 1000000 in
theorem enum_new_tup (t : Addr) (items : Array Value) (n : Nat) (dct : Option Addr) (sl : Array (Option Value)) :
    Meets (Builtin.«enumerate.__new__» ⟨[.type "enumerate", .ref t], []⟩) (fun _ R s => s.heap.get? t = some { cls := .type "tuple", dict := dct, data := .seq items n, slots := sl } ∧
      R (.ok (.ret (.ref (s.heap.push { cls := .type "tuple_iterator", data := .fields #[.ref t, .int 0 0] }).objs.size)))
        { s with heap := (s.heap.push { cls := .type "tuple_iterator", data := .fields #[.ref t, .int 0 0] }).push { cls := .type "enumerate", data := .fields #[.none, .bool false, .ref s.heap.objs.size, rawInt 0, .none, .none] } }) :=
  .of_wp fun prog w A R s h => by
    obtain ⟨hp, g, d, tk, os⟩ := s; obtain ⟨hl, h⟩ := h
    have hsub := sub_enumerate
    have hT : Heap.IsTuple (Shared.heap ⟨hp, g, d, tk, os⟩) t items := ⟨_, hl, rfl, n, rfl⟩
    wp_walk using wpAny_loadPart' hl
    refine wpAny_stack_any fun st => wpAny_pure ?_
    split
    · rename_i c _ _ _ _ _
      cases (c == Value.type "enumerate")
      · wp_walk using wpAny_loadPart' hl, wpAny_pyIter_tuple hT
        exact ⟨_, rfl, h⟩
      · wp_walk using wpAny_loadPart' hl, wpAny_pyIter_tuple hT
        exact ⟨_, rfl, h⟩
    · wp_walk using wpAny_loadPart' hl, wpAny_pyIter_tuple hT
      exact ⟨_, rfl, h⟩
theorem call_enum_tup {prog : Program} {w : World} {A : Around} {E : Value → Shared → Prop} {s : Shared} {t : Addr} {items : Array Value} {Q : Value → Shared → Prop} (hT : IsTup s.heap t items)
    (h : ∀ h', IsEnum h' (s.heap.objs.size + 1) s.heap.objs.size 0 .none → h'.IsTupleIter s.heap.objs.size t 0 → h'.objs.size = s.heap.objs.size + 2 → (∀ b o, s.heap.get? b = some o → h'.get? b = some o) → Q (.ref (s.heap.objs.size + 1)) { s with heap := h' }) :
    wpAny (model prog w) A (call (.type "enumerate") [.ref t]) Q E s := by
  obtain ⟨⟨c, dct, dt, sl⟩, hl, hc, n, hd⟩ := hT
  replace hc : c = .type "tuple" := hc
  replace hd : dt = .seq items n := hd
  subst hc hd
  refine callType_new F.called_enumerate (by decide) (F.typeCall_enumerate_1 _) (F.newCall_enumerate_1 _) (fun obj => F.args_object_init_2 obj _) F.entry_enumerate_new (enum_new_tup t items n dct sl) ⟨hl, ?_⟩
  have hz : (s.heap.push { cls := .type "tuple_iterator", data := .fields #[.ref t, .int 0 0] }).objs.size = s.heap.objs.size + 1 := Heap.size_push ..
  show _ ∧ _
  rw [hz]
  have he : IsEnum ((s.heap.push { cls := .type "tuple_iterator", data := .fields #[.ref t, .int 0 0] }).push { cls := .type "enumerate", data := .fields #[.none, .bool false, .ref s.heap.objs.size, rawInt 0, .none, .none] }) (s.heap.objs.size + 1) s.heap.objs.size 0 .none := by
    have := Heap.get?_push_size (s.heap.push { cls := .type "tuple_iterator", data := .fields #[.ref t, .int 0 0] }) (o := { cls := .type "enumerate", data := .fields #[.none, .bool false, .ref s.heap.objs.size, rawInt 0, .none, .none] }) rfl
    rw [hz] at this; exact this
  refine ⟨⟨_, he, rfl⟩, h _ he ⟨_, Heap.get?_push_of_some _ (Heap.get?_push_size _ rfl), rfl, rfl⟩ (by rw [Heap.size_push, hz]) fun b o x => Heap.get?_push_of_some _ (Heap.get?_push_of_some _ x)⟩
def IteT (K : PySem.W.Frag) (a : Addr) : It :=
  ⟨fun i H => ∃ xs x, SqT K H a xs ∧ xs[i]? = some x, fun i H v H' => ∃ T x, v = .ref T ∧ H T = none ∧ H' = upd H T (.tup [.int (i : Nat), x]) ∧ ∀ xs, SqT K H a xs → xs[i]? = some x, fun i H => ∃ xs, SqT K H a xs ∧ xs.length = i⟩
theorem turn_enumT {P : Program} {w : World} {K : PySem.W.Frag} {elts : List Expr} {kk : Nat} {tpos : Pos} (a e it : Addr) (its : Array Value) (hne : a ≠ it) (hea : e ≠ a) :
    Turn P w K (.Tuple elts kk tpos) (IteT K a) [e, it] e (fun i h => (∃ old, IsEnum h e it ((i : Nat) : Int) old) ∧ h.IsTupleIter it a i ∧ e ≠ it) where
  mem := by simp
  obj := fun i h st b hb => by
    obtain ⟨⟨old, he⟩, ⟨o, ho, hc, hd⟩, _⟩ := st
    have e' : b = e ∨ b = it := by simpa using hb
    rcases e' with z | z
    · rw [z]; exact ⟨_, he, fun v q => nomatch q⟩
    · rw [z]; exact ⟨o, ho, fun v q => by rw [hd] at q; cases q⟩
  keep := fun i h h' st k => let ⟨⟨old, he⟩, ⟨o, ho, r⟩, hne⟩ := st; ⟨⟨old, k e (by simp) _ he⟩, ⟨o, k it (by simp) o ho, r⟩, hne⟩
  item := by
    intro X hP hw hK hc i pins s σ H E I hf st hg
    subst hP hw hK
    obtain ⟨⟨old, he⟩, hit, hnei⟩ := st
    obtain ⟨xs, x, hq, hx⟩ := hg
    obtain ⟨us, rv, p, hz⟩ := I.tuple hq
    obtain ⟨u, hu, ru⟩ := rv.get hx
    have hel : e < s.heap.objs.size := Heap.lt_size he
    have hil : it < s.heap.objs.size := by obtain ⟨_, q, _⟩ := hit; exact Heap.lt_size q
    have hil2 : i < us.toArray.size := by rw [List.size_toArray, ← rv.length]; exact (List.getElem?_eq_some_iff.mp hx).1
    refine wpAny_pyNext_enum_itemD (drawsTup (A := X.A.in1) (I.ok.hd hc) it a hne us.toArray) he ⟨hit, p⟩ hil2 hnei (by simp [hnei, hea]) fun y h' tk hy ho hst hT hsz hk => ?_
    have ey : y = u := by
      have z : us.toArray[i]? = some u := by simpa using hu
      have hy' : us.toArray[i]? = some y := hy
      rw [hy'] at z; exact Option.some.inj z
    subst ey
    refine ⟨_, rfl, wpAny_letOwnedTupleGo_enum (s := { s with heap := h', toks := tk + 1 }) ho fun h'' he' sb => ?_⟩
    have hT2 : h''.get? s.heap.objs.size = some { cls := .type "tuple", data := .seq #[.int i tk, y] } := (sb.2 _ (Nat.ne_of_gt hel)).trans hT
    have new : ObjOk X.prog X.w (upd H s.heap.objs.size (.tup [.int (i : Nat), x])) h'' s.heap.objs.size (.tup [.int (i : Nat), x]) :=
      ⟨by show 2 ≤ sizeLine; decide, [.int i tk, y], .cons ⟨_, rfl⟩ (.cons ru .nil), ⟨_, hT2, rfl, _, rfl⟩⟩
    have I1 : Inv X pins σ (upd H s.heap.objs.size (.tup [.int (i : Nat), x])) { s with heap := h'', toks := tk + 1 } :=
      I.turnedNew (ch := [e, it]) (fun b ob hb q => (sb.2 b (fun z => hb (by simp [z]))).trans (hk b ob (fun z => hb (by simp [z])) (fun z => hb (by simp [z])) q)) hf (Nat.le_refl _) new
    refine ⟨.ref s.heap.objs.size, _, I1, rfl, ⟨_, x, rfl, I.hok.fresh (Nat.le_refl _), rfl, fun ys hy => by rw [I.tuple_inj hy hq]; exact hx⟩, ⟨⟨y, ?_⟩, ?_, hnei⟩, fun b hb => ?_⟩
    · have e1 : ((i + 1 : Nat) : Int) = (i : Int) + 1 := by omega
      rw [e1]; exact he'
    · obtain ⟨⟨o, ho2, r⟩, _⟩ := hst
      exact ⟨o, (sb.2 it (Ne.symm hnei)).trans ho2, r⟩
    · have hb' : b < s.heap.objs.size := by
        have e' : b = e ∨ b = it := by simpa using hb
        rcases e' with z | z
        · rw [z]; exact hel
        · rw [z]; exact hil
      rw [upd_ne (Nat.ne_of_lt hb')]
      exact (hf b hb).1
  done := by
    intro X hP hw hK hc i pins s σ H E I hf st hg
    subst hP hw hK
    obtain ⟨⟨old, he⟩, hit, hnei⟩ := st
    obtain ⟨xs, hq, hx⟩ := hg
    obtain ⟨us, rv, p, hz⟩ := I.tuple hq
    obtain ⟨f0, f1, f2, f3, f4, f5⟩ := hf it (by simp)
    have hl := rv.length
    have e1 : us.toArray.size = i := by rw [List.size_toArray, ← hl, hx]
    refine wpAny_pyNext_enum_endD (drawsTup (A := X.A.in1) (I.ok.hd hc) it a hne us.toArray) he (by rw [e1]; exact ⟨hit, p⟩) fun h' eb => ⟨rfl, I.turned (t' := s.toks) (fun b o hb q => eb b o hb q) f0 f1 f3 f4 f5⟩
  self := fun A i s Q E st h => let ⟨⟨_, he⟩, _⟩ := st; wpAny_pyIter_enum he h
def iEnumT (K : PySem.W.Frag) (ta : TA) : TI := fun σ H R => ta σ H fun vs H1 => ∃ a xs, vs = [.ref a] ∧ SqT K H1 a xs ∧ R (IteT K a) H1
theorem pi_enumT {X : Cx} {e : Expr} {ta : TA} {p pos tpos : Pos} {elts : List Expr} {kk : Nat} (hg : Gl X "enumerate") (hm : X.mg "enumerate" = none) (ha : PA X [e] ta) (hs : starEach [e] X.env = [(false, eval e X.env)] := by rfl) :
    PI X (.Tuple elts kk tpos) (.Call (.Name "enumerate" p) [e] [] pos) (iEnumT X.K ta) := by
  intro pins s σ H R I h
  refine Call_ (ld_blt I hg hm boot_enumerate (PyProof.Rows.callWith_type1 (thn (ha pos pins s σ H _ I h) fun us s1 ⟨vs, H1, I1, r1, q1⟩ => ?_) hs rfl))
  obtain ⟨a, xs, ex, hq, q⟩ := q1
  subst ex
  obtain ⟨u, rfl, ru⟩ := vals1 r1
  cases ru
  obtain ⟨us, rv, pt, hz⟩ := I1.tuple hq
  have hal : a < s1.heap.objs.size := let ⟨_, e, _⟩ := pt; Heap.lt_size e
  refine call_enum_tup pt fun h' he hit hsz hk => wpAny_pyIter_enum he ?_
  have I2 : Inv X pins σ H1 { s1 with heap := h' } := I1.kept (t' := s1.toks) hk
  refine ⟨s1.heap.objs.size + 1, [s1.heap.objs.size + 1, s1.heap.objs.size], _, _, H1, rfl, I2, turn_enumT a (s1.heap.objs.size + 1) s1.heap.objs.size us.toArray (Nat.ne_of_lt hal) (Nat.ne_of_gt (Nat.lt_succ_of_lt hal)), ⟨⟨.none, he⟩, hit, Nat.succ_ne_self _⟩, fun b hb => ?_, q⟩
  have hb' : s1.heap.objs.size ≤ b := by
    have e' : b = s1.heap.objs.size + 1 ∨ b = s1.heap.objs.size := by simpa using hb
    rcases e' with z | z
    · rw [z]; exact Nat.le_succ _
    · rw [z]; exact Nat.le_refl _
  exact I1.fpOk hb' (I1.hok.fresh hb')
end L2

set_option Elab.async false
set_option linter.all false
set_option maxRecDepth 100000
set_option maxHeartbeats 4000000
namespace L2
open PySem PySem.Spec PyProof.Rows
/-! ### s.add(e) -/
def tSAdd (P : Program) (w : World) (to : TE) (t : TA) : TE := fun σ H Q => to σ H fun x H1 => (∃ a S n, x = .ref a ∧ H1 a = some (setO P w a S n)) ∧ t σ H1 fun xs H2 => rSetAdd P w x xs H2 Q
theorem pe_sadd {X : Cx} {o e : Expr} {es : List Expr} {to : TE} {t : TA} {apos cpos : Pos} (ho : PE X o to) (ha : PA X (e :: es) t)
    (hbase : attributeBase o "add" X.env (eval o X.env) = eval o X.env := by rfl)
    (hfew : ((backTo cpos (starEach (e :: es) X.env)).all (fun x => !x.1) && (backToKw cpos (keywordEach [] X.env)).all (fun x => x.1.isSome)
      && decide ((e :: es).length + ([] : List Keyword).length + (if ([] : List Keyword).isEmpty then 0 else 1) < 30)) = true := by rfl)
    (hline : (apos.endLine == cpos.line) = true := by rfl) (hs : starEach (e :: es) X.env = (false, eval e X.env) :: starEach es X.env := by rfl) (hplain : (backTo cpos (starEach es X.env)).any (·.1) = false := by rfl) :
    PE X (.Call (.Attribute o "add" apos) (e :: es) [] cpos) (tSAdd X.prog X.w to t) := by
  intro pins s σ H Q I h
  refine wpAny_Call_method_late hbase hfew hline rfl (thn (ho pins s σ H _ I h) fun v s1 ⟨x, H1, I1, r1, ty, q1⟩ => ?_)
  obtain ⟨a, S, n, rfl, hs1⟩ := ty
  cases r1
  have hS := I1.setAt hs1
  refine ⟨"set", "set.add", F.plainAttrs_set, F.slot_set_add, F.type_set_add, hS.typeIs, hS.noDict, ?_⟩
  have hA := ha cpos pins s1 σ H1 _ I1 q1
  rw [hs] at hA ⊢
  refine Calls.callWith_builtin (by show (false || (backTo cpos (starEach es X.env)).any (·.1)) = false; rw [hplain] <;> rfl) (Calls.evalArgs_plain ?_)
  exact thn hA fun us s2 ⟨vs, H2, I2, r2, q2⟩ => mt_setAdd pins s2 σ H2 (.ref a) vs (.ref a) us Q I2 rfl r2 q2
/-! ### sorted of a list of pairs (text, int) -/
abbrev shp : Nat → Bool := fun i => i == 0
/-- refs at the addresses -/
theorem vals_refs : ∀ {ts : List Addr} {us : List Value}, Vals (ts.map V.ref) us → us = ts.map Value.ref
  | [], us, r => by
    rw [List.map_nil] at r
    cases r
    rfl
  | t :: ts, us, r => by
    rw [List.map_cons] at r
    cases r with
    | cons r1 r2 =>
      cases r1
      rw [vals_refs r2]
      rfl
theorem refs_vals : ∀ (ts : List Addr), Vals (ts.map V.ref) (ts.map Value.ref)
  | [] => .nil
  | _ :: ts => .cons rfl (refs_vals ts)
def addrOf : Value → Option Addr
  | .ref a => some a
  | _ => none
theorem addrs_map : ∀ (ts : List Addr), (ts.map Value.ref).filterMap addrOf = ts
  | [] => rfl
  | t :: ts => by
    show t :: (ts.map Value.ref).filterMap addrOf = t :: ts
    rw [addrs_map ts]
theorem refs_back : ∀ (l : List Value), (∀ v ∈ l, ∃ a, v = Value.ref a) → (l.filterMap addrOf).map Value.ref = l
  | [], _ => rfl
  | v :: l, h => by
    obtain ⟨a, rfl⟩ := h v List.mem_cons_self
    show Value.ref a :: (l.filterMap addrOf).map Value.ref = _
    rw [refs_back l fun u hu => h u (List.mem_cons_of_mem _ hu)]
theorem perm_refs {l : List Value} {ts : List Addr} (p : l.Perm (ts.map Value.ref)) : ∃ us : List Addr, us.Perm ts ∧ l = us.map Value.ref := by
  refine ⟨l.filterMap addrOf, ?_, ?_⟩
  · have q := p.filterMap addrOf
    rw [addrs_map] at q
    exact q
  · refine (refs_back l fun v hv => ?_).symm
    obtain ⟨a, _, e⟩ := List.mem_map.mp (p.mem_iff.mp hv)
    exact ⟨a, e.symm⟩
def rSortedP : List V → Hp → VK → Prop := fun xs H Q => ∃ (a : Addr) (ts : List Addr) (ps : List (Str × Int)), xs = [.ref a] ∧ H a = some (.lst (ts.map V.ref)) ∧ Paired (fun t (p : Str × Int) => H t = some (.tup [.str p.1, .int p.2])) ts ps ∧
  ∀ (us : List Addr) (p' : Addr), us.Perm ts → H p' = none → Q (.ref p') (upd H p' (.lst (us.map V.ref)))
theorem cr_sortedP {X : Cx} : CallR X (.builtin "sorted") rSortedP := by
  rintro pins s σ H xs us Q I r ⟨a, ts, ps, rfl, ha, hp, q⟩
  obtain ⟨u, rfl, ru⟩ := vals1 r
  cases ru
  obtain ⟨its, rv, pl, hz⟩ := I.list (SqL.of (K := X.K) ha)
  have e := vals_refs rv
  subst e
  have tup : ∀ t ∈ ts, ∃ (p : Str × Int) (tk1 tk2 : Tok), IsTup s.heap t #[.str p.1 tk1, .int p.2 tk2] := by
    have key : ∀ {ts : List Addr} {ps : List (Str × Int)}, Paired (fun t (p : Str × Int) => H t = some (.tup [.str p.1, .int p.2])) ts ps → ∀ t ∈ ts, ∃ (p : Str × Int) (tk1 tk2 : Tok), IsTup s.heap t #[.str p.1 tk1, .int p.2 tk2] := by
      intro ts ps hp
      induction hp with
      | nil => intro t ht; cases ht
      | cons h _ ih =>
        intro t ht
        rcases List.mem_cons.mp ht with rfl | ht
        · obtain ⟨its, rv, pt, _⟩ := tupleAt I h
          cases rv with
          | cons r1 r2 =>
          cases r2 with
          | cons r2 r3 =>
          cases r3
          obtain ⟨k1, rfl⟩ := r1
          obtain ⟨k2, rfl⟩ := r2
          exact ⟨_, k1, k2, pt⟩
        · exact ih t ht
    exact key hp
  have hk : ∀ v, v ∈ ts.map Value.ref → ∃ l, PyProof.Rows.G.tupKeyC s.heap shp v = some l := by
    intro v hv
    obtain ⟨t, ht, rfl⟩ := List.mem_map.mp hv
    obtain ⟨p, k1, k2, o, ho, hc, n, hd⟩ := tup t ht
    refine ⟨[Sum.inr p.1.cps.toList, Sum.inl p.2], ?_⟩
    unfold PyProof.Rows.G.tupKeyC
    rw [if_pos (by simp [PyProof.Rows.G.isTupObj, ho, hc])]
    simp [tupKey, ho, hd, tupItems, shp]
  have ht : ∃ fs, TupsOf s.heap shp (ts.map Value.ref) fs := by
    have key : ∀ (l : List Addr), (∀ t ∈ l, t ∈ ts) → ∃ fs, TupsOf s.heap shp (l.map Value.ref) fs := by
      intro l
      induction l with
      | nil => intro _; exact ⟨[], .nil⟩
      | cons t l ih =>
        intro hl
        obtain ⟨fs, h⟩ := ih fun x hx => hl x (List.mem_cons_of_mem _ hx)
        obtain ⟨p, k1, k2, o, ho, hc, n, hd⟩ := tup t (hl t List.mem_cons_self)
        exact ⟨_, .cons ⟨t, o, _, n, rfl, ho, hc, hd, rfl, (fun z => by cases z), fun _ => ⟨p.1, k1, rfl⟩⟩ h⟩
    exact key ts fun _ h => h
  obtain ⟨fs, ht⟩ := ht
  refine PyProof.Rows.G.sorted_tups pl.isList ht hk (by rw [List.length_map]; simpa using hz) fun st' perm _ _ => ?_
  have p2 : ((arrOf st').map (·.2)).toList.Perm (ts.map Value.ref) := by
    have z : (arrOf st').toList.Perm (pairsOf (ts.map Value.ref)).toList := perm.toList
    rw [pairsOf_toList] at z
    have z2 := z.map (fun (x : Keyed) => x.2)
    have e : (((ts.map Value.ref).zip (ts.map Value.ref)).map fun (x : Keyed) => x.2) = ts.map Value.ref := by
      rw [show (fun (x : Keyed) => x.2) = Prod.snd from rfl, List.map_snd_zip (Nat.le_refl _)]
    rw [e] at z2
    rw [Array.toList_map]
    exact z2
  obtain ⟨us, pu, eu⟩ := perm_refs p2
  obtain ⟨ep, hat⟩ := sortedAll_at s.heap (ts.map Value.ref) ((arrOf st').map (·.2))
  refine ⟨.ref (s.heap.objs.size + 1), _, I.laid (t' := s.toks) (o := .lst (us.map V.ref)) (fun b o h => sortedAll_old h) (Nat.le_succ _) ?_, rfl, q us _ pu (I.hok.fresh (Nat.le_succ _))⟩
  refine ⟨by rw [List.length_map, pu.length_eq]; simpa using hz, us.map Value.ref, ep, refs_vals us, ?_⟩
  rw [hat, ← eu]
end L2

set_option Elab.async false
set_option linter.all false
set_option maxRecDepth 100000
set_option maxHeartbeats 4000000
namespace L2
open PySem PySem.Spec PyProof.Rows
/-! ### data that stands in the tracked heap -/
mutual
inductive DH (H : Hp) : V → PyData → Prop
  | non : DH H .non .none
  | bl (b : Bool) : DH H (.bl b) (.bool b)
  | int (i : Int) : DH H (.int i) (.int i)
  | str (x : Str) : DH H (.str x) (.str x)
  | lst {a : Addr} {xs : List V} {ds : List PyData} : H a = some (.lst xs) → DHs H xs ds → DH H (.ref a) (.list ds)
  | tup {a : Addr} {xs : List V} {ds : List PyData} : H a = some (.tup xs) → DHs H xs ds → DH H (.ref a) (.tuple ds)
inductive DHs (H : Hp) : List V → List PyData → Prop
  | nil : DHs H [] []
  | cons {v : V} {vs : List V} {d : PyData} {ds : List PyData} : DH H v d → DHs H vs ds → DHs H (v :: vs) (d :: ds)
end
mutual
theorem DH.same {H H' : Hp} (s : Same H H') : ∀ {v : V} {d : PyData}, DH H v d → DH H' v d
  | _, _, .non => .non
  | _, _, .bl b => .bl b
  | _, _, .int i => .int i
  | _, _, .str x => .str x
  | _, _, .lst h r => .lst (s _ _ h) (DHs.same s r)
  | _, _, .tup h r => .tup (s _ _ h) (DHs.same s r)
theorem DHs.same {H H' : Hp} (s : Same H H') : ∀ {vs : List V} {ds : List PyData}, DHs H vs ds → DHs H' vs ds
  | _, _, .nil => .nil
  | _, _, .cons a r => .cons (DH.same s a) (DHs.same s r)
end
mutual
theorem DH.dp {K : PySem.W.Frag} {H : Hp} : ∀ {v : V} {d : PyData}, DH H v d → Dp K H v d
  | _, _, .non => .non
  | _, _, .bl b => .bl b
  | _, _, .int i => .int i
  | _, _, .str x => .str x
  | _, _, .lst h r => .lst (SqL.of h) (DHs.dp r)
  | _, _, .tup h r => .tup (SqT.of h) (DHs.dp r)
theorem DHs.dp {K : PySem.W.Frag} {H : Hp} : ∀ {vs : List V} {ds : List PyData}, DHs H vs ds → DpAll K H vs ds
  | _, _, .nil => .nil
  | _, _, .cons a r => .cons (DH.dp a) (DHs.dp r)
end
theorem DHs.length {H : Hp} : ∀ {vs : List V} {ds : List PyData}, DHs H vs ds → vs.length = ds.length
  | _, _, .nil => rfl
  | _, _, .cons _ r => by rw [List.length_cons, List.length_cons, DHs.length r]
theorem DHs.get {H : Hp} : ∀ {vs : List V} {ds : List PyData} {i : Nat} {v : V}, DHs H vs ds → vs[i]? = some v → ∃ d, ds[i]? = some d ∧ DH H v d
  | _, _, _, _, .nil, e => by simp at e
  | _, _, 0, _, .cons a _, e => by simp at e; subst e; exact ⟨_, rfl, a⟩
  | _, _, i + 1, _, .cons _ r, e => by
    obtain ⟨d, h1, h2⟩ := DHs.get (i := i) r (by simpa using e)
    exact ⟨d, by simpa using h1, h2⟩
theorem DHs.append {H : Hp} : ∀ {vs ws : List V} {ds es : List PyData}, DHs H vs ds → DHs H ws es → DHs H (vs ++ ws) (ds ++ es)
  | _, _, _, _, .nil, s => s
  | _, _, _, _, .cons a r, s => .cons a (DHs.append r s)
theorem DHs.take {H : Hp} : ∀ {vs : List V} {ds : List PyData} (n : Nat), DHs H vs ds → DHs H (vs.take n) (ds.take n)
  | _, _, 0, _ => .nil
  | _, _, _ + 1, .nil => .nil
  | _, _, n + 1, .cons a r => .cons a (DHs.take n r)
theorem DHs.drop {H : Hp} : ∀ {vs : List V} {ds : List PyData} (n : Nat), DHs H vs ds → DHs H (vs.drop n) (ds.drop n)
  | _, _, 0, r => r
  | _, _, _ + 1, .nil => .nil
  | _, _, n + 1, .cons _ r => DHs.drop n r
/-- the type's name -/
def tyD : PyData → String
  | .none => "NoneType"
  | .bool _ => "bool"
  | .int _ => "int"
  | .str _ => "str"
  | .list _ => "list"
  | .tuple _ => "tuple"
  | .dict _ => "dict"
theorem DH.ty {K : PySem.W.Frag} {H : Hp} {v : V} {d : PyData} (h : DH H v d) : TyOf K H v (.type (tyD d)) := by
  cases h with
  | non => exact .non
  | bl b => exact .bl b
  | int i => exact .int i
  | str x => exact .str x
  | lst h _ => exact .lst h
  | tup h _ => exact .tup h
example (K : PySem.W.Frag) : PySem.W.kitOne K (.type "bool") (.type "int") = some true := by rfl
def isTupD : PyData → Bool | .tuple _ => true | _ => false
def isStrD : PyData → Bool | .str _ => true | _ => false
def isIntD : PyData → Bool | .int _ => true | .bool _ => true | _ => false
def isBoolD : PyData → Bool | .bool _ => true | _ => false
theorem kit_tuple (K : PySem.W.Frag) {H : Hp} {v : V} {d : PyData} (h : DH H v d) : PySem.W.kitOne K (.type (tyD d)) (.type "tuple") = some (isTupD d) := by cases h <;> rfl
theorem kit_str (K : PySem.W.Frag) {H : Hp} {v : V} {d : PyData} (h : DH H v d) : PySem.W.kitOne K (.type (tyD d)) (.type "str") = some (isStrD d) := by cases h <;> rfl
theorem kit_int (K : PySem.W.Frag) {H : Hp} {v : V} {d : PyData} (h : DH H v d) : PySem.W.kitOne K (.type (tyD d)) (.type "int") = some (isIntD d) := by cases h <;> rfl
theorem kit_bool (K : PySem.W.Frag) {H : Hp} {v : V} {d : PyData} (h : DH H v d) : PySem.W.kitOne K (.type (tyD d)) (.type "bool") = some (isBoolD d) := by cases h <;> rfl
end L2

set_option Elab.async false
set_option linter.all false
set_option maxRecDepth 100000
set_option maxHeartbeats 4000000
namespace L2
open PySem PySem.Spec PyProof.Rows
theorem pe_isi {X : Cx} {e c : Expr} {te : TE} {y : V} {p pos : Pos} (hg : Gl X "isinstance") (hm : X.mg "isinstance" = none) (he : PE X e te) (hc : PE X c (tC y))
    (h1 : starEach [e, c] X.env = (false, eval e X.env) :: starEach [c] X.env := by rfl) (h2 : starEach [c] X.env = (false, eval c X.env) :: starEach [] X.env := by rfl) (hpl : (backTo pos (starEach [c] X.env)).any (·.1) = false := by rfl) :
    PE X (.Call (.Name "isinstance" p) [e, c] [] pos) (tCB (rIsi X.K) (tCons te (tCons (tC y) tNil))) :=
  pe_callB (pos := pos) (p := p) (x := "isinstance") cr_isi hg hm (by decide +kernel) (pa_cons he (pa_cons hc pa_nil h2) h1) (by decide) (by decide) h1 hpl
end L2
namespace Gl
open PySem L2
def top (i : Nat) : Stmt := PySem.Challenge.pw_glazetold_k13_trees_that_settle.main.body.getD i (.Pass ⟨0, 0, 0, 0⟩)
/-- what the names of the module stand for -/
structure Nm (mg : Str → Option Value) : Prop where
  isi : mg "isinstance" = none
  len : mg "len" = none
  int : mg "int" = none
  bool : mg "bool" = none
  str : mg "str" = none
  tuple : mg "tuple" = none
  list : mg "list" = none
  all : mg "all" = none
  sum : mg "sum" = none
  sorted : mg "sorted" = none
  set : mg "set" = none
  enum : mg "enumerate" = none
  range : mg "range" = none
  min : mg "min" = none
  max : mg "max" = none
theorem take_succ {α : Type} {l : List α} {i : Nat} {a : α} (h : l[i]? = some a) : l.take (i + 1) = l.take i ++ [a] := by
  rw [List.take_succ, h]; rfl
end Gl

set_option Elab.async false
set_option linter.all false
set_option maxRecDepth 100000
set_option maxHeartbeats 4000000
namespace L2
open PySem PySem.Spec PyProof.Rows
def CDivB (i j : Int) : Prop := 0 < j ∧ j < 10 ^ 100
theorem log2_small {j : Int} (h : 0 < j ∧ j < 10 ^ 100) : j.natAbs.log2 < 9000 := by
  have h1 : j.natAbs < 2 ^ 9000 := by
    have : (10 : Nat) ^ 100 < 2 ^ 9000 := by decide +kernel
    omega
  exact (Nat.log2_lt (by omega)).mpr h1
theorem op_fdivB {X : Cx} : OpR X (binaryOp .FloorDiv) (rI CDivB fun i j => .int (i / j)) := opI fun i j _ _ _ _ _ hc q => by
  have e : i / j = i.fdiv j := by rw [Int.fdiv_eq_ediv_of_nonneg _ (Int.le_of_lt hc.1)]
  refine floordiv_int (by have := hc.1; omega) ?_ (.inl (PyProof.noPylong_of_log2 (log2_small hc)))
  rw [← e]
  exact q
theorem Paired.get {α β : Type} {F : α → β → Prop} : ∀ {l : List α} {m : List β} {i : Nat} {a : α}, Paired F l m → l[i]? = some a → ∃ b, m[i]? = some b ∧ F a b
  | _, _, _, _, .nil, e => by simp at e
  | _, _, 0, _, .cons r _, e => by simp at e; subst e; exact ⟨_, rfl, r⟩
  | _, _, i + 1, _, .cons _ t, e => by
    obtain ⟨b, h1, h2⟩ := Paired.get (i := i) t (by simpa using e)
    exact ⟨b, by simpa using h1, h2⟩
theorem Paired.perm {α β : Type} {F : α → β → Prop} {l l' : List α} (p : l'.Perm l) : ∀ {m : List β}, Paired F l m → ∃ m', m'.Perm m ∧ Paired F l' m' := by
  induction p with
  | nil => intro m h; cases h; exact ⟨[], .nil, .nil⟩
  | cons x _ ih =>
    intro m h
    cases h with
    | cons r t =>
      obtain ⟨m', h1, h2⟩ := ih t
      exact ⟨_ :: m', h1.cons _, .cons r h2⟩
  | swap x y l =>
    intro m h
    cases h with
    | cons r t =>
    cases t with
    | cons r' t => exact ⟨_ :: _ :: _, List.Perm.swap _ _ _, .cons r' (.cons r t)⟩
  | trans _ _ ih1 ih2 =>
    intro m h
    obtain ⟨m1, h1, h2⟩ := ih2 h
    obtain ⟨m2, h3, h4⟩ := ih1 h2
    exact ⟨m2, h3.trans h1, h4⟩
/-! ### rising by names -/
def nlt (a b : Str) : Bool := decide (a.cps.toList < b.cps.toList)
theorem nlt_irrefl (a : Str) : nlt a a = false := by simpa [nlt] using List.lt_irrefl a.cps.toList
theorem nlt_asymm {a b : Str} (h : nlt a b = true) : nlt b a = false := by
  cases e : nlt b a with
  | false => rfl
  | true =>
    have := List.lt_trans (of_decide_eq_true h) (of_decide_eq_true e)
    exact absurd this (List.lt_irrefl _)
theorem nlt_trans {a b c : Str} (h : nlt a b = true) (h' : nlt b c = true) : nlt a c = true :=
  decide_eq_true (List.lt_trans (of_decide_eq_true h) (of_decide_eq_true h'))
theorem str_eq {a b : Str} (h : a.cps.toList = b.cps.toList) : a = b := by
  have hc : a.cps = b.cps := Array.toList_inj.mp h
  cases a; cases b
  simp only [Str.mk.injEq]
  exact hc
theorem nlt_total {a b : Str} (h : nlt a b = false) (hn : a ≠ b) : nlt b a = true := by
  have h1 : ¬ a.cps.toList < b.cps.toList := of_decide_eq_false h
  refine decide_eq_true ?_
  by_cases h2 : b.cps.toList < a.cps.toList
  · exact h2
  · exact absurd (str_eq (List.le_antisymm (List.not_lt.mp h2) (List.not_lt.mp h1))) hn
section
variable {α β : Type}
def insN (p : Str × α) : List (Str × α) → List (Str × α)
  | [] => [p]
  | q :: r => if nlt p.1 q.1 then p :: q :: r else q :: insN p r
def sortN : List (Str × α) → List (Str × α)
  | [] => []
  | p :: r => insN p (sortN r)
def onV (f : α → β) (p : Str × α) : Str × β := (p.1, f p.2)
theorem insN_map (f : α → β) (p : Str × α) : ∀ l : List (Str × α), (insN p l).map (onV f) = insN (onV f p) (l.map (onV f))
  | [] => rfl
  | q :: r => by
    show (if nlt p.1 q.1 = true then p :: q :: r else q :: insN p r).map (onV f) = if nlt p.1 q.1 = true then onV f p :: onV f q :: r.map (onV f) else onV f q :: insN (onV f p) (r.map (onV f))
    split
    · rfl
    · rw [List.map_cons, insN_map f p r]
theorem sortN_map (f : α → β) : ∀ l : List (Str × α), (sortN l).map (onV f) = sortN (l.map (onV f))
  | [] => rfl
  | p :: r => by
    show (insN p (sortN r)).map (onV f) = insN (onV f p) (sortN (r.map (onV f)))
    rw [insN_map, sortN_map f r]
theorem insN_perm (p : Str × α) : ∀ l : List (Str × α), (insN p l).Perm (p :: l)
  | [] => List.Perm.refl _
  | q :: r => by
    show (if nlt p.1 q.1 = true then p :: q :: r else q :: insN p r).Perm (p :: q :: r)
    split
    · exact List.Perm.refl _
    · exact ((insN_perm p r).cons q).trans (List.Perm.swap p q r)
theorem sortN_perm : ∀ l : List (Str × α), (sortN l).Perm l
  | [] => List.Perm.refl _
  | p :: r => (insN_perm p (sortN r)).trans ((sortN_perm r).cons p)
def Up (l : List (Str × α)) : Prop := l.Pairwise fun a b => nlt a.1 b.1 = true
theorem insN_up {p : Str × α} : ∀ {l : List (Str × α)}, Up l → (∀ q ∈ l, p.1 ≠ q.1) → Up (insN p l)
  | [], _, _ => List.pairwise_singleton _ _
  | q :: r, h, hn => by
    obtain ⟨h1, h2⟩ := List.pairwise_cons.mp h
    show Up (if nlt p.1 q.1 = true then p :: q :: r else q :: insN p r)
    split
    · rename_i e
      refine List.pairwise_cons.mpr ⟨fun b hb => ?_, h⟩
      rcases List.mem_cons.mp hb with rfl | hb
      · exact e
      · exact nlt_trans e (h1 b hb)
    · rename_i e
      have e' : nlt q.1 p.1 = true := nlt_total (by simpa using e) (hn q List.mem_cons_self)
      refine List.pairwise_cons.mpr ⟨fun b hb => ?_, insN_up h2 fun x hx => hn x (List.mem_cons_of_mem _ hx)⟩
      rcases List.mem_cons.mp ((insN_perm p r).mem_iff.mp hb) with rfl | hb
      · exact e'
      · exact h1 b hb
theorem sortN_up : ∀ {l : List (Str × α)}, (l.map Prod.fst).Nodup → Up (sortN l)
  | [], _ => List.Pairwise.nil
  | p :: r, h => by
    obtain ⟨h1, h2⟩ := List.nodup_cons.mp (show (p.1 :: r.map Prod.fst).Nodup from h)
    refine insN_up (sortN_up h2) fun q hq e => h1 ?_
    rw [e]
    exact List.mem_map_of_mem ((sortN_perm r).mem_iff.mp hq)
theorem up_unique : ∀ {l m : List (Str × α)}, Up l → Up m → l.Perm m → l = m
  | [], m, _, _, p => by rw [List.nil_perm.mp p]
  | a :: l, [], _, _, p => absurd p.length_eq (by simp)
  | a :: l, b :: m, hl, hm, p => by
    obtain ⟨l1, l2⟩ := List.pairwise_cons.mp hl
    obtain ⟨m1, m2⟩ := List.pairwise_cons.mp hm
    have e : a = b := by
      rcases List.mem_cons.mp (p.mem_iff.mp List.mem_cons_self) with e | ha
      · exact e
      · rcases List.mem_cons.mp (p.mem_iff.mpr List.mem_cons_self) with e | hb
        · exact e.symm
        · have x := m1 a ha
          have y := l1 b hb
          rw [nlt_asymm x] at y
          cases y
    subst e
    rw [up_unique l2 m2 (List.Perm.cons_inv p)]
theorem sortN_eq {l m : List (Str × α)} (hn : (l.map Prod.fst).Nodup) (hm : Up m) (p : m.Perm l) : m = sortN l := up_unique hm (sortN_up hn) (p.trans (sortN_perm l).symm)
theorem nodup_idx {l : List (Str × α)} (hn : (l.map Prod.fst).Nodup) {i j : Nat} {p q : Str × α} (hi : l[i]? = some p) (hj : l[j]? = some q) (e : p.1 = q.1) : i = j := by
  have key : ∀ {i j : Nat} {p q : Str × α}, l[i]? = some p → l[j]? = some q → i < j → p.1 ≠ q.1 := by
    intro i j p q hi hj hlt
    obtain ⟨h1, e1⟩ := List.getElem?_eq_some_iff.mp hi
    obtain ⟨h2, e2⟩ := List.getElem?_eq_some_iff.mp hj
    have z := (List.pairwise_iff_getElem.mp hn) i j (by simpa using h1) (by simpa using h2) hlt
    rw [List.getElem_map, List.getElem_map, e1, e2] at z
    exact z
  rcases Nat.lt_trichotomy i j with h | h | h
  · exact absurd e (key hi hj h)
  · exact h
  · exact absurd e.symm (key hj hi h)
end
theorem wpAny_eqBool_self {M : Model} {A : Around} {E : Value → Shared → Prop} {s : Shared} {v : Value} {Q : Bool → Shared → Prop} (h : Q true s) : wpAny M A (eqBool v v) Q E s := by
  unfold eqBool
  refine wpAny_holding ?_
  rw [if_pos (beq_self_eq_true v)]
  exact wpAny_bind (wpAny_rule (wpAny_pure h))
/-! ### sorted of a list of pairs, the first items texts that differ -/
abbrev pr (H : Hp) (t : Addr) (p : Str × V) : Prop := H t = some (.tup [.str p.1, p.2])
def keyN (H : Hp) (ts : List Addr) : Value → Option (List Nat)
  | .ref t => if t ∈ ts then (match H t with | some (.tup (.str x :: _)) => some x.cps.toList | _ => none) else none
  | _ => none
@[reducible] def kindN (H : Hp) (ts : List Addr) : KeyKind where
  toKeyOrd := strKind.toKeyOrd
  keyOf := keyN H ts
  dflt := []
theorem keyN_at {H : Hp} {ts : List Addr} {t : Addr} {p : Str × V} (ht : t ∈ ts) (h : pr H t p) : keyN H ts (.ref t) = some p.1.cps.toList := by
  have h' : H t = some (.tup [.str p.1, p.2]) := h
  simp only [keyN, if_pos ht, h']
def rSortedN : List V → Hp → VK → Prop := fun xs H Q => ∃ (a : Addr) (ts : List Addr) (ps : List (Str × V)), xs = [.ref a] ∧ H a = some (.lst (ts.map V.ref)) ∧ Paired (pr H) ts ps ∧ (ps.map Prod.fst).Nodup ∧
  ∀ (us : List Addr) (p' : Addr), us.Perm ts → Paired (pr H) us (sortN ps) → H p' = none → Q (.ref p') (upd H p' (.lst (us.map V.ref)))
theorem cr_sortedN {X : Cx} : CallR X (.builtin "sorted") rSortedN := by
  rintro pins s σ H xs us Q I r ⟨a, ts, ps, rfl, ha, hp, hnd, q⟩
  obtain ⟨u, rfl, ru⟩ := vals1 r
  cases ru
  obtain ⟨its, rv, pl, hz⟩ := I.list (SqL.of (K := X.K) ha)
  have e := vals_refs rv
  subst e
  have mem : ∀ t ∈ ts, ∃ (i : Nat) (p : Str × V), ts[i]? = some t ∧ ps[i]? = some p ∧ pr H t p := by
    intro t ht
    obtain ⟨i, hi, e⟩ := List.getElem_of_mem ht
    have hx : ts[i]? = some t := by rw [List.getElem?_eq_getElem hi, e]
    obtain ⟨p, h1, h2⟩ := Paired.get hp hx
    exact ⟨i, p, hx, h1, h2⟩
  have tup : ∀ t p, pr H t p → ∃ (tk : Tok) (v2 : Value) (o : Obj) (n : Nat), s.heap.get? t = some o ∧ o.cls = .type "tuple" ∧ o.data = .seq #[.str p.1 tk, v2] n := by
    intro t p h
    obtain ⟨its, rv, pt, _⟩ := tupleAt I h
    cases rv with
    | cons r1 r2 =>
    cases r2 with
    | cons r2 r3 =>
    cases r3
    obtain ⟨k1, rfl⟩ := r1
    obtain ⟨o, ho, hc, n, hd⟩ := pt
    exact ⟨k1, _, o, n, ho, hc, hd⟩
  have keyS : ∀ v l, keyN H ts v = some l → ∃ (t : Addr) (i : Nat) (p : Str × V), v = .ref t ∧ ts[i]? = some t ∧ ps[i]? = some p ∧ pr H t p ∧ l = p.1.cps.toList := by
    intro v l h
    cases v with
    | ref t =>
      by_cases ht : t ∈ ts
      · obtain ⟨i, p, h1, h2, h3⟩ := mem t ht
        rw [keyN_at ht h3] at h
        exact ⟨t, i, p, rfl, h1, h2, h3, (Option.some.inj h).symm⟩
      · simp [keyN, ht] at h
    | _ => cases h
  have hO : ∀ s₂ : Shared, PyProof.Rows.G.KeepsTups s.heap s₂.heap → PyProof.Rows.G.LtAt X.prog X.w s₂ (kindN H ts) (tuples' true) := by
    intro s₂ kp A E x y ka kb Q hx hy hq
    obtain ⟨t1, i1, p1, rfl, hi1, hp1, h1, rfl⟩ := keyS _ _ hx
    obtain ⟨t2, i2, p2, rfl, hi2, hp2, h2, rfl⟩ := keyS _ _ hy
    obtain ⟨tk1, v1, o1, n1, g1, c1, d1⟩ := tup t1 p1 h1
    obtain ⟨tk2, v2, o2, n2, g2, c2, d2⟩ := tup t2 p2 h2
    refine PySem.W.kat_lt (kp _ _ g1 c1) d1 (kp _ _ g2 c2) d2 ?_
    show PySem.W.KatLex X.prog X.w A true false Q [(.str p1.1 tk1, .str p2.1 tk2), (v1, v2)] 0 s₂
    refine PySem.W.kat_cons (wpAny_eqBool_str ?_)
    refine PySem.W.kat_go (fun e => PySem.W.kat_yes ?_) (fun e => PySem.W.kat_no ?_)
    · have e' : p1.1 = p2.1 := of_decide_eq_true e
      have ij := nodup_idx hnd hp1 hp2 e'
      subst ij
      rw [hi1] at hi2
      cases hi2
      rw [hp1] at hp2
      cases hp2
      rw [g1] at g2
      cases g2
      rw [d1] at d2
      cases d2
      refine PySem.W.kat_cons (wpAny_eqBool_self ?_)
      refine PySem.W.kat_yes (PySem.W.kat_nil ?_)
      have z : (kindN H ts).blt p1.1.cps.toList p1.1.cps.toList = false := (kindN H ts).irrefl _
      rw [z] at hq
      exact hq
    · exact PyProof.Rows.oneLt_any_str hq
  have hK : KeysOf (kindN H ts) (pairsOf (ts.map Value.ref)) := by
    intro p hp
    rw [pairsOf_toList] at hp
    obtain ⟨e, hm⟩ := mem_zip_self hp
    obtain ⟨t, ht, e2⟩ := List.mem_map.mp hm
    obtain ⟨i, p', h1, h2, h3⟩ := mem t ht
    exact ⟨_, by rw [← e2]; exact keyN_at ht h3⟩
  have ht : ∃ fs, TupsOf s.heap shp (ts.map Value.ref) fs := by
    have key : ∀ (l : List Addr), (∀ t ∈ l, t ∈ ts) → ∃ fs, TupsOf s.heap shp (l.map Value.ref) fs := by
      intro l
      induction l with
      | nil => intro _; exact ⟨[], .nil⟩
      | cons t l ih =>
        intro hl
        obtain ⟨fs, h⟩ := ih fun x hx => hl x (List.mem_cons_of_mem _ hx)
        obtain ⟨i, p, _, _, h3⟩ := mem t (hl t List.mem_cons_self)
        obtain ⟨k1, v2, o, n, ho, hc, hd⟩ := tup t p h3
        exact ⟨_, .cons ⟨t, o, _, n, rfl, ho, hc, hd, rfl, (fun z => by cases z), fun _ => ⟨p.1, k1, rfl⟩⟩ h⟩
    exact key ts fun _ h => h
  obtain ⟨fs, ht⟩ := ht
  refine PyProof.Rows.G.sortedG (κ := kindN H ts) (kd := tuples' true) pl.isList hK hO (fun h2 A' E' s₂ Q' kp hq => tup_kind (s := s₂) (by rw [PyProof.Rows.G.TupsOf.length ht]; omega) (PyProof.Rows.G.TupsOf.keep kp ht) hq) (by rw [List.length_map]; simpa using hz) fun st' perm srt _ => ?_
  have p2 : ((arrOf st').map (·.2)).toList.Perm (ts.map Value.ref) := by
    have z : (arrOf st').toList.Perm (pairsOf (ts.map Value.ref)).toList := perm.toList
    rw [pairsOf_toList] at z
    have z2 := z.map (fun (x : Keyed) => x.2)
    have e : (((ts.map Value.ref).zip (ts.map Value.ref)).map fun (x : Keyed) => x.2) = ts.map Value.ref := by
      rw [show (fun (x : Keyed) => x.2) = Prod.snd from rfl, List.map_snd_zip (Nat.le_refl _)]
    rw [e] at z2
    rw [Array.toList_map]
    exact z2
  have hsame : ∀ x ∈ (arrOf st').toList, x.1 = x.2 := by
    intro x hx
    have z : (arrOf st').toList.Perm (pairsOf (ts.map Value.ref)).toList := perm.toList
    have m := z.mem_iff.mp hx
    rw [pairsOf_toList] at m
    exact (mem_zip_self m).1
  obtain ⟨us, pu, eu⟩ := perm_refs p2
  obtain ⟨qs, hq1, hq2⟩ := Paired.perm pu hp
  have nq : (qs.map Prod.fst).Nodup := (hq1.map Prod.fst).nodup_iff.mpr hnd
  have hul : us.length = qs.length := Paired.length hq2
  have kk : ∀ i (hi : i < qs.length), KK (kindN H ts) (arrOf st') i = (qs[i]).1.cps.toList := by
    intro i hi
    have hi' : i < us.length := by omega
    have hsz : (arrOf st').size = us.length := by
      have := congrArg List.length eu
      rw [Array.toList_map, List.length_map, List.length_map, Array.length_toList] at this
      exact this
    have hia : i < (arrOf st').size := by omega
    have e1 : (arrOf st')[i]? = some (arrOf st')[i] := by simp [hia]
    have e2 : ((arrOf st')[i]).2 = Value.ref us[i] := by
      have z : ((arrOf st').map (·.2)).toList[i]? = (us.map Value.ref)[i]? := by rw [eu]
      simp [hia, hi'] at z
      exact z
    have e3 := hsame _ (by simp : (arrOf st')[i] ∈ (arrOf st').toList)
    obtain ⟨p, h1, h2⟩ := Paired.get hq2 (show us[i]? = some us[i] by simp [hi'])
    have hpq : qs[i] = p := by
      have : qs[i]? = some qs[i] := by simp [hi]
      rw [this] at h1
      exact Option.some.inj h1
    unfold KK
    rw [e1]
    show ((keyN H ts ((arrOf st')[i]).1).getD []) = _
    rw [e3, e2, keyN_at (pu.mem_iff.mp (List.getElem_mem hi')) h2, hpq]
    rfl
  have up : Up qs := by
    refine List.pairwise_iff_getElem.mpr fun i j hi hj hlt => ?_
    have z := srt i j (Nat.le_of_lt hlt) (by rw [pairsOf_size, List.length_map, ← pu.length_eq, hul]; exact hj)
    rw [kk i hi, kk j hj] at z
    have z' : nlt (qs[j]).1 (qs[i]).1 = false := z
    refine nlt_total z' fun e => ?_
    have := nodup_idx nq (show qs[j]? = some qs[j] by simp [hj]) (show qs[i]? = some qs[i] by simp [hi]) e
    omega
  have eq := sortN_eq hnd up hq1
  subst eq
  obtain ⟨ep, hat⟩ := sortedAll_at s.heap (ts.map Value.ref) ((arrOf st').map (·.2))
  refine ⟨.ref (s.heap.objs.size + 1), _, I.laid (t' := s.toks) (o := .lst (us.map V.ref)) (fun b o h => sortedAll_old h) (Nat.le_succ _) ?_, rfl, q us _ pu hq2 (I.hok.fresh (Nat.le_succ _))⟩
  refine ⟨by rw [List.length_map, pu.length_eq]; simpa using hz, us.map Value.ref, ep, refs_vals us, ?_⟩
  rw [hat, ← eu]
end L2

set_option Elab.async false
set_option linter.all false
set_option maxRecDepth 100000
set_option maxHeartbeats 1000000
namespace L2
open PySem PySem.Spec PyProof.Rows
theorem PE.imp {X : Cx} {e : Expr} {t t' : TE} (h : PE X e t) (f : ∀ σ H Q, t' σ H Q → t σ H Q) : PE X e t' := fun pins s σ H Q I q => h pins s σ H Q I (f σ H Q q)
theorem PA.imp {X : Cx} {es : List Expr} {t t' : TA} (h : PA X es t) (f : ∀ σ H Q, t' σ H Q → t σ H Q) : PA X es t' := fun pos pins s σ H Q I q => h pos pins s σ H Q I (f σ H Q q)
end L2
namespace Gl
open PySem L2 PyProof.Rows
/-! ### an address hidden -/
def hid (b : Addr) (H : Hp) : Hp := fun a => if a = b then none else H a
theorem hid_ne {b a : Addr} {H : Hp} (h : a ≠ b) : hid b H a = H a := if_neg h
theorem hid_some {b a : Addr} {H : Hp} {o : HO} (h : hid b H a = some o) : a ≠ b ∧ H a = some o := by
  unfold hid at h
  split at h
  · cases h
  · exact ⟨‹_›, h⟩
theorem hid_same {b : Addr} {H : Hp} : Same (hid b H) H := fun _ _ h => (hid_some h).2
theorem same_hid {b : Addr} {H H' : Hp} (s : Same H H') : Same (hid b H) (hid b H') := fun a o h => by
  obtain ⟨n, e⟩ := hid_some h
  rw [hid_ne n]; exact s _ _ e
theorem hid_none {b : Addr} {H H' : Hp} (s : Same H H') (h : H b = none) : Same H (hid b H') := fun a o e => by
  rw [hid_ne (ne_of_none e h)]; exact s _ _ e
/-! ### data without lists -/
mutual
def noL : PyData → Bool
  | .list _ => false
  | .tuple xs => noLs xs
  | _ => true
def noLs : List PyData → Bool
  | [] => true
  | d :: r => noL d && noLs r
end
mutual
theorem DH.hide {D : Addr} {H : Hp} {us : List V} (hD : H D = some (.lst us)) : ∀ {v : V} {d : PyData}, noL d = true → DH H v d → DH (hid D H) v d
  | _, _, _, .non => .non
  | _, _, _, .bl b => .bl b
  | _, _, _, .int i => .int i
  | _, _, _, .str x => .str x
  | _, _, h, .lst _ _ => by rw [noL] at h; cases h
  | _, _, h, .tup (a := a) e r => .tup (by
      rw [hid_ne (fun z => by rw [z, hD] at e; cases e)]
      exact e) (DHs.hide hD (by rw [noL] at h; exact h) r)
theorem DHs.hide {D : Addr} {H : Hp} {us : List V} (hD : H D = some (.lst us)) : ∀ {vs : List V} {ds : List PyData}, noLs ds = true → DHs H vs ds → DHs (hid D H) vs ds
  | _, _, _, .nil => .nil
  | _, _, h, .cons a r => by
    rw [noLs, Bool.and_eq_true] at h
    exact .cons (DH.hide hD h.1 a) (DHs.hide hD h.2 r)
end
theorem noLs_map {α : Type} {f : α → PyData} (h : ∀ a, noL (f a) = true) : ∀ l : List α, noLs (l.map f) = true
  | [] => by simp [noLs]
  | a :: r => by
    rw [List.map_cons, noLs, h a, noLs_map h r]
    rfl
theorem DHs.snoc {H : Hp} {vs : List V} {ds : List PyData} {v : V} {d : PyData} (h : DHs H vs ds) (h' : DH H v d) : DHs H (vs ++ [v]) (ds ++ [d]) := h.append (.cons h' .nil)
theorem DHs.mem {H : Hp} : ∀ {vs : List V} {ds : List PyData} {i : Nat} {d : PyData}, DHs H vs ds → ds[i]? = some d → ∃ v, vs[i]? = some v ∧ DH H v d
  | _, _, _, _, .nil, e => by simp at e
  | _, _, 0, _, .cons a _, e => by simp at e; subst e; exact ⟨_, rfl, a⟩
  | _, _, i + 1, _, .cons _ r, e => by
    obtain ⟨d, h1, h2⟩ := DHs.mem (i := i) r (by simpa using e)
    exact ⟨d, by simpa using h1, h2⟩
/-! ### a comprehension over a tuple: data to data -/
theorem lc_map {K : PySem.W.Frag} {a D : Addr} {xs : List V} {ds : List PyData} {g : TG} {te : TE} {vs : List Nat} {σ : L2.St} {H1 : Hp} {Qd : Hp → Prop} (f : PyData → PyData) (hD : H1 D = none) (ha : H1 a = some (.tup xs)) (hx : DHs H1 xs ds) (hlen : xs.length ≤ 900)
    (hf : ∀ d ∈ ds, noL (f d) = true)
    (step : ∀ x d H3 (k : V → Hp → Prop), d ∈ ds → Same H1 H3 → DH H3 x d → (∀ v H4, Same H3 H4 → DH H4 v (f d) → k v H4) → g x (wipe σ vs) H3 fun σ2 H2 => wipe σ2 vs = wipe σ vs ∧ te σ2 H2 k)
    (hd : ∀ us H', Same H1 H' → H' D = some (.lst us) → DHs H' us (ds.map f) → Qd H') :
    ∃ W : Nat → Nat → Hp → Prop, (∃ m, W 0 m (upd H1 D (.lst []))) ∧ ∀ i m H, W i m H →
      ((Itt K a).stop i H ∧ Qd H) ∨ ((Itt K a).go i H ∧ ∃ Nx : Hp → Prop, (∀ H', Nx H' → ∃ m', m' < m ∧ W (i + 1) m' H') ∧ ∀ x H', (Itt K a).yld i H x H' → g x (wipe σ vs) H' fun σ2 H2 => wipe σ2 vs = wipe σ vs ∧ tYes σ2 H2 fun b H3 =>
        if b = true then te σ2 H3 fun y H4 => ∃ acc, H4 D = some (.lst acc) ∧ acc.length < sizeLine ∧ Nx (upd H4 D (.lst (acc ++ [y]))) else Nx H3) := by
  have hl := hx.length
  refine lc_tup (K := K) (a := a) (xs := xs) (fun i H3 => Same H1 H3 ∧ ∃ us, H3 D = some (.lst us) ∧ us.length = i ∧ DHs (hid D H3) us ((ds.take i).map f)) ⟨Same.upd hD, [], upd_same, rfl, .nil⟩ (fun i H3 _ ⟨s3, _⟩ => SqT.of (s3 _ _ ha)) ?_ ?_
  · rintro i x H3 hxi ⟨s3, us, e3, hul, hus⟩
    obtain ⟨d, hdi, hdx⟩ := hx.get hxi
    have hi : i < xs.length := (List.getElem?_eq_some_iff.mp hxi).1
    have hm := List.mem_of_getElem? hdi
    have z := step x d H3 (fun y H4 => ∃ acc, H4 D = some (.lst acc) ∧ acc.length < sizeLine ∧ (Same H1 (upd H4 D (.lst (acc ++ [y]))) ∧ ∃ us, upd H4 D (.lst (acc ++ [y])) D = some (.lst us) ∧ us.length = i + 1 ∧ DHs (hid D (upd H4 D (.lst (acc ++ [y])))) us ((ds.take (i + 1)).map f))) hm s3 (hdx.same s3) ?_
    · exact z
    · intro v H4 s4 hv
      have e4 := s4 _ _ e3
      have hh : hid D (upd H4 D (.lst (us ++ [v]))) = hid D H4 := by
        funext b
        unfold hid
        split
        · rfl
        · rename_i nb
          exact upd_ne nb
      refine ⟨us, e4, small1000 (by omega), fun b o e => ?_, us ++ [v], upd_same, by rw [List.length_append, hul]; rfl, ?_⟩
      · rw [upd_ne (ne_of_none e hD)]
        exact s4 _ _ (s3 _ _ e)
      · rw [hh, take_succ hdi, List.map_append]
        exact DHs.snoc (DHs.same (same_hid s4) hus) (DH.hide e4 (hf d hm) hv)
  · rintro H3 ⟨s3, us, e3, hul, hus⟩
    rw [hl, List.take_length] at hus
    exact hd us H3 s3 e3 (DHs.same hid_same hus)
/-! ### pairs of texts and data -/
section
variable {α : Type}
def pD (g : α → PyData) (p : Str × α) : PyData := .tuple [.str p.1, g p.2]
def dT (g : α → PyData) (ps : List (Str × α)) : PyData := .tuple (ps.map (pD g))
def gI (i : Int) : PyData := .int i
def gF (f : Int × Int) : PyData := .tuple [.int f.1, .int f.2]
/-- what stands at the addresses -/
theorem pairs_at {g : α → PyData} {H : Hp} : ∀ {us : List V} {ps : List (Str × α)}, DHs H us (ps.map (pD g)) → ∃ (ts : List Addr) (vs : List (Str × V)), us = ts.map V.ref ∧ Paired (pr H) ts vs ∧ Paired (fun v p => v.1 = p.1 ∧ DH H v.2 (g p.2)) vs ps
  | [], [], _ => ⟨[], [], rfl, .nil, .nil⟩
  | _ :: _, [], h => by cases h
  | [], _ :: _, h => by cases h
  | u :: us, p :: ps, h => by
    cases h with
    | cons h1 h2 =>
    obtain ⟨ts, vs, rfl, r1, r2⟩ := pairs_at h2
    cases h1 with
    | @tup t ys es ht hys =>
    cases hys with
    | cons hy1 hys =>
    cases hys with
    | cons hy2 hys =>
    cases hys
    cases hy1
    exact ⟨t :: ts, (p.1, _) :: vs, rfl, .cons ht r1, .cons ⟨rfl, hy2⟩ r2⟩
theorem at_pairs {g : α → PyData} {H : Hp} : ∀ {ts : List Addr} {vs : List (Str × V)} {ps : List (Str × α)}, Paired (pr H) ts vs → Paired (fun v p => v.1 = p.1 ∧ DH H v.2 (g p.2)) vs ps → DHs H (ts.map V.ref) (ps.map (pD g))
  | _, _, _, .nil, .nil => .nil
  | _, _, _, .cons ht r1, .cons ⟨e, hd⟩ r2 => .cons (.tup (by rw [← e]; exact ht) (.cons (.str _) (.cons hd .nil))) (at_pairs r1 r2)
theorem insN_paired {β : Type} {R : Str × α → Str × β → Prop} (hR : ∀ a b, R a b → a.1 = b.1) {p : Str × α} {q : Str × β} (h : R p q) : ∀ {l : List (Str × α)} {m : List (Str × β)}, Paired R l m → Paired R (insN p l) (insN q m)
  | _, _, .nil => .cons h .nil
  | _, _, .cons (a := a) (b := b) r t => by
    show Paired R (if nlt p.1 a.1 = true then p :: a :: _ else a :: insN p _) (if nlt q.1 b.1 = true then q :: b :: _ else b :: insN q _)
    rw [hR _ _ h, hR _ _ r]
    split
    · exact .cons h (.cons r t)
    · exact .cons r (insN_paired hR h t)
theorem sortN_paired {β : Type} {R : Str × α → Str × β → Prop} (hR : ∀ a b, R a b → a.1 = b.1) : ∀ {l : List (Str × α)} {m : List (Str × β)}, Paired R l m → Paired R (sortN l) (sortN m)
  | _, _, .nil => .nil
  | _, _, .cons r t => insN_paired hR r (sortN_paired hR t)
theorem names_paired {β : Type} {R : Str × α → Str × β → Prop} (hR : ∀ a b, R a b → a.1 = b.1) : ∀ {l : List (Str × α)} {m : List (Str × β)}, Paired R l m → l.map Prod.fst = m.map Prod.fst
  | _, _, .nil => rfl
  | _, _, .cons r t => by rw [List.map_cons, List.map_cons, hR _ _ r, names_paired hR t]
theorem sorted_dat {g : α → PyData} {H : Hp} {D : Addr} {us : List V} {ps : List (Str × α)} {Q : VK} (hD : H D = some (.lst us)) (h : DHs H us (ps.map (pD g))) (hn : (ps.map Prod.fst).Nodup)
    (q : ∀ ws p', DHs H ws ((sortN ps).map (pD g)) → ws.length = ps.length → H p' = none → Q (.ref p') (upd H p' (.lst ws))) : rSortedN [.ref D] H Q := by
  obtain ⟨ts, vs, rfl, r1, r2⟩ := pairs_at h
  refine ⟨D, ts, vs, rfl, hD, r1, ?_, fun ws p' hp hw hp' => q _ p' (at_pairs hw (sortN_paired (fun a b z => z.1) r2)) ?_ hp'⟩
  · rw [names_paired (fun a b z => z.1) r2]
    exact hn
  · rw [List.length_map, hp.length_eq, Paired.length r1, Paired.length r2]
theorem lay_all {f : α → PyData} : ∀ {l : List α}, (∀ a ∈ l, PyData.canLay0 (f a) = true) → PyData.canLayAll0 (l.map f) = true
  | [], _ => by simp [PyData.canLayAll0]
  | a :: r, h => by
    rw [List.map_cons, PyData.canLayAll0, h a List.mem_cons_self, lay_all fun b hb => h b (List.mem_cons_of_mem _ hb)]
    rfl
theorem depth_all {f : α → PyData} {n : Nat} : ∀ {l : List α}, (∀ a ∈ l, PyData.depth (f a) ≤ n) → PyData.depthAll (l.map f) ≤ n
  | [], _ => by simp [PyData.depthAll]
  | a :: r, h => by
    rw [List.map_cons, PyData.depthAll]
    exact Nat.max_le.mpr ⟨h a List.mem_cons_self, depth_all fun b hb => h b (List.mem_cons_of_mem _ hb)⟩
theorem shaped_dT {g : α → PyData} {ps : List (Str × α)} (h : ∀ p ∈ ps, PyData.canLay0 (.str p.1) = true) (hg : ∀ a, PyData.canLay0 (g a) = true ∧ PyData.depth (g a) ≤ 9) : SeqAt.shaped (dT g ps) = true := by
  unfold SeqAt.shaped dT
  rw [Bool.and_eq_true, decide_eq_true_eq]
  constructor
  · rw [PyData.canLay0]
    refine lay_all fun p hp => ?_
    rw [pD, PyData.canLay0, PyData.canLayAll0, PyData.canLayAll0, h p hp, (hg p.2).1]
    simp [PyData.canLayAll0]
  · rw [PyData.depth]
    have := depth_all (f := pD g) (n := 10) (l := ps) fun p hp => by
      have := (hg p.2).2
      simp only [pD, PyData.depth, PyData.depthAll]
      omega
    omega
end
theorem gI_ok (i : Int) : PyData.canLay0 (gI i) = true ∧ PyData.depth (gI i) ≤ 9 := by simp [gI, PyData.canLay0, PyData.depth]
theorem gF_ok (f : Int × Int) : PyData.canLay0 (gF f) = true ∧ PyData.depth (gF f) ≤ 9 := by simp [gF, PyData.canLay0, PyData.canLayAll0, PyData.depth, PyData.depthAll]
theorem pD_noL {α : Type} {g : α → PyData} (h : ∀ a, noL (g a) = true) (p : Str × α) : noL (pD g p) = true := by
  rw [pD, noL, noLs, noLs, h]
  simp [noL, noLs]
theorem gI_noL (i : Int) : noL (gI i) = true := by simp [gI, noL]
theorem gF_noL (f : Int × Int) : noL (gF f) = true := by simp [gF, noL, noLs]
theorem beq_sym {α : Type} [BEq α] [LawfulBEq α] (a b : α) : (a == b) = (b == a) := by
  rw [Bool.eq_iff_iff, beq_iff_eq, beq_iff_eq]
  exact eq_comm
mutual
theorem eqv_sym : ∀ a b : PyData, PyData.eqv a b = PyData.eqv b a
  | .none, b => by cases b <;> simp [PyData.eqv]
  | .bool a, b => by cases b <;> simp [PyData.eqv, beq_sym a, beq_sym _ (_ : Int)]
  | .int a, b => by cases b <;> simp [PyData.eqv, beq_sym a]
  | .str a, b => by cases b <;> simp [PyData.eqv, beq_sym a]
  | .list xs, b => by
    cases b with
    | list ys => rw [PyData.eqv, PyData.eqv]; exact eqvAll_sym xs ys
    | _ => simp [PyData.eqv]
  | .tuple xs, b => by
    cases b with
    | tuple ys => rw [PyData.eqv, PyData.eqv]; exact eqvAll_sym xs ys
    | _ => simp [PyData.eqv]
  | .dict _, b => by cases b <;> simp [PyData.eqv]
theorem eqvAll_sym : ∀ xs ys : List PyData, PyData.eqvAll xs ys = PyData.eqvAll ys xs
  | [], [] => rfl
  | [], _ :: _ => by simp [PyData.eqvAll]
  | _ :: _, [] => by simp [PyData.eqvAll]
  | x :: xs, y :: ys => by rw [PyData.eqvAll, PyData.eqvAll, eqv_sym x y, eqvAll_sym xs ys]
end
end Gl

set_option Elab.async false
set_option linter.all false
set_option maxRecDepth 100000
set_option maxHeartbeats 1000000
namespace L2
open PySem PySem.Spec PyProof.Rows
/-! ### x[::-1] -/
def RvR (X : Cx) (r : V → Hp → VK → Prop) : Prop :=
  ∀ (pins : List (Addr × Obj)) (s : Shared) (σ : St) (H : Hp) (x : V) (v vk : Value) (sl : Addr) (Q : VK), Inv X pins σ H s → RelV x v → s.heap.IsSliceOf sl .none .none vk → IsPart vk (some (-1)) → r x H Q →
    ∃ T id, typeLookup (.type T) "__getitem__" = pure (some (.builtin id)) ∧ s.TypeIs v T ∧ wpAny (model X.prog X.w) X.A (getItem v (.ref sl)) (EP X pins σ Q) X.xe s
def tRv (r : V → Hp → VK → Prop) (te : TE) : TE := fun σ H Q => te σ H fun x H1 => r x H1 Q
theorem pe_rev {X : Cx} {e : Expr} {te : TE} {r : V → Hp → VK → Prop} {p1 p2 p3 pos : Pos} {j} (hr : RvR X r) (he : PE X e te) : PE X (.Subscript e (.Slice none none (some (.UnaryOp .USub (.Constant (.int 1) j p1) p3)) p2) pos) (tRv r te) := by
  intro pins s σ H Q I h
  refine Subscript_ (thn (he pins s σ H _ I h) fun v s1 ⟨x, H1, I1, r1, q1⟩ => ?_)
  refine wpAny_Slice ?_
  rw [evalPart_none]
  refine wpAny_pure (wpAny_pure ?_)
  refine thn ((po_some (pe_un un_neg pe_int) : PO X (some (.UnaryOp .USub (.Constant (.int 1) j p1) p3)) _) pins s1 σ H1 (fun o H' => o = some (-1) ∧ H' = H1) I1 ⟨_, rfl, _, rfl, rfl, rfl⟩) fun vk s2 ⟨o, H2, I2, pk, e1, e2⟩ => ?_
  subst e1
  subst e2
  have I4 : Inv X pins σ H2 { s2 with heap := s2.heap.push { cls := .type "slice", data := .fields #[.none, .none, vk] } } := I2.kept (t' := s2.toks) fun b ob q => Heap.get?_push_of_some _ q
  obtain ⟨T, id, hT, ht, hg⟩ := hr pins { s2 with heap := s2.heap.push { cls := .type "slice", data := .fields #[.none, .none, vk] } } σ H2 x v vk s2.heap.objs.size Q I4 r1 (Heap.IsSliceOf.new ..) pk q1
  show wpAny (model X.prog X.w) X.A (subscriptTail e (.Slice none none (some (.UnaryOp .USub (.Constant (.int 1) j p1) p3)) p2) v (.ref s2.heap.objs.size)) (EP X pins σ Q) X.xe { s2 with heap := s2.heap.push { cls := .type "slice", data := .fields #[.none, .none, vk] } }
  exact tail_any (ops := [v, .ref s2.heap.objs.size]) ht hT hg (by with_unfolding_all rfl)
theorem vals_rev : ∀ {xs : List V} {us : List Value}, Vals xs us → Vals xs.reverse us.reverse
  | _, _, .nil => .nil
  | _, _, .cons a r => by
    rw [List.reverse_cons, List.reverse_cons]
    exact Paired.snoc (vals_rev r) a
def rRevL : V → Hp → VK → Prop := fun x H Q => ∃ a xs, x = .ref a ∧ H a = some (.lst xs) ∧ ∀ p, H p = none → Q (.ref p) (upd H p (.lst xs.reverse))
theorem rv_list {X : Cx} : RvR X rRevL := by
  intro pins s σ H x v vk sl Q I rx hs pk h
  obtain ⟨a, xs, rfl, hx, q⟩ := h
  cases rx
  obtain ⟨its, r, ht, hz⟩ := I.list (SqL.of (K := X.K) hx)
  have hlen := r.length
  refine ⟨"list", _, slot_list_getitem.lookup, ht.isList.typeIs, ?_⟩
  refine wpAny_getItem_list_slice ht.isList hs .none .none pk (by decide) ?_ (by rw [List.size_toArray] <;> omega)
  rw [PySem.W.krv_pick]
  refine ⟨.ref s.heap.objs.size, _, I.laid (t' := s.toks) (o := .lst xs.reverse) (fun b ob q => Heap.get?_push_of_some _ q) (Nat.le_refl _) ?_, rfl, q _ (I.hok.fresh (Nat.le_refl _))⟩
  exact ⟨by rw [List.length_reverse]; exact hz, its.reverse, 0, vals_rev r, Heap.get?_push_size _ rfl⟩
section
variable {prog : Program} {w : World} {A : Around} {E : Value → Shared → Prop} {s : Shared}
open HT PySem.SeqAt
open PySem.AutoSeq1 (wpAny_loadPart')
theorem applied_rev {sl : Addr} {vk : Value} {n : Nat} {Q : Int × Int × Nat → Shared → Prop} (hs : s.heap.IsSliceOf sl .none .none vk) (pk : IsPart vk (some (-1)))
    (h : Q ((n : Int) - 1, -1, n) s) : wpAny (model prog w) A (Builtin.Slice.sliceApplied (.ref sl) (pure (n : Int))) Q E s := by
  obtain ⟨os, hos, hcs, hds⟩ := id hs
  unfold Builtin.Slice.sliceApplied Builtin.Slice.sliceFields
  refine wpAny_bind (wpAny_bind (wpAny_field hos hds (x := .none) rfl (wpAny_bind (wpAny_field hos hds (x := .none) rfl (wpAny_bind (wpAny_field hos hds (x := vk) rfl (wpAny_pure ?_)))))))
  refine wpAny_bind (slicePart_ pk ?_)
  show wpAny _ _ (if ((-1 : Int) == 0) = true then _ else _) _ _ s
  rw [if_neg (by decide)]
  refine wpAny_bind (slicePart_none (wpAny_bind (slicePart_none (wpAny_bind (wpAny_pure ?_)))))
  have e1 : Builtin.Slice.sliceAdjust none none (-1) (n : Int) = ((n : Int) - 1, -1) := by
    unfold Builtin.Slice.sliceAdjust
    simp
  have e2 : Builtin.Slice.slicePlaces ((n : Int) - 1) (-1) (-1) = n := by
    unfold Builtin.Slice.slicePlaces
    have h1 : ¬ ((-1 : Int) > 0) := by omega
    simp only [h1, if_false]
    have h2 : (- -1 : Int) = 1 := by omega
    rw [h2, Int.ediv_one]
    split <;> omega
  show wpAny _ _ (match Builtin.Slice.sliceAdjust none none (-1) (n : Int) with | (lo, hi) => pure (lo, (-1 : Int), Builtin.Slice.slicePlaces lo hi (-1))) _ _ s
  rw [e1]
  show wpAny _ _ (pure ((n : Int) - 1, (-1 : Int), Builtin.Slice.slicePlaces ((n : Int) - 1) (-1) (-1))) _ _ s
  rw [e2]
  exact wpAny_pure h
theorem fm_congr {α β : Type} {f g : α → Option β} : ∀ {l : List α}, (∀ a ∈ l, f a = g a) → l.filterMap f = l.filterMap g
  | [], _ => rfl
  | a :: r, h => by
    rw [List.filterMap_cons, List.filterMap_cons, h a List.mem_cons_self, fm_congr fun b hb => h b (List.mem_cons_of_mem _ hb)]
theorem pick_rev (xs : Array Value) : ((List.range xs.size).filterMap fun (m : Nat) => xs[(((xs.size : Int) - 1) + (m : Int) * (-1)).toNat]?).toArray = xs.toList.reverse.toArray := by
  have e : ((List.range xs.size).filterMap fun (m : Nat) => xs[(((xs.size : Int) - 1) + (m : Int) * (-1)).toNat]?) = ((List.range xs.size).map fun k => xs.size - 1 - k).filterMap (xs[·]?) := by
    rw [List.filterMap_map]
    refine fm_congr fun m hm => ?_
    have : (((xs.size : Int) - 1) + (m : Int) * (-1)).toNat = xs.size - 1 - m := by
      have := List.mem_range.mp hm
      omega
    rw [this]
    rfl
  rw [e, PySem.W.krv_range, List.filterMap_reverse, PySem.W.krv_all]
theorem getItem_tuple_rev {t sl : Addr} {items : Array Value} {vk : Value} {Q : Value → Shared → Prop} (ht : IsTup s.heap t items) (hs : s.heap.IsSliceOf sl .none .none vk) (pk : IsPart vk (some (-1)))
    (h : Q (.ref s.heap.objs.size) { s with heap := s.heap.push { cls := .type "tuple", data := .seq items.toList.reverse.toArray } })
    (hsz : items.size ≤ sizeLine) : wpAny (model prog w) A (getItem (.ref t) (.ref sl)) Q E s := by
  have htake : sizeOk (.seq items.toList.reverse.toArray) := by
    show items.toList.reverse.toArray.size ≤ sizeLine
    rw [List.size_toArray, List.length_reverse, Array.length_toList]
    exact hsz
  obtain ⟨os, hos, hcs, hds⟩ := id hs
  have hTs : s.TypeIs (.ref sl) "slice" := ⟨os, hos, hcs⟩
  unfold getItem
  try with_reducible refine wpAny_holding ?_
  first | refine wpAny_bind (wpAny_pure ?_) | skip
  refine wpAny_bind (wpAny_sequenceKey ht.typeIs (by decide) ?_)
  refine wpAny_bind (wpAny_callSpecial?_slot (name := Str.ofString "__getitem__") ht.typeIs PyProof.Rows.slot_tuple_getitem
    (wpAny_call_entry PyProof.Rows.slot_tuple_getitem ht.typeIs entry_tuple_getitem ?_ (args_tuple_getitem _ _)))
  show wpAny _ _ (Builtin.Tuple.tupleItemsOf (.ref t) >>= _) _ _ s
  refine wpAny_bind (tupleItemsOf_ ht ?_)
  refine wpAny_bind (wpAny_typeOf hTs ?_)
  rw [if_pos (by decide)]
  refine wpAny_bind (applied_rev hs pk ?_)
  have hno : ¬ ((((items.size : Int) - 1) == 0 && (-1 : Int) == 1 && items.size == items.size) = true) := by
    intro q
    rw [Bool.and_eq_true, Bool.and_eq_true] at q
    exact absurd q.1.2 (by decide)
  show wpAny _ _ (if (((items.size : Int) - 1) == 0 && (-1 : Int) == 1 && items.size == items.size) = true then _ else _) _ _ s
  rw [if_neg hno, pick_rev]
  first
    | exact wpAny_bind (m := Builtin.Tuple.tupleExact _) (wpAny_newObj_type (wpAny_pure ⟨_, rfl, wpAny_pure h⟩) htake)
    | exact wpAny_bind (m := Builtin.Tuple.tupleExact _) (wpAny_newObj_type (wpAny_bind (wpAny_pure (wpAny_pure ⟨_, rfl, wpAny_pure h⟩))) htake)
    | exact wpAny_bind (wpAny_bind (m := Builtin.Tuple.tupleExact _) (wpAny_newObj_type (wpAny_pure (wpAny_pure ⟨_, rfl, wpAny_pure h⟩)) htake))
    | exact wpAny_bind (wpAny_bind (m := Builtin.Tuple.tupleExact _) (wpAny_newObj_type (wpAny_pure ⟨_, rfl, wpAny_pure h⟩) htake))
end
def rRevT : V → Hp → VK → Prop := fun x H Q => ∃ a xs, x = .ref a ∧ H a = some (.tup xs) ∧ ∀ p, H p = none → Q (.ref p) (upd H p (.tup xs.reverse))
theorem rv_tup {X : Cx} : RvR X rRevT := by
  intro pins s σ H x v vk sl Q I rx hs pk h
  obtain ⟨a, xs, rfl, hx, q⟩ := h
  cases rx
  obtain ⟨its, r, ht, hz⟩ := tupleAt I hx
  have hlen := r.length
  refine ⟨"tuple", _, PyProof.Rows.slot_tuple_getitem.lookup, ht.typeIs, ?_⟩
  refine getItem_tuple_rev ht hs pk ?_ (by rw [List.size_toArray] <;> omega)
  refine ⟨.ref s.heap.objs.size, _, I.laid (t' := s.toks) (o := .tup xs.reverse) (fun b ob q => Heap.get?_push_of_some _ q) (Nat.le_refl _) ?_, rfl, q _ (I.hok.fresh (Nat.le_refl _))⟩
  exact ⟨by rw [List.length_reverse]; exact hz, its.reverse, vals_rev r, IsTup.new _ _⟩
/-! ### f"{a}..{b}", both texts -/
def tJ3 (ta : TE) (c : Str) (tb : TE) : TE := fun σ H Q => ta σ H fun x H1 => ∃ a, x = .str a ∧ a.length ≤ 1000 ∧ tb σ H1 fun y H2 => ∃ b, y = .str b ∧ b.length ≤ 1000 ∧ Q (.str (Str.empty ++ a ++ c ++ b)) H2
theorem pe_join3 {X : Cx} {e1 e2 : Expr} {ta tb : TE} {c : Str} {p1 p2 p3 pos : Pos} {j : Nat} (h1 : PE X e1 ta) (h2 : PE X e2 tb) (hc : c.length ≤ 1000) :
    PE X (.JoinedStr [.FormattedValue e1 (-1) none p1, .Constant (.str c) j p2, .FormattedValue e2 (-1) none p3] pos) (tJ3 ta c tb) := by
  intro pins s σ H Q I h
  have len : ∀ a b : Str, (a ++ b).length = a.length + b.length := fun a b => strLen_append a b
  have e0 : Str.empty.length = 0 := rfl
  have big : ∀ n : Nat, n ≤ 3000 → n ≤ sizeLine := fun n hn => Nat.le_trans hn (by decide)
  refine JoinedStr_many (joinParts_cons (FormattedValue_plain (thn (h1 pins s σ H _ I h) fun u s1 ⟨x, H1, I1, r1, q1⟩ => ?_)))
  obtain ⟨a, rfl, la, q1⟩ := q1
  obtain ⟨t1, rfl⟩ := r1
  have rest : ∀ (tk : Nat), wpAny (model X.prog X.w) X.A (joinParts (Str.empty ++ a) (eval (.Constant (.str c) j p2) X.env :: evalEach [.FormattedValue e2 (-1) none p3] X.env)) (EP X pins σ Q) X.xe { s1 with toks := tk } := by
    intro tk
    refine joinParts_cons (Calls.Constant_str ⟨by rw [len, len, e0]; exact big _ (by omega), ?_⟩)
    refine joinParts_cons (FormattedValue_plain (thn (h2 pins { s1 with toks := tk + 1 } σ H1 _ (I1.tok _) q1) fun u s2 ⟨y, H2, I2, r2, q2⟩ => ?_))
    obtain ⟨b, rfl, lb, q2⟩ := q2
    obtain ⟨t2, rfl⟩ := r2
    have hl : (Str.empty ++ a ++ c ++ b).length ≤ sizeLine := by rw [len, len, len, e0]; exact big _ (by omega)
    refine wpAny_formatField_str ⟨hl, joinParts_nil ?_ hl⟩ ⟨hl, joinParts_nil ?_ hl⟩ (big _ (by omega))
    · exact ⟨.str (Str.empty ++ a ++ c ++ b), H2, I2.tok _, ⟨_, rfl⟩, q2⟩
    · exact ⟨.str (Str.empty ++ a ++ c ++ b), H2, I2.tok _, ⟨_, rfl⟩, q2⟩
  have hl1 : (Str.empty ++ a).length ≤ sizeLine := by rw [len, e0]; exact big _ (by omega)
  exact wpAny_formatField_str ⟨hl1, rest s1.toks⟩ ⟨hl1, rest (s1.toks + 1)⟩ (big _ (by omega))
end L2

set_option Elab.async false
set_option linter.all false
set_option maxRecDepth 100000
set_option maxHeartbeats 1000000
namespace L2
open PySem PySem.Spec PyProof.Rows
/-! ### sorted(d), the keys texts -/
def rSortedD : List V → Hp → VK → Prop := fun xs H Q => ∃ (d : Addr) (kvs : List (Key × V)) (ss : List Str), xs = [.ref d] ∧ H d = some (.dK kvs) ∧ kvs.map Prod.fst = ss.map Sum.inr ∧
  ∀ (ys : List Str) (p : Addr), ys.Perm ss → sortedS ys = true → H p = none → Q (.ref p) (upd H p (.lst (ys.map V.str)))
theorem isStr_of {y : Str} {v : Value} (h : keyIs (Sum.inr y) v = true) : ∃ t, v = .str y t := by
  cases v with
  | str z t =>
    have : z = y := by
      simp [keyIs, Value.isStrOf] at h
      first | exact h | exact h.symm
    exact ⟨t, by rw [this]⟩
  | _ => simp [keyIs, Value.isStrOf] at h
theorem kv_fst : ∀ {kvs : List (Key × V)} {vs : List (Key × Value)}, KV kvs vs → vs.map Prod.fst = kvs.map Prod.fst
  | _, _, .nil => rfl
  | _, _, .cons h r => by rw [List.map_cons, List.map_cons, h.1, kv_fst r]
theorem strs_at {P : Program} {w : World} : ∀ {vs : List (Key × Value)} {ss : List Str} {acc : List Value}, vs.map Prod.fst = ss.map Sum.inr → acc.length = vs.length → (∀ (j : Nat) (v : Value), acc[j]? = some v → ∃ k x, vs[j]? = some (k, x) ∧ (mixKind P w).is k v = true) → StrsAre acc ss
  | [], [], [], _, _, _ => .nil
  | [], [], _ :: _, _, h, _ => by simp at h
  | [], _ :: _, _, h, _, _ => by simp at h
  | _ :: _, [], _, h, _, _ => by simp at h
  | _ :: _, _ :: _, [], _, h, _ => by simp at h
  | kv :: r, y :: ss, v :: acc, e, hl, h => by
    rw [List.map_cons, List.map_cons, List.cons.injEq] at e
    obtain ⟨k, x, hk, hv⟩ := h 0 v rfl
    have ek : kv = (k, x) := by simpa using hk
    subst ek
    have e1 : k = Sum.inr y := e.1
    subst e1
    have ih := strs_at (P := P) (w := w) (vs := r) (ss := ss) (acc := acc) e.2 (by simpa using hl) fun j u hj => h (j + 1) u (by simpa using hj)
    have hv2 : keyIs (Sum.inr y) v = true := hv
    obtain ⟨t, rfl⟩ := isStr_of hv2
    exact .cons _ _ ih
theorem Inv.laidF {X : Cx} {pins : List (Addr × Obj)} {σ : St} {H : Hp} {s : Shared} {h' : Heap} {t' : Nat} {a : Addr} {o : HO} (I : Inv X pins σ H s) (k : ∀ b u, s.heap.get? b = some u → h'.get? b = some u) (ha : H a = none) (hn : s.heap.get? a = none)
    (new : ObjOk X.prog X.w (upd H a o) h' a o) : Inv X pins σ (upd H a o) { s with heap := h', toks := t' } := by
  have old : Same H (upd H a o) := fun b u e => by rw [upd_ne (ne_of_none e ha)]; exact e
  refine I.un ⟨fun b u q _ _ _ => k b u q, fun b u q _ _ _ => ⟨u.slots, k b u q⟩, fun b u q n _ => ?_, fun b u q _ => ⟨u, k b u q⟩, fun b xs q => old _ _ q, fun b u xs q => old _ _ q, fun b ps q => ⟨#[], by rw [old _ _ q]; simp⟩⟩ fun b u e => ?_
  · have nb : b ≠ a := fun z => by rw [z, hn] at q; cases q
    rw [upd_ne nb]
    exact n
  · by_cases nb : b = a
    · subst nb
      rw [upd_same] at e
      cases e
      exact new
    · rw [upd_ne nb] at e
      exact (I.hok b u e).stay (fun c v _ q => k c v q) (fun c q => old _ _ q) fun c xs q => old _ _ q
theorem cr_sortedD {X : Cx} (hcalm : X.calm = true) : CallR X (.builtin "sorted") rSortedD := by
  rintro pins s σ H xs us Q I r ⟨d, kvs, ss, rfl, hd, hk, q⟩
  obtain ⟨u, rfl, ru⟩ := vals1 r
  cases ru
  obtain ⟨z, hs, vs, rel, dd⟩ := dk_of I.hok hd
  obtain ⟨ep, da⟩ := dd.dictAt
  have hl : kvs.length = vs.length := rel.length
  have hk2 : vs.map Prod.fst = ss.map Sum.inr := by
    rw [kv_fst rel, hk]
  refine Calls.call_function_entry (by decide +kernel) plain_sorted entry_sorted (args_sorted1 _) ?_
  unfold Builtin.sorted
  show wpAny _ _ (do checkCount "sorted" 1 1 1; let l0 ← collect (.ref d); let l ← newList l0; let _ ← holding [l] (call (.builtin "list.sort") [l]); ret l) _ _ _
  refine wpAny_bind (wpAny_pure ?_)
  refine wpAny_bind (PySem.W.kdu_collect (PySem.W.kdl_dict (knd := mixKind X.prog X.w) (kvs := vs) (ep := ep) hs) (I.ok.hd hcalm) da (by omega) fun h' tk acc hk' hi => ?_)
  have hp : H h'.objs.size = none := (I.hok.kept hk').fresh (Nat.le_refl _)
  have hn : s.heap.get? h'.objs.size = none := by
    cases e : s.heap.get? h'.objs.size with
    | none => rfl
    | some o => exact absurd (Heap.lt_size (hk' _ _ e)) (Nat.lt_irrefl _)
  have hal : acc.toList.length = vs.length := by rw [Array.length_toList]; exact hi.1
  have hst : StrsAre acc.toList ss := strs_at (P := X.prog) (w := X.w) hk2 hal fun j v hj => hi.2 j v (by simpa using hj)
  have hle : acc.toList.length ≤ sizeLine := by omega
  refine wpAny_bind (wpAny_newList ?_ hle)
  have hget : (h'.push { cls := Value.type "list", data := Data.seq acc.toList.toArray }).get? h'.objs.size = some (seqObj "list" acc.toList.toArray 0) := Heap.get?_push_size _ rfl
  refine wpAny_bind (wpAny_holding (wpAny_call_entry slot_list_sort ⟨_, hget, rfl⟩ entry_list_sort (list_sort_treeKAny strKind_oneLt hget hst.keysOf (fun v1 v2 rest e => ?_) hle fun st' perm srt => ⟨.none, rfl, ?_⟩) (args_list_sort _)))
  · rw [e] at hst
    exact keyKind_strs hst
  · obtain ⟨ys, h1, h2, h3⟩ := sorted_out_str hst perm srt
    obtain ⟨e, he⟩ := sortedHeap_at (out := (arrOf st').map fun x => x.2) hget
    have hyl : (ys.map V.str).length ≤ sizeLine := by
      rw [List.length_map, h2.length_eq]
      have : ss.length = vs.length := by
        have z := congrArg List.length hk2
        rw [List.length_map, List.length_map] at z
        exact z.symm
      omega
    have kk : ∀ b o, s.heap.get? b = some o → (sortedHeap (h'.push { cls := Value.type "list", data := Data.seq acc.toList.toArray }) h'.objs.size acc.toList ((arrOf st').map fun x => x.2)).get? b = some o := fun b o hb => by
      have hb' := hk' b o hb
      have lt := Heap.lt_size hb'
      rw [sortedHeap_old (Nat.ne_of_lt lt) (by rw [Heap.size_push]; exact Nat.lt_succ_of_lt lt)]
      exact Heap.get?_push_of_some _ hb'
    have I2 := Inv.laidF (t' := tk) (a := h'.objs.size) (o := .lst (ys.map V.str)) I kk hp hn ⟨hyl, ((arrOf st').map fun x => x.2).toList, e, vals_of_strs h1, by rw [Array.toArray_toList]; exact he⟩
    exact wpAny_pure ⟨_, rfl, .ref h'.objs.size, upd H h'.objs.size (.lst (ys.map V.str)), I2, rfl, q ys _ h2 h3 hp⟩
end L2

set_option Elab.async false
set_option linter.all false
set_option maxRecDepth 100000
set_option maxHeartbeats 1000000
namespace L2
open PySem PySem.Spec PyProof.Rows PySem.W
/-! ### d.setdefault(k, y) -/
def rSetDef : V → List V → Hp → VK → Prop := fun x xs H Q => ∃ (d : Addr) (kvs : List (Key × V)) (k : Key) (y : V), x = .ref d ∧ xs = [kV k, y] ∧ H d = some (.dK kvs) ∧ kvs.length < sizeLine ∧
  (∀ v, valV kvs k = some v → Q v H) ∧ (valV kvs k = none → Q y (upd H d (.dK (putK kvs k y))))
theorem mt_setDef {X : Cx} : MtR X "dict.setdefault" rSetDef := by
  rintro pins s σ H x xs v us Q I r rs ⟨d, kvs, k, y, rfl, rfl, hd, hl, q1, q2⟩
  cases r
  cases rs with
  | cons ru rt =>
  cases rt with
  | cons ry rn =>
  cases rn
  rename_i u uy
  obtain ⟨z, hs, vs, rel, dd⟩ := dk_of I.hok hd
  have hz : vs.length ≤ sizeLine := by rw [← rel.length]; exact z
  refine call_meetsIn PySem.F.slot_dict_setdefault dd.typeIs PySem.F.entry_dict_setdefault (PySem.F.args_dict_setdefault_3 _ _ _) (kt_meets_setdefault (mixKind X.prog X.w) d (kV_is ru) hs uy) ⟨vs, dd, hz, fun v' hv => ?_, fun hn h' dd' hb => ?_⟩
  · have e := rel.val k
    rw [hv] at e
    cases ev : valV kvs k with
    | none => rw [ev] at e; exact absurd e (by simp [RelO])
    | some w' =>
      rw [ev] at e
      exact ⟨w', H, I.tok _, e, q1 w' ev⟩
  · have e := rel.val k
    rw [hn] at e
    cases ev : valV kvs k with
    | some w' => rw [ev] at e; exact absurd e (by simp [RelO])
    | none =>
      have he : ∃ q, h'.get? d = some q := let ⟨q, _, _, hq, _⟩ := dd'; ⟨q, hq⟩
      have hl2 : (putK kvs k y).length ≤ sizeLine := by have := length_putK kvs k y; omega
      exact ⟨y, _, d_write I (by rw [hd]; exact True.intro) hb he (dk_new hl2 hs (rel.put k ry) dd'), ry, q2 ev⟩
/-! ### sorted(d): the keys, by the dict's own entries -/
theorem kdl_raw {prog : Program} {w : World} {d : Addr} {o : Obj} {es : Array DictEntry} {ep : Nat} (lo : (d == sysModules) = false) (hx : o.ExactDict) (hd : o.data = .dict es ep) :
    PySem.W.KdlSrc prog w "dict" d d es.size (fun i v => ∃ en, es[i]? = some en ∧ v = en.key) (fun h => h.get? d = some o) where
  type := fun _ h => ⟨o, h, hx.1⟩
  there := fun _ h => ⟨Heap.lt_size h, Heap.lt_size h⟩
  keep := fun _ _ h k => k d (.inl rfl) o h
  notList := by decide
  notTuple := by decide
  hint := fun _ _ _ _ h q => PySem.W.kdl_hint_dict ⟨o, h, hx.1⟩ q
  iter := fun A s hh h => by
    refine ⟨_, fun i h' => h'.IsKeyIter s.heap.objs.size d i es.size ep ∧ h'.get? d = some o, fun _ _ q => iter_keys lo h hx hd q, ?_, ⟨_, Heap.get?_push_size _ rfl, rfl, rfl⟩, Heap.get?_push_of_some _ h⟩
    have nd : d ≠ s.heap.objs.size := Nat.ne_of_lt (Heap.lt_size h)
    exact {
      sub := fun b hb => by simp at hb; simp [hb]
      frame := fun _ _ _ st k => ⟨st.1.at fun oi e => k _ (by simp) oi e, k d (by simp) o st.2⟩
      item := fun i s' Q E hi st q => next_key_item st.1 st.2 hd rfl (Array.getElem?_eq_getElem hi) fun h' it' sb => q _ h' s'.toks ⟨_, Array.getElem?_eq_getElem hi, rfl⟩ ⟨it', (sb.2 d nd).trans st.2⟩ fun b ob hb e => (sb.2 b (by simpa using hb)).trans e
      done := fun s' Q E st q => next_key_end hh st.1 st.2 hd rfl (Nat.le_refl _) fun h' eb => q h' s'.toks fun b ob hb e => eb b ob (by simpa using hb) e
      self := fun _ _ _ _ st q => wpAny_pyIter_keyiter st.1 q }
theorem sorted_dict {X : Cx} {s : Shared} {d : Addr} {o : Obj} {es : Array DictEntry} {ep : Nat} {Q : Value → Shared → Prop} {E : Value → Shared → Prop} {A : Around} (hh : A.handled = none) (lo : (d == sysModules) = false) (ho : s.heap.get? d = some o) (hx : o.ExactDict) (hd : o.data = .dict es ep) (hz : es.size ≤ sizeLine)
    (k : ∀ (h' : Heap) (tk : Nat) (acc : List Value), (∀ b u, s.heap.get? b = some u → h'.get? b = some u) → acc.length = es.size → (∀ (j : Nat) (v : Value), acc[j]? = some v → ∃ en, es[j]? = some en ∧ v = en.key) →
      ∀ h2 : Heap, h2 = h'.push { cls := Value.type "list", data := Data.seq acc.toArray } → h2.get? h'.objs.size = some (seqObj "list" acc.toArray 0) →
      wpAny (model X.prog X.w) A.in1.in1 (Builtin.«list.sort» ⟨[.ref h'.objs.size], []⟩) (fun fin s' => ∃ r, fin = .done (.ret r) ∧ Q (.ref h'.objs.size) s') E { s with heap := h2, toks := tk }) :
    wpAny (model X.prog X.w) A (call (.builtin "sorted") [.ref d]) Q E s := by
  refine Calls.call_function_entry (by decide +kernel) plain_sorted entry_sorted (args_sorted1 _) ?_
  unfold Builtin.sorted
  show wpAny _ _ (do checkCount "sorted" 1 1 1; let l0 ← collect (.ref d); let l ← newList l0; let _ ← holding [l] (call (.builtin "list.sort") [l]); ret l) _ _ _
  refine wpAny_bind (wpAny_pure ?_)
  refine wpAny_bind (PySem.W.kdu_collect (kdl_raw (prog := X.prog) (w := X.w) lo hx hd) hh ho hz fun h' tk acc hk' hi => ?_)
  have hal : acc.toList.length = es.size := by rw [Array.length_toList]; exact hi.1
  refine wpAny_bind (wpAny_newList ?_ (by omega))
  have hget : (h'.push { cls := Value.type "list", data := Data.seq acc.toList.toArray }).get? h'.objs.size = some (seqObj "list" acc.toList.toArray 0) := Heap.get?_push_size _ rfl
  refine wpAny_bind (wpAny_holding (wpAny_call_entry slot_list_sort ⟨_, hget, rfl⟩ entry_list_sort ?_ (args_list_sort _)))
  refine wpAny_mono (k h' tk acc.toList hk' hal (fun j v hj => hi.2 j v (by simpa using hj)) _ rfl hget) (fun fin s' ⟨r, e, q⟩ => ?_) fun _ _ x => x
  subst e
  exact ⟨r, rfl, wpAny_pure ⟨_, rfl, q⟩⟩
end L2

set_option Elab.async false
set_option linter.all false
set_option maxRecDepth 100000
set_option maxHeartbeats 1000000
namespace Gl
open PySem L2 PyProof.Rows
/-! ### the bag, and what stands beside it -/
def pairAt (H : Hp) (t : Addr) (p : Str × Int) : Prop := H t = some (.tup [.str p.1, .int p.2])
theorem pairs_same {H H' : Hp} (s : Same H H') {ts : List Addr} {ps : List (Str × Int)} (h : Paired (pairAt H) ts ps) : Paired (pairAt H') ts ps := Paired.mapP h fun t p e => s t _ e
def Bag (H : Hp) (b : Addr) : Prop := ∃ x y : Int, H b = some (.lst [.int x, .int y])
structure Keep (b : Addr) (H H' : Hp) : Prop where
  same : Same (hid b H) (hid b H')
  bag : Bag H' b
theorem Keep.refl {b : Addr} {H : Hp} (h : Bag H b) : Keep b H H := ⟨Same.refl _, h⟩
theorem Keep.trans {b : Addr} {H H1 H2 : Hp} (a : Keep b H H1) (c : Keep b H1 H2) : Keep b H H2 := ⟨a.same.trans c.same, c.bag⟩
theorem Keep.set {b : Addr} {H : Hp} {x y : Int} : Keep b H (upd H b (.lst [.int x, .int y])) := ⟨fun a o h => by
  obtain ⟨n, e⟩ := hid_some h
  rw [hid_ne n, upd_ne n]; exact e, x, y, upd_same⟩
theorem Same.hid {b : Addr} {H H' : Hp} (s : Same H H') : Same (hid b H) (Gl.hid b H') := fun a o h => by
  obtain ⟨n, e⟩ := hid_some h
  rw [hid_ne n]; exact s _ _ e
theorem Keep.of {b : Addr} {H H' : Hp} (hb : Bag H b) (s : Same H H') : Keep b H H' := ⟨Same.hid s, let ⟨x, y, e⟩ := hb; ⟨x, y, s _ _ e⟩⟩
theorem Keep.new {b p : Addr} {H : Hp} {o : HO} (hb : Bag H b) (hp : H p = none) : Keep b H (upd H p o) := Keep.of hb (Same.upd hp)
theorem Keep.get {b a : Addr} {H H' : Hp} {o : HO} (k : Keep b H H') (n : a ≠ b) (h : H a = some o) : H' a = some o := by
  have z := k.same a o (by rw [hid_ne n]; exact h)
  rw [hid_ne n] at z; exact z
/-- the same but for one address more, that was new -/
theorem Keep.back {b p : Addr} {H H1 H2 : Hp} (k : Keep b H H1) (hp : H p = none) (s : ∀ a o, a ≠ p → a ≠ b → H1 a = some o → H2 a = some o) (hb : Bag H2 b) : Keep b H H2 := ⟨fun a o h => by
  obtain ⟨n, e⟩ := hid_some h
  rw [hid_ne n]
  exact s a o (fun z => by rw [z, hp] at e; cases e) n (k.get n e), hb⟩
abbrev DK (b : Addr) (H : Hp) : V → PyData → Prop := DH (hid b H)
abbrev DKs (b : Addr) (H : Hp) : List V → List PyData → Prop := DHs (hid b H)
theorem DK.dh {b : Addr} {H : Hp} {v : V} {d : PyData} (h : DK b H v d) : DH H v d := DH.same hid_same h
theorem DK.keep {b : Addr} {H H' : Hp} {v : V} {d : PyData} (k : Keep b H H') (h : DK b H v d) : DK b H' v d := DH.same k.same h
theorem DKs.keep {b : Addr} {H H' : Hp} {v : List V} {d : List PyData} (k : Keep b H H') (h : DKs b H v d) : DKs b H' v d := DHs.same k.same h
theorem DK.tup {b p : Addr} {H : Hp} {xs : List V} {ds : List PyData} (n : p ≠ b) (h : H p = some (.tup xs)) (r : DKs b H xs ds) : DK b H (.ref p) (.tuple ds) := DH.tup (by rw [hid_ne n]; exact h) r
theorem DK.lst {b p : Addr} {H : Hp} {xs : List V} {ds : List PyData} (n : p ≠ b) (h : H p = some (.lst xs)) (r : DKs b H xs ds) : DK b H (.ref p) (.list ds) := DH.lst (by rw [hid_ne n]; exact h) r
/-! ### written data -/
def tD (b : Addr) (d : PyData) : TE := fun _ H Q => Bag H b ∧ ∀ v H', Same H H' → DK b H' v d → Q v H'
def tDs (b : Addr) (ds : List PyData) : TA := fun _ H Q => Bag H b ∧ ∀ vs H', Same H H' → DKs b H' vs ds → Q vs H'
theorem Bag.same {H H' : Hp} {b : Addr} (s : Same H H') (h : Bag H b) : Bag H' b := let ⟨x, y, e⟩ := h; ⟨x, y, s _ _ e⟩
theorem Bag.ne {H : Hp} {b p : Addr} (h : Bag H b) (hp : H p = none) : p ≠ b := fun z => by
  obtain ⟨x, y, e⟩ := h
  rw [z, e] at hp; cases hp
section
variable {X : Cx} {b : Addr} {pos : Pos} {j k : Nat}
theorem pd_int {i : Int} {jj} : PE X (.Constant (.int i) jj pos) (tD b (.int i)) := PE.imp pe_int fun _ H _ ⟨_, q⟩ => q _ H (Same.refl H) (.int _)
theorem pd_str {x : Str} {jj} : PE X (.Constant (.str x) jj pos) (tD b (.str x)) := PE.imp pe_str fun _ H _ ⟨_, q⟩ => q _ H (Same.refl H) (.str _)
theorem pd_bl {x : Bool} {jj} : PE X (.Constant (.bool x) jj pos) (tD b (.bool x)) := PE.imp pe_bl fun _ H _ ⟨_, q⟩ => q _ H (Same.refl H) (.bl _)
theorem pd_non {jj} : PE X (.Constant .none jj pos) (tD b .none) := PE.imp pe_non fun _ H _ ⟨_, q⟩ => q _ H (Same.refl H) .non
theorem pds_nil : PA X [] (tDs b []) := PA.imp pa_nil fun _ H _ ⟨_, q⟩ => q _ H (Same.refl H) .nil
theorem pds_cons {e : Expr} {es : List Expr} {d : PyData} {ds : List PyData} (h : PE X e (tD b d)) (r : PA X es (tDs b ds)) (hs : starEach (e :: es) X.env = (false, eval e X.env) :: starEach es X.env := by rfl) : PA X (e :: es) (tDs b (d :: ds)) :=
  PA.imp (pa_cons h r hs) fun _ H _ ⟨hb, q⟩ => ⟨hb, fun v H1 s1 hv => ⟨hb.same s1, fun vs H2 s2 hvs => q _ H2 (s1.trans s2) (.cons (DK.keep (Keep.of (hb.same s1) s2) hv) hvs)⟩⟩
theorem pd_tup {es : List Expr} {ds : List PyData} {kk : Nat} (h : PA X es (tDs b ds)) (hl : ds.length ≤ 1000 := by decide +kernel) : PE X (.Tuple es kk pos) (tD b (.tuple ds)) :=
  PE.imp (pe_tup h) fun _ H _ ⟨hb, q⟩ => ⟨hb, fun vs H1 s1 hvs => ⟨Nat.le_of_lt (small1000 (by rw [hvs.length]; exact hl)), fun p hp => q _ _ (s1.trans (Same.upd hp)) (DK.tup ((hb.same s1).ne hp) upd_same (DKs.keep (Keep.new (hb.same s1) hp) hvs))⟩⟩
theorem pd_lst {es : List Expr} {ds : List PyData} (h : PA X es (tDs b ds)) (hl : ds.length ≤ 1000 := by decide +kernel) : PE X (.List es pos) (tD b (.list ds)) :=
  PE.imp (pe_lst h) fun _ H _ ⟨hb, q⟩ => ⟨hb, fun vs H1 s1 hvs => ⟨Nat.le_of_lt (small1000 (by rw [hvs.length]; exact hl)), fun p hp => q _ _ (s1.trans (Same.upd hp)) (DK.lst ((hb.same s1).ne hp) upd_same (DKs.keep (Keep.new (hb.same s1) hp) hvs))⟩⟩
end
/-! ### _law_take -/
abbrev sTake : Stmt := top 12
section
variable {P : Program} {w : World} {K : PySem.W.Frag} {mg : Str → Option Value} {base : Heap}
def spTake : Sp := fun vs H Q _ => ∃ b m, vs = [.ref b, .int m] ∧ Bag H b ∧ 1 ≤ m ∧ m ≤ 10 ^ 9 ∧ ∀ r x y, 0 ≤ r → r < m → Q (.int r) (upd H b (.lst [.int x, .int y]))
theorem scTake : FnScope ["bag", "many", "found"] ["bag", "many"] (defScope sTake) := ⟨rfl, rfl, rfl, by decide +kernel, rfl, by decide +kernel, by decide +kernel⟩
theorem ok_take {f : Addr} {fd : FuncData} (F : Fun K "_law_take" "_law_take" sTake f fd) : FnOk P w K mg base CX0 1 f fd ["bag", "many"] spTake := by
  refine F.ok scTake (fun vs H Q E h => ?_) (fun cdv A outer s H vs Q E hr h => ?_)
  · obtain ⟨b, m, rfl, _⟩ := h
    rfl
  · obtain ⟨b, m, rfl, ⟨x, y, hb⟩, hm1, hm2, k⟩ := h
    have dm : CDivB 0 m := ⟨by omega, by
      have : (10 : Int) ^ 9 < 10 ^ 100 := by decide +kernel
      omega⟩
    refine ⟨_, pss_cons (ps_if (pt_cmpR op_gt (pe_ix ix_list (pv 0) pe_int (fun _ _ => rfl)) pe_int (nomark _))
        (pss_cons (ps_set (i := 2) scTake.nd rfl (Or.inl rfl) (pe_op op_mod (pe_ix ix_list (pv 0) pe_int (fun _ _ => rfl)) (pv 1)))
        (pss_cons (ps_asg (pe_op op_fdivB (pe_ix ix_list (pv 0) pe_int (fun _ _ => rfl)) (pv 1)) (pg_sub (pv 0) pe_int set_list))
        (pss_one (ps_ret (pv 2))))) pss_nil)
      (pss_cons (ps_asg (pe_op op_mod (pe_op op_mul (pe_ix ix_list (pv 0) pe_int (fun _ _ => rfl)) pe_int) pe_int) (pg_sub (pv 0) pe_int set_list))
      (pss_one (ps_ret (pe_op op_mod (pe_op op_fdivB (pe_op op_mod (pe_op op_mul (pe_op op_fdivB (pe_ix ix_list (pv 0) pe_int (fun _ _ => rfl)) pe_int) (pe_op op_add (pe_op op_mod (pe_ix ix_list (pv 0) pe_int (fun _ _ => rfl)) pe_int) pe_int)) pe_int) pe_int) (pv 1))))), ?_⟩
    refine ⟨_, rfl, _, _, _, _, rfl, rfl, SqL.of hb, rfl, _, _, rfl, rfl, _, rfl, ?_⟩
    by_cases h0 : 0 < x
    · rw [decide_eq_true h0]
      refine iteT ⟨_, rfl, _, _, _, _, rfl, rfl, SqL.of hb, rfl, _, rfl, _, _, rfl, rfl, hm1, ?_⟩
      refine ⟨_, rfl, _, _, _, _, rfl, rfl, SqL.of hb, rfl, _, rfl, _, _, rfl, rfl, dm, _, rfl, _, _, _, _, rfl, rfl, hb, rfl, ?_⟩
      exact ⟨_, rfl, k _ _ _ (Int.emod_nonneg _ (by omega)) (Int.emod_lt_of_pos _ (by omega))⟩
    · rw [decide_eq_false h0]
      refine iteF ?_
      refine ⟨_, rfl, _, _, _, _, rfl, rfl, SqL.of hb, rfl, _, _, rfl, rfl, .inr (by decide), _, _, rfl, rfl, (show (0 : Int) < 2147483647 by decide), _, rfl, _, _, _, _, rfl, rfl, hb, rfl, ?_⟩
      have hb2 : upd H b (.lst [.int x, .int (y * 48271 % 2147483647)]) b = some (.lst [.int x, .int (y * 48271 % 2147483647)]) := upd_same
      refine ⟨_, rfl, _, _, _, _, rfl, rfl, SqL.of hb2, rfl, _, _, rfl, rfl, ⟨by decide, by decide +kernel⟩, ?_⟩
      refine ⟨_, rfl, _, _, _, _, rfl, rfl, SqL.of hb2, rfl, _, _, rfl, rfl, (show (0 : Int) < 32749 by decide), _, _, rfl, rfl, _, _, rfl, rfl, .inr ?_, _, _, rfl, rfl, (show (0 : Int) < 2147483629 by decide), _, _, rfl, rfl, ⟨by decide, by decide +kernel⟩, _, rfl, _, _, rfl, rfl, hm1, ?_⟩
      · have h1 := Int.emod_nonneg (y * 48271 % 2147483647) (b := 32749) (by decide)
        have h2 := Int.emod_lt_of_pos (y * 48271 % 2147483647) (b := 32749) (by decide)
        constructor <;> omega
      · exact k _ _ _ (Int.emod_nonneg _ (by omega)) (Int.emod_lt_of_pos _ (by omega))
end
end Gl

set_option Elab.async false
set_option linter.all false
set_option maxRecDepth 100000
set_option maxHeartbeats 400000
namespace Gl
open PySem L2 PyProof.Rows
abbrev sBag : Stmt := top 11
abbrev sStuffs : Stmt := top 0
theorem pow_int {X : Cx} {a b n : Int} {p1 p2 pos : Pos} {j1 j2} {bb : Addr} (hc : CPow a b) (e : a ^ b.toNat = n) : PE X (.BinOp (.Constant (.int a) j1 p1) .Pow (.Constant (.int b) j2 p2) pos) (tD bb (.int n)) :=
  PE.imp (pe_op op_pow pe_int pe_int) fun _ H Q ⟨_, q⟩ => ⟨_, _, rfl, rfl, hc, by
    have z := q (.int n) H (Same.refl H) (.int _)
    show Q (.int (a ^ b.toNat)) H
    rw [e]; exact z⟩
section
variable {env : Env} {es : List Expr} {pos : Pos}
theorem st_con {c : Const} {k : Nat} : starEach (.Constant c k pos :: es) env = (false, eval (.Constant c k pos) env) :: starEach es env := rfl
theorem st_tup {xs : List Expr} {k : Nat} : starEach (.Tuple xs k pos :: es) env = (false, eval (.Tuple xs k pos) env) :: starEach es env := rfl
theorem st_lst {xs : List Expr} : starEach (.List xs pos :: es) env = (false, eval (.List xs pos) env) :: starEach es env := rfl
theorem st_bin {a b : Expr} {op : Operator} : starEach (.BinOp a op b pos :: es) env = (false, eval (.BinOp a op b pos) env) :: starEach es env := rfl
theorem st_un {a : Expr} {op : UnaryOp} : starEach (.UnaryOp op a pos :: es) env = (false, eval (.UnaryOp op a pos) env) :: starEach es env := rfl
end
section
variable {X : Cx} {b : Addr} {pos : Pos} {es : List Expr} {ds : List PyData} {jj : Nat}
theorem gl_qi {i : Int} (r : PA X es (tDs b ds)) : PA X (.Constant (.int i) jj pos :: es) (tDs b (.int i :: ds)) := pds_cons pd_int r st_con
theorem gl_qs {x : Str} (r : PA X es (tDs b ds)) : PA X (.Constant (.str x) jj pos :: es) (tDs b (.str x :: ds)) := pds_cons pd_str r st_con
theorem gl_qb {x : Bool} (r : PA X es (tDs b ds)) : PA X (.Constant (.bool x) jj pos :: es) (tDs b (.bool x :: ds)) := pds_cons pd_bl r st_con
theorem gl_qn (r : PA X es (tDs b ds)) : PA X (.Constant .none jj pos :: es) (tDs b (.none :: ds)) := pds_cons pd_non r st_con
theorem gl_qt {xs : List Expr} {kk : Nat} {dd : List PyData} (h : PA X xs (tDs b dd)) (r : PA X es (tDs b ds)) (hl : dd.length ≤ 1000 := by decide +kernel) : PA X (.Tuple xs kk pos :: es) (tDs b (.tuple dd :: ds)) := pds_cons (pd_tup h hl) r st_tup
theorem gl_ql {xs : List Expr} {dd : List PyData} (h : PA X xs (tDs b dd)) (r : PA X es (tDs b ds)) (hl : dd.length ≤ 1000 := by decide +kernel) : PA X (.List xs pos :: es) (tDs b (.list dd :: ds)) := pds_cons (pd_lst h hl) r st_lst
theorem gl_qm {i : Int} {p1 : Pos} (r : PA X es (tDs b ds)) : PA X (.UnaryOp .USub (.Constant (.int i) jj p1) pos :: es) (tDs b (.int (-i) :: ds)) := pds_cons (PE.imp (pe_un un_neg pe_int) fun _ H _ ⟨_, q⟩ => ⟨_, rfl, q _ H (Same.refl H) (.int _)⟩) r st_un
theorem gl_qp {x y n : Int} {p1 p2 : Pos} {j1 j2 : Nat} (hc : CPow x y) (e : x ^ y.toNat = n) (r : PA X es (tDs b ds)) : PA X (.BinOp (.Constant (.int x) j1 p1) .Pow (.Constant (.int y) j2 p2) pos :: es) (tDs b (.int n :: ds)) := pds_cons (pow_int hc e) r st_bin
end
section
variable {P : Program} {w : World} {K : PySem.W.Frag} {mg : Str → Option Value} {base : Heap}
theorem p30 : (10 : Int) ^ (30 : Int).toNat = 1000000000000000000000000000000 := by decide +kernel
/-! ### _law_bag -/
def spBag (K : PySem.W.Frag) : Sp := fun vs H Q _ => ∃ (a : Addr) (ns : List Int) (k : Nat), vs = [.ref a, .int k] ∧ SqL K H a (ns.map V.int) ∧ k ≤ 1000 ∧ ∀ b x y, H b = none → Q (.ref b) (upd H b (.lst [.int x, .int y]))
theorem scBag : FnScope ["script", "k", "cell", "seed"] ["script", "k"] (defScope sBag) := ⟨rfl, rfl, rfl, by decide +kernel, rfl, by decide +kernel, by decide +kernel⟩
theorem ok_bag {f : Addr} {fd : FuncData} (F : Fun K "_law_bag" "_law_bag" sBag f fd) (T : Nm mg) : FnOk P w K mg base CX0 1 f fd ["script", "k"] (spBag K) := by
  refine F.ok scBag (fun vs H Q E h => ?_) (fun cdv A outer s H vs Q E hr h => ?_)
  · obtain ⟨a, ns, k, rfl, _⟩ := h
    rfl
  · obtain ⟨a, ns, k, rfl, ha, hk, q⟩ := h
    refine ⟨_, pss_cons (ps_set (i := 2) scBag.nd rfl (Or.inl rfl) pe_int)
      (pss_cons (ps_if (pt_cmpR op_lt (pv 1) (pe_callB call_len_seq (by rfl) T.len PySem.boot_len (pa_cons (pv 0) pa_nil)) (nomark _))
        (pss_one (ps_set (i := 2) scBag.nd rfl (Or.inl rfl) (pe_op op_mod (pe_ix ix_list (pv 0) (pv 1) (fun _ _ => rfl)) (pe_op op_pow pe_int pe_int)))) pss_nil)
      (pss_cons (ps_set (i := 3) scBag.nd rfl (Or.inl rfl) (pe_op op_add pe_int (pe_op op_mod (pe_op op_add (pe_op op_add (pe_op op_add (pe_op op_mul (pe_op op_mod (pv 2) pe_int) pe_int) (pe_op op_mul (pe_op op_mul pe_int (pv 1)) (pv 1))) (pe_op op_mul pe_int (pv 1))) pe_int) pe_int)))
      (pss_cons (ps_if (pt_cmpR op_lt (pv 2) (pe_op op_pow pe_int pe_int) (nomark _)) (pss_one (ps_ret (pe_lst (pa_cons pe_int (pa_cons (pv 3) pa_nil))))) pss_nil)
      (pss_one (ps_ret (pe_lst (pa_cons (pv 2) (pa_cons (pv 3) pa_nil)))))))), ?_⟩
    have kb : -(2 ^ 64) < (k : Int) ∧ (k : Int) < 2 ^ 64 := by constructor <;> omega
    have cp : ∀ n : Nat, n ≤ 100 → CPow 10 (n : Int) := fun n hn => ⟨by omega, by omega, by decide⟩
    refine ⟨_, rfl, _, rfl, a, _, rfl, .inl ha, _, _, rfl, rfl, _, rfl, ?_⟩
    by_cases hlt : (k : Int) < ((ns.map V.int).length : Nat)
    · rw [decide_eq_true hlt]
      have hk' : k < ns.length := by rw [List.length_map] at hlt; omega
      have hget : (ns.map V.int)[k]? = some (.int ns[k]) := by simp [hk']
      refine iteT ⟨_, rfl, _, rfl, _, _, _, _, rfl, rfl, ha, atI_nat hget, _, _, rfl, rfl, cp 60 (by decide), _, _, rfl, rfl, (show (0 : Int) < 10 ^ (60 : Int).toNat by decide +kernel), ?_⟩
      refine ⟨_, rfl, _, _, rfl, rfl, (show (0 : Int) < 2147483629 by decide), _, _, rfl, rfl, .inr (by decide), _, rfl, _, _, rfl, rfl, .inr kb, _, rfl, _, _, rfl, rfl, .inr kb, _, _, rfl, rfl, _, rfl, _, _, rfl, rfl, .inr kb, _, _, rfl, rfl, _, _, rfl, rfl, _, _, rfl, rfl, (show (0 : Int) < 2147483645 by decide), _, _, rfl, rfl, ?_⟩
      refine ⟨_, rfl, _, _, rfl, rfl, cp 18 (by decide), _, _, rfl, rfl, _, rfl, ?_⟩
      exact ite2 (fun _ => ⟨_, rfl, by show 2 ≤ sizeLine; decide, fun p hp => q p _ _ hp⟩) (fun _ => ⟨_, rfl, _, rfl, by show 2 ≤ sizeLine; decide, fun p hp => q p _ _ hp⟩)
    · rw [decide_eq_false hlt]
      refine iteF ?_
      refine ⟨_, rfl, _, _, rfl, rfl, (show (0 : Int) < 2147483629 by decide), _, _, rfl, rfl, .inr (by decide), _, rfl, _, _, rfl, rfl, .inr kb, _, rfl, _, _, rfl, rfl, .inr kb, _, _, rfl, rfl, _, rfl, _, _, rfl, rfl, .inr kb, _, _, rfl, rfl, _, _, rfl, rfl, _, _, rfl, rfl, (show (0 : Int) < 2147483645 by decide), _, _, rfl, rfl, ?_⟩
      refine ⟨_, rfl, _, _, rfl, rfl, cp 18 (by decide), _, _, rfl, rfl, _, rfl, ?_⟩
      exact ite2 (fun _ => ⟨_, rfl, by show 2 ≤ sizeLine; decide, fun p hp => q p _ _ hp⟩) (fun _ => ⟨_, rfl, _, rfl, by show 2 ≤ sizeLine; decide, fun p hp => q p _ _ hp⟩)
end
end Gl

set_option Elab.async false
set_option linter.all false
set_option maxRecDepth 100000
set_option maxHeartbeats 1000000
namespace Gl
open PySem L2 PyProof.Rows
/-! ### plain values drawn from the bag in the first slot -/
def tIn (b : Addr) (R : V → Prop) : TE := fun σ H Q => σ[0]? = some (some (.ref b)) ∧ Bag H b ∧ ∀ v H', R v → Keep b H H' → Q v H'
def tIns (b : Addr) (R : List V → Prop) : TA := fun σ H Q => σ[0]? = some (some (.ref b)) ∧ Bag H b ∧ ∀ vs H', R vs → Keep b H H' → Q vs H'
def upto (n : Int) (v : V) : Prop := ∃ r : Int, v = .int r ∧ 0 ≤ r ∧ r < n
section
variable {X : Cx} {b : Addr} {pos : Pos} {j : Nat}
theorem pn_int {i : Int} : PE X (.Constant (.int i) j pos) (tIn b (· = .int i)) := PE.imp pe_int fun _ H _ ⟨_, hb, q⟩ => q _ H rfl (Keep.refl hb)
theorem pn_str {x : Str} : PE X (.Constant (.str x) j pos) (tIn b (· = .str x)) := PE.imp pe_str fun _ H _ ⟨_, hb, q⟩ => q _ H rfl (Keep.refl hb)
theorem pns_nil : PA X [] (tIns b (· = [])) := PA.imp pa_nil fun _ H _ ⟨_, hb, q⟩ => q _ H rfl (Keep.refl hb)
theorem pns_cons {e : Expr} {es : List Expr} {R : V → Prop} {S : List V → Prop} (h : PE X e (tIn b R)) (r : PA X es (tIns b S)) (hs : starEach (e :: es) X.env = (false, eval e X.env) :: starEach es X.env := by rfl) : PA X (e :: es) (tIns b fun vs => ∃ v us, vs = v :: us ∧ R v ∧ S us) :=
  PA.imp (pa_cons h r hs) fun _ H _ ⟨h0, hb, q⟩ => ⟨h0, hb, fun v H1 hv k1 => ⟨h0, k1.bag, fun vs H2 hvs k2 => q _ H2 ⟨v, vs, rfl, hv, hvs⟩ (k1.trans k2)⟩⟩
theorem pn_imp {e : Expr} {R S : V → Prop} (h : PE X e (tIn b R)) (f : ∀ v, R v → S v) : PE X e (tIn b S) := PE.imp h fun _ _ _ ⟨h0, hb, q⟩ => ⟨h0, hb, fun v H' hv k => q v H' (f v hv) k⟩
theorem atI_nat {vs : List V} {r : Int} (h0 : 0 ≤ r) (h1 : r < vs.length) : ∃ v, atI vs r = some v ∧ v ∈ vs ∧ vs[r.toNat]? = some v := by
  have hl : r.toNat < vs.length := by omega
  refine ⟨vs[r.toNat], ?_, List.getElem_mem hl, List.getElem?_eq_getElem hl⟩
  unfold atI ixN
  rw [if_pos h0]
  have e : ((r.toNat : Nat) : Int) = r := by omega
  simp [hl, h1]
/-- [..][i] -/
theorem pn_pick {es : List Expr} {i : Expr} {S : List V → Prop} {R : V → Prop} {n : Nat} {p1 : Pos} (he : PA X es (tIns b S)) (hi : PE X i (tIn b (upto n))) (hs : PlainIx i) (hn : n ≤ 1000) (f : ∀ vs, S vs → vs.length = n ∧ ∀ v ∈ vs, R v) : PE X (.Subscript (.List es p1) i pos) (tIn b R) :=
  PE.imp (pe_ix ix_list (pe_lst he) hi hs) fun _ H _ ⟨h0, hb, q⟩ => ⟨h0, hb, fun vs H1 hvs k1 => by
    obtain ⟨hl, hv⟩ := f vs hvs
    refine ⟨Nat.le_of_lt (small1000 (by omega)), fun p hp => ⟨h0, (k1.bag.same (Same.upd hp)), fun v H2 hv2 k2 => ?_⟩⟩
    obtain ⟨r, rfl, r0, r1⟩ := hv2
    obtain ⟨u, hu, hm, _⟩ := atI_nat (vs := vs) r0 (by omega)
    have np : p ≠ b := k1.bag.ne hp
    exact ⟨p, vs, r, u, rfl, rfl, SqL.of (k2.get np upd_same), hu, q u H2 (hv u hm) ((k1.trans (Keep.new k1.bag hp)).trans k2)⟩⟩
end
section
variable {X : Cx} {b : Addr} {pos : Pos} {j : Nat} {fT : Addr} {dT' : FuncData}
/-- _law_take(bag, many) -/
theorem pn_take {e : Expr} {R : V → Prop} {n : Int} (h : PE X e (tCall spTake [] E0 (tCons (tVar 0) (tCons (tIn b R) tNil)))) (hf : ∀ v, R v → ∃ m : Int, v = .int m ∧ 1 ≤ m ∧ m ≤ n) (hn : n ≤ 10 ^ 9) : PE X e (tIn b (upto n)) :=
  PE.imp h fun _ H _ ⟨h0, hb, q⟩ => ⟨_, h0, h0, hb, fun v H1 hv1 k1 => by
    obtain ⟨m, rfl, m1, m2⟩ := hf v hv1
    exact ⟨b, m, rfl, k1.bag, m1, by omega, fun r x y r0 r1 => q _ _ ⟨r, rfl, r0, by omega⟩ (k1.trans Keep.set)⟩⟩
theorem one_of {m n : Int} (h1 : 1 ≤ m) (h2 : m ≤ n) : ∀ v, v = V.int m → ∃ k : Int, v = .int k ∧ 1 ≤ k ∧ k ≤ n := fun v e => ⟨m, e, h1, h2⟩
/-- int(e == 0) -/
theorem pn_is0 {e : Expr} {n : Int} (h : PE X e (tOp rEq (tIn b (upto n)) (tC (.int 0)))) : PE X e (tIn b fun v => ∃ k, v = .bl k) :=
  PE.imp h fun _ H _ ⟨h0, hb, q⟩ => ⟨h0, hb, fun v H1 ⟨r, e, _⟩ k1 => by
    subst e
    exact ⟨rfl, q _ _ ⟨_, rfl⟩ k1⟩⟩
theorem pn_int1 {e : Expr} {t : TA} (h : PE X e (fun σ H Q => t σ H fun xs H' => ((∃ i, xs = [V.int i] ∧ Q (.int i) H') ∨ ∃ k, xs = [V.bl k] ∧ Q (.int (if k then 1 else 0)) H'))) (ht : t = tCons (tIn b fun v => ∃ k, v = .bl k) tNil) : PE X e (tIn b (upto 2)) :=
  PE.imp h fun _ H _ ⟨h0, hb, q⟩ => by
    subst ht
    refine ⟨h0, hb, fun v H1 hv k1 => ?_⟩
    obtain ⟨k, rfl⟩ := hv
    refine .inr ⟨k, rfl, q _ _ ?_ k1⟩
    cases k
    · exact ⟨0, rfl, by decide, by decide⟩
    · exact ⟨1, rfl, by decide, by decide⟩
end
theorem sq_same {K : PySem.W.Frag} {H H' : Hp} {a : Addr} {xs : List V} (s : Same H H') (S : SqL K H a xs) : SqL K H' a xs := by
  rcases S with (h | ⟨ob, h⟩) | h
  · exact .inl (.inl (s _ _ h))
  · exact .inl (.inr ⟨ob, s _ _ h⟩)
  · exact .inr h
theorem sq_keep {K : PySem.W.Frag} {H H' : Hp} {a b : Addr} {xs : List V} {o : HO} (S : SqL K H a xs) (hb : H b = none) (k : Keep b (upd H b o) H') : SqL K H' a xs := by
  rcases S with (h | ⟨ob, h⟩) | h
  · have n : a ≠ b := ne_of_none h hb
    exact .inl (.inl (k.get n (by rw [upd_ne n]; exact h)))
  · have n : a ≠ b := ne_of_none h hb
    exact .inl (.inr ⟨ob, k.get n (by rw [upd_ne n]; exact h)⟩)
  · exact .inr h
end Gl

set_option Elab.async false
set_option linter.all false
set_option maxRecDepth 100000
set_option maxHeartbeats 1000000
namespace Gl
open PySem L2 PyProof.Rows
/-! ### trees -/
inductive Tree where
  | known (ns : List Int)
  | trial (k : Int) (bs : List (Str × Tree))
mutual
def treeD : Tree → PyData
  | .known ns => .tuple [.str "known", .tuple (ns.map .int)]
  | .trial k bs => .tuple [.str "try", .int k, .tuple (brsD bs)]
def brsD : List (Str × Tree) → List PyData
  | [] => []
  | (x, t) :: r => .tuple [.str x, treeD t] :: brsD r
end
def brD (b : Str × Tree) : PyData := .tuple [.str b.1, treeD b.2]
theorem brsD_map : ∀ bs : List (Str × Tree), brsD bs = bs.map brD
  | [] => by rw [brsD]; rfl
  | (x, t) :: r => by rw [brsD, brsD_map r]; rfl
def cap : Bool → Nat
  | true => 900
  | false => 1000
def strB (e : Bool) (x : Str) : Prop := x.length ≤ cap e ∧ PyData.canLay0 (.str x) = true
abbrev strO (x : Str) : Prop := strB true x
theorem strB.weak {x : Str} (h : strB true x) : strB false x := ⟨Nat.le_trans h.1 (by decide), h.2⟩
/-- of a depth below n; e: no trial without branches -/
inductive OkTree (e : Bool) : Nat → Tree → Prop
  | known {n : Nat} {ns : List Int} : ns.length ≤ cap e → OkTree e (n + 1) (.known ns)
  | trial {n : Nat} {k : Int} {bs : List (Str × Tree)} : bs.length ≤ 900 → (e = true → bs ≠ []) → (∀ b ∈ bs, strB e b.1) → (∀ b ∈ bs, OkTree e n b.2) → OkTree e (n + 1) (.trial k bs)
theorem OkTree.mono {e : Bool} {n : Nat} {t : Tree} (h : OkTree e n t) : ∀ {m : Nat}, n ≤ m → OkTree e m t := by
  induction h with
  | known h =>
    intro m hm
    obtain ⟨m, rfl⟩ : ∃ k, m = k + 1 := ⟨m - 1, by omega⟩
    exact .known h
  | trial h1 h2 h3 h4 ih =>
    intro m hm
    obtain ⟨m, rfl⟩ : ∃ k, m = k + 1 := ⟨m - 1, by omega⟩
    exact .trial h1 h2 h3 fun b hb => ih b hb (by omega)
theorem OkTree.weak {n : Nat} {t : Tree} (h : OkTree true n t) : OkTree false n t := by
  induction h with
  | known h => exact .known (Nat.le_trans h (by decide))
  | trial h1 h2 h3 h4 ih => exact .trial h1 (fun z => by cases z) (fun b hb => (h3 b hb).weak) ih
/-- where a row leads -/
def walkF (row : List Str) : Nat → Tree → Option (List Int)
  | 0, _ => none
  | _ + 1, .known ns => some ns
  | n + 1, .trial k bs => if 0 ≤ k ∧ k < row.length then
      match row[k.toNat]? with
      | some l => match bs.find? (fun b => decide (b.1 = l)) with
        | some b => walkF row n b.2
        | none => none
      | none => none
    else none
def resD : Option (List Int) → PyData
  | some ns => .tuple (ns.map .int)
  | none => .none
/-! ### doubts -/
def rowT (r : List Str) : PyData := .tuple (r.map .str)
def doubtD (rows : List (List Str)) : PyData := .tuple (rows.map rowT)
structure OkD (m : Nat) (rows : List (List Str)) : Prop where
  ne : rows ≠ []
  len : rows.length ≤ 8
  col : ∀ r ∈ rows, r.length = m
  m8 : m ≤ 8
  lk : ∀ r ∈ rows, ∀ x ∈ r, strO x
theorem strs_at' {H : Hp} : ∀ {xs : List V} {r : List Str}, DHs H xs (r.map .str) → xs = r.map V.str
  | _, [], h => by cases h; rfl
  | _, _ :: _, h => by
    cases h with
    | cons a r => cases a; rw [strs_at' r]; rfl
theorem ints_at' {H : Hp} : ∀ {xs : List V} {r : List Int}, DHs H xs (r.map .int) → xs = r.map V.int
  | _, [], h => by cases h; rfl
  | _, _ :: _, h => by
    cases h with
    | cons a r => cases a; rw [ints_at' r]; rfl
theorem strs_dh {H : Hp} : ∀ l : List Str, DHs H (l.map V.str) (l.map .str)
  | [] => .nil
  | _ :: l => .cons (.str _) (strs_dh l)
theorem ints_dh {H : Hp} : ∀ l : List Int, DHs H (l.map V.int) (l.map .int)
  | [] => .nil
  | _ :: l => .cons (.int _) (ints_dh l)
theorem row_at {H : Hp} {v : V} {r : List Str} (h : DH H v (rowT r)) : ∃ a, v = .ref a ∧ H a = some (.tup (r.map V.str)) := by
  unfold rowT at h
  cases h with
  | tup e q => rw [strs_at' q] at e; exact ⟨_, rfl, e⟩
theorem known_at {H : Hp} {v : V} {ns : List Int} (h : DH H v (treeD (.known ns))) : ∃ a b, v = .ref a ∧ H a = some (.tup [.str "known", .ref b]) ∧ H b = some (.tup (ns.map V.int)) := by
  rw [treeD] at h
  cases h with
  | tup e q =>
    cases q with
    | cons q1 q =>
      cases q1
      cases q with
      | cons q2 q =>
        cases q
        cases q2 with
        | tup e2 q2 =>
          rw [ints_at' q2] at e2
          exact ⟨_, _, rfl, e, e2⟩
theorem trial_at {H : Hp} {v : V} {k : Int} {bs : List (Str × Tree)} (h : DH H v (treeD (.trial k bs))) : ∃ a b us, v = .ref a ∧ H a = some (.tup [.str "try", .int k, .ref b]) ∧ H b = some (.tup us) ∧ DHs H us (bs.map brD) := by
  rw [treeD] at h
  cases h with
  | tup e q =>
    cases q with
    | cons q1 q =>
      cases q1
      cases q with
      | cons q2 q =>
        cases q2
        cases q with
        | cons q3 q =>
          cases q
          cases q3 with
          | tup e3 q3 =>
            rw [brsD_map] at q3
            exact ⟨_, _, _, rfl, e, e3, q3⟩
theorem br_at {H : Hp} {v : V} {b : Str × Tree} (h : DH H v (brD b)) : ∃ a w, v = .ref a ∧ H a = some (.tup [.str b.1, w]) ∧ DH H w (treeD b.2) := by
  unfold brD at h
  cases h with
  | tup e q =>
    cases q with
    | cons q1 q =>
      cases q1
      cases q with
      | cons q2 q =>
        cases q
        exact ⟨_, _, rfl, e, q2⟩
theorem find_step {α : Type} {l : List α} {i : Nat} {a : α} {p : α → Bool} (h : l[i]? = some a) (hn : (l.take i).find? p = none) : (p a = true → l.find? p = some a) ∧ (p a = false → (l.take (i + 1)).find? p = none) := by
  have hsp : l = l.take i ++ a :: l.drop (i + 1) := by
    obtain ⟨hi, e⟩ := List.getElem?_eq_some_iff.mp h
    rw [← e]
    simp
  refine ⟨fun hp => ?_, fun hp => ?_⟩
  · rw [hsp, List.find?_append, hn, List.find?_cons, hp]
    rfl
  · rw [take_succ h, List.find?_append, hn, List.find?_cons, hp]
    rfl
theorem str_dec (a b : Str) : decide (V.str a = V.str b) = decide (a = b) := decide_eq_decide.mpr ⟨fun z => by injection z, fun z => by rw [z]⟩
end Gl

set_option Elab.async false
set_option linter.all false
set_option maxRecDepth 100000
set_option maxHeartbeats 1000000
namespace Gl
open PySem L2 PyProof.Rows
abbrev sBranch : Stmt := top 7
abbrev sLeads : Stmt := top 8
section
variable {P : Program} {w : World} {K : PySem.W.Frag} {mg : Str → Option Value} {base : Heap}
def spBranch : Sp := fun vs H Q _ => ∃ (v : V) (bs : List (Str × Tree)) (l : Str), vs = [v, .str l] ∧ DH H v (.tuple (bs.map brD)) ∧
  (∀ b v', bs.find? (fun b => decide (b.1 = l)) = some b → DH H v' (treeD b.2) → Q v' H) ∧ (bs.find? (fun b => decide (b.1 = l)) = none → Q .non H)
abbrev NBr : List Str := ["branches", "look", "own", "tree"]
theorem scBranch : FnScope NBr ["branches", "look"] (defScope sBranch) := ⟨rfl, rfl, rfl, by decide +kernel, rfl, by decide +kernel, by decide +kernel⟩
theorem ok_branch {f : Addr} {fd : FuncData} (F : Fun K "branch_of" "branch_of" sBranch f fd) : FnOk P w K mg base CX0 1 f fd ["branches", "look"] spBranch := by
  refine F.ok scBranch (fun vs H Q E h => ?_) (fun cdv A outer s H vs Q E hr h => ?_)
  · obtain ⟨v, bs, l, rfl, _⟩ := h
    rfl
  · obtain ⟨v, bs, l, rfl, hd, ks, kn⟩ := h
    refine' ⟨_, pss_cons ?zf (pss_one (ps_ret pe_non)), ?zread⟩
    case zf =>
      exact ps_for PassesOwn.never rfl (pi_tup (pv 0)) (pg_tup (by rfl) (pgs_cons (pg_name (i := 2) scBranch.nd rfl (Or.inl rfl)) (pgs_cons (pg_name (i := 3) scBranch.nd rfl (Or.inl rfl)) pgs_nil)))
        (pss_one (ps_if (pt_cmpR op_eq (pv 2) (pv 1) (nomark _)) (pss_one (ps_ret (pv 3))) pss_nil))
    case zread =>
      obtain ⟨a, us, rfl, ha, hus⟩ : ∃ a us, v = .ref a ∧ H a = some (.tup us) ∧ DHs H us (bs.map brD) := by
        cases hd with
        | tup e q => exact ⟨_, _, rfl, e, q⟩
      have hl : us.length = bs.length := by rw [hus.length, List.length_map]
      refine ⟨_, rfl, a, rfl, ⟨_, SqT.of ha⟩, for_tup (xs := us) (fun i σ H2 => H2 = H ∧ (bs.take i).find? (fun b => decide (b.1 = l)) = none ∧ ∃ v2 v3, σ = [some (.ref a), some (.str l), v2, v3]) ⟨rfl, rfl, _, _, rfl⟩ (fun i σ H2 _ ⟨e, _⟩ => by rw [e]; exact SqT.of ha) ?_ ?_⟩
      · rintro i y σ H2 hy ⟨rfl, hn, v2, v3, rfl⟩
        obtain ⟨dd, hdi, hdd⟩ := hus.get hy
        rw [List.getElem?_map] at hdi
        obtain ⟨b, hbi, rfl⟩ := Option.map_eq_some_iff.mp hdi
        obtain ⟨t, vv, rfl, ht, hv⟩ := br_at hdd
        obtain ⟨f1, f2⟩ := find_step (p := fun b : Str × Tree => decide (b.1 = l)) hbi hn
        refine ⟨t, _, rfl, SqT.of ht, rfl, _, _, rfl, _, _, rfl, rfl, ?_⟩
        refine ⟨_, rfl, _, rfl, rfl, _, rfl, ?_⟩
        rw [str_dec]
        by_cases hc : b.1 = l
        · rw [decide_eq_true hc]
          exact iteT ⟨_, rfl, ks b vv (f1 (decide_eq_true hc)) hv⟩
        · rw [decide_eq_false hc]
          exact iteF ⟨rfl, f2 (decide_eq_false hc), _, _, rfl⟩
      · rintro σ H2 ⟨rfl, hn, v2, v3, rfl⟩
        rw [hl, List.take_length] at hn
        exact kn hn
/-! ### leads_to -/
def spLeads : Sp := fun vs H Q _ => ∃ (vt vr : V) (t : Tree) (n : Nat) (r : List Str), vs = [vt, vr] ∧ DH H vt (treeD t) ∧ OkTree false n t ∧ DH H vr (rowT r) ∧ r.length ≤ 900 ∧ ∀ v', DH H v' (resD (walkF r n t)) → Q v' H
abbrev NLd : List Str := ["tree", "row", "here", "number"]
theorem scLeads : FnScope NLd ["tree", "row"] (defScope sLeads) := ⟨rfl, rfl, rfl, by decide +kernel, rfl, by decide +kernel, by decide +kernel⟩
theorem ok_leads {f fB : Addr} {fd dB : FuncData} (F : Fun K "leads_to" "leads_to" sLeads f fd) (T : Nm mg) (GB : FnOk P w K mg base CX0 1 fB dB ["branches", "look"] spBranch) (bB : Binds K dB ["branches", "look"] []) (kB : PySem.W.keepIn K (.ref fB) = true) (mB : mg "branch_of" = some (.ref fB)) :
    FnOk P w K mg base CX0 2 f fd ["tree", "row"] spLeads := by
  refine F.ok scLeads (fun vs H Q E h => ?_) (fun cdv A outer s H vs Q E hr h => ?_)
  · obtain ⟨vt, vr, t, n, r, rfl, _⟩ := h
    rfl
  · obtain ⟨vt, vr, t, n, r, rfl, hd, ok, hrow, hr9, k⟩ := h
    refine' ⟨_, pss_cons ?z1 (pss_cons ?z2 (pss_one ?z3)), ?zread⟩
    case z1 => exact ps_set (i := 2) scLeads.nd rfl (Or.inl rfl) (pv 0)
    case z2 =>
      exact ps_while PassesOwn.never (PW.pt (pw_and (pt_cmp (pc_notN (pv 2))) (pw_and1 (pt_cmpR op_eq (pe_ix ix_tup (pv 2) pe_int (fun _ _ => rfl)) pe_str (nomark _)))))
        (pss_cons (ps_set (i := 3) scLeads.nd rfl (Or.inl rfl) (pe_ix ix_tup (pv 2) pe_int (fun _ _ => rfl)))
        (pss_one (ps_set (i := 2) scLeads.nd rfl (Or.inl rfl) (pe_ifExp (pt_chain op_le op_lt pe_int (pv 3) (pe_callB call_len_seq (by rfl) T.len PySem.boot_len (pa_cons (pv 1) pa_nil))) (pe_call GB hr (by rfl) mB kB bB .nil pass0 (pa_cons (pe_ix ix_tup (pv 2) pe_int (fun _ _ => rfl)) (pa_cons (pe_ix ix_tup (pv 1) (pv 3) (fun _ _ => rfl)) pa_nil))) pe_non))))
    case z3 => exact ps_ret (pe_ifExp (pt_cmp (pc_isN (pv 2))) pe_non (pe_ix ix_tup (pv 2) pe_int (fun _ _ => rfl)))
    case zread =>
      obtain ⟨ar, rfl, har⟩ := row_at hrow
      refine ⟨_, rfl, ?_⟩
      -- what is at hand: nothing, or a tree that leads to the same
      let Pv : Nat → L2.St → Hp → Prop := fun m σ H2 => H2 = H ∧ ∃ vh v3, σ = [some vt, some (.ref ar), some vh, v3] ∧ ((vh = .non ∧ walkF r n t = none) ∨ ∃ t', OkTree false m t' ∧ DH H vh (treeD t') ∧ walkF r m t' = walkF r n t)
      refine ⟨Pv, ⟨n, rfl, vt, _, rfl, .inr ⟨t, ok, hd, rfl⟩⟩, ?_⟩
      rintro m σ H2 ⟨rfl, vh, v3, rfl, hcase⟩
      rcases hcase with ⟨rfl, hn⟩ | ⟨t', ok', hd', hw⟩
      · refine ⟨_, rfl, _, rfl, iteF (iteF ?_)⟩
        refine ⟨_, rfl, _, rfl, iteT (k _ ?_)⟩
        rw [hn]
        exact .non
      · cases ok' with
        | known h9 =>
          rename_i m' ns
          obtain ⟨a, b, rfl, ha, hb⟩ := known_at hd'
          refine ⟨_, rfl, _, rfl, iteT ⟨_, rfl, a, _, 0, .str "known", rfl, rfl, SqT.of ha, rfl, rfl, _, rfl, iteF ?_⟩⟩
          refine ⟨_, rfl, _, rfl, iteF ⟨_, rfl, a, _, 1, .ref b, rfl, rfl, SqT.of ha, rfl, k _ ?_⟩⟩
          rw [← hw]
          exact .tup hb (ints_dh ns)
        | trial h9 hne hst hbs =>
          rename_i m' kk bs
          obtain ⟨a, b, us, rfl, ha, hb, hus⟩ := trial_at hd'
          refine ⟨_, rfl, _, rfl, iteT ⟨_, rfl, a, _, 0, .str "try", rfl, rfl, SqT.of ha, rfl, rfl, _, rfl, iteT ?_⟩⟩
          refine ⟨fun σ' H' => Pv m' σ' H', fun σ' H' p' => ⟨m', Nat.lt_succ_self _, p'⟩, ?_⟩
          refine ⟨_, rfl, a, _, 1, .int kk, rfl, rfl, SqT.of ha, rfl, ?_⟩
          have noP : walkF r n t = none → Pv m' [some vt, some (.ref ar), some .non, some (.int kk)] H2 := fun h => ⟨rfl, _, _, rfl, .inl ⟨rfl, h⟩⟩
          refine ⟨_, rfl, _, _, rfl, rfl, _, rfl, ?_⟩
          by_cases h0 : 0 ≤ kk
          · rw [decide_eq_true h0]
            refine iteT ⟨_, rfl, ar, _, rfl, .inr (SqT.of har), _, _, rfl, rfl, _, rfl, ?_⟩
            rw [List.length_map]
            by_cases h1 : kk < (r.length : Nat)
            · rw [decide_eq_true h1]
              have hk : kk.toNat < r.length := by omega
              have el : r[kk.toNat]? = some r[kk.toNat] := by simp [hk]
              generalize r[kk.toNat] = l at el
              have eat : atI (r.map V.str) kk = some (.str l) := by
                have z := L2.atI_nat (show (r.map V.str)[kk.toNat]? = some (.str l) by rw [List.getElem?_map, el]; rfl)
                have e : ((kk.toNat : Nat) : Int) = kk := by omega
                rw [e] at z
                exact z
              have hwalk : walkF r (m' + 1) (.trial kk bs) = match bs.find? (fun b => decide (b.1 = l)) with | some b => walkF r m' b.2 | none => none := by
                rw [walkF, if_pos ⟨h0, h1⟩, el]
                rfl
              refine iteT ⟨_, rfl, a, _, 2, .ref b, rfl, rfl, SqT.of ha, rfl, _, rfl, _, rfl, ar, _, kk, .str l, rfl, rfl, SqT.of har, eat, .ref b, bs, l, rfl, .tup hb hus, fun br v' hf hv' => ?_, fun hf => ?_⟩
              · refine ⟨rfl, _, _, rfl, .inr ⟨br.2, hbs br (List.mem_of_find?_eq_some hf), hv', ?_⟩⟩
                rw [← hw, hwalk, hf]
              · refine noP ?_
                rw [← hw, hwalk, hf]
            · rw [decide_eq_false h1]
              refine iteF (noP ?_)
              rw [← hw, walkF, if_neg (fun z => h1 z.2)]
          · rw [decide_eq_false h0]
            refine iteF ⟨_, rfl, iteF (noP ?_)⟩
            rw [← hw, walkF, if_neg (fun z => h0 z.1)]
end
end Gl

set_option Elab.async false
set_option linter.all false
set_option maxRecDepth 100000
set_option maxHeartbeats 1000000
namespace L2
open PySem PySem.Spec PyProof.Rows
theorem lc_enumT {K : PySem.W.Frag} {a : Addr} {xs : List V} {g : TG} {tt : TT} {te : TE} {vs : List Nat} {σ : St} {H1 : Hp} {D : Addr} {Qd : Hp → Prop} (Pv : Nat → Hp → Prop) (h0 : Pv 0 (upd H1 D (.lst []))) (hl : ∀ i H, i ≤ xs.length → Pv i H → SqT K H a xs)
    (hs : ∀ i x H T, xs[i]? = some x → Pv i H → H T = none → g (.ref T) (wipe σ vs) (upd H T (.tup [.int (i : Nat), x])) fun σ2 H2 => wipe σ2 vs = wipe σ vs ∧ tt σ2 H2 fun b H3 =>
      if b = true then te σ2 H3 fun y H4 => ∃ acc, H4 D = some (.lst acc) ∧ acc.length < sizeLine ∧ Pv (i + 1) (upd H4 D (.lst (acc ++ [y]))) else Pv (i + 1) H3) (hd : ∀ H, Pv xs.length H → Qd H) :
    ∃ W : Nat → Nat → Hp → Prop, (∃ m, W 0 m (upd H1 D (.lst []))) ∧ ∀ i m H, W i m H →
      ((IteT K a).stop i H ∧ Qd H) ∨ ((IteT K a).go i H ∧ ∃ Nx : Hp → Prop, (∀ H', Nx H' → ∃ m', m' < m ∧ W (i + 1) m' H') ∧ ∀ x H', (IteT K a).yld i H x H' → g x (wipe σ vs) H' fun σ2 H2 => wipe σ2 vs = wipe σ vs ∧ tt σ2 H2 fun b H3 =>
        if b = true then te σ2 H3 fun y H4 => ∃ acc, H4 D = some (.lst acc) ∧ acc.length < sizeLine ∧ Nx (upd H4 D (.lst (acc ++ [y]))) else Nx H3) := by
  refine ⟨fun i m H => m = xs.length - i ∧ i ≤ xs.length ∧ Pv i H, ⟨xs.length, by simp, Nat.zero_le _, h0⟩, ?_⟩
  rintro i m H ⟨rfl, hi, p⟩
  have q := hl i H hi p
  by_cases hlt : i < xs.length
  · refine .inr ⟨⟨xs, xs[i], q, by simp [hlt]⟩, Pv (i + 1), fun H' p' => ⟨xs.length - (i + 1), by omega, rfl, hlt, p'⟩, fun x H' y => ?_⟩
    obtain ⟨T, x', rfl, hT, rfl, y⟩ := y
    exact hs i x' _ T (y xs q) p hT
  · have e : i = xs.length := by omega
    subst e
    exact .inl ⟨⟨xs, q, rfl⟩, hd H p⟩
theorem op_eqDK {X : Cx} {K : PySem.W.Frag} (hu : X.A.units + 64 < cLine) (hK : X.K = K := by rfl) : OpR X (compareOp .Eq) (rEqD K) := by
  subst hK
  exact op_eqD hu
end L2
namespace Gl
open PySem L2 PyProof.Rows
abbrev sSettles : Stmt := top 9
/-! ### rows as data -/
theorem eqv_strs : ∀ a b : List Str, PyData.eqvAll (a.map .str) (b.map .str) = decide (a = b)
  | [], [] => rfl
  | [], _ :: _ => rfl
  | _ :: _, [] => rfl
  | x :: a, y :: b => by
    rw [List.map_cons, List.map_cons, PyData.eqvAll, eqv_strs a b, PyData.eqv]
    by_cases h1 : x = y
    · by_cases h2 : a = b
      · simp [h1, h2]
      · simp [h1, h2]
    · simp [h1]
theorem eqv_row (a b : List Str) : PyData.eqv (rowT a) (rowT b) = decide (a = b) := by
  unfold rowT
  rw [PyData.eqv]
  exact eqv_strs a b
theorem eqv_ints : ∀ a b : List Int, PyData.eqvAll (a.map .int) (b.map .int) = decide (a = b)
  | [], [] => rfl
  | [], _ :: _ => rfl
  | _ :: _, [] => rfl
  | x :: a, y :: b => by
    rw [List.map_cons, List.map_cons, PyData.eqvAll, eqv_ints a b, PyData.eqv]
    by_cases h1 : x = y
    · by_cases h2 : a = b
      · simp [h1, h2]
      · simp [h1, h2]
    · simp [h1]
theorem eqv_res (w : Option (List Int)) (ns : List Int) : PyData.eqv (resD w) (.tuple (ns.map .int)) = decide (w = some ns) := by
  cases w with
  | none => rfl
  | some ms =>
    unfold resD
    rw [PyData.eqv, eqv_ints]
    exact decide_eq_decide.mpr ⟨fun z => by rw [z], fun z => by injection z⟩
theorem shaped_tup {α : Type} {f : α → PyData} {l : List α} (h : ∀ a ∈ l, PyData.canLay0 (f a) = true ∧ PyData.depth (f a) ≤ 40) : SeqAt.shaped (.tuple (l.map f)) = true := by
  unfold SeqAt.shaped
  rw [Bool.and_eq_true, decide_eq_true_eq]
  constructor
  · rw [PyData.canLay0]
    exact lay_all fun a ha => (h a ha).1
  · rw [PyData.depth]
    have := depth_all (f := f) (n := 40) (l := l) fun a ha => (h a ha).2
    omega
theorem shaped_row {r : List Str} (h : ∀ x ∈ r, strO x) : SeqAt.shaped (rowT r) = true := shaped_tup fun x hx => ⟨(h x hx).2, by simp [PyData.depth]⟩
theorem shaped_ints (ns : List Int) : SeqAt.shaped (.tuple (ns.map .int)) = true := shaped_tup fun x hx => ⟨rfl, by simp [PyData.depth]⟩
theorem shaped_res (w : Option (List Int)) : SeqAt.shaped (resD w) = true := by
  cases w with
  | none => decide +kernel
  | some ns => exact shaped_ints ns
/-- the places of the rows that are like this one -/
def sameN (rows : List (List Str)) (r : List Str) (n : Nat) : List Nat := (List.range n).filter fun i => decide (rows[i]? = some r)
def sameL (rows : List (List Str)) (r : List Str) : List Int := (sameN rows r rows.length).map fun n : Nat => (n : Int)
theorem sameN_succ {rows : List (List Str)} {r q : List Str} {i : Nat} (h : rows[i]? = some q) : sameN rows r (i + 1) = sameN rows r i ++ if q = r then [i] else [] := by
  unfold sameN
  rw [List.range_succ, List.filter_append, List.filter_cons, List.filter_nil, h]
  congr 1
  by_cases e : q = r
  · simp [e]
  · simp [e]
theorem sameN_len (rows : List (List Str)) (r : List Str) (n : Nat) : (sameN rows r n).length ≤ n := by
  unfold sameN
  have := List.length_filter_le (fun i => decide (rows[i]? = some r)) (List.range n)
  rw [List.length_range] at this
  exact this
def nV (n : Nat) : V := .int (n : Nat)
theorem sameL_map (rows : List (List Str)) (r : List Str) : (sameN rows r rows.length).map nV = (sameL rows r).map V.int := by
  unfold sameL
  rw [List.map_map]
  rfl
def setB (rows : List (List Str)) (n : Nat) (t : Tree) : Bool := rows.all fun r => decide (walkF r n t = some (sameL rows r))
theorem doubt_at {H : Hp} {v : V} {rows : List (List Str)} (h : DH H v (doubtD rows)) : ∃ a us, v = .ref a ∧ H a = some (.tup us) ∧ DHs H us (rows.map rowT) ∧ us.length = rows.length := by
  unfold doubtD at h
  cases h with
  | tup e q => exact ⟨_, _, rfl, e, q, by rw [q.length, List.length_map]⟩
section
variable {P : Program} {w : World} {K : PySem.W.Frag} {mg : Str → Option Value} {base : Heap}
def spSettles : Sp := fun vs H Q _ => ∃ (vd vt : V) (rows : List (List Str)) (m n : Nat) (t : Tree), vs = [vd, vt] ∧ DH H vd (doubtD rows) ∧ OkD m rows ∧ DH H vt (treeD t) ∧ OkTree false n t ∧ n ≤ 12 ∧ ∀ H', Same H H' → Q (.bl (setB rows n t)) H'
abbrev NSe : List Str := ["doubts", "tree", "row", "same", "at", "other"]
theorem scSettles : FnScope NSe ["doubts", "tree"] (defScope sSettles) := ⟨rfl, rfl, rfl, by decide +kernel, rfl, by decide +kernel, by decide +kernel⟩
theorem ok_settles {f fL : Addr} {fd dL : FuncData} (F : Fun K "settles" "settles" sSettles f fd) (T : Nm mg) (GL : FnOk P w K mg base CX0 2 fL dL ["tree", "row"] spLeads) (bL : Binds K dL ["tree", "row"] []) (kL : PySem.W.keepIn K (.ref fL) = true) (mL : mg "leads_to" = some (.ref fL)) :
    FnOk P w K mg base CX0 3 f fd ["doubts", "tree"] spSettles := by
  refine F.ok scSettles (fun vs H Q E h => ?_) (fun cdv A outer s H vs Q E hr h => ?_)
  · obtain ⟨vd, vt, rows, m, n, t, rfl, _⟩ := h
    rfl
  · obtain ⟨vd, vt, rows, m, n, t, rfl, hd, okd, ht, ok, hn, k⟩ := h
    refine' ⟨_, pss_cons ?zf (pss_one (ps_ret pe_bl)), ?zread⟩
    case zf =>
      refine' ps_for PassesOwn.never rfl (pi_tup (pv 0)) (pg_name (i := 2) scSettles.nd rfl (by first | exact Or.inl rfl | exact Or.inr rfl)) (pss_cons (ps_set (i := 3) scSettles.nd rfl (by first | exact Or.inl rfl | exact Or.inr rfl) (pe_callTy call_tuple_of (by rfl) T.tuple (by decide +kernel) (pa_cons ?zl pa_nil))) (pss_one (ps_if (pt_cmpR (op_neD hr.units) (pe_call GL hr (by rfl) mL kL bL .nil pass0 (pa_cons (pv 1) (pa_cons (pv 2) pa_nil))) (pv 3) (nomark _)) (pss_one (ps_ret pe_bl)) pss_nil)))
      case zl =>
        exact pe_lc (own := [("at", 4), ("other", 5)]) (g := gTup K 2 (gCons (gName 4) (gCons (gName 5) gNil))) (by rfl) scSettles.nd (pi_enumT (by rfl) T.enum (pa_cons (pv 0) pa_nil)) (blkOk_by (own := [("at", 4), ("other", 5)]) (N := NSe) (sc := defScope sSettles) (by decide +kernel))
          (fun _ _ _ _ _ => pg_tup (by rfl) (pgs_cons (pg_name (i := 4) scSettles.nd rfl (Or.inl rfl)) (pgs_cons (pg_name (i := 5) scSettles.nd rfl (Or.inl rfl)) pgs_nil))) (fun _ _ _ _ _ => pts_one (pt_cmpR (op_eqDK (K := K) (by exact hr.units)) (pv 5) (pv 2) (nomark _))) (fun _ _ _ _ _ => pv 4)
    case zread =>
      obtain ⟨a, us, rfl, ha, hus, hul⟩ := doubt_at hd
      have h8 := okd.len
      refine ⟨_, rfl, a, rfl, ⟨_, SqT.of ha⟩, for_tup (xs := us) (fun i σ H2 => Same H H2 ∧ (∀ r ∈ rows.take i, walkF r n t = some (sameL rows r)) ∧ ∃ v2 v3 v4 v5, σ = [some (.ref a), some vt, v2, v3, v4, v5]) ⟨Same.refl _, (fun r hr' => by cases hr'), _, _, _, _, rfl⟩ (fun i σ H2 _ ⟨s2, _⟩ => SqT.of (s2 _ _ ha)) ?_ ?_⟩
      · rintro i y σ H2 hy ⟨s2, hall, v2, v3, v4, v5, rfl⟩
        obtain ⟨dd, hdi, hdd⟩ := hus.get hy
        rw [List.getElem?_map] at hdi
        obtain ⟨r, hri, rfl⟩ := Option.map_eq_some_iff.mp hdi
        have hrm := List.mem_of_getElem? hri
        refine ⟨_, rfl, a, us, rfl, SqT.of (s2 _ _ ha), fun D hD => lc_enumT (xs := us) (fun j H3 => Same H2 H3 ∧ H3 D = some (.lst ((sameN rows r j).map nV))) ⟨Same.upd hD, upd_same⟩ (fun j H3 _ ⟨s3, _⟩ => SqT.of (s3 _ _ (s2 _ _ ha))) ?_ ?_⟩
        · rintro j z H3 T' hz ⟨s3, e3⟩ hT'
          obtain ⟨d2, hd2i, hd2⟩ := hus.get hz
          rw [List.getElem?_map] at hd2i
          obtain ⟨q, hqi, rfl⟩ := Option.map_eq_some_iff.mp hd2i
          have hj : j < us.length := (List.getElem?_eq_some_iff.mp hz).1
          have s4 : Same H3 (upd H3 T' (.tup [.int (j : Nat), z])) := Same.upd hT'
          have e4 : upd H3 T' (.tup [.int (j : Nat), z]) T' = some (.tup [.int (j : Nat), z]) := upd_same
          generalize upd H3 T' (.tup [.int (j : Nat), z]) = H4 at s4 e4 ⊢
          have s24 := s3.trans s4
          refine ⟨T', _, rfl, SqT.of e4, rfl, _, _, rfl, _, _, rfl, rfl, rfl, ?_⟩
          refine ⟨_, rfl, _, rfl, _, _, DH.dp (hd2.same (s2.trans s24)), DH.dp (hdd.same (s2.trans s24)), shaped_row (okd.lk q (List.mem_of_getElem? hqi)), shaped_row (okd.lk r hrm), _, rfl, ?_⟩
          rw [eqv_row, sameN_succ hqi]
          have sl := sameN_len rows r j
          by_cases hc : q = r
          · rw [decide_eq_true hc, if_pos hc]
            refine iteT ⟨_, rfl, _, s4 _ _ e3, small1000 (by rw [List.length_map]; omega), fun b o eb => by rw [upd_ne (ne_of_none eb hD)]; exact s24 _ _ eb, ?_⟩
            rw [upd_same, List.map_append]
            rfl
          · rw [decide_eq_false hc, if_neg hc, List.append_nil]
            exact iteF ⟨s24, s4 _ _ e3⟩
        rintro H3 ⟨s3, e3⟩
        rw [hul, sameL_map] at e3
        refine ⟨D, _, rfl, .inl ⟨SqL.of e3, fun l hl => ?_⟩⟩
        have s4 : Same H3 (upd H3 l (.tup ((sameL rows r).map V.int))) := Same.upd hl
        have e4 : upd H3 l (.tup ((sameL rows r).map V.int)) l = some (.tup ((sameL rows r).map V.int)) := upd_same
        generalize upd H3 l (.tup ((sameL rows r).map V.int)) = H4 at s4 e4 ⊢
        have s04 := s2.trans (s3.trans s4)
        refine ⟨_, rfl, _, rfl, vt, y, t, n, r, rfl, ht.same s04, ok, hdd.same s04, by rw [okd.col r hrm]; have := okd.m8; omega, fun v' hv' => ?_⟩
        have dl : DH H4 (.ref l) (.tuple ((sameL rows r).map .int)) := .tup e4 (ints_dh _)
        refine ⟨_, rfl, _, _, DH.dp hv', DH.dp dl, shaped_res _, shaped_ints _, _, rfl, ?_⟩
        rw [eqv_res]
        by_cases hc : walkF r n t = some (sameL rows r)
        · rw [decide_eq_true hc]
          refine iteF ⟨s04, fun q hq => ?_, _, _, _, _, rfl⟩
          rw [take_succ hri] at hq
          rcases List.mem_append.mp hq with z | z
          · exact hall q z
          · rw [List.mem_singleton.mp z]
            exact hc
        · rw [decide_eq_false hc]
          refine iteT (cast ?_ (k H4 s04))
          have : setB rows n t = false := by
            unfold setB
            rw [List.all_eq_false]
            exact ⟨r, hrm, by simp [hc]⟩
          rw [this]
          rfl
      · rintro σ H2 ⟨s2, hall, v2, v3, v4, v5, rfl⟩
        rw [hul, List.take_length] at hall
        refine cast ?_ (k H2 s2)
        have : setB rows n t = true := by
          unfold setB
          rw [List.all_eq_true]
          exact fun r hr' => decide_eq_true (hall r hr')
        rw [this]
        rfl
end
end Gl

set_option Elab.async false
set_option linter.all false
set_option maxRecDepth 100000
set_option maxHeartbeats 1000000
namespace Gl
open PySem L2 PyProof.Rows
abbrev sLEnd : Stmt := top 14
abbrev sLSettles : Stmt := top 15
theorem ix_tupK {X : Cx} {K : PySem.W.Frag} (hK : X.K = K := by rfl) : IxR X (rIxT K) := by
  subst hK
  exact ix_tup
theorem noLs_all : ∀ {ds : List PyData}, (∀ d ∈ ds, noL d = true) → noLs ds = true
  | [], _ => rfl
  | d :: ds, h => by
    rw [noLs, h d List.mem_cons_self, noLs_all fun e he => h e (List.mem_cons_of_mem _ he)]
    rfl
theorem tree_noL {e : Bool} {n : Nat} {t : Tree} (h : OkTree e n t) : noL (treeD t) = true := by
  induction h with
  | known h =>
    rw [treeD, noL]
    refine noLs_all fun d hd => ?_
    simp only [List.mem_cons, List.not_mem_nil, or_false] at hd
    rcases hd with rfl | rfl
    · rfl
    · rw [noL]
      exact noLs_map (fun _ => rfl) _
  | trial h1 h2 h3 h4 ih =>
    rw [treeD, noL]
    refine noLs_all fun d hd => ?_
    simp only [List.mem_cons, List.not_mem_nil, or_false] at hd
    rcases hd with rfl | rfl | rfl
    · rfl
    · rfl
    · rw [noL, brsD_map]
      refine noLs_all fun d hd => ?_
      obtain ⟨b, hb, rfl⟩ := List.mem_map.mp hd
      unfold brD
      rw [noL]
      refine noLs_all fun d hd => ?_
      simp only [List.mem_cons, List.not_mem_nil, or_false] at hd
      rcases hd with rfl | rfl
      · rfl
      · exact ih b hb
theorem tree_shape {e : Bool} {n : Nat} {t : Tree} (h : OkTree e n t) : PyData.canLay0 (treeD t) = true ∧ PyData.depth (treeD t) ≤ 3 * n := by
  induction h with
  | known h =>
    rename_i n ns
    rw [treeD]
    have h1 : PyData.canLayAll0 (ns.map .int) = true := lay_all fun _ _ => rfl
    have h2 : PyData.depthAll (ns.map PyData.int) ≤ 0 := depth_all fun _ _ => by simp [PyData.depth]
    have h3 : PyData.canLay0 (.str ("known" : Str)) = true := by decide +kernel
    refine ⟨?_, ?_⟩
    · rw [PyData.canLay0, PyData.canLayAll0, h3, PyData.canLayAll0, PyData.canLay0, h1]
      rfl
    · simp only [PyData.depth, PyData.depthAll]
      omega
  | trial h1 h2 h3 h4 ih =>
    rename_i n k bs
    rw [treeD, brsD_map]
    have e1 : PyData.canLayAll0 (bs.map brD) = true := lay_all fun b hb => by
      have z := (h3 b hb).2
      unfold brD
      rw [PyData.canLay0, PyData.canLayAll0, z, PyData.canLayAll0, (ih b hb).1]
      rfl
    have e2 : PyData.depthAll (bs.map brD) ≤ 3 * n + 1 := depth_all fun b hb => by
      have z := (ih b hb).2
      unfold brD
      simp only [PyData.depth, PyData.depthAll]
      omega
    have e3 : PyData.canLay0 (.str ("try" : Str)) = true := by decide +kernel
    refine ⟨?_, ?_⟩
    · rw [PyData.canLay0, PyData.canLayAll0, e3, PyData.canLayAll0, PyData.canLayAll0, PyData.canLay0, PyData.canLay0, e1]
      rfl
    · simp only [PyData.depth, PyData.depthAll]
      omega
theorem shaped_lst {α : Type} {f : α → PyData} {l : List α} (h : ∀ a ∈ l, PyData.canLay0 (f a) = true ∧ PyData.depth (f a) ≤ 40) : SeqAt.shaped (.list (l.map f)) = true := by
  unfold SeqAt.shaped
  rw [Bool.and_eq_true, decide_eq_true_eq]
  constructor
  · rw [PyData.canLay0]
    exact lay_all fun a ha => (h a ha).1
  · rw [PyData.depth]
    have := depth_all (f := f) (n := 40) (l := l) fun a ha => (h a ha).2
    omega
theorem filt_take {α : Type} {l : List α} {i : Nat} {a : α} {p : α → Bool} (h : l[i]? = some a) : (l.take (i + 1)).filter p = (l.take i).filter p ++ if p a = true then [a] else [] := by
  rw [take_succ h, List.filter_append]
  cases e : p a <;> simp [e]
theorem hid_updD {D : Addr} {H : Hp} {o : HO} : hid D (upd H D o) = hid D H := by
  funext a
  unfold hid
  by_cases h : a = D
  · rw [if_pos h, if_pos h]
  · rw [if_neg h, if_neg h, upd_ne h]
section
variable {P : Program} {w : World} {K : PySem.W.Frag} {mg : Str → Option Value} {base : Heap}
def spLEnd : Sp := fun vs H Q _ => ∃ (vr vt : V) (t : Tree) (n : Nat) (r : List Str), vs = [vr, vt] ∧ DH H vt (treeD t) ∧ OkTree false n t ∧ n ≤ 12 ∧ DH H vr (rowT r) ∧ r.length ≤ 900 ∧ ∀ v' H', Same H H' → DH H' v' (resD (walkF r n t)) → Q v' H'
abbrev NLe : List Str := ["row", "tree", "some", "branch"]
theorem scLEnd : FnScope NLe ["row", "tree"] (defScope sLEnd) := ⟨rfl, rfl, rfl, by decide +kernel, rfl, by decide +kernel, by decide +kernel⟩
theorem ok_lend {f : Addr} {fd : FuncData} (F : Fun K "_law_end" "_law_end" sLEnd f fd) (T : Nm mg) : FnOk P w K mg base CX0 1 f fd ["row", "tree"] spLEnd := by
  refine F.ok scLEnd (fun vs H Q E h => ?_) (fun cdv A outer s H vs Q E hr h => ?_)
  · obtain ⟨vr, vt, t, n, r, rfl, _⟩ := h
    rfl
  · obtain ⟨vr, vt, t, n, r, rfl, hd, ok, hn, hrow, hr9, k⟩ := h
    refine' ⟨_, pss_cons ?z2 (pss_one ?z3), ?zread⟩
    case z2 =>
      refine' ps_while PassesOwn.never (pt_cmpR op_eq (pe_ix ix_tup (pv 1) pe_int (fun _ _ => rfl)) pe_str (nomark _)) (pss_cons ?y1 (pss_cons ?y2 (pss_cons ?y3 (pss_one ?y4))))
      case y1 => exact ps_if (PW.pt (pw_or (pt_cmpR op_lt (pe_ix ix_tup (pv 1) pe_int (fun _ _ => rfl)) pe_int (nomark _)) (pw_or1 (pt_cmpR op_ge (pe_ix ix_tup (pv 1) pe_int (fun _ _ => rfl)) (pe_callB call_len_seq (by rfl) T.len PySem.boot_len (pa_cons (pv 0) pa_nil)) (nomark _))))) (pss_one (ps_ret pe_non)) pss_nil
      case y2 =>
        exact ps_setLc (i := 2) (own := [("branch", 3)]) (g := gName 3) rfl scLEnd.nd rfl rfl rfl (pi_tup (pe_ix ix_tup (pv 1) pe_int (fun _ _ => rfl))) (blkOk_by (own := [("branch", 3)]) (N := NLe) (sc := defScope sLEnd) (by decide +kernel)) (fun _ _ _ _ _ => pg_name (i := 3) scLEnd.nd rfl (Or.inl rfl))
          (fun _ _ _ _ _ => pts_one (pt_cmpR op_eq (pe_ix (ix_tupK (K := K)) (pv 3) pe_int (fun _ _ => rfl)) (pe_ix (ix_tupK (K := K)) (pv 0) (pe_ix (ix_tupK (K := K)) (pv 1) pe_int (fun _ _ => rfl)) (fun _ _ => rfl)) (nomark _))) (fun _ _ _ _ _ => pe_ix (ix_tupK (K := K)) (pv 3) pe_int (fun _ _ => rfl))
      case y3 => exact ps_if (pt_cmpR (op_eqD hr.units) (pv 2) (pe_lst pa_nil) (nomark _)) (pss_one (ps_ret pe_non)) pss_nil
      case y4 => exact ps_set (i := 1) scLEnd.nd rfl (by first | exact Or.inl rfl | exact Or.inr rfl) (pe_ix ix_list (pv 2) pe_int (fun _ _ => rfl))
    case z3 => exact ps_ret (pe_ix ix_tup (pv 1) pe_int (fun _ _ => rfl))
    case zread =>
      obtain ⟨ar, rfl, har⟩ := row_at hrow
      let Pv : Nat → L2.St → Hp → Prop := fun m σ H2 => Same H H2 ∧ m ≤ n ∧ ∃ vh v2 v3 t', σ = [some (.ref ar), some vh, v2, v3] ∧ OkTree false m t' ∧ DH H2 vh (treeD t') ∧ walkF r m t' = walkF r n t
      refine ⟨Pv, ⟨n, Same.refl _, Nat.le_refl _, vt, _, _, t, rfl, ok, hd, rfl⟩, ?_⟩
      rintro m σ H2 ⟨s2, hmn, vh, v2, v3, t', rfl, ok', hd', hw⟩
      have har2 := s2 _ _ har
      cases ok' with
      | known h9 =>
        rename_i m' ns
        obtain ⟨a, b, rfl, ha, hb⟩ := known_at hd'
        refine ⟨_, rfl, a, _, 0, .str "known", rfl, rfl, SqT.of ha, rfl, rfl, _, rfl, iteF ?_⟩
        refine ⟨_, rfl, a, _, 1, .ref b, rfl, rfl, SqT.of ha, rfl, k _ _ s2 ?_⟩
        rw [← hw]
        exact .tup hb (ints_dh ns)
      | trial h9 hne hst hbs =>
        rename_i m' kk bs
        obtain ⟨a, b, us, rfl, ha, hb, hus⟩ := trial_at hd'
        have hul : us.length = bs.length := by rw [hus.length, List.length_map]
        refine ⟨_, rfl, a, _, 0, .str "try", rfl, rfl, SqT.of ha, rfl, rfl, _, rfl, iteT ?_⟩
        refine ⟨fun σ' H' => Pv m' σ' H', fun σ' H' p' => ⟨m', Nat.lt_succ_self _, p'⟩, ?_⟩
        refine ⟨_, rfl, a, _, 1, .int kk, rfl, rfl, SqT.of ha, rfl, _, _, rfl, rfl, _, rfl, ?_⟩
        by_cases h0 : kk < 0
        · rw [decide_eq_true h0]
          refine iteT (iteT (k _ _ s2 ?_))
          rw [← hw, walkF, if_neg (fun z => by omega)]
          exact .non
        rw [decide_eq_false h0]
        refine iteF ⟨_, rfl, a, _, 1, .int kk, rfl, rfl, SqT.of ha, rfl, _, rfl, ar, _, rfl, .inr (SqT.of har2), _, _, rfl, rfl, _, rfl, ?_⟩
        rw [List.length_map]
        by_cases h1 : (r.length : Int) ≤ kk
        · rw [decide_eq_true h1]
          refine iteT (k _ _ s2 ?_)
          rw [← hw, walkF, if_neg (fun z => by omega)]
          exact .non
        rw [decide_eq_false h1]
        have hk : kk.toNat < r.length := by omega
        have el : r[kk.toNat]? = some r[kk.toNat] := by simp [hk]
        generalize r[kk.toNat] = l at el
        have eat : atI (r.map V.str) kk = some (.str l) := by
          have z := L2.atI_nat (show (r.map V.str)[kk.toNat]? = some (.str l) by rw [List.getElem?_map, el]; rfl)
          have e : ((kk.toNat : Nat) : Int) = kk := by omega
          rw [e] at z
          exact z
        have hwalk : walkF r (m' + 1) (.trial kk bs) = match bs.find? (fun b => decide (b.1 = l)) with | some b => walkF r m' b.2 | none => none := by
          rw [walkF, if_pos ⟨by omega, by omega⟩, el]
          rfl
        refine iteF ?_
        refine ⟨_, rfl, a, _, 2, .ref b, rfl, rfl, SqT.of ha, rfl, b, rfl, ⟨_, SqT.of hb⟩, fun D hD => lc_tup (xs := us) (fun j H3 => Same H2 H3 ∧ ∃ ws, H3 D = some (.lst ws) ∧ ws.length ≤ j ∧ DHs (hid D H3) ws (((bs.take j).filter fun b => decide (b.1 = l)).map fun b => treeD b.2)) ⟨Same.upd hD, [], upd_same, Nat.le_refl _, .nil⟩ (fun j H3 _ ⟨s3, _⟩ => SqT.of (s3 _ _ hb)) ?_ ?_⟩
        · rintro j y H3 hy ⟨s3, ws, e3, hwl, hws⟩
          obtain ⟨dd, hdi, hdd⟩ := hus.get hy
          rw [List.getElem?_map] at hdi
          obtain ⟨br, hbi, rfl⟩ := Option.map_eq_some_iff.mp hdi
          obtain ⟨tt, vv, rfl, htt, hvv⟩ := br_at hdd
          have hj : j < us.length := (List.getElem?_eq_some_iff.mp hy).1
          refine ⟨rfl, _, rfl, tt, _, 0, .str br.1, rfl, rfl, SqT.of (s3 _ _ htt), rfl, _, rfl, _, rfl, a, _, 1, .int kk, rfl, rfl, SqT.of (s3 _ _ ha), rfl, ar, _, kk, .str l, rfl, rfl, SqT.of (s3 _ _ har2), eat, rfl, _, rfl, ?_⟩
          rw [str_dec, filt_take hbi]
          by_cases hc : br.1 = l
          · rw [decide_eq_true hc]
            refine iteT ⟨_, rfl, tt, _, 1, vv, rfl, rfl, SqT.of (s3 _ _ htt), rfl, ws, e3, small1000 (by omega), fun b' o eb => by rw [upd_ne (ne_of_none eb hD)]; exact s3 _ _ eb, ws ++ [vv], upd_same, by rw [List.length_append]; exact Nat.succ_le_succ hwl, ?_⟩
            rw [hid_updD, if_pos rfl, List.map_append]
            exact DHs.snoc hws (DH.hide e3 (tree_noL (hbs br (List.mem_of_getElem? hbi))) (hvv.same s3))
          · rw [decide_eq_false hc]
            refine iteF ⟨s3, ws, e3, by omega, ?_⟩
            rw [if_neg (by decide), List.append_nil]
            exact hws
        rintro H3 ⟨s3, ws, e3, hwl, hws⟩
        rw [hul, List.take_length] at hws
        have hws3 := DHs.same hid_same hws
        have s03 := s2.trans s3
        refine ⟨_, rfl, by decide, fun l0 hl0 => ?_⟩
        have s4 : Same H3 (upd H3 l0 (.lst [])) := Same.upd hl0
        have e4 : upd H3 l0 (.lst []) l0 = some (.lst []) := upd_same
        generalize upd H3 l0 (.lst []) = H4 at s4 e4 ⊢
        have s04 := s03.trans s4
        have d1 : DH H4 (.ref D) (.list ((bs.filter fun b => decide (b.1 = l)).map fun b => treeD b.2)) := .lst (s4 _ _ e3) (DHs.same s4 hws3)
        have d2 : DH H4 (.ref l0) (.list []) := .lst e4 .nil
        have sh : SeqAt.shaped (.list ((bs.filter fun b => decide (b.1 = l)).map fun b => treeD b.2)) = true := shaped_lst fun b hb => by
          have z := tree_shape (hbs b (List.mem_filter.mp hb).1)
          exact ⟨z.1, by omega⟩
        refine ⟨_, _, DH.dp d1, DH.dp d2, sh, by decide +kernel, _, rfl, ?_⟩
        have hh := List.head?_filter (p := fun b : Str × Tree => decide (b.1 = l)) (l := bs)
        cases hf : bs.filter (fun b => decide (b.1 = l)) with
        | nil =>
          rw [hf] at hh
          have hh : bs.find? (fun b => decide (b.1 = l)) = none := hh.symm
          refine iteT (k _ _ s04 ?_)
          rw [← hw, hwalk, hh]
          exact .non
        | cons b0 rest =>
          rw [hf] at hh hws3
          have hh : bs.find? (fun b => decide (b.1 = l)) = some b0 := hh.symm
          have ev : PyData.eqv (.list ((b0 :: rest).map fun b => treeD b.2)) (.list []) = false := by
            rw [List.map_cons, PyData.eqv]
            rfl
          rw [ev]
          cases hws3 with
          | cons hv0 hrest =>
            rename_i w0 ws'
            refine iteF ⟨_, rfl, D, _, 0, w0, rfl, rfl, SqL.of (s4 _ _ e3), L2.at_of (j := 0) rfl rfl, ?_⟩
            refine ⟨s04, by omega, w0, _, _, b0.2, rfl, hbs b0 (List.mem_of_find?_eq_some hh), hv0.same s4, ?_⟩
            rw [← hw, hwalk, hh]
def spLSettles : Sp := spSettles
abbrev NLs : List Str := ["doubts", "tree", "row", "k"]
theorem scLSettles : FnScope NLs ["doubts", "tree"] (defScope sLSettles) := ⟨rfl, rfl, rfl, by decide +kernel, rfl, by decide +kernel, by decide +kernel⟩
theorem ok_lsettles {f fL : Addr} {fd dL : FuncData} (F : Fun K "_law_settles" "_law_settles" sLSettles f fd) (T : Nm mg) (GL : FnOk P w K mg base CX0 1 fL dL ["row", "tree"] spLEnd) (bL : Binds K dL ["row", "tree"] []) (kL : PySem.W.keepIn K (.ref fL) = true) (mL : mg "_law_end" = some (.ref fL)) :
    FnOk P w K mg base CX0 2 f fd ["doubts", "tree"] spLSettles := by
  refine F.ok scLSettles (fun vs H Q E h => ?_) (fun cdv A outer s H vs Q E hr h => ?_)
  · obtain ⟨vd, vt, rows, m, n, t, rfl, _⟩ := h
    rfl
  · obtain ⟨vd, vt, rows, m, n, t, rfl, hd, okd, ht, ok, hn, k⟩ := h
    refine' ⟨_, pss_cons ?zf (pss_one (ps_ret pe_bl)), ?zread⟩
    case zf =>
      refine' ps_for PassesOwn.never rfl (pi_tup (pv 0)) (pg_name (i := 2) scLSettles.nd rfl (by first | exact Or.inl rfl | exact Or.inr rfl)) (pss_one (ps_if (pt_cmpR (op_neD hr.units) (pe_call GL hr (by rfl) mL kL bL .nil pass0 (pa_cons (pv 2) (pa_cons (pv 1) pa_nil))) (pe_callTy call_tuple_of (by rfl) T.tuple (by decide +kernel) (pa_cons ?zl pa_nil)) (nomark _)) (pss_one (ps_ret pe_bl)) pss_nil))
      case zl =>
        exact pe_lc (own := [("k", 3)]) (g := gName 3) (by rfl) scLSettles.nd (pi_range1 (by rfl) T.range (pa_cons (pe_callB call_len_seq (by rfl) T.len PySem.boot_len (pa_cons (pv 0) pa_nil)) pa_nil)) (blkOk_by (own := [("k", 3)]) (N := NLs) (sc := defScope sLSettles) (by decide +kernel))
          (fun _ _ _ _ _ => pg_name (i := 3) scLSettles.nd rfl (Or.inl rfl)) (fun _ _ _ _ _ => pts_one (pt_cmpR (op_eqDK (K := K) (by exact hr.units)) (pe_ix (ix_tupK (K := K)) (pv 0) (pv 3) (fun _ _ => rfl)) (pv 2) (nomark _))) (fun _ _ _ _ _ => pv 3)
    case zread =>
      obtain ⟨a, us, rfl, ha, hus, hul⟩ := doubt_at hd
      have h8 := okd.len
      refine ⟨_, rfl, a, rfl, ⟨_, SqT.of ha⟩, for_tup (xs := us) (fun i σ H2 => Same H H2 ∧ (∀ r ∈ rows.take i, walkF r n t = some (sameL rows r)) ∧ ∃ v2 v3, σ = [some (.ref a), some vt, v2, v3]) ⟨Same.refl _, (fun r hr' => by cases hr'), _, _, rfl⟩ (fun i σ H2 _ ⟨s2, _⟩ => SqT.of (s2 _ _ ha)) ?_ ?_⟩
      · rintro i y σ H2 hy ⟨s2, hall, v2, v3, rfl⟩
        obtain ⟨dd, hdi, hdd⟩ := hus.get hy
        rw [List.getElem?_map] at hdi
        obtain ⟨r, hri, rfl⟩ := Option.map_eq_some_iff.mp hdi
        have hrm := List.mem_of_getElem? hri
        refine ⟨_, rfl, _, rfl, y, vt, t, n, r, rfl, ht.same s2, ok, hn, hdd.same s2, by rw [okd.col r hrm]; have := okd.m8; omega, fun v' H3 s3 hv' => ?_⟩
        have s03 := s2.trans s3
        refine ⟨_, rfl, a, us, rfl, .inr (SqT.of (s03 _ _ ha)), _, rfl, by omega, by omega, fun D hD => lc_range (lo := 0) (n := _) (fun j H4 => Same H3 H4 ∧ H4 D = some (.lst ((sameN rows r j).map nV))) ⟨Same.upd hD, upd_same⟩ ?_ ?_⟩
        · rintro j H4 hj ⟨s4, e4⟩
          have hj' : j < us.length := by have := hj; omega
          obtain ⟨z, hz⟩ : ∃ z, us[j]? = some z := ⟨us[j], by simp [hj']⟩
          obtain ⟨d2, hd2i, hd2⟩ := hus.get hz
          rw [List.getElem?_map] at hd2i
          obtain ⟨q, hqi, rfl⟩ := Option.map_eq_some_iff.mp hd2i
          have s04 := s03.trans s4
          rw [Int.zero_add]
          refine ⟨rfl, _, rfl, _, rfl, a, us, _, z, rfl, rfl, SqT.of (s04 _ _ ha), L2.atI_nat hz, _, rfl, _, _, DH.dp (hd2.same s04), DH.dp (hdd.same s04), shaped_row (okd.lk q (List.mem_of_getElem? hqi)), shaped_row (okd.lk r hrm), _, rfl, ?_⟩
          rw [eqv_row, sameN_succ hqi]
          have sl := sameN_len rows r j
          by_cases hc : q = r
          · rw [decide_eq_true hc, if_pos hc]
            refine iteT ⟨_, rfl, _, e4, small1000 (by rw [List.length_map]; omega), fun b o eb => by rw [upd_ne (ne_of_none eb hD)]; exact s4 _ _ eb, ?_⟩
            rw [upd_same, List.map_append]
            rfl
          · rw [decide_eq_false hc, if_neg hc, List.append_nil]
            exact iteF ⟨s4, e4⟩
        rintro H4 ⟨s4, e4⟩
        have e4' : H4 D = some (.lst ((sameL rows r).map V.int)) := by
          rw [← sameL_map, ← hul]
          exact e4
        refine ⟨D, _, rfl, .inl ⟨SqL.of e4', fun l hl => ?_⟩⟩
        have s5 : Same H4 (upd H4 l (.tup ((sameL rows r).map V.int))) := Same.upd hl
        have e5 : upd H4 l (.tup ((sameL rows r).map V.int)) l = some (.tup ((sameL rows r).map V.int)) := upd_same
        generalize upd H4 l (.tup ((sameL rows r).map V.int)) = H5 at s5 e5 ⊢
        have dl : DH H5 (.ref l) (.tuple ((sameL rows r).map .int)) := .tup e5 (ints_dh _)
        have s05 := s03.trans (s4.trans s5)
        refine ⟨_, _, DH.dp (hv'.same (s4.trans s5)), DH.dp dl, shaped_res _, shaped_ints _, _, rfl, ?_⟩
        rw [eqv_res]
        by_cases hc : walkF r n t = some (sameL rows r)
        · rw [decide_eq_true hc]
          refine iteF ⟨s05, fun q hq => ?_, _, _, rfl⟩
          rw [take_succ hri] at hq
          rcases List.mem_append.mp hq with z | z
          · exact hall q z
          · rw [List.mem_singleton.mp z]
            exact hc
        · rw [decide_eq_false hc]
          refine iteT (cast ?_ (k H5 s05))
          have : setB rows n t = false := by
            unfold setB
            rw [List.all_eq_false]
            exact ⟨r, hrm, by simp [hc]⟩
          rw [this]
          rfl
      · rintro σ H2 ⟨s2, hall, v2, v3, rfl⟩
        rw [hul, List.take_length] at hall
        refine cast ?_ (k H2 s2)
        have : setB rows n t = true := by
          unfold setB
          rw [List.all_eq_true]
          exact fun r hr' => decide_eq_true (hall r hr')
        rw [this]
        rfl
end
end Gl

set_option Elab.async false
set_option linter.all false
set_option maxRecDepth 100000
set_option maxHeartbeats 1000000
namespace Gl
open PySem L2 PyProof.Rows
abbrev sAre : Stmt := top 1
abbrev sParted : Stmt := top 2
def rowAt (rows : List (List Str)) (i : Nat) : List Str := rows.getD i []
def lookAt (rows : List (List Str)) (c i : Nat) : Str := (rowAt rows i).getD c Str.empty
def allSame (rows : List (List Str)) (gs : List Nat) : Bool := gs.all fun i => decide (rowAt rows i = rowAt rows (gs.headD 0))
/-- a group of doubts -/
structure OkG (rows : List (List Str)) (gs : List Nat) : Prop where
  ne : gs ≠ []
  sub : gs.Sublist (List.range rows.length)
theorem OkG.lt {rows : List (List Str)} {gs : List Nat} (h : OkG rows gs) : ∀ i ∈ gs, i < rows.length := fun i hi => List.mem_range.mp (h.sub.subset hi)
theorem OkG.len {rows : List (List Str)} {gs : List Nat} (h : OkG rows gs) : gs.length ≤ rows.length := by
  have := h.sub.length_le
  rw [List.length_range] at this
  exact this
theorem rowAt_get {rows : List (List Str)} {i : Nat} (h : i < rows.length) : rows[i]? = some (rowAt rows i) := by
  unfold rowAt
  rw [List.getD_eq_getElem?_getD, show rows[i]? = some rows[i] by simp [h]]
  rfl
theorem rowAt_mem {rows : List (List Str)} {i : Nat} (h : i < rows.length) : rowAt rows i ∈ rows := List.mem_of_getElem? (rowAt_get h)
theorem lookAt_get {m : Nat} {rows : List (List Str)} (ok : OkD m rows) {i c : Nat} (h : i < rows.length) (hc : c < m) : (rowAt rows i)[c]? = some (lookAt rows c i) := by
  have hl := ok.col _ (rowAt_mem h)
  have hc' : c < (rowAt rows i).length := by omega
  unfold lookAt
  rw [List.getD_eq_getElem?_getD, show (rowAt rows i)[c]? = some (rowAt rows i)[c] by simp [hc']]
  rfl
theorem lookAt_str {m : Nat} {rows : List (List Str)} (ok : OkD m rows) {i c : Nat} (h : i < rows.length) (hc : c < m) : strO (lookAt rows c i) := ok.lk _ (rowAt_mem h) _ (List.mem_of_getElem? (lookAt_get ok h hc))
theorem head_mem {gs : List Nat} (h : gs ≠ []) : gs.headD 0 ∈ gs := by
  cases gs with
  | nil => exact absurd rfl h
  | cons a _ => exact List.mem_cons_self
/-! ### a group parted by a look -/
def pg (f : Nat → Str) (gs : List Nat) (x : Str) : List Nat := gs.filter fun i => decide (f i = x)
theorem pg_snoc (f : Nat → Str) (gs : List Nat) (i : Nat) (x : Str) : pg f (gs ++ [i]) x = pg f gs x ++ if f i = x then [i] else [] := by
  unfold pg
  rw [List.filter_append]
  congr 1
  by_cases h : f i = x
  · simp [h]
  · simp [h]
theorem pg_len (f : Nat → Str) (gs : List Nat) (x : Str) : (pg f gs x).length ≤ gs.length := List.length_filter_le _ _
structure PG (H0 H : Hp) (kvs : List (Key × V)) (f : Nat → Str) (gs : List Nat) (ks : List Str) (ad : Str → Addr) : Prop where
  keys : kvs.map Prod.fst = ks.map Sum.inr
  nd : ks.Nodup
  mem : ∀ x, x ∈ ks ↔ pg f gs x ≠ []
  val : ∀ x ∈ ks, valV kvs (Sum.inr x) = some (.ref (ad x))
  no : ∀ x, x ∉ ks → valV kvs (Sum.inr x) = none
  lst : ∀ x ∈ ks, H (ad x) = some (.lst ((pg f gs x).map nV))
  new : ∀ x ∈ ks, H0 (ad x) = none
  inj : ∀ x ∈ ks, ∀ y ∈ ks, ad x = ad y → x = y
  len : ks.length ≤ gs.length
theorem PG.nil {H0 H : Hp} {f : Nat → Str} {ad : Str → Addr} : PG H0 H [] f [] [] ad := ⟨rfl, List.nodup_nil, fun k => by simp [pg], fun k h => (by cases h), fun k _ => rfl, fun k h => (by cases h), fun k h => (by cases h), fun k h => (by cases h), Nat.le_refl _⟩
theorem PG.klen {H0 H : Hp} {kvs : List (Key × V)} {f : Nat → Str} {gs : List Nat} {ks : List Str} {ad : Str → Addr} (g : PG H0 H kvs f gs ks ad) : kvs.length = ks.length := by
  have := congrArg List.length g.keys
  simpa using this
theorem PG.same {H0 H H' : Hp} {kvs : List (Key × V)} {f : Nat → Str} {gs : List Nat} {ks : List Str} {ad : Str → Addr} (s : Same H H') (g : PG H0 H kvs f gs ks ad) : PG H0 H' kvs f gs ks ad :=
  { g with lst := fun k hk => s _ _ (g.lst k hk) }
theorem PG.more {H0 H : Hp} {kvs : List (Key × V)} {f : Nat → Str} {gs : List Nat} {ks : List Str} {ad : Str → Addr} (g : PG H0 H kvs f gs ks ad) {i : Nat} (hb : f i ∈ ks) :
    PG H0 (upd H (ad (f i)) (.lst ((pg f gs (f i)).map nV ++ [nV i]))) kvs f (gs ++ [i]) ks ad := by
  refine { g with mem := fun k => ?_, lst := fun k hk => ?_, len := by rw [List.length_append]; exact Nat.le_trans g.len (Nat.le_add_right _ _) }
  · rw [pg_snoc]
    by_cases h : f i = k
    · rw [if_pos h]
      exact ⟨fun _ => by simp, fun _ => h ▸ hb⟩
    · rw [if_neg h, List.append_nil]
      exact g.mem k
  · rw [pg_snoc]
    by_cases h : f i = k
    · subst h
      rw [if_pos rfl, upd_same, List.map_append]
      rfl
    · rw [if_neg h, List.append_nil, upd_ne (fun z => h (g.inj k hk _ hb z).symm)]
      exact g.lst k hk
theorem PG.put {H0 H H' : Hp} {kvs : List (Key × V)} {f : Nat → Str} {gs : List Nat} {ks : List Str} {ad : Str → Addr} (g : PG H0 H kvs f gs ks ad) {i : Nat} {q : Addr} (hb : f i ∉ ks)
    (hq0 : H0 q = none) (hqn : ∀ x ∈ ks, ad x ≠ q) (hq : H' q = some (.lst [nV i])) (ho : ∀ x ∈ ks, H' (ad x) = H (ad x)) :
    PG H0 H' (putK kvs (Sum.inr (f i)) (.ref q)) f (gs ++ [i]) (ks ++ [f i]) (fun x => if x = f i then q else ad x) := by
  have hg : pg f gs (f i) = [] := by
    cases h : pg f gs (f i) with
    | nil => rfl
    | cons _ _ => exact absurd ((g.mem _).mpr (by rw [h]; simp)) hb
  have hput : putK kvs (Sum.inr (f i)) (.ref q) = kvs ++ [(Sum.inr (f i), .ref q)] := by
    unfold putK
    rw [if_neg (by rw [valV_any, g.no _ hb]; simp)]
  have ne : ∀ {x : Str}, x ≠ f i → ¬ ((Sum.inr x : Key) = Sum.inr (f i)) := fun h z => h (Sum.inr.inj z)
  refine ⟨?_, ?_, fun k => ?_, fun k hk => ?_, fun k hk => ?_, fun k hk => ?_, fun k hk => ?_, fun k hk j hj z => ?_, ?_⟩
  · rw [hput, List.map_append, List.map_append, g.keys]
    rfl
  · rw [List.nodup_append]
    exact ⟨g.nd, by simp, fun a ha c hc => by rw [List.mem_singleton.mp hc]; exact fun z => hb (z ▸ ha)⟩
  · rw [pg_snoc, List.mem_append, List.mem_singleton]
    by_cases h : f i = k
    · rw [if_pos h]
      exact ⟨fun _ => by simp, fun _ => .inr h.symm⟩
    · rw [if_neg h, List.append_nil]
      exact ⟨fun z => z.elim (g.mem k).mp (fun z => absurd z.symm h), fun z => .inl ((g.mem k).mpr z)⟩
  · rw [valV_put]
    by_cases h : k = f i
    · rw [if_pos h, if_pos (by rw [h])]
    · rw [if_neg h, if_neg (ne h)]
      exact g.val k ((List.mem_append.mp hk).elim id fun z => absurd (List.mem_singleton.mp z) h)
  · have h : k ≠ f i := fun z => hk (by rw [z]; exact List.mem_append.mpr (.inr (List.mem_singleton.mpr rfl)))
    rw [valV_put, if_neg (ne h)]
    exact g.no k fun z => hk (List.mem_append.mpr (.inl z))
  · rw [pg_snoc]
    by_cases h : k = f i
    · rw [if_pos h, if_pos h.symm, hq, h, hg]
      rfl
    · rw [if_neg h, if_neg (fun z => h z.symm), List.append_nil]
      have hk' := (List.mem_append.mp hk).elim id fun z => absurd (List.mem_singleton.mp z) h
      rw [ho k hk']
      exact g.lst k hk'
  · by_cases h : k = f i
    · rw [if_pos h]; exact hq0
    · rw [if_neg h]
      exact g.new k ((List.mem_append.mp hk).elim id fun z => absurd (List.mem_singleton.mp z) h)
  · by_cases h : k = f i
    · by_cases h2 : j = f i
      · rw [h, h2]
      · rw [if_pos h, if_neg h2] at z
        exact absurd z.symm (hqn j ((List.mem_append.mp hj).elim id fun z => absurd (List.mem_singleton.mp z) h2))
    · have hk' := (List.mem_append.mp hk).elim id fun z => absurd (List.mem_singleton.mp z) h
      by_cases h2 : j = f i
      · rw [if_neg h, if_pos h2] at z
        exact absurd z (hqn k hk')
      · rw [if_neg h, if_neg h2] at z
        exact g.inj k hk' j ((List.mem_append.mp hj).elim id fun z => absurd (List.mem_singleton.mp z) h2) z
  · rw [List.length_append, List.length_append]
    exact Nat.succ_le_succ g.len
section
variable {P : Program} {w : World} {K : PySem.W.Frag} {mg : Str → Option Value} {base : Heap}
def spAre : Sp := fun vs H Q _ => ∃ (vd : V) (g : Addr) (m : Nat) (rows : List (List Str)) (gs : List Nat), vs = [vd, .ref g] ∧ DH H vd (doubtD rows) ∧ OkD m rows ∧ H g = some (.tup (gs.map nV)) ∧ OkG rows gs ∧ ∀ H', Same H H' → Q (.bl (allSame rows gs)) H'
abbrev NAr : List Str := ["doubts", "group", "at"]
theorem scAre : FnScope NAr ["doubts", "group"] (defScope sAre) := ⟨rfl, rfl, rfl, by decide +kernel, rfl, by decide +kernel, by decide +kernel⟩
theorem get_row {H : Hp} {us : List V} {rows : List (List Str)} (hus : DHs H us (rows.map rowT)) {i : Nat} (h : i < rows.length) : ∃ v, us[i]? = some v ∧ DH H v (rowT (rowAt rows i)) := by
  obtain ⟨v, h1, h2⟩ := DHs.mem hus (show (rows.map rowT)[i]? = some (rowT (rowAt rows i)) by rw [List.getElem?_map, rowAt_get h]; rfl)
  exact ⟨v, h1, h2⟩
theorem ok_are {f : Addr} {fd : FuncData} (F : Fun K "are_same" "are_same" sAre f fd) (T : Nm mg) : FnOk P w K mg base CX0 1 f fd ["doubts", "group"] spAre := by
  refine F.ok scAre (fun vs H Q E h => ?_) (fun cdv A outer s H vs Q E hr h => ?_)
  · obtain ⟨vd, g, m, rows, gs, rfl, _⟩ := h
    rfl
  · obtain ⟨vd, g, m, rows, gs, rfl, hd, okd, hg, okg, k⟩ := h
    refine' ⟨_, pss_one (ps_ret (pe_callB (cr_all rfl) (by rfl) T.all (by decide +kernel) (pa_cons ?zl pa_nil))), ?zread⟩
    case zl =>
      exact pe_lc (own := [("at", 2)]) (g := gName 2) (by rfl) scAre.nd (pi_tup (pv 1)) (blkOk_by (own := [("at", 2)]) (N := NAr) (sc := defScope sAre) (by decide +kernel)) (fun _ _ _ _ _ => pg_name (i := 2) scAre.nd rfl (Or.inl rfl)) (fun _ _ _ _ _ => pts_nil)
        (fun _ _ _ _ _ => pe_cmpR (op_eqDK (K := K) (by exact hr.units)) (pe_ix (ix_tupK (K := K)) (pv 0) (pv 2) (fun _ _ => rfl)) (pe_ix (ix_tupK (K := K)) (pv 0) (pe_ix (ix_tupK (K := K)) (pv 1) pe_int (fun _ _ => rfl)) (fun _ _ => rfl)) (nomark _))
    case zread =>
      obtain ⟨a, us, rfl, ha, hus, hul⟩ := doubt_at hd
      have h8 := okd.len
      have hgl := okg.len
      have h0 := head_mem okg.ne
      obtain ⟨v0, hv0, dv0⟩ := get_row hus (okg.lt _ h0)
      have eg0 : atI (gs.map nV) 0 = some (nV (gs.headD 0)) := by
        cases gs with
        | nil => exact absurd rfl okg.ne
        | cons x _ => exact L2.at_of (j := 0) rfl rfl
      refine ⟨_, rfl, g, rfl, ⟨_, SqT.of hg⟩, fun D hD => lc_tup (xs := gs.map nV) (fun i H3 => Same H H3 ∧ H3 D = some (.lst (((gs.take i).map fun i => decide (rowAt rows i = rowAt rows (gs.headD 0))).map V.bl))) ⟨Same.upd hD, upd_same⟩ (fun i H3 _ ⟨s3, _⟩ => SqT.of (s3 _ _ hg)) ?_ ?_⟩
      · rintro i y H3 hy ⟨s3, e3⟩
        rw [List.getElem?_map] at hy
        obtain ⟨x, hx, rfl⟩ := Option.map_eq_some_iff.mp hy
        have hi : i < gs.length := (List.getElem?_eq_some_iff.mp hx).1
        obtain ⟨v1, hv1, dv1⟩ := get_row hus (okg.lt x (List.mem_of_getElem? hx))
        refine ⟨rfl, _, rfl, _, rfl, a, us, _, v1, rfl, rfl, SqT.of (s3 _ _ ha), L2.atI_nat hv1, _, rfl, _, rfl, g, _, 0, _, rfl, rfl, SqT.of (s3 _ _ hg), eg0, a, us, _, v0, rfl, rfl, SqT.of (s3 _ _ ha), L2.atI_nat hv0, _, _, DH.dp (dv1.same s3), DH.dp (dv0.same s3), shaped_row (okd.lk _ (rowAt_mem (okg.lt x (List.mem_of_getElem? hx)))), shaped_row (okd.lk _ (rowAt_mem (okg.lt _ h0))), ?_⟩
        rw [eqv_row]
        refine ⟨_, e3, small1000 (by rw [List.length_map, List.length_map, List.length_take]; omega), fun b o eb => by rw [upd_ne (ne_of_none eb hD)]; exact s3 _ _ eb, ?_⟩
        rw [upd_same, take_succ hx, List.map_append, List.map_append]
        rfl
      · rintro H3 ⟨s3, e3⟩
        rw [List.length_map, List.take_length] at e3
        refine ⟨D, _, rfl, SqL.of e3, ?_⟩
        rw [List.all_map]
        exact k H3 s3
/-! ### parted -/
def spParted : Sp := fun vs H Q _ => ∃ (vd : V) (g : Addr) (m c : Nat) (rows : List (List Str)) (gs : List Nat), vs = [vd, .ref g, .int (c : Nat)] ∧ DH H vd (doubtD rows) ∧ OkD m rows ∧ H g = some (.tup (gs.map nV)) ∧ OkG rows gs ∧ c < m ∧
  ∀ D H' kvs ks ad, Same H H' → H D = none → H' D = some (.dK kvs) → PG H H' kvs (lookAt rows c) gs ks ad → Q (.ref D) H'
abbrev NPt : List Str := ["doubts", "group", "number", "found", "at"]
theorem scParted : FnScope NPt ["doubts", "group", "number"] (defScope sParted) := ⟨rfl, rfl, rfl, by decide +kernel, rfl, by decide +kernel, by decide +kernel⟩
theorem ok_parted {f : Addr} {fd : FuncData} (F : Fun K "parted" "parted" sParted f fd) : FnOk P w K mg base CX0 1 f fd ["doubts", "group", "number"] spParted := by
  refine F.ok scParted (fun vs H Q E h => ?_) (fun cdv A outer s H vs Q E hr h => ?_)
  · obtain ⟨vd, g, m, c, rows, gs, rfl, _⟩ := h
    rfl
  · obtain ⟨vd, g, m, c, rows, gs, rfl, hd, okd, hg, okg, hc, k⟩ := h
    refine' ⟨_, pss_cons (ps_set (i := 3) scParted.nd rfl (Or.inl rfl) pe_dnewK) (pss_cons ?zf (pss_one (ps_ret (pv 3)))), ?zread⟩
    case zf =>
      exact ps_for PassesOwn.never rfl (pi_tup (pv 1)) (pg_name (i := 4) scParted.nd rfl (Or.inl rfl)) (pss_one (ps_expr (pe_bm PySem.F.plainAttrs_list PySem.F.slot_list_append PySem.F.type_list_append mt_append (pe_bm PySem.F.plainAttrs_dict PySem.F.slot_dict_setdefault PySem.F.type_dict_setdefault mt_setDef (pv 3)
        (pa_cons (pe_ix ix_tup (pe_ix ix_tup (pv 0) (pv 4) (fun _ _ => rfl)) (pv 2) (fun _ _ => rfl)) (pa_cons (pe_lst pa_nil) pa_nil))) (pa_cons (pv 4) pa_nil))))
    case zread =>
      obtain ⟨a, us, rfl, ha, hus, hul⟩ := doubt_at hd
      have h8 := okd.len
      have hgl := okg.len
      intro D hD
      have s1 : Same H (upd H D (.dK [])) := Same.upd hD
      have e1 : upd H D (.dK []) D = some (.dK []) := upd_same
      generalize upd H D (.dK []) = H1 at s1 e1 ⊢
      refine ⟨_, rfl, g, rfl, ⟨_, SqT.of (s1 _ _ hg)⟩, for_tup (xs := gs.map nV) (fun i σ H3 => Same H H3 ∧ ∃ kvs ks ad v4, σ = [some (.ref a), some (.ref g), some (.int (c : Nat)), some (.ref D), v4] ∧ H3 D = some (.dK kvs) ∧ PG H H3 kvs (lookAt rows c) (gs.take i) ks ad) ⟨s1, [], [], fun _ => 0, _, rfl, e1, PG.nil⟩ (fun i σ H3 _ ⟨s3, _⟩ => SqT.of (s3 _ _ hg)) ?_ ?_⟩
      · rintro i y σ H3 hy ⟨s3, kvs, ks, ad, v4, rfl, eD, p⟩
        rw [List.getElem?_map] at hy
        obtain ⟨x, hx, rfl⟩ := Option.map_eq_some_iff.mp hy
        have hi : i < gs.length := (List.getElem?_eq_some_iff.mp hx).1
        have hxl := okg.lt x (List.mem_of_getElem? hx)
        obtain ⟨v1, hv1, dv1⟩ := get_row hus hxl
        obtain ⟨ar, rfl, har⟩ := row_at dv1
        have eat : atI ((rowAt rows x).map V.str) (c : Nat) = some (.str (lookAt rows c x)) := L2.atI_nat (by rw [List.getElem?_map, lookAt_get okd hxl hc]; rfl)
        have tk := take_succ hx
        have htl : (gs.take i).length = i := by rw [List.length_take]; omega
        refine ⟨_, rfl, .inr (.inr (.inl ⟨rfl, .inl ⟨_, eD⟩⟩)), _, rfl, _, rfl, a, us, _, _, rfl, rfl, SqT.of (s3 _ _ ha), L2.atI_nat hv1, _, rfl, ar, _, _, _, rfl, rfl, SqT.of (s3 _ _ har), eat, by decide, fun q hq => ?_⟩
        have s7 : Same H3 (upd H3 q (.lst [])) := Same.upd hq
        have e7 : upd H3 q (.lst []) q = some (.lst []) := upd_same
        have hqn : ∀ x ∈ ks, ad x ≠ q := fun x hx => ne_of_none (p.lst x hx) hq
        generalize upd H3 q (.lst []) = H7 at s7 e7 ⊢
        have p7 := p.same s7
        have eD7 := s7 _ _ eD
        have s07 := s3.trans s7
        have hq0 : H q = none := s3.free hq
        have nDq : D ≠ q := fun z => by rw [z, e7] at eD7; cases eD7
        have hkl : kvs.length < sizeLine := by
          rw [p7.klen]
          have := p7.len
          exact small1000 (by omega)
        refine ⟨D, kvs, Sum.inr (lookAt rows c x), .ref q, rfl, rfl, eD7, hkl, fun v' hv' => ?_, fun hn => ?_⟩
        · have hb : lookAt rows c x ∈ ks := Classical.byContradiction fun z => by rw [p7.no _ z] at hv'; cases hv'
          rw [p7.val _ hb] at hv'
          cases hv'
          have l7 := p7.lst _ hb
          have gl := pg_len (lookAt rows c) (gs.take i) (lookAt rows c x)
          refine ⟨.inl ⟨rfl, _, SqL.of l7⟩, _, rfl, _, _, _, rfl, rfl, l7, by rw [List.length_map]; exact small1000 (by omega), ?_⟩
          have nDa : D ≠ ad (lookAt rows c x) := fun z => by rw [← z, eD7] at l7; cases l7
          refine ⟨fun b o eb => ?_, kvs, ks, ad, _, rfl, by rw [upd_ne nDa]; exact eD7, ?_⟩
          · rw [upd_ne (ne_of_none eb (p7.new _ hb))]
            exact s07 _ _ eb
          · rw [tk]
            exact p7.more hb
        · have hb : lookAt rows c x ∉ ks := fun z => by rw [p7.val _ z] at hn; cases hn
          have eq8 : upd H7 D (.dK (putK kvs (Sum.inr (lookAt rows c x)) (.ref q))) q = some (.lst []) := by rw [upd_ne (Ne.symm nDq)]; exact e7
          refine ⟨.inl ⟨rfl, _, SqL.of eq8⟩, _, rfl, _, _, _, rfl, rfl, eq8, by decide, ?_⟩
          have hnD : ∀ x ∈ ks, ad x ≠ D := fun x hx z => by have := p7.lst x hx; rw [z, eD7] at this; cases this
          refine ⟨fun b o eb => ?_, _, ks ++ [lookAt rows c x], (fun y => if y = lookAt rows c x then q else ad y), _, rfl, by rw [upd_ne nDq, upd_same], ?_⟩
          · rw [upd_ne (ne_of_none eb hq0), upd_ne (ne_of_none eb hD)]
            exact s07 _ _ eb
          · rw [tk]
            exact p7.put hb hq0 hqn (by rw [upd_same]; rfl) fun x hx => by rw [upd_ne (hqn x hx), upd_ne (hnD x hx)]
      · rintro σ H3 ⟨s3, kvs, ks, ad, v4, rfl, eD, p⟩
        rw [List.length_map, List.take_length] at p
        exact ⟨_, rfl, k D H3 kvs ks ad s3 hD eD p⟩
end
end Gl

set_option Elab.async false
set_option linter.all false
set_option maxRecDepth 100000
set_option maxHeartbeats 1000000
namespace Gl
open PySem L2 PyProof.Rows
abbrev sTried : Stmt := top 3
/-! ### all but one dict stays -/
def But (kn : Addr) (H H' : Hp) : Prop := ∀ b o, b ≠ kn → H b = some o → H' b = some o
theorem But.refl {kn : Addr} {H : Hp} : But kn H H := fun _ _ _ e => e
theorem But.trans {kn : Addr} {H H1 H2 : Hp} (a : But kn H H1) (b : But kn H1 H2) : But kn H H2 := fun c o n e => b c o n (a c o n e)
theorem But.of {kn : Addr} {H H' : Hp} (s : Same H H') : But kn H H' := fun b o _ e => s b o e
theorem But.hid {kn br : Addr} {H H' : Hp} (s : But kn H H') : But kn (Gl.hid br H) (Gl.hid br H') := fun b o n e => by
  obtain ⟨nb, e⟩ := hid_some e
  rw [hid_ne nb]
  exact s b o n e
mutual
theorem DH.butD {H H' : Hp} {kn : Addr} {kvs : List (List Key × V)} (hk : H kn = some (.dT kvs)) (s : But kn H H') : ∀ {v : V} {d : PyData}, DH H v d → DH H' v d
  | _, _, .non => .non
  | _, _, .bl b => .bl b
  | _, _, .int i => .int i
  | _, _, .str x => .str x
  | _, _, .lst h r => .lst (s _ _ (fun z => by rw [z, hk] at h; cases h) h) (DHs.butD hk s r)
  | _, _, .tup h r => .tup (s _ _ (fun z => by rw [z, hk] at h; cases h) h) (DHs.butD hk s r)
theorem DHs.butD {H H' : Hp} {kn : Addr} {kvs : List (List Key × V)} (hk : H kn = some (.dT kvs)) (s : But kn H H') : ∀ {vs : List V} {ds : List PyData}, DHs H vs ds → DHs H' vs ds
  | _, _, .nil => .nil
  | _, _, .cons a r => .cons (DH.butD hk s a) (DHs.butD hk s r)
end
/-! ### what is known -/
def keyOf (gs : List Nat) : List Key := gs.map fun n : Nat => Sum.inl (n : Int)
theorem keyOf_kV (gs : List Nat) : (keyOf gs).map kV = gs.map nV := by
  unfold keyOf
  rw [List.map_map]
  rfl
theorem keyOf_len (gs : List Nat) : (keyOf gs).length = gs.length := by unfold keyOf; rw [List.length_map]
def Res (H : Hp) (v : V) (sz : Nat) : Prop := ∃ d t, DH H v (.tuple [.int d, treeD t]) ∧ OkTree true sz t
theorem Res.butD {H H' : Hp} {kn : Addr} {kvs : List (List Key × V)} {v : V} {sz : Nat} (hk : H kn = some (.dT kvs)) (s : But kn H H') (h : Res H v sz) : Res H' v sz := by
  obtain ⟨d, t, h1, h2⟩ := h
  exact ⟨d, t, DH.butD hk s h1, h2⟩
theorem Res.same {H H' : Hp} {v : V} {sz : Nat} (s : Same H H') (h : Res H v sz) : Res H' v sz := by
  obtain ⟨d, t, h1, h2⟩ := h
  exact ⟨d, t, h1.same s, h2⟩
structure Kn (rows : List (List Str)) (H : Hp) (kvs : List (List Key × V)) : Prop where
  nd : (kvs.map Prod.fst).Nodup
  ok : ∀ kv ∈ kvs, ∃ gs : List Nat, kv.1 = keyOf gs ∧ gs.Sublist (List.range rows.length) ∧ Res H kv.2 gs.length
def KnAt (rows : List (List Str)) (H : Hp) (kn : Addr) : Prop := ∃ kvs, H kn = some (.dT kvs) ∧ Kn rows H kvs
theorem KnAt.same {rows : List (List Str)} {H H' : Hp} {kn : Addr} (s : Same H H') (h : KnAt rows H kn) : KnAt rows H' kn := by
  obtain ⟨kvs, e, k⟩ := h
  refine ⟨kvs, s _ _ e, k.nd, fun kv hkv => ?_⟩
  obtain ⟨gs, h1, h2, h3⟩ := k.ok kv hkv
  exact ⟨gs, h1, h2, h3.same s⟩
theorem KnAt.ne {rows : List (List Str)} {H : Hp} {kn b : Addr} {o : HO} (h : KnAt rows H kn) (e : H b = some o) (ho : ∀ kvs, o ≠ .dT kvs) : b ≠ kn := fun z => by
  obtain ⟨kvs, ek, _⟩ := h
  rw [z, ek] at e
  cases e
  exact ho _ rfl
/-! ### how many groups there are -/
def subs : List Nat → List (List Nat)
  | [] => [[]]
  | a :: l => subs l ++ (subs l).map (a :: ·)
theorem subs_len : ∀ l : List Nat, (subs l).length = 2 ^ l.length
  | [] => rfl
  | a :: l => by
    rw [subs, List.length_append, List.length_map, subs_len l, List.length_cons, Nat.pow_succ]
    omega
theorem mem_subs {l m : List Nat} (h : l.Sublist m) : l ∈ subs m := by
  induction h with
  | slnil => exact List.mem_singleton.mpr rfl
  | cons a _ ih => exact List.mem_append.mpr (.inl ih)
  | cons_cons a _ ih => exact List.mem_append.mpr (.inr (List.mem_map.mpr ⟨_, ih, rfl⟩))
theorem nodup_le {α : Type} [DecidableEq α] : ∀ {l m : List α}, l.Nodup → (∀ x ∈ l, x ∈ m) → l.length ≤ m.length
  | [], _, _, _ => Nat.zero_le _
  | a :: l, m, hn, hs => by
    rw [List.nodup_cons] at hn
    have hm := hs a List.mem_cons_self
    have ih := nodup_le (l := l) (m := m.erase a) hn.2 fun x hx => by
      have hne : x ≠ a := fun z => hn.1 (z ▸ hx)
      exact (List.mem_erase_of_ne hne).mpr (hs x (List.mem_cons_of_mem _ hx))
    rw [List.length_erase_of_mem hm] at ih
    have : 0 < m.length := List.length_pos_of_mem hm
    rw [List.length_cons]
    omega
theorem Kn.len {rows : List (List Str)} {H : Hp} {kvs : List (List Key × V)} (k : Kn rows H kvs) (h8 : rows.length ≤ 8) : kvs.length ≤ 256 := by
  have z := nodup_le (m := (subs (List.range rows.length)).map keyOf) k.nd fun x hx => by
    obtain ⟨kv, hkv, rfl⟩ := List.mem_map.mp hx
    obtain ⟨gs, h1, h2, _⟩ := k.ok kv hkv
    exact List.mem_map.mpr ⟨gs, mem_subs h2, h1.symm⟩
  rw [List.length_map, List.length_map, subs_len, List.length_range] at z
  exact Nat.le_trans z (Nat.pow_le_pow_right (by decide) h8)
section
variable {P : Program} {w : World} {K : PySem.W.Frag} {mg : Str → Option Value} {base : Heap}
def spBest (N : Nat) : Sp := fun vs H Q _ => ∃ (vd : V) (g kn : Addr) (m : Nat) (rows : List (List Str)) (gs : List Nat), vs = [vd, .ref g, .ref kn] ∧ DH H vd (doubtD rows) ∧ OkD m rows ∧ H g = some (.tup (gs.map nV)) ∧ OkG rows gs ∧ gs.length ≤ N ∧ KnAt rows H kn ∧
  ∀ v' H', But kn H H' → KnAt rows H' kn → Res H' v' gs.length → Q v' H'
def spTried (N : Nat) : Sp := fun vs H Q _ => ∃ (vd : V) (sh kn : Addr) (m c : Nat) (rows : List (List Str)) (gs : List Nat) (Hx : Hp) (kvs : List (Key × V)) (ks : List Str) (ad : Str → Addr), vs = [vd, .ref sh, .int (c : Nat), .ref kn] ∧ DH H vd (doubtD rows) ∧ OkD m rows ∧ c < m ∧ OkG rows gs ∧ H sh = some (.dK kvs) ∧ PG Hx H kvs (lookAt rows c) gs ks ad ∧ ks ≠ [] ∧ (∀ x ∈ ks, (pg (lookAt rows c) gs x).length ≤ N) ∧ KnAt rows H kn ∧
  ∀ v' H', But kn H H' → KnAt rows H' kn → Res H' v' (N + 1) → Q v' H'
abbrev NTi : List Str := ["doubts", "shown", "number", "known", "depth", "branches", "look", "deeper", "tree"]
theorem scTried : FnScope NTi ["doubts", "shown", "number", "known"] (defScope sTried) := ⟨rfl, rfl, rfl, by decide +kernel, rfl, by decide +kernel, by decide +kernel⟩
theorem ok_tried {N : Nat} {f fB : Addr} {fd dB : FuncData} (F : Fun K "tried" "tried" sTried f fd) (T : Nm mg) (GB : FnOk P w K mg base CX0 (4 * N + 4) fB dB ["doubts", "group", "known"] (spBest N)) (bB : Binds K dB ["doubts", "group", "known"] []) (kB : PySem.W.keepIn K (.ref fB) = true) (mB : mg "best" = some (.ref fB)) :
    FnOk P w K mg base CX0 (4 * N + 4 + 1) f fd ["doubts", "shown", "number", "known"] (spTried N) := by
  refine F.ok scTried (fun vs H Q E h => ?_) (fun cdv A outer s H vs Q E hr h => ?_)
  · obtain ⟨vd, sh, kn, m, c, rows, gs, Hx, kvs, ks, ad, rfl, _⟩ := h
    rfl
  · obtain ⟨vd, sh, kn, m, c, rows, gs, Hx, kvs, ks, ad, rfl, hd, okd, hc, okg, hsh, pgs, hks, hN, kna, k⟩ := h
    have hu : (A.deeper (envOfC "tried" (defScope sTried) s.heap.objs.size f cdv)).units + 1 < cLine := by have := hr.un; omega
    refine' ⟨_, pss_cons ?z1 (pss_cons ?z2 (pss_cons ?z3 (pss_one ?z4))), ?zread⟩
    case z1 => exact ps_set (i := 4) scTried.nd rfl (Or.inl rfl) pe_int
    case z2 => exact ps_set (i := 5) scTried.nd rfl (Or.inl rfl) (pe_lst pa_nil)
    case z3 =>
      refine' ps_for PassesOwn.never rfl (pi_list (pe_callB (cr_sortedD rfl) (by rfl) T.sorted (by decide +kernel) (pa_cons (pv 1) pa_nil))) (pg_name (i := 6) scTried.nd rfl (Or.inl rfl)) (pss_cons ?y1 (pss_cons ?y2 (pss_one ?y3)))
      case y1 =>
        exact ps_asg (pe_call GB hr (by rfl) mB kB bB .nil pass0 (pa_cons (pv 0) (pa_cons (pe_callTy call_tuple_of (by rfl) T.tuple (by decide +kernel) (pa_cons (pe_dget hu (pv 1) (pv 6) (fun _ _ => rfl)) pa_nil)) (pa_cons (pv 3) pa_nil)))) (pg_tup (by rfl) (pgs_cons (pg_name (i := 7) scTried.nd rfl (Or.inl rfl)) (pgs_cons (pg_name (i := 8) scTried.nd rfl (Or.inl rfl)) pgs_nil)))
      case y2 => exact ps_set (i := 4) scTried.nd rfl (Or.inl rfl) (pe_callB (call_max2 rfl) (by rfl) T.max (by decide +kernel) (pa_cons (pv 4) (pa_cons (pv 7) pa_nil)))
      case y3 => exact ps_expr (pe_bm PySem.F.plainAttrs_list PySem.F.slot_list_append PySem.F.type_list_append mt_append (pv 5) (pa_cons (pe_tup (pa_cons (pv 6) (pa_cons (pv 8) pa_nil))) pa_nil))
    case z4 =>
      exact ps_ret (pe_tup (pa_cons (pe_op op_add (pv 4) pe_int) (pa_cons (pe_tup (pa_cons pe_str (pa_cons (pv 2) (pa_cons (pe_callTy call_tuple_of (by rfl) T.tuple (by decide +kernel) (pa_cons (pv 5) pa_nil)) pa_nil)))) pa_nil)))
    case zread =>
      have h8 := okd.len
      have hgl := okg.len
      have hkl := pgs.len
      refine ⟨by decide, fun br hbr => ?_⟩
      have s1 : Same H (upd H br (.lst [])) := Same.upd hbr
      have e1 : upd H br (.lst []) br = some (.lst []) := upd_same
      generalize upd H br (.lst []) = H1 at s1 e1 ⊢
      have kna1 := kna.same s1
      refine ⟨_, rfl, sh, kvs, ks, rfl, s1 _ _ hsh, pgs.keys, fun ys p hperm hsort hp => ?_⟩
      have s2 : Same H1 (upd H1 p (.lst (ys.map V.str))) := Same.upd hp
      have e2 : upd H1 p (.lst (ys.map V.str)) p = some (.lst (ys.map V.str)) := upd_same
      generalize upd H1 p (.lst (ys.map V.str)) = H2 at s2 e2 ⊢
      have e12 := s2 _ _ e1
      have kna2 := kna1.same s2
      have s02 := s1.trans s2
      have npk : p ≠ kn := kna2.ne e2 (fun _ z => by cases z)
      have nbk : br ≠ kn := kna2.ne e12 (fun _ z => by cases z)
      have nsk : sh ≠ kn := kna.ne hsh (fun _ z => by cases z)
      have hyl : ys.length = ks.length := hperm.length_eq
      refine ⟨p, rfl, ⟨_, SqL.of e2⟩, for_list (K := K) (xs := ys.map V.str) (fun i σ H3 => But kn H H3 ∧ H3 p = some (.lst (ys.map V.str)) ∧ KnAt rows H3 kn ∧ ∃ (bv : List V) (bs : List (Str × Tree)) (dd : Int) (v6 v7 v8 : Option V), σ = [some vd, some (.ref sh), some (.int (c : Nat)), some (.ref kn), some (.int dd), some (.ref br), v6, v7, v8] ∧ H3 br = some (.lst bv) ∧ bv.length = i ∧ bs.length = i ∧ DHs (hid br H3) bv (bs.map brD) ∧ ∀ b ∈ bs, strO b.1 ∧ OkTree true N b.2) ⟨But.of s02, e2, kna2, [], [], 0, _, _, _, rfl, e12, rfl, rfl, .nil, fun b hb => (by cases hb)⟩ (fun i σ H3 _ ⟨_, e3, _⟩ => SqL.of e3) ?_ ?_⟩
      · rintro i y σ H3 hy ⟨b3, e3, kna3, bv, bs, dd, v6, v7, v8, rfl, ebr, hbl, hsl, hbv, hok⟩
        rw [List.getElem?_map] at hy
        obtain ⟨x, hx, rfl⟩ := Option.map_eq_some_iff.mp hy
        have hi : i < ys.length := (List.getElem?_eq_some_iff.mp hx).1
        have hxk : x ∈ ks := hperm.mem_iff.mp (List.mem_of_getElem? hx)
        have nak : ad x ≠ kn := kna.ne (pgs.lst x hxk) (fun _ z => by cases z)
        have lx := b3 _ _ nak (pgs.lst x hxk)
        have gsh := b3 _ _ nsk hsh
        obtain ⟨kv0, ek0, kk0⟩ := id kna
        have hd3 := DH.butD ek0 b3 hd
        have gget : DGet H3 sh (.str x) (some (.ref (ad x))) := by
          have z := DGet.k (k := Sum.inr x) gsh
          rw [pgs.val x hxk] at z
          exact z
        refine ⟨_, rfl, _, rfl, _, rfl, sh, _, rfl, gget, ad x, _, rfl, .inl ⟨SqL.of lx, fun g hg => ?_⟩⟩
        have s4 : Same H3 (upd H3 g (.tup ((pg (lookAt rows c) gs x).map nV))) := Same.upd hg
        have e4 : upd H3 g (.tup ((pg (lookAt rows c) gs x).map nV)) g = some (.tup ((pg (lookAt rows c) gs x).map nV)) := upd_same
        generalize upd H3 g (.tup ((pg (lookAt rows c) gs x).map nV)) = H4 at s4 e4 ⊢
        have okx : OkG rows (pg (lookAt rows c) gs x) := ⟨(pgs.mem x).mp hxk, (List.filter_sublist).trans okg.sub⟩
        refine ⟨_, rfl, vd, g, kn, m, rows, pg (lookAt rows c) gs x, rfl, hd3.same s4, okd, e4, okx, hN x hxk, kna3.same s4, fun v' H5 b5 kna5 res5 => ?_⟩
        obtain ⟨kv4, ek4, _⟩ := kna3.same s4
        obtain ⟨d5, t5, dh5, ok5⟩ := res5
        obtain ⟨a5, w5, rfl, ea5, dw5⟩ : ∃ a5 w5, v' = .ref a5 ∧ H5 a5 = some (.tup [.int d5, w5]) ∧ DH H5 w5 (treeD t5) := by
          cases dh5 with
          | tup e q =>
            cases q with
            | cons q1 q =>
              cases q1
              cases q with
              | cons q2 q =>
                cases q
                exact ⟨_, _, rfl, e, q2⟩
        refine ⟨a5, _, rfl, SqT.of ea5, rfl, _, _, rfl, _, _, rfl, rfl, ?_⟩
        refine ⟨_, rfl, _, rfl, dd, d5, rfl, ?_⟩
        have ebr5 : H5 br = some (.lst bv) := b5 _ _ nbk (s4 _ _ ebr)
        refine ⟨_, rfl, .inl ⟨rfl, _, SqL.of ebr5⟩, _, rfl, _, rfl, by show 2 ≤ sizeLine; decide, fun t6 ht6 => ?_⟩
        have s6 : Same H5 (upd H5 t6 (.tup [.str x, w5])) := Same.upd ht6
        have e6 : upd H5 t6 (.tup [.str x, w5]) t6 = some (.tup [.str x, w5]) := upd_same
        generalize upd H5 t6 (.tup [.str x, w5]) = H6 at s6 e6 ⊢
        have ebr6 := s6 _ _ ebr5
        have nt6 : t6 ≠ br := fun z => by rw [z, ebr6] at e6; cases e6
        have b36 : But kn H3 H6 := (But.of s4).trans (b5.trans (But.of s6))
        refine ⟨br, bv, _, rfl, rfl, ebr6, small1000 (by omega), ?_⟩
        have knb : But kn H6 (upd H6 br (.lst (bv ++ [.ref t6]))) → True := fun _ => trivial
        have tr6 : DH (hid br H6) (.ref t6) (brD (x, t5)) := .tup (by rw [hid_ne nt6]; exact e6) (.cons (.str _) (.cons (DH.hide ebr6 (tree_noL ok5) (dw5.same s6)) .nil))
        obtain ⟨kv3, ek3, _⟩ := id kna3
        have ek3h : hid br H3 kn = some (.dT kv3) := by rw [hid_ne (Ne.symm nbk)]; exact ek3
        have hbv6 : DHs (hid br H6) bv (bs.map brD) := DHs.butD ek3h b36.hid hbv
        have xs : strO x := by
          have hne := okx.ne
          have hmem := head_mem hne
          have hh := (List.mem_filter.mp hmem)
          have he : lookAt rows c ((pg (lookAt rows c) gs x).headD 0) = x := of_decide_eq_true hh.2
          rw [← he]
          exact lookAt_str okd (okg.lt _ hh.1) hc
        have sU : ∀ b o, b ≠ br → H6 b = some o → upd H6 br (.lst (bv ++ [.ref t6])) b = some o := fun b o nb e => by rw [upd_ne nb]; exact e
        refine ⟨fun b o nb e => sU b o (ne_of_none e hbr) (b36 b o nb (b3 b o nb e)), sU _ _ (fun z => by rw [z, ebr] at e3; cases e3; exact absurd (s1.free hp) (fun _ => by rw [z, e1] at hp; cases hp)) (b36 _ _ npk e3), ?_, bv ++ [.ref t6], bs ++ [(x, t5)], _, _, _, _, rfl, upd_same, by rw [List.length_append, hbl]; rfl, by rw [List.length_append, hsl]; rfl, ?_, ?_⟩
        · obtain ⟨kv6, ek6, kk6⟩ := kna5.same s6
          refine ⟨kv6, sU _ _ (Ne.symm nbk) ek6, kk6.nd, fun kv hkv => ?_⟩
          obtain ⟨gs', h1, h2, d7, t7, h3, h4⟩ := kk6.ok kv hkv
          refine ⟨gs', h1, h2, d7, t7, ?_, h4⟩
          have nl : noL (.tuple [.int d7, treeD t7]) = true := by
            rw [noL]
            exact noLs_all fun d hd => by
              simp only [List.mem_cons, List.not_mem_nil, or_false] at hd
              rcases hd with rfl | rfl
              · rfl
              · exact tree_noL h4
          refine DH.same (fun b o e => ?_) (DH.hide ebr6 nl h3)
          obtain ⟨nb, e⟩ := hid_some e
          exact sU b o nb e
        · rw [hid_updD, List.map_append]
          exact DHs.snoc hbv6 tr6
        · intro b hb
          rcases List.mem_append.mp hb with z | z
          · exact hok b z
          · rw [List.mem_singleton.mp z]
            exact ⟨xs, ok5.mono (hN x hxk)⟩
      · rintro σ H3 ⟨b3, e3, kna3, bv, bs, dd, v6, v7, v8, rfl, ebr, hbl, hsl, hbv, hok⟩
        rw [List.length_map] at hbl hsl
        refine ⟨_, rfl, _, _, rfl, rfl, _, rfl, _, rfl, br, _, rfl, .inl ⟨SqL.of ebr, fun l hl => ?_⟩⟩
        have s4 : Same H3 (upd H3 l (.tup bv)) := Same.upd hl
        have e4 : upd H3 l (.tup bv) l = some (.tup bv) := upd_same
        generalize upd H3 l (.tup bv) = H4 at s4 e4 ⊢
        refine ⟨by show 3 ≤ sizeLine; decide, fun q5 hq5 => ?_⟩
        have s5 : Same H4 (upd H4 q5 (.tup [.str "try", .int (c : Nat), .ref l])) := Same.upd hq5
        have e5 : upd H4 q5 (.tup [.str "try", .int (c : Nat), .ref l]) q5 = some (.tup [.str "try", .int (c : Nat), .ref l]) := upd_same
        generalize upd H4 q5 (.tup [.str "try", .int (c : Nat), .ref l]) = H5 at s5 e5 ⊢
        refine ⟨by show 2 ≤ sizeLine; decide, fun q6 hq6 => ?_⟩
        have s6 : Same H5 (upd H5 q6 (.tup [.int (dd + 1), .ref q5])) := Same.upd hq6
        have e6 : upd H5 q6 (.tup [.int (dd + 1), .ref q5]) q6 = some (.tup [.int (dd + 1), .ref q5]) := upd_same
        generalize upd H5 q6 (.tup [.int (dd + 1), .ref q5]) = H6 at s6 e6 ⊢
        have s36 := s4.trans (s5.trans s6)
        refine k _ H6 (b3.trans (But.of s36)) (kna3.same s36) ⟨dd + 1, .trial (c : Nat) bs, ?_, .trial (by omega) (fun _ z => ?_) (fun b hb => (hok b hb).1) fun b hb => (hok b hb).2⟩
        · refine .tup e6 (.cons (.int _) (.cons ?_ .nil))
          rw [treeD, brsD_map]
          refine .tup (s6 _ _ e5) (.cons (.str _) (.cons (.int _) (.cons (.tup (s6 _ _ (s5 _ _ e4)) ?_) .nil)))
          exact DHs.same s36 (DHs.same hid_same hbv)
        · rw [z] at hsl
          have : ks.length = 0 := by rw [← hyl, ← hsl]; rfl
          exact hks (List.eq_nil_of_length_eq_zero this)
end
end Gl

set_option Elab.async false
set_option linter.all false
set_option maxRecDepth 100000
set_option maxHeartbeats 1000000
namespace Gl
open PySem L2 PyProof.Rows
abbrev sBestT : Stmt := top 4
abbrev sBest : Stmt := top 5
abbrev sLeastT : Stmt := top 6
/-! ### parts of a group -/
theorem two_lt {rows : List (List Str)} {f : Nat → Str} {H0 H : Hp} {kvs : List (Key × V)} {gs : List Nat} {ks : List Str} {ad : Str → Addr} (p : PG H0 H kvs f gs ks ad) (h2 : 2 ≤ ks.length) : ∀ x ∈ ks, (pg f gs x).length < gs.length := by
  intro x hx
  obtain ⟨y, hy, hne⟩ : ∃ y ∈ ks, y ≠ x := by
    refine Classical.byContradiction fun hno => ?_
    have all : ∀ y ∈ ks, y = x := fun y hy => Classical.byContradiction fun z => hno ⟨y, hy, z⟩
    match ks, h2, all, p.nd with
    | a :: b :: _, _, all, nd =>
      rw [List.nodup_cons] at nd
      exact nd.1 (by rw [all a List.mem_cons_self, ← all b (List.mem_cons_of_mem _ List.mem_cons_self)]; exact List.mem_cons_self)
  have hn := (p.mem y).mp hy
  obtain ⟨i, hi⟩ := List.exists_mem_of_ne_nil _ hn
  have hi' := List.mem_filter.mp hi
  unfold pg
  rw [List.length_filter_lt_length_iff_exists]
  refine ⟨i, hi'.1, ?_⟩
  have : f i = y := of_decide_eq_true hi'.2
  rw [this]
  simp [hne]
theorem one_col {f : Nat → Str} {H0 H : Hp} {kvs : List (Key × V)} {gs : List Nat} {ks : List Str} {ad : Str → Addr} (p : PG H0 H kvs f gs ks ad) (h2 : ¬ 2 ≤ ks.length) : ∀ i ∈ gs, ∀ j ∈ gs, f i = f j := by
  intro i hi j hj
  have mi : f i ∈ ks := (p.mem _).mpr (List.ne_nil_of_mem (List.mem_filter.mpr ⟨hi, decide_eq_true rfl⟩))
  have mj : f j ∈ ks := (p.mem _).mpr (List.ne_nil_of_mem (List.mem_filter.mpr ⟨hj, decide_eq_true rfl⟩))
  match ks, h2, mi, mj with
  | [], _, mi, _ => cases mi
  | [a], _, mi, mj => rw [List.mem_singleton.mp mi, List.mem_singleton.mp mj]
  | _ :: _ :: _, h2, _, _ => exact absurd (by simp) h2
theorem same_of_cols {m : Nat} {rows : List (List Str)} {gs : List Nat} (okd : OkD m rows) (okg : OkG rows gs) (h : ∀ c, c < m → ∀ i ∈ gs, ∀ j ∈ gs, lookAt rows c i = lookAt rows c j) : allSame rows gs = true := by
  unfold allSame
  rw [List.all_eq_true]
  intro i hi
  refine decide_eq_true ?_
  have h0 := head_mem okg.ne
  have l1 := okd.col _ (rowAt_mem (okg.lt i hi))
  have l2 := okd.col _ (rowAt_mem (okg.lt _ h0))
  refine List.ext_getElem? fun c => ?_
  by_cases hc : c < m
  · rw [lookAt_get okd (okg.lt i hi) hc, lookAt_get okd (okg.lt _ h0) hc, h c hc i hi _ h0]
  · rw [List.getElem?_eq_none (by omega), List.getElem?_eq_none (by omega)]
section
variable {P : Program} {w : World} {K : PySem.W.Frag} {mg : Str → Option Value} {base : Heap}
def spBestT (N : Nat) : Sp := fun vs H Q _ => ∃ (vd : V) (g kn : Addr) (m : Nat) (rows : List (List Str)) (gs : List Nat), vs = [vd, .ref g, .ref kn] ∧ DH H vd (doubtD rows) ∧ OkD m rows ∧ H g = some (.tup (gs.map nV)) ∧ OkG rows gs ∧ gs.length ≤ N + 1 ∧ allSame rows gs = false ∧ KnAt rows H kn ∧
  ∀ v' H', But kn H H' → KnAt rows H' kn → Res H' v' gs.length → Q v' H'
abbrev NBt : List Str := ["doubts", "group", "known", "told", "number", "shown", "found"]
theorem scBestT : FnScope NBt ["doubts", "group", "known"] (defScope sBestT) := ⟨rfl, rfl, rfl, by decide +kernel, rfl, by decide +kernel, by decide +kernel⟩
theorem res_at {H : Hp} {v : V} {sz : Nat} (h : Res H v sz) : ∃ a d w, v = .ref a ∧ H a = some (.tup [.int d, w]) := by
  obtain ⟨d, t, h, _⟩ := h
  cases h with
  | tup e q =>
    cases q with
    | cons q1 q =>
      cases q1
      cases q with
      | cons q2 q =>
        cases q
        exact ⟨_, _, _, rfl, e⟩
theorem ok_bestT {N : Nat} {f fP fT : Addr} {fd dP dT' : FuncData} (F : Fun K "best_trial" "best_trial" sBestT f fd) (T : Nm mg) (GP : FnOk P w K mg base CX0 1 fP dP ["doubts", "group", "number"] spParted) (bP : Binds K dP ["doubts", "group", "number"] []) (kP : PySem.W.keepIn K (.ref fP) = true) (mP : mg "parted" = some (.ref fP))
    (GT : ∀ n, n ≤ N → FnOk P w K mg base CX0 (4 * N + 5) fT dT' ["doubts", "shown", "number", "known"] (spTried n)) (bT : Binds K dT' ["doubts", "shown", "number", "known"] []) (kT : PySem.W.keepIn K (.ref fT) = true) (mT : mg "tried" = some (.ref fT)) :
    FnOk P w K mg base CX0 (4 * N + 5 + 1) f fd ["doubts", "group", "known"] (spBestT N) := by
  refine F.ok scBestT (fun vs H Q E h => ?_) (fun cdv A outer s H vs Q E hr h => ?_)
  · obtain ⟨vd, g, kn, m, rows, gs, rfl, _⟩ := h
    rfl
  · obtain ⟨vd, g, kn, m, rows, gs, rfl, hd, okd, hg, okg, hgN, hns, kna, k⟩ := h
    have hr1 := hr.mono (show 1 ≤ 4 * N + 5 by omega)
    obtain ⟨M, hM⟩ : ∃ M, gs.length = M + 1 := by
      cases gs with
      | nil => exact absurd rfl okg.ne
      | cons _ r => exact ⟨r.length, rfl⟩
    have GT' := GT M (by omega)
    refine' ⟨_, pss_cons ?z1 (pss_cons ?z2 (pss_one (ps_ret (pv 3)))), ?zread⟩
    case z1 => exact ps_set (i := 3) scBestT.nd rfl (Or.inl rfl) pe_non
    case z2 =>
      refine' ps_for PassesOwn.never rfl (pi_range1 (by rfl) T.range (pa_cons (pe_callB call_len_seq (by rfl) T.len PySem.boot_len (pa_cons (pe_ix ix_tup (pv 0) (pe_ix ix_tup (pv 1) pe_int (fun _ _ => rfl)) (fun _ _ => rfl)) pa_nil)) pa_nil)) (pg_name (i := 4) scBestT.nd rfl (Or.inl rfl)) (pss_cons ?y1 (pss_one ?y2))
      case y1 => exact ps_set (i := 5) scBestT.nd rfl (Or.inl rfl) (pe_call GP hr1 (by rfl) mP kP bP .nil pass0 (pa_cons (pv 0) (pa_cons (pv 1) (pa_cons (pv 4) pa_nil))))
      case y2 =>
        exact ps_if (pt_cmpR op_gt (pe_callB call_lenD (by rfl) T.len PySem.boot_len (pa_cons (pv 5) pa_nil)) pe_int (nomark _)) (pss_cons (ps_set (i := 6) scBestT.nd rfl (Or.inl rfl) (pe_call GT' hr (by rfl) mT kT bT .nil pass0 (pa_cons (pv 0) (pa_cons (pv 5) (pa_cons (pv 4) (pa_cons (pv 2) pa_nil))))))
          (pss_one (ps_if (PW.pt (pw_or (pt_cmp (pc_isN (pv 3))) (pw_or1 (pt_cmpR op_lt (pe_ix ix_tup (pv 6) pe_int (fun _ _ => rfl)) (pe_ix ix_tup (pv 3) pe_int (fun _ _ => rfl)) (nomark _))))) (pss_one (ps_set (i := 3) scBestT.nd rfl (Or.inl rfl) (pv 6))) pss_nil))) pss_nil
    case zread =>
      obtain ⟨a, us, rfl, ha, hus, hul⟩ := doubt_at hd
      have h8 := okd.len
      have hm8 := okd.m8
      have hgl := okg.len
      have h0 := head_mem okg.ne
      obtain ⟨v0, hv0, dv0⟩ := get_row hus (okg.lt _ h0)
      obtain ⟨a0, rfl, ha0⟩ := row_at dv0
      have eg0 : atI (gs.map nV) 0 = some (nV (gs.headD 0)) := by
        cases gs with
        | nil => exact absurd rfl okg.ne
        | cons x _ => exact L2.at_of (j := 0) rfl rfl
      have hlm : (rowAt rows (gs.headD 0)).length = m := okd.col _ (rowAt_mem (okg.lt _ h0))
      obtain ⟨kv0, ek0, _⟩ := id kna
      have ngk : g ≠ kn := kna.ne hg (fun _ z => by cases z)
      refine ⟨_, rfl, _, rfl, g, _, 0, _, rfl, rfl, SqT.of hg, eg0, a, us, _, _, rfl, rfl, SqT.of ha, L2.atI_nat hv0, a0, _, rfl, .inr (SqT.of ha0), _, rfl, by rw [List.length_map]; omega, by rw [List.length_map]; omega, ?_⟩
      rw [List.length_map, hlm]
      refine for_range (lo := 0) (n := _) (fun i σ H3 => But kn H H3 ∧ KnAt rows H3 kn ∧ ∃ (vt : V) (v4 v5 v6 : Option V), σ = [some (.ref a), some (.ref g), some (.ref kn), some vt, v4, v5, v6] ∧ ((vt = .non ∧ ∀ c, c < i → ∀ x ∈ gs, ∀ y ∈ gs, lookAt rows c x = lookAt rows c y) ∨ Res H3 vt gs.length)) ⟨But.refl, kna, .non, _, _, _, rfl, .inl ⟨rfl, fun c hc => by omega⟩⟩ ?_ ?_
      · rintro i σ H3 hi ⟨b3, kna3, vt, v4, v5, v6, rfl, hcase⟩
        have hi' : i < m := by have := hi; omega
        have hd3 : DH H3 (.ref a) (doubtD rows) := DH.butD ek0 b3 hd
        have hg3 := b3 _ _ ngk hg
        rw [Int.zero_add]
        refine ⟨_, rfl, _, rfl, _, rfl, .ref a, g, m, i, rows, gs, rfl, hd3, okd, hg3, okg, hi', fun D H4 kvs ks ad s4 hD e4 p4 => ?_⟩
        have kna4 := kna3.same s4
        have b4 : But kn H H4 := b3.trans (But.of s4)
        refine ⟨_, rfl, D, kvs, rfl, e4, _, _, rfl, rfl, _, rfl, ?_⟩
        rw [p4.klen]
        by_cases h2 : 2 ≤ ks.length
        · rw [decide_eq_true (by omega : (1 : Int) < (ks.length : Nat))]
          have hlt := two_lt (rows := rows) p4 h2
          refine iteT ⟨_, rfl, _, rfl, _, rfl, _, rfl, .ref a, D, kn, m, i, rows, gs, H3, kvs, ks, ad, rfl, hd3.same s4, okd, hi', okg, e4, p4, (fun z => by rw [z] at h2; exact absurd h2 (by decide)), fun x hx => by have := hlt x hx; omega, kna4, fun v' H5 b5 kna5 res5 => ?_⟩
          have b05 := b4.trans b5
          rw [← hM] at res5
          refine ⟨_, rfl, _, rfl, ?_⟩
          rcases hcase with ⟨rfl, _⟩ | rs
          · exact iteT (iteT ⟨_, rfl, b05, kna5, v', _, _, _, rfl, .inr res5⟩)
          · have rs5 : Res H5 vt gs.length := by
              obtain ⟨kv4, ek4, _⟩ := id kna4
              exact (rs.same s4).butD ek4 b5
            obtain ⟨a1, d1, w1, rfl, ea1⟩ := res_at rs5
            obtain ⟨a2, d2, w2, rfl, ea2⟩ := res_at res5
            rw [decide_eq_false (by simp)]
            refine iteF ⟨_, rfl, a2, _, 0, .int d2, rfl, rfl, SqT.of ea2, rfl, _, rfl, a1, _, 0, .int d1, rfl, rfl, SqT.of ea1, rfl, _, _, rfl, rfl, _, rfl, ?_⟩
            by_cases hlt' : d2 < d1
            · rw [decide_eq_true hlt']
              exact iteT ⟨_, rfl, b05, kna5, _, _, _, _, rfl, .inr res5⟩
            · rw [decide_eq_false hlt']
              exact iteF ⟨b05, kna5, _, _, _, _, rfl, .inr rs5⟩
        · rw [decide_eq_false (by omega : ¬ (1 : Int) < (ks.length : Nat))]
          refine iteF ⟨b4, kna4, vt, _, _, _, rfl, ?_⟩
          rcases hcase with ⟨rfl, hall⟩ | rs
          · refine .inl ⟨rfl, fun c hc => ?_⟩
            by_cases hci : c = i
            · subst hci
              exact one_col p4 h2
            · exact hall c (by omega)
          · exact .inr (rs.same s4)
      · rintro σ H3 ⟨b3, kna3, vt, v4, v5, v6, rfl, hcase⟩
        rcases hcase with ⟨rfl, hall⟩ | rs
        · have z := same_of_cols okd okg fun c hc => hall c (by omega)
          rw [hns] at z
          cases z
        · exact ⟨_, rfl, k vt H3 b3 kna3 rs⟩
/-! ### best -/
abbrev NBe : List Str := ["doubts", "group", "known"]
theorem scBest : FnScope NBe ["doubts", "group", "known"] (defScope sBest) := ⟨rfl, rfl, rfl, by decide +kernel, rfl, by decide +kernel, by decide +kernel⟩
theorem kn_get {rows : List (List Str)} {H : Hp} {kvs : List (List Key × V)} (k : Kn rows H kvs) {gs : List Nat} {v : V} (h : valV kvs (keyOf gs) = some v) : Res H v gs.length := by
  unfold valV at h
  obtain ⟨kv, hkv, rfl⟩ := Option.map_eq_some_iff.mp h
  have z := List.find?_some hkv
  have e : kv.1 = keyOf gs := of_decide_eq_true z
  obtain ⟨gs', h1, h2, h3⟩ := k.ok kv (List.mem_of_find?_eq_some hkv)
  have : gs'.length = gs.length := by rw [← keyOf_len gs', ← keyOf_len gs, ← h1, e]
  rw [← this]
  exact h3
theorem kn_put {rows : List (List Str)} {H : Hp} {kvs : List (List Key × V)} (k : Kn rows H kvs) {gs : List Nat} {v : V} (hn : valV kvs (keyOf gs) = none) (hs : gs.Sublist (List.range rows.length)) (hv : Res H v gs.length) : Kn rows H (putK kvs (keyOf gs) v) := by
  have hput : putK kvs (keyOf gs) v = kvs ++ [(keyOf gs, v)] := by
    unfold putK
    rw [if_neg (by rw [valV_any, hn]; simp)]
  rw [hput]
  refine ⟨?_, fun kv hkv => ?_⟩
  · rw [List.map_append, List.nodup_append]
    refine ⟨k.nd, by simp, fun a ha c hc => ?_⟩
    have hc : c = keyOf gs := List.mem_singleton.mp hc
    rw [hc]
    intro z
    rw [z] at ha
    exact valV_not hn ha
  · rcases List.mem_append.mp hkv with z | z
    · exact k.ok kv z
    · rw [List.mem_singleton.mp z]
      exact ⟨gs, rfl, hs, hv⟩
theorem ok_best {N : Nat} {f fA fT : Addr} {fd dA dT' : FuncData} (F : Fun K "best" "best" sBest f fd) (GA : FnOk P w K mg base CX0 1 fA dA ["doubts", "group"] spAre) (bA : Binds K dA ["doubts", "group"] []) (kA : PySem.W.keepIn K (.ref fA) = true) (mA : mg "are_same" = some (.ref fA))
    (GT : FnOk P w K mg base CX0 (4 * N + 6) fT dT' ["doubts", "group", "known"] (spBestT N)) (bT : Binds K dT' ["doubts", "group", "known"] []) (kT : PySem.W.keepIn K (.ref fT) = true) (mT : mg "best_trial" = some (.ref fT)) :
    FnOk P w K mg base CX0 (4 * N + 6 + 1) f fd ["doubts", "group", "known"] (spBest (N + 1)) := by
  refine F.ok scBest (fun vs H Q E h => ?_) (fun cdv A outer s H vs Q E hr h => ?_)
  · obtain ⟨vd, g, kn, m, rows, gs, rfl, _⟩ := h
    rfl
  · obtain ⟨vd, g, kn, m, rows, gs, rfl, hd, okd, hg, okg, hgN, kna, k⟩ := h
    have hr1 := hr.mono (show 1 ≤ 4 * N + 6 by omega)
    have hu : (A.deeper (envOfC "best" (defScope sBest) s.heap.objs.size f cdv)).units + 1 < cLine := by have := hr.un; omega
    refine' ⟨_, pss_cons ?z1 (pss_cons ?z2 (pss_one ?z3)), ?zread⟩
    case z1 => exact ps_if (pt_val (pe_call GA hr1 (by rfl) mA kA bA .nil pass0 (pa_cons (pv 0) (pa_cons (pv 1) pa_nil)))) (pss_one (ps_ret (pe_tup (pa_cons pe_int (pa_cons (pe_tup (pa_cons pe_str (pa_cons (pv 1) pa_nil))) pa_nil))))) pss_nil
    case z2 => exact ps_if (pt_cmp (pc_dnotin hu (pv 1) (pv 2))) (pss_one (ps_dput hu (pv 2) (pv 1) (pe_call GT hr (by rfl) mT kT bT .nil pass0 (pa_cons (pv 0) (pa_cons (pv 1) (pa_cons (pv 2) pa_nil)))) (by rfl))) pss_nil
    case z3 => exact ps_ret (pe_dget hu (pv 2) (pv 1) (fun _ _ => rfl))
    case zread =>
      have h8 := okd.len
      have hgl := okg.len
      have ngk : g ≠ kn := kna.ne hg (fun _ z => by cases z)
      refine ⟨_, rfl, _, rfl, vd, g, m, rows, gs, rfl, hd, okd, hg, okg, fun H1 s1 => ?_⟩
      refine ⟨_, rfl, ?_⟩
      have hg1 := s1 _ _ hg
      have kna1 := kna.same s1
      cases hs : allSame rows gs with
      | true =>
        refine ⟨_, rfl, by show 2 ≤ sizeLine; decide, fun p2 hp2 => ?_⟩
        have s2 : Same H1 (upd H1 p2 (.tup [.str "known", .ref g])) := Same.upd hp2
        have e2 : upd H1 p2 (.tup [.str "known", .ref g]) p2 = some (.tup [.str "known", .ref g]) := upd_same
        generalize upd H1 p2 (.tup [.str "known", .ref g]) = H2 at s2 e2 ⊢
        refine ⟨by show 2 ≤ sizeLine; decide, fun p3 hp3 => ?_⟩
        have s3 : Same H2 (upd H2 p3 (.tup [.int 0, .ref p2])) := Same.upd hp3
        have e3 : upd H2 p3 (.tup [.int 0, .ref p2]) p3 = some (.tup [.int 0, .ref p2]) := upd_same
        generalize upd H2 p3 (.tup [.int 0, .ref p2]) = H3 at s3 e3 ⊢
        have s13 := s2.trans s3
        have e : gs.map nV = (gs.map fun n : Nat => (n : Int)).map V.int := by rw [List.map_map]; rfl
        refine k _ H3 (But.of (s1.trans s13)) (kna1.same s13) ⟨0, .known (gs.map fun n : Nat => (n : Int)), ?_, ?_⟩
        · refine .tup e3 (.cons (.int _) (.cons ?_ .nil))
          rw [treeD]
          refine .tup (s3 _ _ e2) (.cons (.str _) (.cons (.tup (s13 _ _ (by rw [e] at hg1; exact hg1)) (ints_dh _)) .nil))
        · obtain ⟨M, hM⟩ : ∃ M, gs.length = M + 1 := by
            cases gs with
            | nil => exact absurd rfl okg.ne
            | cons _ r => exact ⟨r.length, rfl⟩
          rw [hM]
          exact .known (by rw [List.length_map]; show gs.length ≤ 900; omega)
      | false =>
        obtain ⟨kvs, ek, kk⟩ := id kna1
        have gk : H1 g = some (.tup ((keyOf gs).map kV)) := by rw [keyOf_kV]; exact hg1
        refine ⟨_, rfl, _, rfl, kn, _, rfl, DGet.t ek gk, _, rfl, ?_⟩
        cases hv : valV kvs (keyOf gs) with
        | some v =>
          refine iteF ?_
          have gget : DGet H1 kn (.ref g) (some v) := by
            have z := DGet.t ek gk
            rw [hv] at z
            exact z
          exact ⟨_, rfl, _, rfl, kn, v, rfl, gget, k v H1 (But.of s1) kna1 (kn_get kk hv)⟩
        | none =>
          refine iteT ⟨_, rfl, _, rfl, _, rfl, vd, g, kn, m, rows, gs, rfl, hd.same s1, okd, hg1, okg, hgN, hs, kna1, fun v' H2 b2 kna2 res2 => ?_⟩
          obtain ⟨kvs2, ek2, kk2⟩ := id kna2
          have hg2 := b2 _ _ ngk hg1
          have gk2 : H2 g = some (.tup ((keyOf gs).map kV)) := by rw [keyOf_kV]; exact hg2
          have hl := kk2.len h8
          refine ⟨_, rfl, _, rfl, kn, _, rfl, DPut.t ek2 gk2 (small1000 (by omega)), ?_⟩
          -- the dict as it stands then
          have nl : ∀ {v : V} {sz : Nat}, Res H2 v sz → Res (upd H2 kn (.dT (putK kvs2 (keyOf gs) v'))) v sz := fun h => h.butD ek2 (fun b o nb e => by rw [upd_ne nb]; exact e)
          have b3 : But kn H2 (upd H2 kn (.dT (putK kvs2 (keyOf gs) v'))) := fun b o nb e => by rw [upd_ne nb]; exact e
          have gk3 : upd H2 kn (.dT (putK kvs2 (keyOf gs) v')) g = some (.tup ((keyOf gs).map kV)) := by rw [upd_ne ngk]; exact gk2
          have gget : DGet (upd H2 kn (.dT (putK kvs2 (keyOf gs) v'))) kn (.ref g) (some v') := by
            have z := DGet.t (H := upd H2 kn (.dT (putK kvs2 (keyOf gs) v'))) upd_same gk3
            rw [valV_put, if_pos rfl] at z
            exact z
          have kn3 : KnAt rows (upd H2 kn (.dT (putK kvs2 (keyOf gs) v'))) kn := by
            cases hv2 : valV kvs2 (keyOf gs) with
            | none =>
              have z := kn_put kk2 hv2 okg.sub res2
              refine ⟨_, upd_same, z.nd, fun kv hkv => ?_⟩
              obtain ⟨gs', h1, h2, h3⟩ := z.ok kv hkv
              exact ⟨gs', h1, h2, nl h3⟩
            | some v2 =>
              refine ⟨_, upd_same, ?_, fun kv hkv => ?_⟩
              · unfold putK
                rw [if_pos (by rw [valV_any, hv2]; rfl), List.map_map]
                have : (kvs2.map (Prod.fst ∘ fun kv => if kv.1 = keyOf gs then (kv.1, v') else kv)) = kvs2.map Prod.fst := List.map_congr_left fun kv _ => by
                  show (if kv.1 = keyOf gs then (kv.1, v') else kv).1 = kv.1
                  split <;> rfl
                rw [this]
                exact kk2.nd
              · unfold putK at hkv
                rw [if_pos (by rw [valV_any, hv2]; rfl)] at hkv
                obtain ⟨kv', hkv', rfl⟩ := List.mem_map.mp hkv
                obtain ⟨gs', h1, h2, h3⟩ := kk2.ok kv' hkv'
                by_cases he : kv'.1 = keyOf gs
                · rw [if_pos he]
                  exact ⟨gs, he, okg.sub, nl res2⟩
                · rw [if_neg he]
                  exact ⟨gs', h1, h2, nl h3⟩
          exact ⟨_, rfl, _, rfl, kn, v', rfl, gget, k v' _ ((But.of s1).trans (b2.trans b3)) kn3 (nl res2)⟩
/-! ### least_tree -/
def spLeastT : Sp := fun vs H Q _ => ∃ (vd : V) (m : Nat) (rows : List (List Str)), vs = [vd] ∧ DH H vd (doubtD rows) ∧ OkD m rows ∧ ∀ v' H', Same H H' → Res H' v' 8 → Q v' H'
end
end Gl

set_option Elab.async false
set_option linter.all false
set_option maxRecDepth 100000
set_option maxHeartbeats 1000000
namespace L2
open PySem PySem.Spec PyProof.Rows
open PySem.AutoSeq1 (wpAny_loadPart')
section
variable {prog : Program} {w : World} {A : Around} {E : Value → Shared → Prop} {s : Shared}
/-- the numbers of a range, collected -/
theorem collect_range {Q : List Value → Shared → Prop} {r : Addr} {a b c : Int} {t u v : Tok} {n : Nat} (hh : A.handled = none) (hr : IsRange s.heap r a b c t u v) (hsmall : Builtin.Range.small a b c = true) (hn : Builtin.Range.rangeSize a b c = n) (hlen : n ≤ 2 ^ 24)
    (hQ : ∀ (h' : Heap) (tk : Nat) (acc : Array Value), (∀ b o, s.heap.get? b = some o → h'.get? b = some o) → ItemsOf (fun i v => ∃ t, v = .int (a + i * c) t) acc n → Q acc.toList { s with heap := h', toks := tk }) :
    wpAny (model prog w) A (collect (.ref r)) Q E s := by
  unfold collect
  refine wpAny_bind (wpAny_runValue (codeAny_builtin PySem.F.entry_proto_collect ?_))
  rw [Around.under_plainId PySem.F.plain_proto_collect _]
  show wpAny _ A.in1 (newList [] >>= fun l => again (.builtin "list.__iadd__" ⟨[l, .ref r], []⟩)) _ _ s
  refine wpAny_bind (wpAny_newObj_type ?_)
  refine wpAny_pure ⟨plainId_quiet PySem.F.plain_list_iadd _, codeAny_builtin PySem.F.entry_list_iadd ?_⟩
  rw [Around.under_plainId PySem.F.plain_list_iadd _]
  show wpAny _ A.in1 (Builtin.List.listExtendWith (.ref s.heap.objs.size) (.ref r) (.ref s.heap.objs.size)) _ _ _
  have hS : (s.heap.push { cls := .type "list", data := .seq ([] : List Value).toArray }).get? s.heap.objs.size = some { cls := .type "list", data := .seq #[] 0 } := Heap.get?_push_size _ rfl
  have last : ∀ s' : Shared, (∃ (h' : Heap) (tk : Nat) (acc : Array Value) (c' : Nat), s' = { s with heap := h', toks := tk } ∧ (∀ b o, s.heap.get? b = some o → h'.get? b = some o) ∧ h'.get? s.heap.objs.size = some { cls := .type "list", dict := none, data := .seq acc c', slots := #[] } ∧ ItemsOf (fun i v => ∃ t, v = .int (a + i * c) t) acc n) →
      wpAny (model prog w) A (match Value.ref s.heap.objs.size with
        | Value.ref a => do
          match (← load a).data with
            | Data.seq xs _ => pure xs.toList
            | _ => unsupported "internal:collect"
        | _ => unsupported "internal:collect") Q E s' := by
    rintro s' ⟨h', tk, acc, c', rfl, hk, hl, hit⟩
    show wpAny _ A (load s.heap.objs.size >>= _) _ _ _
    exact wpAny_bind (wpAny_load hl (wpAny_pure (hQ h' tk acc hk hit)))
  refine wpAny_mono (wpAny_extend_range (A := A) (R := fun q s' => q = .ok (.ret (.ref s.heap.objs.size)) ∧ ∃ (h' : Heap) (tk : Nat) (acc : Array Value) (c' : Nat), s' = { s with heap := h', toks := tk } ∧ (∀ b o, s.heap.get? b = some o → h'.get? b = some o) ∧ h'.get? s.heap.objs.size = some { cls := .type "list", dict := none, data := .seq acc c', slots := #[] } ∧ ItemsOf (fun i v => ∃ t, v = .int (a + i * c) t) acc n)
    (s := { s with heap := s.heap.push { cls := .type "list", data := .seq ([] : List Value).toArray } }) hh (Heap.get?_push_of_some _ hr) hsmall hn hlen s.heap.objs.size (.ref s.heap.objs.size) 0 hS fun h' tk acc c' hk hS' hit => ⟨rfl, h', tk, acc, c', rfl, fun b o e => hk b o (Nat.ne_of_lt (Heap.lt_size e)) (Heap.get?_push_of_some _ e), hS', hit⟩) (fun fin s' h => ?_) (fun e s' h => ?_)
  · cases fin with
    | done f =>
      obtain ⟨e, h⟩ := h
      cases e
      exact last s' h
    | again c' => exact ⟨h.1, codeAny_mono h.2 fun q s'' hq => by obtain ⟨rfl, h⟩ := hq; exact last s'' h⟩
  · exact absurd h.1 (by simp)
end
theorem meets_tuple_range {prog : Program} {w : World} (r : Addr) (a b c : Int) (t u v : Tok) (n : Nat) (hsmall : Builtin.Range.small a b c = true) (hn : Builtin.Range.rangeSize a b c = n) (hlen : n ≤ 1000) :
    MeetsIn prog w (Builtin.«tuple.__new__» ⟨[.type "tuple", .ref r], []⟩)
      (fun A R s => A.handled = none ∧ IsRange s.heap r a b c t u v ∧ ∀ (h' : Heap) (tk : Nat) (acc : Array Value), (∀ b o, s.heap.get? b = some o → h'.get? b = some o) → ItemsOf (fun i v => ∃ t, v = .int (a + i * c) t) acc n →
        R (.ok (.ret (.ref h'.objs.size))) { s with heap := h'.push { cls := .type "tuple", data := .seq acc.toList.toArray }, toks := tk }) :=
  .of_wp fun A R s h => by
    obtain ⟨hp, g, dr, tk, os⟩ := s
    obtain ⟨hh, hv, h⟩ := h
    have hsub := sub_tuple_self
    have hinit := init_tuple_lookup
    have hmh := madeHere_tuple
    have hT : Shared.TypeIs ⟨hp, g, dr, tk, os⟩ (.ref r) "range" := ⟨_, hv, rfl⟩
    have ho : hp.get? r = _ := hv
    unfold Builtin.«tuple.__new__»
    repeat (first | ((with_reducible show wpAny _ _ (collect (Value.ref r)) _ _ _); refine collect_range hh hv hsmall hn (by omega) ?_) | (with_reducible refine wpAny_loadPart' ho ?_) | (with_reducible refine wpAny_typeOf hT ?_) | wp_step)
    intro h' tk' acc hk hit
    show wpAny _ _ (Builtin.Tuple.tupleExact acc.toList.toArray >>= fun v => ret v) _ _ _
    unfold Builtin.Tuple.tupleExact
    refine wpAny_bind (wpAny_newObj_type ?_ (by show acc.toList.toArray.size ≤ sizeLine; rw [List.size_toArray, Array.length_toList, hit.1]; exact Nat.le_of_lt (small1000 hlen)))
    exact wpAny_pure ⟨_, rfl, h h' tk' acc hk hit⟩
theorem fresh_of {X : Cx} {pins : List (Addr × Obj)} {σ : St} {H : Hp} {s : Shared} {h' : Heap} (I : Inv X pins σ H s) (hk : ∀ b u, s.heap.get? b = some u → h'.get? b = some u) : H h'.objs.size = none ∧ s.heap.get? h'.objs.size = none := by
  refine ⟨(I.hok.kept hk).fresh (Nat.le_refl _), ?_⟩
  cases e : s.heap.get? h'.objs.size with
  | none => rfl
  | some o => exact absurd (Heap.lt_size (hk _ _ e)) (Nat.lt_irrefl _)
theorem vals_from : ∀ (l : List Value) (k : Nat), (∀ j v, l[j]? = some v → ∃ t, v = Value.int ((k + j : Nat) : Int) t) → Vals ((List.range' k l.length).map fun n : Nat => V.int (n : Nat)) l
  | [], _, _ => .nil
  | v :: l, k, h => by
    rw [List.length_cons, List.range'_succ, List.map_cons]
    obtain ⟨t, e⟩ := h 0 v rfl
    refine .cons ⟨t, e⟩ (vals_from l (k + 1) fun j w hw => ?_)
    obtain ⟨t', e'⟩ := h (j + 1) w (by simpa using hw)
    exact ⟨t', by rw [e']; congr 1; omega⟩
def tTupRng (ta : TA) : TE := fun σ H Q => ta σ H fun vs H1 => ∃ j : Nat, vs = [.int (j : Nat)] ∧ j ≤ 1000 ∧ ∀ p H', Same H1 H' → H1 p = none → H' p = some (.tup ((List.range j).map fun n : Nat => V.int (n : Nat))) → Q (.ref p) H'
theorem pe_tupRange {X : Cx} {a : Expr} {ta : TA} {p p2 pos pos2 : Pos} (hc : X.calm = true) (hgl : Gl X "tuple") (hml : X.mg "tuple" = none) (hg : Gl X "range") (hm : X.mg "range" = none) (ha : PA X [a] ta) (hs : starEach [a] X.env = [(false, eval a X.env)] := by rfl)
    (hs2 : starEach [Expr.Call (.Name "range" p2) [a] [] pos2] X.env = [(false, eval (Expr.Call (.Name "range" p2) [a] [] pos2) X.env)] := by rfl) :
    PE X (.Call (.Name "tuple" p) [.Call (.Name "range" p2) [a] [] pos2] [] pos) (tTupRng ta) := by
  intro pins s σ H Q I h
  refine wpAny_Call_Name_kw (ld_blt I hgl hml (u := .type "tuple") (by decide +kernel) ?_ (by decide) (by decide))
  refine PyProof.Rows.callWith_type1 ?_ hs2 rfl
  rw [hs2]
  show wpAny _ _ (spliced ((false, eval (Expr.Call (.Name "range" p2) [a] [] pos2) X.env) :: backTo pos [])) _ _ s
  refine Calls.spliced_cons (Call_ (ld_blt I hg hm boot_range (PyProof.Rows.callWith_type1 (thn (ha pos2 pins s σ H _ I h) fun us s1 ⟨vs, H1, I1, r1, q1⟩ => ?_) hs rfl)))
  obtain ⟨j, e, hj, q⟩ := q1
  subst e
  cases r1 with
  | cons r rr =>
    cases rr
    obtain ⟨t, rfl⟩ := r
    refine call_range_1 (Calls.spliced_nil ?_)
    have I2 : Inv X pins σ H1 { s1 with heap := s1.heap.push { cls := .type "range", data := .fields #[.int 0 s1.toks, .int (j : Nat) t, .int 1 (s1.toks + 1)] }, toks := s1.toks + 1 + 1 } := I1.kept fun b o e => Heap.get?_push_of_some _ e
    have hsz : Builtin.Range.rangeSize 0 (j : Nat) 1 = j := by rw [rangeSize_one]; split <;> omega
    have hr : IsRange (s1.heap.push { cls := .type "range", data := .fields #[.int 0 s1.toks, .int (j : Nat) t, .int 1 (s1.toks + 1)] }) s1.heap.objs.size 0 (j : Nat) 1 s1.toks t (s1.toks + 1) := IsRange.new ..
    refine callType_newIn PySem.F.called_tuple (by decide) (PySem.F.typeCall_tuple_1 _) (PySem.F.newCall_tuple_1 _) (fun obj => PySem.F.args_object_init_2 obj _) PySem.F.entry_tuple_new
      (meets_tuple_range _ 0 (j : Nat) 1 s1.toks t (s1.toks + 1) j (small_one (by omega) (by omega) (by omega) (by omega)) hsz hj) ⟨I2.ok.hd hc, hr, fun h' tk acc hk hit => ⟨⟨_, Heap.get?_push_size _ rfl, rfl⟩, ?_⟩⟩
    have hv : Vals ((List.range j).map fun n : Nat => V.int (n : Nat)) acc.toList := by
      have z := vals_from acc.toList 0 fun i v hv => by
        obtain ⟨t', e'⟩ := hit.2 i v (by rw [← Array.getElem?_toList]; exact hv)
        exact ⟨t', by rw [e']; congr 1; omega⟩
      rw [Array.length_toList, hit.1] at z
      rw [List.range_eq_range']
      exact z
    have kk : ∀ b o, (s1.heap.push { cls := .type "range", data := .fields #[.int 0 s1.toks, .int (j : Nat) t, .int 1 (s1.toks + 1)] }).get? b = some o → (h'.push { cls := .type "tuple", data := .seq acc.toList.toArray }).get? b = some o := fun b o e => Heap.get?_push_of_some _ (hk b o e)
    have hno : (s1.heap.push { cls := .type "range", data := .fields #[.int 0 s1.toks, .int (j : Nat) t, .int 1 (s1.toks + 1)] }).get? h'.objs.size = none := by
      cases e : (s1.heap.push { cls := .type "range", data := .fields #[.int 0 s1.toks, .int (j : Nat) t, .int 1 (s1.toks + 1)] }).get? h'.objs.size with
      | none => rfl
      | some o => exact absurd (Heap.lt_size (hk _ _ e)) (Nat.lt_irrefl _)
    have hfr : H1 h'.objs.size = none := (fresh_of I2 hk).1
    refine ⟨.ref _, _, I2.laidF (t' := tk) (o := .tup ((List.range j).map fun n : Nat => V.int (n : Nat))) kk hfr hno ⟨by rw [List.length_map, List.length_range]; exact Nat.le_of_lt (small1000 hj), acc.toList, hv, IsTup.new _ _⟩, rfl, q _ _ (Same.upd hfr) hfr upd_same⟩
end L2

set_option Elab.async false
set_option linter.all false
set_option maxRecDepth 100000
set_option maxHeartbeats 1000000
namespace Gl
open PySem L2 PyProof.Rows
section
variable {P : Program} {w : World} {K : PySem.W.Frag} {mg : Str → Option Value} {base : Heap}
structure BT (K : PySem.W.Frag) (mg : Str → Option Value) (fA fP fT fS fB : Addr) (dA dP dT' dS dB : FuncData) : Prop where
  A : Fun K "are_same" "are_same" sAre fA dA
  Pt : Fun K "parted" "parted" sParted fP dP
  Td : Fun K "tried" "tried" sTried fT dT'
  S : Fun K "best_trial" "best_trial" sBestT fS dS
  B : Fun K "best" "best" sBest fB dB
  bA : L2.Binds K dA ["doubts", "group"] []
  bP : L2.Binds K dP ["doubts", "group", "number"] []
  bT : L2.Binds K dT' ["doubts", "shown", "number", "known"] []
  bS : L2.Binds K dS ["doubts", "group", "known"] []
  bB : L2.Binds K dB ["doubts", "group", "known"] []
  mA : mg "are_same" = some (.ref fA)
  mP : mg "parted" = some (.ref fP)
  mT : mg "tried" = some (.ref fT)
  mS : mg "best_trial" = some (.ref fS)
  mB : mg "best" = some (.ref fB)
theorem ok_best0 {f : Addr} {fd : FuncData} (F : Fun K "best" "best" sBest f fd) : FnOk P w K mg base CX0 (3 + 1) f fd ["doubts", "group", "known"] (spBest 0) := by
  refine F.ok scBest (fun vs H Q E h => ?_) (fun cdv A outer s H vs Q E hr h => ?_)
  · obtain ⟨vd, g, kn, m, rows, gs, rfl, _⟩ := h
    rfl
  · obtain ⟨vd, g, kn, m, rows, gs, rfl, hd, okd, hg, okg, hgN, _⟩ := h
    exact absurd (List.eq_nil_of_length_eq_zero (Nat.le_zero.mp hgN)) okg.ne
theorem best_down {N n : Nat} (h : n ≤ N) {k : Nat} {f : Addr} {fd : FuncData} (F : FnOk P w K mg base CX0 k f fd ["doubts", "group", "known"] (spBest N)) : FnOk P w K mg base CX0 k f fd ["doubts", "group", "known"] (spBest n) := F.imp fun vs H Q E z => by
  obtain ⟨vd, g, kn, m, rows, gs, rfl, hd, okd, hg, okg, hgN, r⟩ := z
  exact ⟨vd, g, kn, m, rows, gs, rfl, hd, okd, hg, okg, Nat.le_trans hgN h, r⟩
theorem ok_bestN (T : Nm mg) {fA fP fT fS fB : Addr} {dA dP dT' dS dB : FuncData} (Z : BT K mg fA fP fT fS fB dA dP dT' dS dB) : ∀ N, FnOk P w K mg base CX0 (4 * N + 4) fB dB ["doubts", "group", "known"] (spBest N)
  | 0 => ok_best0 Z.B
  | N + 1 => by
    have ih := ok_bestN T Z N
    have gA := ok_are (P := P) (w := w) (base := base) Z.A T
    have gP := ok_parted (P := P) (w := w) (mg := mg) (base := base) Z.Pt
    have gT : ∀ n, n ≤ N → FnOk P w K mg base CX0 (4 * N + 5) fT dT' ["doubts", "shown", "number", "known"] (spTried n) := fun n hn => by
      have ihn := ok_bestN T Z n
      exact (ok_tried Z.Td T ihn Z.bB Z.B.kp Z.mB).mono (by omega)
    have gS := ok_bestT Z.S T gP Z.bP Z.Pt.kp Z.mP gT Z.bT Z.Td.kp Z.mT
    exact (ok_best Z.B gA Z.bA Z.A.kp Z.mA gS Z.bS Z.S.kp Z.mS).mono (by omega)
termination_by N => N
abbrev NLt : List Str := ["doubts"]
theorem scLeastT : FnScope NLt ["doubts"] (defScope sLeastT) := ⟨rfl, rfl, rfl, by decide +kernel, rfl, by decide +kernel, by decide +kernel⟩
theorem ok_leastT {f fB : Addr} {fd dB : FuncData} (F : Fun K "least_tree" "least_tree" sLeastT f fd) (T : Nm mg) (GB : FnOk P w K mg base CX0 36 fB dB ["doubts", "group", "known"] (spBest 8)) (bB : L2.Binds K dB ["doubts", "group", "known"] []) (kB : PySem.W.keepIn K (.ref fB) = true) (mB : mg "best" = some (.ref fB)) :
    FnOk P w K mg base CX0 37 f fd ["doubts"] spLeastT := by
  refine F.ok scLeastT (fun vs H Q E h => ?_) (fun cdv A outer s H vs Q E hr h => ?_)
  · obtain ⟨vd, m, rows, rfl, _⟩ := h
    rfl
  · obtain ⟨vd, m, rows, rfl, hd, okd, k⟩ := h
    refine' ⟨_, pss_one (ps_ret (pe_call GB hr (by rfl) mB kB bB .nil pass0 (pa_cons (pv 0) (pa_cons (pe_tupRange rfl (by rfl) T.tuple (by rfl) T.range (pa_cons (pe_callB call_len_seq (by rfl) T.len PySem.boot_len (pa_cons (pv 0) pa_nil)) pa_nil)) (pa_cons pe_dnewT pa_nil))))), ?zread⟩
    case zread =>
      obtain ⟨a, us, rfl, ha, hus, hul⟩ := doubt_at hd
      have h8 := okd.len
      refine ⟨_, rfl, _, rfl, a, us, rfl, .inr (SqT.of ha), rows.length, by rw [hul], by omega, fun g H1 s1 hg e1 => ?_⟩
      intro kn hkn
      have s2 : Same H1 (upd H1 kn (.dT [])) := Same.upd hkn
      have e2 : upd H1 kn (.dT []) kn = some (.dT []) := upd_same
      generalize upd H1 kn (.dT []) = H2 at s2 e2 ⊢
      have s02 := s1.trans s2
      have okg : OkG rows (List.range rows.length) := ⟨fun z => okd.ne (by
        have := congrArg List.length z
        rw [List.length_range] at this
        exact List.eq_nil_of_length_eq_zero this), List.Sublist.refl _⟩
      have hkn0 : H kn = none := s1.free hkn
      refine ⟨.ref a, g, kn, m, rows, List.range rows.length, rfl, hd.same s02, okd, s2 _ _ e1, okg, by rw [List.length_range]; exact h8, ⟨[], e2, ⟨List.nodup_nil, fun kv hkv => (by cases hkv)⟩⟩, fun v' H3 b3 _ res => ?_⟩
      refine k v' H3 (fun b o e => b3 b o (ne_of_none e hkn0) (s02 _ _ e)) ?_
      obtain ⟨d, t, h1, h2⟩ := res
      rw [List.length_range] at h2
      exact ⟨d, t, h1, h2.mono h8⟩
end
end Gl

set_option Elab.async false
set_option linter.all false
set_option maxRecDepth 100000
set_option maxHeartbeats 1000000
namespace Gl
open PySem L2 PyProof.Rows
abbrev sLDoubts : Stmt := top 13
def forBody : Stmt → List Stmt
  | .For _ _ b _ _ => b
  | _ => []
def lookL : List Str := ["matt", "run", "shiny"]
theorem look_str : ∀ x ∈ lookL, strO x := by
  show ∀ x ∈ lookL, x.length ≤ 900 ∧ PyData.canLay0 (.str x) = true
  decide +kernel
theorem cut_takeN (xs : List V) (k : Nat) (h : k ≤ xs.length) : cutV xs none (some (k : Int)) = xs.take k := by
  unfold cutV
  rw [HT.sIx_none, HT.sIx_nat, List.drop_zero, Nat.sub_zero, Nat.min_eq_left h]
theorem ix_listK {X : Cx} {K : PySem.W.Frag} (hK : X.K = K := by rfl) : IxR X (rIxL K) := by
  subst hK
  exact ix_list
section
variable {P : Program} {w : World} {K : PySem.W.Frag} {mg : Str → Option Value} {base : Heap}
def spLDoubts : Sp := fun vs H Q _ => ∃ b : Addr, vs = [.ref b] ∧ Bag H b ∧ ∀ v H' rows m, Keep b H H' → DK b H' v (doubtD rows) → OkD m rows → Q v H'
abbrev NDo : List Str := ["bag", "many", "trials", "looks", "rows", "row", "one", "trial"]
theorem scLDoubts : FnScope NDo ["bag"] (defScope sLDoubts) := ⟨rfl, rfl, rfl, by decide +kernel, rfl, by decide +kernel, by decide +kernel⟩
abbrev inDo : List Stmt := forBody ((defBody sLDoubts).getD 4 (.Pass ⟨0, 0, 0, 0⟩))
abbrev cxDo (P : Program) (w : World) (K : PySem.W.Frag) (mg : Str → Option Value) (base : Heap) (f : Addr) (cdv : Value) (A : Around) (outer : List Env) (s0 : Shared) (H0 : Hp) (E : XK) : Cx := (cxOf CX0 P w K mg base NDo "_law_doubts" (defScope sLDoubts) f cdv A outer s0 H0 E).nox
/-- what is at hand while doubts are drawn -/
structure Dr (H00 : Hp) (b lk rl : Addr) (ls : List Str) (m i : Nat) (rows : List (List Str)) (rv : List V) (H : Hp) : Prop where
  old : Keep b H00 H
  fr : H00 rl = none
  nlr : lk ≠ rl
  elk : hid b H lk = some (.lst (ls.map V.str))
  erl : hid b H rl = some (.lst rv)
  drv : DHs (hid rl (hid b H)) rv (rows.map rowT)
  len : rows.length = i
  col : ∀ r ∈ rows, r.length = m ∧ ∀ x ∈ r, x ∈ ls
section
variable {H00 : Hp} {b lk rl : Addr} {ls : List Str} {m i : Nat} {rows : List (List Str)} {rv : List V} {H H' : Hp}
theorem Dr.keep (h : Dr H00 b lk rl ls m i rows rv H) (k : Keep b H H') : Dr H00 b lk rl ls m i rows rv H' :=
  ⟨h.old.trans k, h.fr, h.nlr, k.same _ _ h.elk, k.same _ _ h.erl, DHs.same (same_hid k.same) h.drv, h.len, h.col⟩
theorem row_noL (r : List Str) : noL (rowT r) = true := by
  unfold rowT
  rw [noL]
  exact noLs_map (fun _ => rfl) _
/-- another list, changed -/
theorem Dr.set {o : Addr} {ys zs : List V} (h : Dr H00 b lk rl ls m i rows rv H) (ho : H o = some (.lst ys)) (fo : H00 o = none) (nob : o ≠ b) (nol : o ≠ lk) (nor : o ≠ rl) : Dr H00 b lk rl ls m i rows rv (upd H o (.lst zs)) := by
  have e1 : ∀ c oc, c ≠ o → H c = some oc → upd H o (.lst zs) c = some oc := fun c oc n e => by rw [upd_ne n]; exact e
  obtain ⟨nlb, elk⟩ := hid_some h.elk
  obtain ⟨nrb, erl⟩ := hid_some h.erl
  obtain ⟨p, q, eb⟩ := h.old.bag
  refine ⟨⟨fun c oc e => ?_, p, q, e1 _ _ (Ne.symm nob) eb⟩, h.fr, h.nlr, by rw [hid_ne nlb]; exact e1 _ _ (Ne.symm nol) elk, by rw [hid_ne nrb]; exact e1 _ _ (Ne.symm nor) erl, ?_, h.len, h.col⟩
  · obtain ⟨nc, e⟩ := hid_some e
    rw [hid_ne nc]
    exact e1 _ _ (ne_of_none e fo) (h.old.get nc e)
  · have z : DHs (hid o (hid rl (hid b H))) rv (rows.map rowT) := DHs.hide (us := ys) (by rw [hid_ne nor, hid_ne nob]; exact ho) (noLs_map row_noL _) h.drv
    refine DHs.same (fun c oc e => ?_) z
    obtain ⟨n1, e⟩ := hid_some e
    obtain ⟨n2, e⟩ := hid_some e
    obtain ⟨n3, e⟩ := hid_some e
    rw [hid_ne n2, hid_ne n3]
    exact e1 _ _ n1 e
end
theorem do_last {f : Addr} (T : Nm mg) {cdv : Value} {A : Around} {outer : List Env} {s0 : Shared} {H0 : Hp} {E : XK} :
    ∃ t, PSs (cxDo P w K mg base f cdv A outer s0 H0 E) (inDo.drop 2) t ∧
      ∀ (D : Ends) (H00 H : Hp) (b lk rl o : Addr) (ls : List Str) (m i : Nat) (rows : List (List Str)) (rv : List V) (xs : List Str) (v1 v5 v7 : Option V), Dr H00 b lk rl ls m i rows rv H → H o = some (.lst (xs.map V.str)) → xs.length = m → (∀ x ∈ xs, x ∈ ls) → i ≤ 900 →
        (∀ H' rows' rv', Dr H00 b lk rl ls m (i + 1) rows' rv' H' → D.nx [some (.ref b), v1, some (.int (m : Nat)), some (.ref lk), some (.ref rl), v5, some (.ref o), v7] H') →
        t D [some (.ref b), v1, some (.int (m : Nat)), some (.ref lk), some (.ref rl), v5, some (.ref o), v7] H := by
  refine' ⟨_, pss_one ?z, ?zread⟩
  case z => exact ps_expr (pe_bm PySem.F.plainAttrs_list PySem.F.slot_list_append PySem.F.type_list_append mt_append (pv 4) (pa_cons (pe_callTy call_tuple_of (by rfl) T.tuple (by decide +kernel) (pa_cons (pv 6) pa_nil)) pa_nil))
  case zread =>
    intro D H00 H b lk rl o ls m i rows rv xs v1 v5 v7 dr ho hxl hxs hi fin
    have erl := hid_same _ _ dr.erl
    obtain ⟨nrb, _⟩ := hid_some dr.erl
    obtain ⟨nlb, elk⟩ := hid_some dr.elk
    have hrv : rv.length = i := by rw [dr.drv.length, List.length_map, dr.len]
    refine ⟨_, rfl, .inl ⟨rfl, _, SqL.of erl⟩, _, rfl, o, _, rfl, .inl ⟨SqL.of ho, fun t ht => ?_⟩⟩
    have s1 : Same H (upd H t (.tup (xs.map V.str))) := Same.upd ht
    have e1 : upd H t (.tup (xs.map V.str)) t = some (.tup (xs.map V.str)) := upd_same
    generalize upd H t (.tup (xs.map V.str)) = H1 at s1 e1 ⊢
    have k1 : Keep b H H1 := Keep.of dr.old.bag s1
    have dr1 := dr.keep k1
    have erl1 := s1 _ _ erl
    have elk1 := s1 _ _ elk
    have ntr : t ≠ rl := fun z => by rw [z, erl1] at e1; cases e1
    obtain ⟨p, q, eb⟩ := k1.bag
    have ntb : t ≠ b := fun z => by rw [z, eb] at e1; cases e1
    refine ⟨rl, rv, _, rfl, rfl, erl1, small1000 (by omega), fin _ (rows ++ [xs]) (rv ++ [.ref t]) ?_⟩
    have e2 : ∀ c oc, c ≠ rl → H1 c = some oc → upd H1 rl (.lst (rv ++ [.ref t])) c = some oc := fun c oc n e => by rw [upd_ne n]; exact e
    refine ⟨⟨fun c oc e => ?_, p, q, e2 _ _ (Ne.symm nrb) eb⟩, dr.fr, dr.nlr, by rw [hid_ne nlb]; exact e2 _ _ dr.nlr elk1, by rw [hid_ne nrb]; exact upd_same, ?_, by rw [List.length_append, dr.len]; rfl, fun r hr' => ?_⟩
    · obtain ⟨nc, e⟩ := hid_some e
      rw [hid_ne nc]
      exact e2 _ _ (ne_of_none e dr.fr) (dr1.old.get nc e)
    · have hh : ∀ c oc, hid rl (hid b H1) c = some oc → hid rl (hid b (upd H1 rl (.lst (rv ++ [.ref t])))) c = some oc := fun c oc e => by
        obtain ⟨n1, e⟩ := hid_some e
        obtain ⟨n2, e⟩ := hid_some e
        rw [hid_ne n1, hid_ne n2]
        exact e2 _ _ n1 e
      rw [List.map_append]
      refine DHs.append (DHs.same hh dr1.drv) (.cons (.tup ?_ (strs_dh xs)) .nil)
      exact hh _ _ (by rw [hid_ne ntr, hid_ne ntb]; exact e1)
    · rcases List.mem_append.mp hr' with z | z
      · exact dr.col r z
      · rw [List.mem_singleton.mp z]
        exact ⟨hxl, hxs⟩
theorem do_b {f fT : Addr} {dT' : FuncData} (T : Nm mg) (Tk : FnOk P w K mg base CX0 1 fT dT' ["bag", "many"] spTake) (bT : L2.Binds K dT' ["bag", "many"] []) (kT : PySem.W.keepIn K (.ref fT) = true) (mT : mg "_law_take" = some (.ref fT)) {cdv : Value} {A : Around} {outer : List Env} {s0 : Shared} {H0 : Hp} {E : XK}
    (hr : Room 1 (A.deeper (envOfC "_law_doubts" (defScope sLDoubts) s0.heap.objs.size f cdv))) :
    ∃ t, PSs (cxDo P w K mg base f cdv A outer s0 H0 E) (inDo.drop 1) t ∧
      ∀ (D : Ends) (H00 H : Hp) (b lk rl o : Addr) (ls : List Str) (m i : Nat) (rows : List (List Str)) (rv : List V) (xs : List Str) (v1 v5 v7 : Option V), Dr H00 b lk rl ls m i rows rv H → H o = some (.lst (xs.map V.str)) → xs.length = m → (∀ x ∈ xs, x ∈ ls) → i ≤ 8 → m ≤ 8 → ls ≠ [] → ls.length ≤ 3 → (∀ x ∈ ls, strO x) →
        (∀ H' rows' rv' v6, Dr H00 b lk rl ls m (i + 1) rows' rv' H' → D.nx [some (.ref b), v1, some (.int (m : Nat)), some (.ref lk), some (.ref rl), v5, v6, v7] H') →
        t D [some (.ref b), v1, some (.int (m : Nat)), some (.ref lk), some (.ref rl), v5, some (.ref o), v7] H := by
  obtain ⟨tR, pR, rR⟩ := do_last (P := P) (w := w) (K := K) (base := base) (f := f) (cdv := cdv) (A := A) (outer := outer) (s0 := s0) (H0 := H0) (E := E) T
  refine' ⟨_, pss_cons ?z1 pR, ?zread⟩
  case z1 =>
    refine' ps_if (PW.pt (pw_and (pt_cmpR (op_neD hr.units) (pv 4) (pe_lst pa_nil) (nomark _)) (pw_and1 (pt_cmpR op_eq (pe_call Tk hr (by rfl) mT kT bT .nil pass0 (pa_cons (pv 0) (pa_cons pe_int pa_nil))) pe_int (nomark _))))) (pss_cons ?y1 (pss_one ?y2)) pss_nil
    case y1 => exact ps_set (i := 6) scLDoubts.nd rfl (by first | exact Or.inl rfl | exact Or.inr rfl) (pe_callTy call_list_of (by rfl) T.list (by decide +kernel) (pa_cons (pe_ix ix_list (pv 4) (pe_call Tk hr (by rfl) mT kT bT .nil pass0 (pa_cons (pv 0) (pa_cons (pe_callB call_len_seq (by rfl) T.len PySem.boot_len (pa_cons (pv 4) pa_nil)) pa_nil))) (fun _ _ => rfl)) pa_nil))
    case y2 =>
      exact ps_if (PW.pt (pw_and (pt_cmpR op_gt (pv 2) pe_int (nomark _)) (pw_and1 (pt_cmpR op_eq (pe_call Tk hr (by rfl) mT kT bT .nil pass0 (pa_cons (pv 0) (pa_cons pe_int pa_nil))) pe_int (nomark _)))))
        (pss_one (ps_asg (pe_ix ix_list (pv 3) (pe_call Tk hr (by rfl) mT kT bT .nil pass0 (pa_cons (pv 0) (pa_cons (pe_callB call_len_seq (by rfl) T.len PySem.boot_len (pa_cons (pv 3) pa_nil)) pa_nil))) (fun _ _ => rfl)) (pg_sub (pv 6) (pe_call Tk hr (by rfl) mT kT bT .nil pass0 (pa_cons (pv 0) (pa_cons (pv 2) pa_nil))) set_list))) pss_nil
  case zread =>
    intro D H00 H b lk rl o ls m i rows rv xs v1 v5 v7 dr ho hxl hxs hi hm hlne hll hlO fin
    have go : ∀ (o' : Addr) (xs' : List Str) (H' : Hp), Dr H00 b lk rl ls m i rows rv H' → H' o' = some (.lst (xs'.map V.str)) → xs'.length = m → (∀ x ∈ xs', x ∈ ls) → tR D [some (.ref b), v1, some (.int (m : Nat)), some (.ref lk), some (.ref rl), v5, some (.ref o'), v7] H' := fun o' xs' H' dr' ho' hl' hx' =>
      rR D H00 H' b lk rl o' ls m i rows rv xs' _ _ _ dr' ho' hl' hx' (by omega) fun H'' rows' rv' d' => fin H'' rows' rv' _ d'
    have nob : o ≠ b := fun z => by
      obtain ⟨p, q, eb⟩ := dr.old.bag
      rw [z, eb] at ho
      cases xs with
      | nil => cases ho
      | cons x xs => cases ho
    obtain ⟨nrb, erl⟩ := hid_some dr.erl
    have hrv : rv.length = i := by rw [dr.drv.length, List.length_map, dr.len]
    refine ⟨_, rfl, by decide, fun l0 hl0 => ?_⟩
    have s1 : Same H (upd H l0 (.lst [])) := Same.upd hl0
    have e1 : upd H l0 (.lst []) l0 = some (.lst []) := upd_same
    generalize upd H l0 (.lst []) = H1 at s1 e1 ⊢
    have k1 : Keep b H H1 := Keep.of dr.old.bag s1
    have dr1 := dr.keep k1
    have d1 : DH H1 (.ref rl) (.list (rows.map rowT)) := .lst (s1 _ _ erl) (DHs.same hid_same (DHs.same hid_same dr1.drv))
    have d2 : DH H1 (.ref l0) (.list []) := .lst e1 .nil
    refine ⟨_, _, DH.dp d1, DH.dp d2, shaped_lst fun r hr' => ?_, by decide +kernel, _, rfl, ?_⟩
    · have h1 := shaped_row (r := r) fun x hx => hlO x ((dr.col r hr').2 x hx)
      unfold SeqAt.shaped at h1
      rw [Bool.and_eq_true, decide_eq_true_eq] at h1
      refine ⟨h1.1, ?_⟩
      unfold rowT
      rw [PyData.depth]
      have := depth_all (f := PyData.str) (n := 0) (l := r) fun _ _ => by simp [PyData.depth]
      omega
    have ho1 := s1 _ _ ho
    cases hrs : rows with
    | nil => exact iteF (iteF (go o xs H1 dr1 ho1 hxl hxs))
    | cons r0 rest =>
      have ev : PyData.eqv (.list ((r0 :: rest).map rowT)) (.list []) = false := by
        rw [List.map_cons, PyData.eqv]
        rfl
      rw [ev]
      have hpos : 1 ≤ i := by rw [← dr.len, hrs]; exact Nat.succ_le_succ (Nat.zero_le _)
      refine iteT ⟨_, rfl, b, _, rfl, k1.bag, by decide, by decide, fun n x y n0 n1 => ?_⟩
      have k2 : Keep b H1 (upd H1 b (.lst [.int x, .int y])) := Keep.set
      generalize upd H1 b (.lst [.int x, .int y]) = H2 at k2 ⊢
      have dr2 := dr1.keep k2
      have ho2 := k2.get nob ho1
      refine ⟨rfl, _, rfl, ?_⟩
      by_cases hz : ¬ V.int n = V.int 0
      · rw [decide_eq_false hz]
        exact iteF (go o xs H2 dr2 ho2 hxl hxs)
      have hz := Classical.not_not.mp hz
      rw [decide_eq_true hz]
      have erl2 := hid_same _ _ dr2.erl
      refine iteT ⟨_, rfl, _, rfl, _, rfl, rl, rv, rfl, .inl (SqL.of erl2), b, _, rfl, k2.bag, by omega, by omega, fun j x' y' j0 j1 => ?_⟩
      have k3 : Keep b H2 (upd H2 b (.lst [.int x', .int y'])) := Keep.set
      generalize upd H2 b (.lst [.int x', .int y']) = H3 at k3 ⊢
      have dr3 := dr2.keep k3
      have erl3 := hid_same _ _ dr3.erl
      obtain ⟨j', rfl⟩ : ∃ n : Nat, j = (n : Int) := ⟨j.toNat, by omega⟩
      have hj : j' < rv.length := by omega
      obtain ⟨u, hu⟩ : ∃ u, rv[j']? = some u := ⟨rv[j'], by simp [hj]⟩
      obtain ⟨dd, hdi, hdd⟩ := dr3.drv.get hu
      rw [List.getElem?_map] at hdi
      obtain ⟨r, hri, rfl⟩ := Option.map_eq_some_iff.mp hdi
      have hrm := List.mem_of_getElem? hri
      obtain ⟨ar, rfl, har⟩ := row_at hdd
      have har3 : H3 ar = some (.tup (r.map V.str)) := hid_same _ _ (hid_same _ _ har)
      refine ⟨rl, rv, _, _, rfl, rfl, SqL.of erl3, L2.atI_nat hu, ar, _, rfl, .inr (SqT.of har3), fun l hl => ?_⟩
      have s4 : Same H3 (upd H3 l (.lst (r.map V.str))) := Same.upd hl
      have e4 : upd H3 l (.lst (r.map V.str)) l = some (.lst (r.map V.str)) := upd_same
      have hl0 : H00 l = none := by
        cases e : H00 l with
        | none => rfl
        | some oc =>
          have nlb : l ≠ b := k3.bag.ne hl
          rw [dr3.old.get nlb e] at hl
          cases hl
      have nlb : l ≠ b := k3.bag.ne hl
      have nlk : l ≠ lk := fun z => by rw [z, hid_same _ _ dr3.elk] at hl; cases hl
      have nlr : l ≠ rl := fun z => by rw [z, erl3] at hl; cases hl
      generalize upd H3 l (.lst (r.map V.str)) = H4 at s4 e4 ⊢
      have dr4 := dr3.keep (Keep.of k3.bag s4)
      have hcol := dr.col r hrm
      refine ⟨_, rfl, _, _, rfl, rfl, _, rfl, ?_⟩
      by_cases hm0 : ¬ (0 : Int) < (m : Nat)
      · rw [decide_eq_false hm0]
        exact iteF (iteF (go l r H4 dr4 e4 hcol.1 hcol.2))
      have hm0 := Classical.not_not.mp hm0
      rw [decide_eq_true hm0]
      refine iteT ⟨_, rfl, b, _, rfl, dr4.old.bag, by decide, by decide, fun n2 x2 y2 _ _ => ?_⟩
      have k5 : Keep b H4 (upd H4 b (.lst [.int x2, .int y2])) := Keep.set
      generalize upd H4 b (.lst [.int x2, .int y2]) = H5 at k5 ⊢
      have dr5 := dr4.keep k5
      have e5 := k5.get nlb e4
      refine ⟨rfl, _, rfl, ?_⟩
      by_cases hz2 : ¬ V.int n2 = V.int 0
      · rw [decide_eq_false hz2]
        exact iteF (go l r H5 dr5 e5 hcol.1 hcol.2)
      have hz2 := Classical.not_not.mp hz2
      rw [decide_eq_true hz2]
      have elk5 := hid_same _ _ dr5.elk
      have hlp : 1 ≤ ls.length := by
        cases ls with
        | nil => exact absurd rfl hlne
        | cons _ _ => exact Nat.succ_le_succ (Nat.zero_le _)
      refine iteT ⟨_, rfl, _, rfl, _, rfl, lk, _, rfl, .inl (SqL.of elk5), b, _, rfl, dr5.old.bag, by rw [List.length_map]; omega, by rw [List.length_map]; omega, fun k3' x3 y3 c0 c1 => ?_⟩
      rw [List.length_map] at c1
      have k6 : Keep b H5 (upd H5 b (.lst [.int x3, .int y3])) := Keep.set
      generalize upd H5 b (.lst [.int x3, .int y3]) = H6 at k6 ⊢
      have dr6 := dr5.keep k6
      have e6 := k6.get nlb e5
      obtain ⟨c', rfl⟩ : ∃ n : Nat, k3' = (n : Int) := ⟨k3'.toNat, by omega⟩
      have hc' : c' < ls.length := by omega
      obtain ⟨x6, hx6⟩ : ∃ z, ls[c']? = some z := ⟨ls[c'], by simp [hc']⟩
      refine ⟨lk, _, _, .str x6, rfl, rfl, SqL.of (hid_same _ _ dr6.elk), L2.atI_nat (by rw [List.getElem?_map, hx6]; rfl), ?_⟩
      refine ⟨_, rfl, _, rfl, _, rfl, b, _, rfl, dr6.old.bag, by omega, by omega, fun k4 x4 y4 f0 f1 => ?_⟩
      have k7 : Keep b H6 (upd H6 b (.lst [.int x4, .int y4])) := Keep.set
      generalize upd H6 b (.lst [.int x4, .int y4]) = H7 at k7 ⊢
      have dr7 := dr6.keep k7
      have e7 := k7.get nlb e6
      have hix : ixN (r.map V.str).length k4 = some k4.toNat := by
        unfold ixN
        rw [if_pos f0, if_pos (by rw [List.length_map, hcol.1]; exact f1)]
      refine ⟨l, _, k4, k4.toNat, rfl, rfl, e7, hix, ?_⟩
      refine go l (r.set k4.toNat x6) _ (dr7.set e7 hl0 nlb nlk nlr) (by rw [upd_same, List.map_set]) (by rw [List.length_set]; exact hcol.1) fun z hz' => ?_
      rcases List.mem_or_eq_of_mem_set hz' with q | q
      · exact hcol.2 z q
      · rw [q]
        exact List.mem_of_getElem? hx6
end
end Gl

set_option Elab.async false
set_option linter.all false
set_option maxRecDepth 100000
set_option maxHeartbeats 1000000
namespace Gl
open PySem L2 PyProof.Rows
theorem call_lenK {X : Cx} {K : PySem.W.Frag} (hK : X.K = K := by rfl) : CallR X (.builtin "len") (fun xs H Q => ∃ p ys, xs = [.ref p] ∧ (SqL K H p ys ∨ SqT K H p ys) ∧ Q (.int ys.length) H) := by
  subst hK
  exact call_len_seq
section
variable {P : Program} {w : World} {K : PySem.W.Frag} {mg : Str → Option Value} {base : Heap}
theorem ok_ldoubts {f fT : Addr} {fd dT' : FuncData} (F : Fun K "_law_doubts" "_law_doubts" sLDoubts f fd) (T : Nm mg) (Tk : FnOk P w K mg base CX0 1 fT dT' ["bag", "many"] spTake) (bT : L2.Binds K dT' ["bag", "many"] []) (kT : PySem.W.keepIn K (.ref fT) = true) (mT : mg "_law_take" = some (.ref fT)) :
    FnOk P w K mg base CX0 2 f fd ["bag"] spLDoubts := by
  refine F.ok scLDoubts (fun vs H Q E h => ?_) (fun cdv A outer s H vs Q E hr h => ?_)
  · obtain ⟨b, rfl, _⟩ := h
    rfl
  · obtain ⟨b, rfl, hb, k⟩ := h
    obtain ⟨tR, pR, rR⟩ := do_b (f := f) (cdv := cdv) (A := A) (outer := outer) (s0 := s) (H0 := H) (E := E) T Tk bT kT mT hr
    refine' ⟨_, pss_cons ?z1 (pss_cons ?z2 (pss_cons ?z3 (pss_cons ?z4 (pss_cons ?z5 (pss_one ?z6))))), ?zread⟩
    case z1 => exact ps_set (i := 1) scLDoubts.nd rfl (by first | exact Or.inl rfl | exact Or.inr rfl) (pe_op op_add pe_int (pe_call Tk hr (by rfl) mT kT bT .nil pass0 (pa_cons (pv 0) (pa_cons pe_int pa_nil))))
    case z2 => exact ps_set (i := 2) scLDoubts.nd rfl (by first | exact Or.inl rfl | exact Or.inr rfl) (pe_call Tk hr (by rfl) mT kT bT .nil pass0 (pa_cons (pv 0) (pa_cons pe_int pa_nil)))
    case z3 => exact ps_set (i := 3) scLDoubts.nd rfl (by first | exact Or.inl rfl | exact Or.inr rfl) (pe_slice sl_list (pe_lst (pa_cons pe_str (pa_cons pe_str (pa_cons pe_str pa_nil)))) po_none (po_some (pe_op op_add pe_int (pe_call Tk hr (by rfl) mT kT bT .nil pass0 (pa_cons (pv 0) (pa_cons pe_int pa_nil))))))
    case z4 => exact ps_set (i := 4) scLDoubts.nd rfl (by first | exact Or.inl rfl | exact Or.inr rfl) (pe_lst pa_nil)
    case z5 =>
      refine' ps_for PassesOwn.never rfl (pi_range1 (by rfl) T.range (pa_cons (pv 1) pa_nil)) (pg_name (i := 5) scLDoubts.nd rfl (by first | exact Or.inl rfl | exact Or.inr rfl)) (pss_cons ?y1 pR)
      case y1 =>
        exact ps_setLc (i := 6) (own := [("trial", 7)]) (g := gName 7) rfl scLDoubts.nd rfl rfl rfl (pi_range1 (by rfl) T.range (pa_cons (pv 2) pa_nil)) (blkOk_by (own := [("trial", 7)]) (N := NDo) (sc := defScope sLDoubts) (by decide +kernel)) (fun _ _ _ _ _ => pg_name (i := 7) scLDoubts.nd rfl (Or.inl rfl)) (fun _ _ _ _ _ => pts_nil)
          (fun _ _ _ _ _ => pe_ix (ix_listK (K := K)) (pv 3) (pe_call Tk (by exact hr) (by rfl) mT kT bT .nil pass0 (pa_cons (pv 0) (pa_cons (pe_callB (call_lenK (K := K)) (by rfl) T.len PySem.boot_len (pa_cons (pv 3) pa_nil)) pa_nil))) (fun _ _ => rfl))
    case z6 => exact ps_ret (pe_callTy call_tuple_of (by rfl) T.tuple (by decide +kernel) (pa_cons (pv 4) pa_nil))
    case zread =>
      refine ⟨_, rfl, b, _, rfl, hb, by decide, by decide, fun r1 x1 y1 r10 r11 => ?_⟩
      have k1 : Keep b H (upd H b (.lst [.int x1, .int y1])) := Keep.set
      generalize upd H b (.lst [.int x1, .int y1]) = H1 at k1 ⊢
      refine ⟨_, _, rfl, rfl, ?_⟩
      refine ⟨_, rfl, b, _, rfl, k1.bag, by decide, by decide, fun r2 x2 y2 r20 r21 => ?_⟩
      have k2 : Keep b H1 (upd H1 b (.lst [.int x2, .int y2])) := Keep.set
      generalize upd H1 b (.lst [.int x2, .int y2]) = H2 at k2 ⊢
      have k02 := k1.trans k2
      obtain ⟨m, rfl⟩ : ∃ n : Nat, r2 = (n : Int) := ⟨r2.toNat, by omega⟩
      refine ⟨by show 3 ≤ sizeLine; decide, fun l3 hl3 => ?_⟩
      have s3 : Same H2 (upd H2 l3 (.lst [.str "matt", .str "run", .str "shiny"])) := Same.upd hl3
      have e3 : upd H2 l3 (.lst [.str "matt", .str "run", .str "shiny"]) l3 = some (.lst [.str "matt", .str "run", .str "shiny"]) := upd_same
      generalize upd H2 l3 (.lst [.str "matt", .str "run", .str "shiny"]) = H3 at s3 e3 ⊢
      have k03 := k02.trans (Keep.of k02.bag s3)
      have n3b : l3 ≠ b := fun z => by
        obtain ⟨p, q, eb⟩ := k03.bag
        rw [z, eb] at e3
        cases e3
      refine ⟨_, rfl, b, _, rfl, k03.bag, by decide, by decide, fun r4 x4 y4 r40 r41 => ?_⟩
      have k4 : Keep b H3 (upd H3 b (.lst [.int x4, .int y4])) := Keep.set
      generalize upd H3 b (.lst [.int x4, .int y4]) = H4 at k4 ⊢
      have k04 := k03.trans k4
      have e4 := k4.get n3b e3
      obtain ⟨q4, rfl⟩ : ∃ n : Nat, r4 = (n : Int) := ⟨r4.toNat, by omega⟩
      refine ⟨_, _, rfl, rfl, _, rfl, l3, _, rfl, SqL.of e4, fun lk hlk => ?_⟩
      have ecut : cutV [.str "matt", .str "run", .str "shiny"] none (some (1 + (q4 : Int))) = (lookL.take (1 + q4)).map V.str := by
        have e : (1 + (q4 : Int)) = ((1 + q4 : Nat) : Int) := by omega
        rw [e, cut_takeN _ _ (by show 1 + q4 ≤ 3; omega), List.map_take]
        rfl
      rw [ecut]
      have hls : (lookL.take (1 + q4)).length = 1 + q4 := by rw [List.length_take]; show min (1 + q4) 3 = _; omega
      have hlO : ∀ x ∈ lookL.take (1 + q4), strO x := fun x hx => look_str x (List.mem_of_mem_take hx)
      generalize lookL.take (1 + q4) = ls at hls hlO ⊢
      have s5 : Same H4 (upd H4 lk (.lst (ls.map V.str))) := Same.upd hlk
      have e5 : upd H4 lk (.lst (ls.map V.str)) lk = some (.lst (ls.map V.str)) := upd_same
      have nkb : lk ≠ b := k04.bag.ne hlk
      generalize upd H4 lk (.lst (ls.map V.str)) = H5 at s5 e5 ⊢
      have k05 := k04.trans (Keep.of k04.bag s5)
      refine ⟨by decide, fun rl hrl => ?_⟩
      have s6 : Same H5 (upd H5 rl (.lst [])) := Same.upd hrl
      have e6 : upd H5 rl (.lst []) rl = some (.lst []) := upd_same
      have nrb : rl ≠ b := k05.bag.ne hrl
      have nlr : lk ≠ rl := ne_of_none e5 hrl
      have hrl0 : H rl = none := by
        cases e : H rl with
        | none => rfl
        | some oc => rw [k05.get nrb e] at hrl; cases hrl
      generalize upd H5 rl (.lst []) = H6 at s6 e6 ⊢
      have k06 := k05.trans (Keep.of k05.bag s6)
      have dr6 : Dr H b lk rl ls m 0 [] [] H6 := ⟨k06, hrl0, nlr, by rw [hid_ne nkb]; exact s6 _ _ e5, by rw [hid_ne nrb]; exact e6, .nil, rfl, fun r hr' => (by cases hr')⟩
      refine ⟨_, rfl, _, rfl, by omega, by omega, ?_⟩
      refine for_range (lo := 0) (n := _) (fun i σ H7 => ∃ rows rv v5 v6 v7, Dr H b lk rl ls m i rows rv H7 ∧ σ = [some (.ref b), some (.int (1 + r1)), some (.int (m : Nat)), some (.ref lk), some (.ref rl), v5, v6, v7]) ⟨[], [], _, _, _, dr6, rfl⟩ ?_ ?_
      · rintro i σ H7 hi ⟨rows, rv, v5, v6, v7, dr7, rfl⟩
        have hi8 : i < 8 := by omega
        refine ⟨_, rfl, _, rfl, by omega, by omega, fun D hD => lc_range (lo := 0) (n := _) (fun j H8 => Keep b H7 H8 ∧ ∃ xs : List Str, H8 D = some (.lst (xs.map V.str)) ∧ xs.length = j ∧ ∀ x ∈ xs, x ∈ ls) ⟨Keep.new dr7.old.bag hD, [], upd_same, rfl, fun x hx => (by cases hx)⟩ ?_ ?_⟩
        · rintro j H8 hj ⟨k8, xs, e8, hxl, hxs⟩
          have nDb : D ≠ b := dr7.old.bag.ne hD
          have dr8 := dr7.keep k8
          have elk8 := hid_same _ _ dr8.elk
          refine ⟨rfl, _, rfl, _, rfl, _, rfl, lk, _, rfl, .inl (SqL.of elk8), b, _, rfl, k8.bag, by rw [List.length_map]; omega, by rw [List.length_map]; omega, fun c x y c0 c1 => ?_⟩
          rw [List.length_map] at c1
          have k9 : Keep b H8 (upd H8 b (.lst [.int x, .int y])) := Keep.set
          generalize upd H8 b (.lst [.int x, .int y]) = H9 at k9 ⊢
          have dr9 := dr8.keep k9
          obtain ⟨c', rfl⟩ : ∃ n : Nat, c = (n : Int) := ⟨c.toNat, by omega⟩
          have hc' : c' < ls.length := by omega
          obtain ⟨z, hz⟩ : ∃ z, ls[c']? = some z := ⟨ls[c'], by simp [hc']⟩
          have e9 := k9.get nDb e8
          refine ⟨lk, _, _, .str z, rfl, rfl, SqL.of (hid_same _ _ dr9.elk), L2.atI_nat (by rw [List.getElem?_map, hz]; rfl), _, e9, small1000 (by rw [List.length_map]; omega), Keep.back (k8.trans k9) hD (fun a' o n1 n2 e => by rw [upd_ne n1]; exact e) ?_, xs ++ [z], by rw [upd_same, List.map_append]; rfl, by rw [List.length_append, hxl]; rfl, fun q hq => ?_⟩
          · obtain ⟨p1, p2, eb⟩ := k9.bag
            exact ⟨p1, p2, by rw [upd_ne (Ne.symm nDb)]; exact eb⟩
          · rcases List.mem_append.mp hq with z' | z'
            · exact hxs q z'
            · rw [List.mem_singleton.mp z']
              exact List.mem_of_getElem? hz
        rintro H8 ⟨k8, xs, e8, hxl, hxs⟩
        have dr8 := dr7.keep k8
        have hxm : xs.length = m := by rw [hxl]; omega
        exact rR _ H H8 b lk rl D ls m i rows rv xs _ _ _ dr8 e8 hxm hxs (by omega) (by omega) (fun z => by rw [z] at hls; simp at hls; omega) (by omega) hlO fun H' rows' rv' v6 d' => ⟨rows', rv', _, _, _, d', rfl⟩
      · rintro σ H7 ⟨rows, rv, v5, v6, v7, dr7, rfl⟩
        have erl7 := hid_same _ _ dr7.erl
        refine ⟨_, rfl, rl, _, rfl, .inl ⟨SqL.of erl7, fun l hl => ?_⟩⟩
        have s8 : Same H7 (upd H7 l (.tup rv)) := Same.upd hl
        have e8 : upd H7 l (.tup rv) l = some (.tup rv) := upd_same
        have nlb : l ≠ b := dr7.old.bag.ne hl
        generalize upd H7 l (.tup rv) = H8 at s8 e8 ⊢
        have k78 : Keep b H7 H8 := Keep.of dr7.old.bag s8
        have dr8 := dr7.keep k78
        refine k (.ref l) H8 rows m dr8.old (DK.tup nlb e8 (DHs.same hid_same dr8.drv)) ⟨fun z => ?_, ?_, fun r hr' => (dr8.col r hr').1, by omega, fun r hr' x hx => hlO x ((dr8.col r hr').2 x hx)⟩
        · have := dr8.len
          rw [z] at this
          simp at this
          omega
        · rw [dr8.len]
          omega
end
end Gl

set_option Elab.async false
set_option linter.all false
set_option maxRecDepth 100000
set_option maxHeartbeats 1000000
namespace Gl
open PySem L2 PyProof.Rows
abbrev sDrawn : Stmt := top 18
section
variable {P : Program} {w : World} {K : PySem.W.Frag} {mg : Str → Option Value} {base : Heap}
def spDrawn (n : Nat) : Sp := fun vs H Q _ => ∃ b : Addr, vs = [.ref b, .int (n : Nat)] ∧ Bag H b ∧ ∀ v H' t, Keep b H H' → DK b H' v (treeD t) → OkTree true (n + 1) t → Q v H'
abbrev NDw : List Str := ["bag", "deep", "some", "branches", "look", "number"]
theorem scDrawn : FnScope NDw ["bag", "deep"] (defScope sDrawn) := ⟨rfl, rfl, rfl, by decide +kernel, rfl, by decide +kernel, by decide +kernel⟩
abbrev cxDw (P : Program) (w : World) (K : PySem.W.Frag) (mg : Str → Option Value) (base : Heap) (f : Addr) (cdv : Value) (A : Around) (outer : List Env) (s0 : Shared) (H0 : Hp) (E : XK) : Cx := (cxOf CX0 P w K mg base NDw "_law_drawn" (defScope sDrawn) f cdv A outer s0 H0 E).nox
def ifBody : Stmt → List Stmt
  | .If _ a _ _ => a
  | _ => []
abbrev s0Dw : Stmt := (defBody sDrawn).getD 0 (.Pass ⟨0, 0, 0, 0⟩)
theorem dw_known {f fT : Addr} {dT' : FuncData} (T : Nm mg) (Tk : FnOk P w K mg base CX0 1 fT dT' ["bag", "many"] spTake) (bT : L2.Binds K dT' ["bag", "many"] []) (kT : PySem.W.keepIn K (.ref fT) = true) (mT : mg "_law_take" = some (.ref fT)) {cdv : Value} {A : Around} {outer : List Env} {s0 : Shared} {H0 : Hp} {E : XK}
    (hr : Room 1 (A.deeper (envOfC "_law_drawn" (defScope sDrawn) s0.heap.objs.size f cdv))) :
    ∃ t, PSs (cxDw P w K mg base f cdv A outer s0 H0 E) (ifBody s0Dw) t ∧
      ∀ (D : Ends) (H : Hp) (b : Addr) (v1 v2 v3 v4 v5 : Option V), Bag H b → (∀ v H' t, Keep b H H' → DK b H' v (treeD t) → OkTree true 1 t → D.rt v H') →
        t D [some (.ref b), v1, v2, v3, v4, v5] H := by
  refine' ⟨_, pss_cons ?y1 (pss_one ?y2), ?zread⟩
  case y1 =>
    exact ps_setLc (i := 2) (own := [("number", 5)]) (g := gName 5) rfl scDrawn.nd rfl rfl rfl (pi_range1 (by rfl) T.range (pa_cons pe_int pa_nil)) (blkOk_by (own := [("number", 5)]) (N := NDw) (sc := defScope sDrawn) (by decide +kernel)) (fun _ _ _ _ _ => pg_name (i := 5) scDrawn.nd rfl (Or.inl rfl))
      (fun _ _ _ _ _ => pts_one (pt_cmpR op_eq (pe_call Tk (by exact hr) (by rfl) mT kT bT .nil pass0 (pa_cons (pv 0) (pa_cons pe_int pa_nil))) pe_int (nomark _))) (fun _ _ _ _ _ => pv 5)
  case y2 => exact ps_ret (pe_tup (pa_cons pe_str (pa_cons (pe_callTy call_tuple_of (by rfl) T.tuple (by decide +kernel) (pa_cons (pv 2) pa_nil)) pa_nil)))
  case zread =>
    intro D H b v1 v2 v3 v4 v5 hb rt
    refine ⟨_, rfl, by decide, by decide, fun L hL => lc_range (lo := 0) (n := 8) (fun j H3 => Keep b H H3 ∧ ∃ ns : List Int, H3 L = some (.lst (ns.map V.int)) ∧ ns.length ≤ j) ⟨Keep.new hb hL, [], upd_same, Nat.le_refl _⟩ ?_ ?_⟩
    · rintro j H3 hj ⟨k3, ns, e3, hnl⟩
      have nLb : L ≠ b := hb.ne hL
      refine ⟨rfl, _, rfl, b, _, rfl, k3.bag, by decide, by decide, fun c x y c0 c1 => ?_⟩
      have k4 : Keep b H3 (upd H3 b (.lst [.int x, .int y])) := Keep.set
      generalize upd H3 b (.lst [.int x, .int y]) = H4 at k4 ⊢
      have e4 := k4.get nLb e3
      refine ⟨rfl, _, rfl, ?_⟩
      by_cases hz : V.int c = V.int 0
      · rw [decide_eq_true hz]
        refine iteT ⟨_, rfl, _, e4, small1000 (by rw [List.length_map]; omega), Keep.back (k3.trans k4) hL (fun a' o n1 n2 e => by rw [upd_ne n1]; exact e) ?_, ns ++ [0 + (j : Int)], by rw [upd_same, List.map_append]; rfl, by rw [List.length_append]; exact Nat.succ_le_succ hnl⟩
        obtain ⟨p1, p2, eb⟩ := k4.bag
        exact ⟨p1, p2, by rw [upd_ne (Ne.symm nLb)]; exact eb⟩
      · rw [decide_eq_false hz]
        exact iteF ⟨k3.trans k4, ns, e4, by omega⟩
    rintro H3 ⟨k3, ns, e3, hnl⟩
    refine ⟨_, rfl, L, _, rfl, .inl ⟨SqL.of e3, fun l hl => ?_⟩⟩
    have s4 : Same H3 (upd H3 l (.tup (ns.map V.int))) := Same.upd hl
    have e4 : upd H3 l (.tup (ns.map V.int)) l = some (.tup (ns.map V.int)) := upd_same
    have nlb : l ≠ b := k3.bag.ne hl
    generalize upd H3 l (.tup (ns.map V.int)) = H4 at s4 e4 ⊢
    have k4 : Keep b H3 H4 := Keep.of k3.bag s4
    refine ⟨by show 2 ≤ sizeLine; decide, fun q hq => ?_⟩
    have s5 : Same H4 (upd H4 q (.tup [.str "known", .ref l])) := Same.upd hq
    have e5 : upd H4 q (.tup [.str "known", .ref l]) q = some (.tup [.str "known", .ref l]) := upd_same
    have nqb : q ≠ b := k4.bag.ne hq
    generalize upd H4 q (.tup [.str "known", .ref l]) = H5 at s5 e5 ⊢
    have k5 : Keep b H4 H5 := Keep.of k4.bag s5
    refine rt _ H5 (.known ns) ((k3.trans k4).trans k5) ?_ (.known (by show ns.length ≤ 900; omega))
    rw [treeD]
    exact DK.tup nqb e5 (.cons (.str _) (.cons (DK.tup nlb (s5 _ _ e4) (ints_dh ns)) .nil))
theorem dw_if {f fT : Addr} {dT' : FuncData} (T : Nm mg) (Tk : FnOk P w K mg base CX0 1 fT dT' ["bag", "many"] spTake) (bT : L2.Binds K dT' ["bag", "many"] []) (kT : PySem.W.keepIn K (.ref fT) = true) (mT : mg "_law_take" = some (.ref fT)) {cdv : Value} {A : Around} {outer : List Env} {s0 : Shared} {H0 : Hp} {E : XK}
    (hr : Room 1 (A.deeper (envOfC "_law_drawn" (defScope sDrawn) s0.heap.objs.size f cdv))) :
    ∃ t, PS (cxDw P w K mg base f cdv A outer s0 H0 E) s0Dw t ∧
      ∀ (D : Ends) (H : Hp) (b : Addr) (n : Nat), Bag H b → (∀ v H' t, Keep b H H' → DK b H' v (treeD t) → OkTree true 1 t → D.rt v H') → (n ≠ 0 → ∀ H', Keep b H H' → D.nx [some (.ref b), some (.int (n : Nat)), none, none, none, none] H') →
        t D [some (.ref b), some (.int (n : Nat)), none, none, none, none] H := by
  obtain ⟨tR, pR, rR⟩ := dw_known (f := f) (cdv := cdv) (A := A) (outer := outer) (s0 := s0) (H0 := H0) (E := E) T Tk bT kT mT hr
  refine' ⟨_, ps_if (PW.pt (pw_or (pt_cmpR op_eq (pv 1) pe_int (nomark _)) (pw_or1 (pt_cmpR op_eq (pe_call Tk hr (by rfl) mT kT bT .nil pass0 (pa_cons (pv 0) (pa_cons pe_int pa_nil))) pe_int (nomark _))))) pR pss_nil, ?zread⟩
  case zread =>
    intro D H b n hb rt nx
    refine ⟨_, rfl, rfl, _, rfl, ?_⟩
    by_cases h0 : n = 0
    · subst h0
      exact iteT (iteT (rR D H b _ _ _ _ _ hb rt))
    · rw [show decide (V.int (n : Nat) = V.int 0) = false from decide_eq_false (fun z => h0 (by injection z with z; omega))]
      refine iteF ⟨_, rfl, b, _, rfl, hb, by decide, by decide, fun c x y c0 c1 => ?_⟩
      have k1 : Keep b H (upd H b (.lst [.int x, .int y])) := Keep.set
      generalize upd H b (.lst [.int x, .int y]) = H1 at k1 ⊢
      refine ⟨rfl, _, rfl, ?_⟩
      by_cases hz : V.int c = V.int 0
      · rw [decide_eq_true hz]
        exact iteT (rR D H1 b _ _ _ _ _ k1.bag fun v H' t k' => rt v H' t (k1.trans k'))
      · rw [decide_eq_false hz]
        exact iteF (nx h0 H1 k1)
theorem ok_drawn0 {f fT : Addr} {fd dT' : FuncData} (F : Fun K "_law_drawn" "_law_drawn" sDrawn f fd) (T : Nm mg) (Tk : FnOk P w K mg base CX0 1 fT dT' ["bag", "many"] spTake) (bT : L2.Binds K dT' ["bag", "many"] []) (kT : PySem.W.keepIn K (.ref fT) = true) (mT : mg "_law_take" = some (.ref fT)) :
    FnOk P w K mg base CX0 2 f fd ["bag", "deep"] (spDrawn 0) := by
  refine F.ok scDrawn (fun vs H Q E h => ?_) (fun cdv A outer s H vs Q E hr h => ?_)
  · obtain ⟨b, rfl, _⟩ := h
    rfl
  · obtain ⟨b, rfl, hb, k⟩ := h
    obtain ⟨tI, pI, rI⟩ := dw_if (f := f) (cdv := cdv) (A := A) (outer := outer) (s0 := s) (H0 := H) (E := E) T Tk bT kT mT hr
    exact ⟨_, pss_cons pI pss_never, rI _ H b 0 hb (fun v H' t k' d' o' => k v H' t k' d' o') fun z => absurd rfl z⟩
theorem ok_drawnS {n : Nat} {f fT : Addr} {fd dT' : FuncData} (F : Fun K "_law_drawn" "_law_drawn" sDrawn f fd) (T : Nm mg) (Tk : FnOk P w K mg base CX0 1 fT dT' ["bag", "many"] spTake) (bT : L2.Binds K dT' ["bag", "many"] []) (kT : PySem.W.keepIn K (.ref fT) = true) (mT : mg "_law_take" = some (.ref fT))
    (Dn : FnOk P w K mg base CX0 (n + 2) f fd ["bag", "deep"] (spDrawn n)) (bD : L2.Binds K fd ["bag", "deep"] []) (mD : mg "_law_drawn" = some (.ref f)) :
    FnOk P w K mg base CX0 (n + 2 + 1) f fd ["bag", "deep"] (spDrawn (n + 1)) := by
  refine F.ok scDrawn (fun vs H Q E h => ?_) (fun cdv A outer s H vs Q E hr h => ?_)
  · obtain ⟨b, rfl, _⟩ := h
    rfl
  · obtain ⟨b, rfl, hb, k⟩ := h
    have hr1 := hr.mono (show 1 ≤ n + 2 by omega)
    obtain ⟨tI, pI, rI⟩ := dw_if (f := f) (cdv := cdv) (A := A) (outer := outer) (s0 := s) (H0 := H) (E := E) T Tk bT kT mT hr1
    refine' ⟨_, pss_cons pI (pss_cons ?z1 (pss_cons ?z2 (pss_one ?z3))), ?zread⟩
    case z1 => exact ps_set (i := 3) scDrawn.nd rfl (by first | exact Or.inl rfl | exact Or.inr rfl) (pe_lst pa_nil)
    case z2 =>
      exact ps_for PassesOwn.never rfl (pi_list (pe_slice sl_list (pe_lst (pa_cons pe_str (pa_cons pe_str (pa_cons pe_str pa_nil)))) po_none (po_some (pe_op op_add pe_int (pe_call Tk hr1 (by rfl) mT kT bT .nil pass0 (pa_cons (pv 0) (pa_cons pe_int pa_nil))))))) (pg_name (i := 4) scDrawn.nd rfl (by first | exact Or.inl rfl | exact Or.inr rfl))
        (pss_one (ps_expr (pe_bm PySem.F.plainAttrs_list PySem.F.slot_list_append PySem.F.type_list_append mt_append (pv 3) (pa_cons (pe_tup (pa_cons (pv 4) (pa_cons (pe_call Dn hr (by rfl) mD F.kp bD .nil pass0 (pa_cons (pv 0) (pa_cons (pe_op op_sub (pv 1) pe_int) pa_nil))) pa_nil))) pa_nil))))
    case z3 => exact ps_ret (pe_tup (pa_cons pe_str (pa_cons (pe_call Tk hr1 (by rfl) mT kT bT .nil pass0 (pa_cons (pv 0) (pa_cons pe_int pa_nil))) (pa_cons (pe_callTy call_tuple_of (by rfl) T.tuple (by decide +kernel) (pa_cons (pv 3) pa_nil)) pa_nil))))
    case zread =>
      refine rI _ H b (n + 1) hb (fun v H' t k' d' o' => k v H' t k' d' (o'.mono (by omega))) fun _ H1 k1 => ?_
      refine ⟨by decide, fun br hbr => ?_⟩
      have s2 : Same H1 (upd H1 br (.lst [])) := Same.upd hbr
      have e2 : upd H1 br (.lst []) br = some (.lst []) := upd_same
      have nbb : br ≠ b := k1.bag.ne hbr
      generalize upd H1 br (.lst []) = H2 at s2 e2 ⊢
      have k12 : Keep b H1 H2 := Keep.of k1.bag s2
      refine ⟨by show 3 ≤ sizeLine; decide, fun l3 hl3 => ?_⟩
      have s3 : Same H2 (upd H2 l3 (.lst [.str "matt", .str "run", .str "shiny"])) := Same.upd hl3
      have e3 : upd H2 l3 (.lst [.str "matt", .str "run", .str "shiny"]) l3 = some (.lst [.str "matt", .str "run", .str "shiny"]) := upd_same
      have n3b : l3 ≠ b := k12.bag.ne hl3
      generalize upd H2 l3 (.lst [.str "matt", .str "run", .str "shiny"]) = H3 at s3 e3 ⊢
      have k13 := k12.trans (Keep.of k12.bag s3)
      refine ⟨_, rfl, b, _, rfl, k13.bag, by decide, by decide, fun r4 x4 y4 r40 r41 => ?_⟩
      have k4 : Keep b H3 (upd H3 b (.lst [.int x4, .int y4])) := Keep.set
      generalize upd H3 b (.lst [.int x4, .int y4]) = H4 at k4 ⊢
      have k14 := k13.trans k4
      have e4 := k4.get n3b e3
      have ebr4 := k4.get nbb (s3 _ _ e2)
      obtain ⟨q4, rfl⟩ : ∃ n : Nat, r4 = (n : Int) := ⟨r4.toNat, by omega⟩
      refine ⟨_, _, rfl, rfl, _, rfl, l3, _, rfl, SqL.of e4, fun lk hlk => ?_⟩
      have ecut : cutV [.str "matt", .str "run", .str "shiny"] none (some (1 + (q4 : Int))) = (lookL.take (1 + q4)).map V.str := by
        have e : (1 + (q4 : Int)) = ((1 + q4 : Nat) : Int) := by omega
        rw [e, cut_takeN _ _ (by show 1 + q4 ≤ 3; omega), List.map_take]
        rfl
      rw [ecut]
      have hls : (lookL.take (1 + q4)).length = 1 + q4 := by rw [List.length_take]; show min (1 + q4) 3 = _; omega
      have hlO : ∀ x ∈ lookL.take (1 + q4), strO x := fun x hx => look_str x (List.mem_of_mem_take hx)
      generalize lookL.take (1 + q4) = ls at hls hlO ⊢
      have s5 : Same H4 (upd H4 lk (.lst (ls.map V.str))) := Same.upd hlk
      have e5 : upd H4 lk (.lst (ls.map V.str)) lk = some (.lst (ls.map V.str)) := upd_same
      have nkb : lk ≠ b := k14.bag.ne hlk
      have nkr : lk ≠ br := fun z => by rw [z, ebr4] at hlk; cases hlk
      generalize upd H4 lk (.lst (ls.map V.str)) = H5 at s5 e5 ⊢
      have k15 := k14.trans (Keep.of k14.bag s5)
      have ebr5 := s5 _ _ ebr4
      have hbr0 : H br = none := by
        cases e : H br with
        | none => rfl
        | some oc => rw [k1.get nbb e] at hbr; cases hbr
      refine ⟨lk, rfl, ⟨_, SqL.of e5⟩, for_list (K := K) (xs := ls.map V.str) (fun i σ H6 => Keep b H H6 ∧ H6 lk = some (.lst (ls.map V.str)) ∧ ∃ (bv : List V) (bs : List (Str × Tree)) (v4 : Option V), σ = [some (.ref b), some (.int ((n + 1 : Nat) : Int)), none, some (.ref br), v4, none] ∧ H6 br = some (.lst bv) ∧ bv.length = i ∧ bs.length = i ∧ DHs (hid br (hid b H6)) bv (bs.map brD) ∧ ∀ c ∈ bs, strO c.1 ∧ OkTree true (n + 1) c.2) ⟨k1.trans k15, e5, [], [], _, rfl, ebr5, rfl, rfl, .nil, fun c hc => (by cases hc)⟩ (fun i σ H6 _ ⟨_, e, _⟩ => SqL.of e) ?_ ?_⟩
      · rintro i y σ H6 hy ⟨k6, e6, bv, bs, v4, rfl, ebr6, hbl, hsl, hbv, hok⟩
        rw [List.getElem?_map] at hy
        obtain ⟨x, hx, rfl⟩ := Option.map_eq_some_iff.mp hy
        have hi : i < ls.length := (List.getElem?_eq_some_iff.mp hx).1
        have en : ((n + 1 : Nat) : Int) - 1 = (n : Nat) := by omega
        refine ⟨_, rfl, .inl ⟨rfl, _, SqL.of ebr6⟩, _, rfl, _, rfl, _, rfl, _, _, rfl, rfl, b, by show [V.ref b, V.int (((n + 1 : Nat) : Int) - 1)] = _; rw [en], k6.bag, fun v H7 t k7 d7 o7 => ?_⟩
        have ebr7 := k7.get nbb ebr6
        have e7 := k7.get nkb e6
        refine ⟨by show 2 ≤ sizeLine; decide, fun q hq => ?_⟩
        have s8 : Same H7 (upd H7 q (.tup [.str x, v])) := Same.upd hq
        have e8 : upd H7 q (.tup [.str x, v]) q = some (.tup [.str x, v]) := upd_same
        have nqb : q ≠ b := k7.bag.ne hq
        have nqr : q ≠ br := fun z => by rw [z, ebr7] at hq; cases hq
        generalize upd H7 q (.tup [.str x, v]) = H8 at s8 e8 ⊢
        have k78 : Keep b H7 H8 := Keep.of k7.bag s8
        have ebr8 := s8 _ _ ebr7
        obtain ⟨p1, p2, eb8⟩ := k78.bag
        have k68 := k7.trans k78
        refine ⟨br, bv, _, rfl, rfl, ebr8, small1000 (by omega), ?_⟩
        have up : ∀ c oc, c ≠ br → H8 c = some oc → upd H8 br (.lst (bv ++ [.ref q])) c = some oc := fun c oc nc e => by rw [upd_ne nc]; exact e
        refine ⟨⟨fun c oc e => ?_, p1, p2, up _ _ (Ne.symm nbb) eb8⟩, up _ _ nkr (s8 _ _ e7), bv ++ [.ref q], bs ++ [(x, t)], _, rfl, upd_same, by rw [List.length_append, hbl]; rfl, by rw [List.length_append, hsl]; rfl, ?_, fun c hc => ?_⟩
        · obtain ⟨nc, e⟩ := hid_some e
          rw [hid_ne nc]
          exact up _ _ (ne_of_none e hbr0) ((k6.trans k68).get nc e)
        · have hh : ∀ c oc, hid br (hid b H8) c = some oc → hid br (hid b (upd H8 br (.lst (bv ++ [.ref q])))) c = some oc := fun c oc e => by
            obtain ⟨n1, e⟩ := hid_some e
            obtain ⟨n2, e⟩ := hid_some e
            rw [hid_ne n1, hid_ne n2]
            exact up _ _ n1 e
          rw [List.map_append]
          have hbr8 : hid b H8 br = some (.lst bv) := by rw [hid_ne nbb]; exact ebr8
          refine DHs.append (DHs.same hh (DHs.same (same_hid k68.same) hbv)) (.cons (DH.same hh ?_) .nil)
          refine DH.tup (by rw [hid_ne nqr, hid_ne nqb]; exact e8) (.cons (.str _) (.cons (DH.hide hbr8 (tree_noL o7) (DK.keep k78 d7)) .nil))
        · rcases List.mem_append.mp hc with z | z
          · exact hok c z
          · rw [List.mem_singleton.mp z]
            exact ⟨hlO x (List.mem_of_getElem? hx), o7⟩
      · rintro σ H6 ⟨k6, e6, bv, bs, v4, rfl, ebr6, hbl, hsl, hbv, hok⟩
        rw [List.length_map] at hbl hsl
        refine ⟨_, rfl, b, _, rfl, k6.bag, by decide, by decide, fun c x y c0 c1 => ?_⟩
        have k7 : Keep b H6 (upd H6 b (.lst [.int x, .int y])) := Keep.set
        generalize upd H6 b (.lst [.int x, .int y]) = H7 at k7 ⊢
        have ebr7 := k7.get nbb ebr6
        refine ⟨_, rfl, br, _, rfl, .inl ⟨SqL.of ebr7, fun l hl => ?_⟩⟩
        have s8 : Same H7 (upd H7 l (.tup bv)) := Same.upd hl
        have e8 : upd H7 l (.tup bv) l = some (.tup bv) := upd_same
        have nlb : l ≠ b := k7.bag.ne hl
        generalize upd H7 l (.tup bv) = H8 at s8 e8 ⊢
        have k78 : Keep b H7 H8 := Keep.of k7.bag s8
        refine ⟨by show 3 ≤ sizeLine; decide, fun q hq => ?_⟩
        have s9 : Same H8 (upd H8 q (.tup [.str "try", .int c, .ref l])) := Same.upd hq
        have e9 : upd H8 q (.tup [.str "try", .int c, .ref l]) q = some (.tup [.str "try", .int c, .ref l]) := upd_same
        have nqb : q ≠ b := k78.bag.ne hq
        generalize upd H8 q (.tup [.str "try", .int c, .ref l]) = H9 at s9 e9 ⊢
        have k89 : Keep b H8 H9 := Keep.of k78.bag s9
        have k69 := k7.trans (k78.trans k89)
        refine k _ H9 (.trial c bs) (k6.trans k69) ?_ (.trial (by omega) (fun _ z => by rw [z] at hsl; simp at hsl; omega) (fun c hc => (hok c hc).1) fun c hc => (hok c hc).2)
        rw [treeD, brsD_map]
        exact DK.tup nqb e9 (.cons (.str _) (.cons (.int _) (.cons (DK.tup nlb (s9 _ _ e8) (DHs.same k69.same (DHs.same hid_same hbv))) .nil)))
theorem ok_drawnN {f fT : Addr} {fd dT' : FuncData} (F : Fun K "_law_drawn" "_law_drawn" sDrawn f fd) (T : Nm mg) (Tk : FnOk P w K mg base CX0 1 fT dT' ["bag", "many"] spTake) (bT : L2.Binds K dT' ["bag", "many"] []) (kT : PySem.W.keepIn K (.ref fT) = true) (mT : mg "_law_take" = some (.ref fT)) (bD : L2.Binds K fd ["bag", "deep"] []) (mD : mg "_law_drawn" = some (.ref f)) : ∀ n, FnOk P w K mg base CX0 (n + 2) f fd ["bag", "deep"] (spDrawn n)
  | 0 => ok_drawn0 F T Tk bT kT mT
  | n + 1 => ok_drawnS F T Tk bT kT mT (ok_drawnN F T Tk bT kT mT bD mD n) bD mD
end
end Gl

set_option Elab.async false
set_option linter.all false
set_option maxRecDepth 100000
set_option maxHeartbeats 1000000
namespace Gl
open PySem L2 PyProof.Rows
abbrev sBent : Stmt := top 19
theorem cut_dropN (xs : List V) (k : Nat) : cutV xs (some (k : Int)) none = xs.drop k := by
  unfold cutV
  rw [HT.sIx_none, HT.sIx_nat]
  rw [List.take_of_length_le (by rw [List.length_drop]; exact Nat.le_refl _)]
  rcases Nat.le_total k xs.length with h | h
  · rw [Nat.min_eq_left h]
  · rw [Nat.min_eq_right h, List.drop_eq_nil_of_le h, List.drop_eq_nil_of_le (Nat.le_refl _)]
theorem lay_app {x y : Str} (h : PyData.canLay0 (.str x) = true) (h' : PyData.canLay0 (.str y) = true) : PyData.canLay0 (.str (x ++ y)) = true := by
  simp only [PyData.canLay0, PyData.strOk, Str.cps_append, Array.all_append, Bool.and_eq_true] at h h' ⊢
  exact ⟨h, h'⟩
theorem tup_neB {b p : Addr} {H : Hp} {xs : List V} (hb : Bag H b) (h : H p = some (.tup xs)) : p ≠ b := fun z => by
  obtain ⟨x, y, e⟩ := hb
  rw [z, e] at h
  cases h
theorem cut_trial {n : Nat} {k k' : Int} {bs : List (Str × Tree)} (i : Nat) (h : OkTree true (n + 1) (.trial k bs)) : OkTree false (n + 1) (.trial k' (bs.take i ++ bs.drop (i + 1))) := by
  cases h with
  | trial h1 h2 h3 h4 =>
    have hm : ∀ b ∈ bs.take i ++ bs.drop (i + 1), b ∈ bs := fun b hb => (List.mem_append.mp hb).elim List.mem_of_mem_take List.mem_of_mem_drop
    refine .trial ?_ (fun z => by cases z) (fun b hb => (h3 b (hm b hb)).weak) fun b hb => (h4 b (hm b hb)).weak
    rw [List.length_append, List.length_take, List.length_drop]
    omega
theorem mid_trial {n : Nat} {k k' : Int} {bs : List (Str × Tree)} {i : Nat} {c : Str × Tree} (hi : i < bs.length) (h : OkTree true (n + 1) (.trial k bs)) (c1 : strB false c.1) (c2 : OkTree false n c.2) : OkTree false (n + 1) (.trial k' ((bs.take i ++ [c]) ++ bs.drop (i + 1))) := by
  cases h with
  | trial h1 h2 h3 h4 =>
    have hm : ∀ b ∈ (bs.take i ++ [c]) ++ bs.drop (i + 1), b ∈ bs ∨ b = c := fun b hb => by
      rcases List.mem_append.mp hb with z | z
      · rcases List.mem_append.mp z with z | z
        · exact .inl (List.mem_of_mem_take z)
        · exact .inr (List.mem_singleton.mp z)
      · exact .inl (List.mem_of_mem_drop z)
    refine .trial ?_ (fun z => by cases z) (fun b hb => ?_) fun b hb => ?_
    · rw [List.length_append, List.length_append, List.length_take, List.length_drop]
      show _ + 1 + _ ≤ _
      omega
    · rcases hm b hb with z | rfl
      · exact (h3 b z).weak
      · exact c1
    · rcases hm b hb with z | rfl
      · exact (h4 b z).weak
      · exact c2
theorem cut_dhs {H : Hp} {us : List V} {bs : List (Str × Tree)} (i : Nat) (h : DHs H us (bs.map brD)) : DHs H (us.take i ++ us.drop (i + 1)) ((bs.take i ++ bs.drop (i + 1)).map brD) := by
  rw [List.map_append, List.map_take, List.map_drop]
  exact (h.take i).append (h.drop (i + 1))
theorem mid_dhs {H : Hp} {us : List V} {bs : List (Str × Tree)} {z : V} {c : Str × Tree} (i : Nat) (h : DHs H us (bs.map brD)) (hz : DH H z (brD c)) : DHs H ((us.take i ++ [z]) ++ us.drop (i + 1)) (((bs.take i ++ [c]) ++ bs.drop (i + 1)).map brD) := by
  rw [List.map_append, List.map_append, List.map_take, List.map_drop]
  exact ((h.take i).append (.cons hz .nil)).append (h.drop (i + 1))
section
variable {P : Program} {w : World} {K : PySem.W.Frag} {mg : Str → Option Value} {base : Heap}
def spBent (n : Nat) : Sp := fun vs H Q _ => ∃ (b : Addr) (v : V) (t : Tree), vs = [.ref b, v] ∧ Bag H b ∧ DK b H v (treeD t) ∧ OkTree true n t ∧ ∀ v' H' t', Keep b H H' → DK b H' v' (treeD t') → OkTree false n t' → Q v' H'
abbrev NBn : List Str := ["bag", "tree", "way", "at", "look", "below"]
theorem scBent : FnScope NBn ["bag", "tree"] (defScope sBent) := ⟨rfl, rfl, rfl, by decide +kernel, rfl, by decide +kernel, by decide +kernel⟩
abbrev cxBn (P : Program) (w : World) (K : PySem.W.Frag) (mg : Str → Option Value) (base : Heap) (f : Addr) (cdv : Value) (A : Around) (outer : List Env) (s0 : Shared) (H0 : Hp) (E : XK) : Cx := (cxOf CX0 P w K mg base NBn "_law_bent" (defScope sBent) f cdv A outer s0 H0 E).nox
abbrev s0Bn : Stmt := (defBody sBent).getD 0 (.Pass ⟨0, 0, 0, 0⟩)
theorem bn_known {f fT : Addr} {dT' : FuncData} (Tk : FnOk P w K mg base CX0 1 fT dT' ["bag", "many"] spTake) (bT : L2.Binds K dT' ["bag", "many"] []) (kT : PySem.W.keepIn K (.ref fT) = true) (mT : mg "_law_take" = some (.ref fT)) {cdv : Value} {A : Around} {outer : List Env} {s0 : Shared} {H0 : Hp} {E : XK}
    (hr : Room 1 (A.deeper (envOfC "_law_bent" (defScope sBent) s0.heap.objs.size f cdv))) :
    ∃ t, PSs (cxBn P w K mg base f cdv A outer s0 H0 E) (ifBody s0Bn) t ∧
      ∀ (D : Ends) (H : Hp) (b : Addr) (v : V) (ns : List Int) (v2 v3 v4 v5 : Option V), Bag H b → DK b H v (treeD (.known ns)) → ns.length ≤ 900 → (∀ v H' t, Keep b H H' → DK b H' v (treeD t) → OkTree false 1 t → D.rt v H') →
        t D [some (.ref b), some v, v2, v3, v4, v5] H := by
  refine' ⟨_, pss_one ?y1, ?zread⟩
  case y1 =>
    exact ps_ret (pe_tup (pa_cons pe_str (pa_cons (pe_ix ix_list (pe_lst (pa_cons (pe_op op_catTA (pe_ix ix_tup (pv 1) pe_int (fun _ _ => rfl)) (pe_tup (pa_cons pe_int pa_nil))) (pa_cons (pe_slice sl_tupA (pe_ix ix_tup (pv 1) pe_int (fun _ _ => rfl)) (po_some pe_int) po_none) (pa_cons (pe_rev rv_tup (pe_ix ix_tup (pv 1) pe_int (fun _ _ => rfl))) (pa_cons (pe_tup (pa_cons pe_int pa_nil)) pa_nil))))) (pe_call Tk hr (by rfl) mT kT bT .nil pass0 (pa_cons (pv 0) (pa_cons pe_int pa_nil))) (fun _ _ => rfl)) pa_nil)))
  case zread =>
    intro D H b v ns v2 v3 v4 v5 hb hd h9 rt
    obtain ⟨a, l, rfl, ha, hl⟩ := known_at hd
    obtain ⟨nab, ha⟩ := hid_some ha
    obtain ⟨nlb, hl⟩ := hid_some hl
    refine ⟨_, rfl, a, _, 1, .ref l, rfl, rfl, SqT.of ha, rfl, by show 1 ≤ sizeLine; decide, fun p1 hp1 => ?_⟩
    have s1 : Same H (upd H p1 (.tup [.int 9])) := Same.upd hp1
    have e1 : upd H p1 (.tup [.int 9]) p1 = some (.tup [.int 9]) := upd_same
    generalize upd H p1 (.tup [.int 9]) = H1 at s1 e1 ⊢
    refine ⟨l, p1, _, _, rfl, rfl, s1 _ _ hl, e1, Nat.le_of_lt (small1000 (by rw [List.length_map]; show _ + 1 ≤ _; omega)), fun p2 H2 s2 e2 => ?_⟩
    have s02 := s1.trans s2
    refine ⟨_, rfl, a, _, 1, .ref l, rfl, rfl, SqT.of (s02 _ _ ha), rfl, 1, rfl, l, _, rfl, s02 _ _ hl, fun p3 H3 s3 e3 => ?_⟩
    rw [show (1 : Int) = ((1 : Nat) : Int) from rfl, cut_dropN] at e3
    have s03 := s02.trans s3
    refine ⟨_, rfl, a, _, 1, .ref l, rfl, rfl, SqT.of (s03 _ _ ha), rfl, l, _, rfl, s03 _ _ hl, fun p4 hp4 => ?_⟩
    have s4 : Same H3 (upd H3 p4 (.tup (ns.map V.int).reverse)) := Same.upd hp4
    have e4 : upd H3 p4 (.tup (ns.map V.int).reverse) p4 = some (.tup (ns.map V.int).reverse) := upd_same
    generalize upd H3 p4 (.tup (ns.map V.int).reverse) = H4 at s4 e4 ⊢
    refine ⟨by show 1 ≤ sizeLine; decide, fun p5 hp5 => ?_⟩
    have s5 : Same H4 (upd H4 p5 (.tup [.int 0])) := Same.upd hp5
    have e5 : upd H4 p5 (.tup [.int 0]) p5 = some (.tup [.int 0]) := upd_same
    generalize upd H4 p5 (.tup [.int 0]) = H5 at s5 e5 ⊢
    have s05 := s03.trans (s4.trans s5)
    have all : ∀ u ∈ [V.ref p2, .ref p3, .ref p4, .ref p5], ∃ (p : Addr) (ms : List Int), u = .ref p ∧ H5 p = some (.tup (ms.map V.int)) ∧ ms.length ≤ 1000 := fun u hu => by
      simp only [List.mem_cons, List.not_mem_nil, or_false] at hu
      rcases hu with rfl | rfl | rfl | rfl
      · refine ⟨p2, ns ++ [9], rfl, ?_, by rw [List.length_append]; show _ + 1 ≤ _; omega⟩
        rw [List.map_append]
        exact (s3.trans (s4.trans s5)) _ _ e2
      · refine ⟨p3, ns.drop 1, rfl, ?_, by rw [List.length_drop]; omega⟩
        rw [List.map_drop]
        exact (s4.trans s5) _ _ e3
      · refine ⟨p4, ns.reverse, rfl, ?_, by rw [List.length_reverse]; omega⟩
        rw [List.map_reverse]
        exact s5 _ _ e4
      · exact ⟨p5, [0], rfl, e5, by show 1 ≤ 1000; decide⟩
    generalize hus : [V.ref p2, .ref p3, .ref p4, .ref p5] = us at all
    have hul : us.length = 4 := by rw [← hus]; rfl
    refine ⟨by show 4 ≤ sizeLine; decide, fun p6 hp6 => ?_⟩
    rw [hus]
    have s6 : Same H5 (upd H5 p6 (.lst us)) := Same.upd hp6
    have e6 : upd H5 p6 (.lst us) p6 = some (.lst us) := upd_same
    generalize upd H5 p6 (.lst us) = H6 at s6 e6 ⊢
    have k06 : Keep b H H6 := Keep.of hb (s05.trans s6)
    have n6b : p6 ≠ b := (Keep.of hb s05).bag.ne hp6
    refine ⟨_, rfl, b, 4, rfl, k06.bag, by decide, by decide, fun r x y r0 r1 => ?_⟩
    have k7 : Keep b H6 (upd H6 b (.lst [.int x, .int y])) := Keep.set
    generalize upd H6 b (.lst [.int x, .int y]) = H7 at k7 ⊢
    obtain ⟨u, hat, hmem, _⟩ := atI_nat (vs := us) r0 (by omega)
    obtain ⟨p, ms, rfl, ep, hml⟩ := all u hmem
    have npb : p ≠ b := tup_neB k06.bag (s6 _ _ ep)
    have ep7 := k7.get npb (s6 _ _ ep)
    refine ⟨p6, us, r, _, rfl, rfl, SqL.of (k7.get n6b e6), hat, by show 2 ≤ sizeLine; decide, fun q hq => ?_⟩
    have s8 : Same H7 (upd H7 q (.tup [.str "known", .ref p])) := Same.upd hq
    have e8 : upd H7 q (.tup [.str "known", .ref p]) q = some (.tup [.str "known", .ref p]) := upd_same
    have nqb : q ≠ b := k7.bag.ne hq
    generalize upd H7 q (.tup [.str "known", .ref p]) = H8 at s8 e8 ⊢
    have k8 : Keep b H7 H8 := Keep.of k7.bag s8
    refine rt _ H8 (.known ms) ((k06.trans k7).trans k8) ?_ (.known hml)
    rw [treeD]
    exact DK.tup nqb e8 (.cons (.str _) (.cons (DK.tup npb (s8 _ _ ep7) (ints_dh ms)) .nil))
end
end Gl

set_option Elab.async false
set_option linter.all false
set_option maxRecDepth 100000
set_option maxHeartbeats 1000000
namespace Gl
open PySem L2 PyProof.Rows
section
variable {P : Program} {w : World} {K : PySem.W.Frag} {mg : Str → Option Value} {base : Heap}
theorem ok_bent0 {f : Addr} {fd : FuncData} (F : Fun K "_law_bent" "_law_bent" sBent f fd) : FnOk P w K mg base CX0 1 f fd ["bag", "tree"] (spBent 0) := by
  refine F.ok scBent (fun vs H Q E h => ?_) (fun cdv A outer s H vs Q E hr h => ?_)
  · obtain ⟨b, v, t, rfl, _⟩ := h
    rfl
  · obtain ⟨b, v, t, rfl, _, _, ok, _⟩ := h
    cases ok
theorem ok_bentS {n : Nat} {f fT : Addr} {fd dT' : FuncData} (F : Fun K "_law_bent" "_law_bent" sBent f fd) (T : Nm mg) (Tk : FnOk P w K mg base CX0 1 fT dT' ["bag", "many"] spTake) (bT : L2.Binds K dT' ["bag", "many"] []) (kT : PySem.W.keepIn K (.ref fT) = true) (mT : mg "_law_take" = some (.ref fT))
    (Bn : FnOk P w K mg base CX0 (n + 1) f fd ["bag", "tree"] (spBent n)) (bB : L2.Binds K fd ["bag", "tree"] []) (mB : mg "_law_bent" = some (.ref f)) :
    FnOk P w K mg base CX0 (n + 1 + 1) f fd ["bag", "tree"] (spBent (n + 1)) := by
  refine F.ok scBent (fun vs H Q E h => ?_) (fun cdv A outer s H vs Q E hr h => ?_)
  · obtain ⟨b, v, t, rfl, _⟩ := h
    rfl
  · obtain ⟨b, v, t, rfl, hb, hd, ok, k⟩ := h
    have hr1 := hr.mono (show 1 ≤ n + 1 by omega)
    obtain ⟨tR, pR, rR⟩ := bn_known (f := f) (cdv := cdv) (A := A) (outer := outer) (s0 := s) (H0 := H) (E := E) Tk bT kT mT hr1
    refine' ⟨_, pss_cons (ps_if (pt_cmpR op_eq (pe_ix ix_tup (pv 1) pe_int (fun _ _ => rfl)) pe_str (nomark _)) pR pss_nil) (pss_cons ?z1 (pss_cons ?z2 (pss_cons ?z3 (pss_cons ?z4 (pss_cons ?z5 (pss_cons ?z6 (pss_one ?z7))))))), ?zread⟩
    case z1 => exact ps_set (i := 2) scBent.nd rfl (by first | exact Or.inl rfl | exact Or.inr rfl) (pe_call Tk hr1 (by rfl) mT kT bT .nil pass0 (pa_cons (pv 0) (pa_cons pe_int pa_nil)))
    case z2 => exact ps_set (i := 3) scBent.nd rfl (by first | exact Or.inl rfl | exact Or.inr rfl) (pe_call Tk hr1 (by rfl) mT kT bT .nil pass0 (pa_cons (pv 0) (pa_cons (pe_callB call_len_seq (by rfl) T.len PySem.boot_len (pa_cons (pe_ix ix_tup (pv 1) pe_int (fun _ _ => rfl)) pa_nil)) pa_nil)))
    case z3 => exact ps_asg (pe_ix ix_tup (pe_ix ix_tup (pv 1) pe_int (fun _ _ => rfl)) (pv 3) (fun _ _ => rfl)) (pg_tup (by rfl) (pgs_cons (pg_name (i := 4) scBent.nd rfl (by first | exact Or.inl rfl | exact Or.inr rfl)) (pgs_cons (pg_name (i := 5) scBent.nd rfl (by first | exact Or.inl rfl | exact Or.inr rfl)) pgs_nil)))
    case z4 => exact ps_if (pt_cmpR op_eq (pv 2) pe_int (nomark _)) (pss_one (ps_ret (pe_tup (pa_cons pe_str (pa_cons (pe_ix ix_list (pe_lst (pa_cons (pe_un un_neg pe_int) (pa_cons pe_int (pa_cons (pe_op op_pow pe_int pe_int) (pa_cons pe_int pa_nil))))) (pe_call Tk hr1 (by rfl) mT kT bT .nil pass0 (pa_cons (pv 0) (pa_cons pe_int pa_nil))) (fun _ _ => rfl)) (pa_cons (pe_ix ix_tup (pv 1) pe_int (fun _ _ => rfl)) pa_nil)))))) pss_nil
    case z5 => exact ps_if (pt_cmpR op_eq (pv 2) pe_int (nomark _)) (pss_one (ps_ret (pe_tup (pa_cons pe_str (pa_cons (pe_ix ix_tup (pv 1) pe_int (fun _ _ => rfl)) (pa_cons (pe_op op_catTA (pe_slice sl_tupA (pe_ix ix_tup (pv 1) pe_int (fun _ _ => rfl)) po_none (po_some (pv 3))) (pe_slice sl_tupA (pe_ix ix_tup (pv 1) pe_int (fun _ _ => rfl)) (po_some (pe_op op_add (pv 3) pe_int)) po_none)) pa_nil)))))) pss_nil
    case z6 => exact ps_if (pt_cmpR op_eq (pv 2) pe_int (nomark _)) (pss_one (ps_ret (pe_tup (pa_cons pe_str (pa_cons (pe_ix ix_tup (pv 1) pe_int (fun _ _ => rfl)) (pa_cons (pe_op op_catTA (pe_op op_catTA (pe_slice sl_tupA (pe_ix ix_tup (pv 1) pe_int (fun _ _ => rfl)) po_none (po_some (pv 3))) (pe_tup (pa_cons (pe_tup (pa_cons (pe_op op_add_str (pv 4) pe_str) (pa_cons (pv 5) pa_nil))) pa_nil))) (pe_slice sl_tupA (pe_ix ix_tup (pv 1) pe_int (fun _ _ => rfl)) (po_some (pe_op op_add (pv 3) pe_int)) po_none)) pa_nil)))))) pss_nil
    case z7 => exact ps_ret (pe_tup (pa_cons pe_str (pa_cons (pe_ix ix_tup (pv 1) pe_int (fun _ _ => rfl)) (pa_cons (pe_op op_catTA (pe_op op_catTA (pe_slice sl_tupA (pe_ix ix_tup (pv 1) pe_int (fun _ _ => rfl)) po_none (po_some (pv 3))) (pe_tup (pa_cons (pe_tup (pa_cons (pv 4) (pa_cons (pe_call Bn hr (by rfl) mB F.kp bB .nil pass0 (pa_cons (pv 0) (pa_cons (pv 5) pa_nil))) pa_nil))) pa_nil))) (pe_slice sl_tupA (pe_ix ix_tup (pv 1) pe_int (fun _ _ => rfl)) (po_some (pe_op op_add (pv 3) pe_int)) po_none)) pa_nil))))
    case zread =>
      have ok0 := ok
      cases ok with
      | known h9 =>
        rename_i ns
        obtain ⟨a, l, rfl, ha, hl⟩ := known_at hd
        obtain ⟨nab, ha⟩ := hid_some ha
        refine ⟨_, rfl, a, _, 0, .str "known", rfl, rfl, SqT.of ha, rfl, rfl, _, rfl, iteT ?_⟩
        exact rR _ H b _ ns _ _ _ _ hb hd h9 fun v H' t k' d' o' => k v H' t k' d' (o'.mono (by omega))
      | trial h9 hne hst hbs =>
        rename_i kk bs
        obtain ⟨a, l, us, rfl, ha, hl, hus⟩ := trial_at hd
        have hul : us.length = bs.length := by rw [hus.length, List.length_map]
        obtain ⟨nab, ha⟩ := hid_some ha
        obtain ⟨nlb, hl⟩ := hid_some hl
        have hpos : 1 ≤ bs.length := by
          cases bs with
          | nil => exact absurd rfl (hne rfl)
          | cons _ _ => exact Nat.succ_le_succ (Nat.zero_le _)
        refine ⟨_, rfl, a, _, 0, .str "try", rfl, rfl, SqT.of ha, rfl, rfl, _, rfl, iteF ?_⟩
        refine ⟨_, rfl, b, _, rfl, hb, by decide, by decide, fun way x1 y1 w0 w1 => ?_⟩
        have k1 : Keep b H (upd H b (.lst [.int x1, .int y1])) := Keep.set
        generalize upd H b (.lst [.int x1, .int y1]) = H1 at k1 ⊢
        refine ⟨_, rfl, _, rfl, a, _, 2, .ref l, rfl, rfl, SqT.of (k1.get nab ha), rfl, l, us, rfl, .inr (SqT.of (k1.get nlb hl)), b, _, rfl, k1.bag, by omega, by omega, fun at_ x2 y2 a0 a1 => ?_⟩
        have k2' : Keep b H1 (upd H1 b (.lst [.int x2, .int y2])) := Keep.set
        generalize upd H1 b (.lst [.int x2, .int y2]) = H2 at k2' ⊢
        have k2 := k1.trans k2'
        obtain ⟨i, rfl⟩ : ∃ i : Nat, at_ = (i : Int) := ⟨at_.toNat, by omega⟩
        have hi : i < us.length := by omega
        have hib : i < bs.length := by omega
        obtain ⟨u, hat, _, hget⟩ := atI_nat (vs := us) (r := (i : Int)) (by omega) (by omega)
        rw [Int.toNat_natCast] at hget
        have ha2 := k2.get nab ha
        have hl2 := k2.get nlb hl
        have hus2 : DKs b H2 us (bs.map brD) := DKs.keep k2 hus
        obtain ⟨dd, hdd, hdu⟩ := hus2.get hget
        rw [List.getElem?_map] at hdd
        obtain ⟨br, hbr, rfl⟩ := Option.map_eq_some_iff.mp hdd
        have hbm := List.mem_of_getElem? hbr
        obtain ⟨p, wv, rfl, hp, hwv⟩ := br_at hdu
        obtain ⟨npb, hp⟩ := hid_some hp
        refine ⟨_, rfl, a, _, 2, .ref l, rfl, rfl, SqT.of ha2, rfl, _, rfl, l, us, (i : Int), _, rfl, rfl, SqT.of hl2, hat, p, _, rfl, SqT.of hp, rfl, _, _, rfl, _, _, rfl, rfl, ?_⟩
        have ei : ((i : Int) + 1) = ((i + 1 : Nat) : Int) := by omega
        refine ⟨_, rfl, rfl, _, rfl, ?_⟩
        refine ite2 (fun _ => ?_) (fun _ => ?_)
        · refine ⟨_, rfl, _, _, rfl, rfl, ⟨by decide, by decide, by decide⟩, ?_⟩
          refine ⟨by show 4 ≤ sizeLine; decide, fun p3 hp3 => ?_⟩
          have hi4 : ∀ c ∈ [V.int (-1), V.int 8, V.int (10 ^ (30 : Int).toNat), V.int 0], ∃ z, c = .int z := fun c hcm => by
            simp only [List.mem_cons, List.not_mem_nil, or_false] at hcm
            rcases hcm with h | h | h | h <;> exact ⟨_, h⟩
          have hl4 : [V.int (-1), V.int 8, V.int (10 ^ (30 : Int).toNat), V.int 0].length = 4 := rfl
          generalize [V.int (-1), V.int 8, V.int (10 ^ (30 : Int).toNat), V.int 0] = L4 at hi4 hl4 ⊢
          have s3 : Same H2 (upd H2 p3 (.lst L4)) := Same.upd hp3
          have e3 : upd H2 p3 (.lst L4) p3 = some (.lst L4) := upd_same
          have n3b : p3 ≠ b := k2.bag.ne hp3
          generalize upd H2 p3 (.lst L4) = H3 at s3 e3 ⊢
          have k3 := k2.trans (Keep.of k2.bag s3)
          refine ⟨_, rfl, b, _, rfl, k3.bag, by decide, by decide, fun r x4 y4 r0 r1 => ?_⟩
          have k4' : Keep b H3 (upd H3 b (.lst [.int x4, .int y4])) := Keep.set
          generalize upd H3 b (.lst [.int x4, .int y4]) = H4 at k4' ⊢
          have k4 := k3.trans k4'
          obtain ⟨c, hc, hcm, _⟩ := atI_nat (vs := L4) r0 (by rw [hl4]; exact r1)
          obtain ⟨z, rfl⟩ := hi4 c hcm
          refine ⟨p3, _, r, _, rfl, rfl, SqL.of (k4'.get n3b e3), hc, _, rfl, a, _, 2, .ref l, rfl, rfl, SqT.of (k4.get nab ha), rfl, by show 3 ≤ sizeLine; decide, fun q hq => ?_⟩
          have s5 : Same H4 (upd H4 q (.tup [.str "try", .int z, .ref l])) := Same.upd hq
          have e5 : upd H4 q (.tup [.str "try", .int z, .ref l]) q = some (.tup [.str "try", .int z, .ref l]) := upd_same
          have nqb : q ≠ b := k4.bag.ne hq
          generalize upd H4 q (.tup [.str "try", .int z, .ref l]) = H5 at s5 e5 ⊢
          have k5 := k4.trans (Keep.of k4.bag s5)
          refine k _ H5 (.trial z bs) k5 ?_ (OkTree.weak (.trial h9 hne hst hbs))
          rw [treeD, brsD_map]
          exact DK.tup nqb e5 (.cons (.str _) (.cons (.int _) (.cons (DK.tup nlb (k5.get nlb hl) (DKs.keep k5 hus)) .nil)))
        refine ⟨_, rfl, rfl, _, rfl, ?_⟩
        refine ite2 (fun _ => ?_) (fun _ => ?_)
        · refine ⟨_, rfl, a, _, 1, .int kk, rfl, rfl, SqT.of ha2, rfl, _, rfl, a, _, 2, .ref l, rfl, rfl, SqT.of ha2, rfl, _, rfl, _, rfl, l, us, rfl, hl2, fun p3 H3 s3 e3 => ?_⟩
          rw [cut_takeN us i (Nat.le_of_lt hi)] at e3
          refine ⟨_, rfl, a, _, 2, .ref l, rfl, rfl, SqT.of (s3 _ _ ha2), rfl, _, rfl, _, _, rfl, rfl, _, rfl, l, us, rfl, s3 _ _ hl2, fun p4 H4 s4 e4 => ?_⟩
          rw [ei, cut_dropN] at e4
          refine ⟨p3, p4, _, _, rfl, rfl, s4 _ _ e3, e4, ?_, fun p5 H5 s5 e5 => ?_⟩
          · rw [List.length_take, List.length_drop]
            exact Nat.le_of_lt (small1000 (by omega))
          have s25 := s3.trans (s4.trans s5)
          have k5 := k2.trans (Keep.of k2.bag s25)
          refine ⟨by show 3 ≤ sizeLine; decide, fun q hq => ?_⟩
          have s6 : Same H5 (upd H5 q (.tup [.str "try", .int kk, .ref p5])) := Same.upd hq
          have e6 : upd H5 q (.tup [.str "try", .int kk, .ref p5]) q = some (.tup [.str "try", .int kk, .ref p5]) := upd_same
          have nqb : q ≠ b := k5.bag.ne hq
          generalize upd H5 q (.tup [.str "try", .int kk, .ref p5]) = H6 at s6 e6 ⊢
          have k6 := k5.trans (Keep.of k5.bag s6)
          refine k _ H6 (.trial kk (bs.take i ++ bs.drop (i + 1))) k6 ?_ (cut_trial (k := kk) i ok0)
          rw [treeD, brsD_map]
          exact DK.tup nqb e6 (.cons (.str _) (.cons (.int _) (.cons (DK.tup (tup_neB k5.bag e5) (s6 _ _ e5) (cut_dhs i (DKs.keep k6 hus))) .nil)))
        refine ⟨_, rfl, rfl, _, rfl, ?_⟩
        refine ite2 (fun _ => ?_) (fun _ => ?_)
        · have hx : strB false (br.1 ++ "x") := by
            obtain ⟨g1, g2⟩ := hst br hbm
            have g1' : br.1.length ≤ 900 := g1
            exact ⟨by rw [Str.length_append]; show br.1.length + 1 ≤ 1000; omega, lay_app g2 (by decide +kernel)⟩
          have hx1 : br.1.length ≤ 900 := (hst br hbm).1
          refine ⟨_, rfl, a, _, 1, .int kk, rfl, rfl, SqT.of ha2, rfl, _, rfl, a, _, 2, .ref l, rfl, rfl, SqT.of ha2, rfl, _, rfl, _, rfl, l, us, rfl, hl2, fun p3 H3 s3 e3 => ?_⟩
          rw [cut_takeN us i (Nat.le_of_lt hi)] at e3
          refine ⟨_, rfl, _, _, rfl, rfl, Nat.le_of_lt (small1000 (by show _ + 1 ≤ _; omega)), _, rfl, by show 2 ≤ sizeLine; decide, fun q1 hq1 => ?_⟩
          have s4 : Same H3 (upd H3 q1 (.tup [.str (br.1 ++ "x"), wv])) := Same.upd hq1
          have e4 : upd H3 q1 (.tup [.str (br.1 ++ "x"), wv]) q1 = some (.tup [.str (br.1 ++ "x"), wv]) := upd_same
          generalize upd H3 q1 (.tup [.str (br.1 ++ "x"), wv]) = H4 at s4 e4 ⊢
          refine ⟨by show 1 ≤ sizeLine; decide, fun q2 hq2 => ?_⟩
          have s5 : Same H4 (upd H4 q2 (.tup [.ref q1])) := Same.upd hq2
          have e5 : upd H4 q2 (.tup [.ref q1]) q2 = some (.tup [.ref q1]) := upd_same
          generalize upd H4 q2 (.tup [.ref q1]) = H5 at s5 e5 ⊢
          refine ⟨p3, q2, _, _, rfl, rfl, s5 _ _ (s4 _ _ e3), e5, ?_, fun p6 H6 s6 e6 => ?_⟩
          · rw [List.length_take]
            exact Nat.le_of_lt (small1000 (by show _ + 1 ≤ _; omega))
          have s26 := s3.trans (s4.trans (s5.trans s6))
          refine ⟨_, rfl, a, _, 2, .ref l, rfl, rfl, SqT.of (s26 _ _ ha2), rfl, _, rfl, _, _, rfl, rfl, _, rfl, l, us, rfl, s26 _ _ hl2, fun p7 H7 s7 e7 => ?_⟩
          rw [ei, cut_dropN] at e7
          refine ⟨p6, p7, _, _, rfl, rfl, s7 _ _ e6, e7, ?_, fun p8 H8 s8 e8 => ?_⟩
          · rw [List.length_append, List.length_take, List.length_drop]
            exact Nat.le_of_lt (small1000 (by show _ + 1 + _ ≤ _; omega))
          have s28 := s26.trans (s7.trans s8)
          have k8 := k2.trans (Keep.of k2.bag s28)
          have e4' : H8 q1 = some (.tup [.str (br.1 ++ "x"), wv]) := (s5.trans (s6.trans (s7.trans s8))) _ _ e4
          refine ⟨by show 3 ≤ sizeLine; decide, fun q hq => ?_⟩
          have s9 : Same H8 (upd H8 q (.tup [.str "try", .int kk, .ref p8])) := Same.upd hq
          have e9 : upd H8 q (.tup [.str "try", .int kk, .ref p8]) q = some (.tup [.str "try", .int kk, .ref p8]) := upd_same
          have nqb : q ≠ b := k8.bag.ne hq
          generalize upd H8 q (.tup [.str "try", .int kk, .ref p8]) = H9 at s9 e9 ⊢
          have k9 := k8.trans (Keep.of k8.bag s9)
          have k29 : Keep b H2 H9 := Keep.of k2.bag (s28.trans s9)
          have dz : DK b H9 (.ref q1) (brD (br.1 ++ "x", br.2)) := DK.tup (tup_neB k8.bag e4') (s9 _ _ e4') (.cons (.str _) (.cons (DK.keep k29 hwv) .nil))
          refine k _ H9 (.trial kk ((bs.take i ++ [(br.1 ++ "x", br.2)]) ++ bs.drop (i + 1))) k9 ?_ (mid_trial (k := kk) hib ok0 hx (hbs br hbm).weak)
          rw [treeD, brsD_map]
          exact DK.tup nqb e9 (.cons (.str _) (.cons (.int _) (.cons (DK.tup (tup_neB k8.bag e8) (s9 _ _ e8) (mid_dhs i (DKs.keep k9 hus) dz)) .nil)))
        · refine ⟨_, rfl, a, _, 1, .int kk, rfl, rfl, SqT.of ha2, rfl, _, rfl, a, _, 2, .ref l, rfl, rfl, SqT.of ha2, rfl, _, rfl, _, rfl, l, us, rfl, hl2, fun p3 H3 s3 e3 => ?_⟩
          rw [cut_takeN us i (Nat.le_of_lt hi)] at e3
          have k23 : Keep b H2 H3 := Keep.of k2.bag s3
          refine ⟨_, rfl, _, rfl, _, rfl, b, wv, br.2, rfl, k23.bag, DK.keep k23 hwv, hbs br hbm, fun v' H3' t' k3' d3' o3' => ?_⟩
          have n3b : p3 ≠ b := tup_neB k23.bag e3
          have e3' := k3'.get n3b e3
          have k23' := k23.trans k3'
          refine ⟨by show 2 ≤ sizeLine; decide, fun q1 hq1 => ?_⟩
          have s4 : Same H3' (upd H3' q1 (.tup [.str br.1, v'])) := Same.upd hq1
          have e4 : upd H3' q1 (.tup [.str br.1, v']) q1 = some (.tup [.str br.1, v']) := upd_same
          generalize upd H3' q1 (.tup [.str br.1, v']) = H4 at s4 e4 ⊢
          refine ⟨by show 1 ≤ sizeLine; decide, fun q2 hq2 => ?_⟩
          have s5 : Same H4 (upd H4 q2 (.tup [.ref q1])) := Same.upd hq2
          have e5 : upd H4 q2 (.tup [.ref q1]) q2 = some (.tup [.ref q1]) := upd_same
          generalize upd H4 q2 (.tup [.ref q1]) = H5 at s5 e5 ⊢
          refine ⟨p3, q2, _, _, rfl, rfl, s5 _ _ (s4 _ _ e3'), e5, ?_, fun p6 H6 s6 e6 => ?_⟩
          · rw [List.length_take]
            exact Nat.le_of_lt (small1000 (by show _ + 1 ≤ _; omega))
          have s36 := s4.trans (s5.trans s6)
          have k26 := k23'.trans (Keep.of k23'.bag s36)
          refine ⟨_, rfl, a, _, 2, .ref l, rfl, rfl, SqT.of (k26.get nab ha2), rfl, _, rfl, _, _, rfl, rfl, _, rfl, l, us, rfl, k26.get nlb hl2, fun p7 H7 s7 e7 => ?_⟩
          rw [ei, cut_dropN] at e7
          refine ⟨p6, p7, _, _, rfl, rfl, s7 _ _ e6, e7, ?_, fun p8 H8 s8 e8 => ?_⟩
          · rw [List.length_append, List.length_take, List.length_drop]
            exact Nat.le_of_lt (small1000 (by show _ + 1 + _ ≤ _; omega))
          have s38 := s36.trans (s7.trans s8)
          have k38 : Keep b H3' H8 := Keep.of k23'.bag s38
          have k8 := k2.trans (k23'.trans k38)
          have e4' : H8 q1 = some (.tup [.str br.1, v']) := (s5.trans (s6.trans (s7.trans s8))) _ _ e4
          refine ⟨by show 3 ≤ sizeLine; decide, fun q hq => ?_⟩
          have s9 : Same H8 (upd H8 q (.tup [.str "try", .int kk, .ref p8])) := Same.upd hq
          have e9 : upd H8 q (.tup [.str "try", .int kk, .ref p8]) q = some (.tup [.str "try", .int kk, .ref p8]) := upd_same
          have nqb : q ≠ b := k8.bag.ne hq
          generalize upd H8 q (.tup [.str "try", .int kk, .ref p8]) = H9 at s9 e9 ⊢
          have k89 : Keep b H8 H9 := Keep.of k8.bag s9
          have k9 := k8.trans k89
          have dz : DK b H9 (.ref q1) (brD (br.1, t')) := DK.tup (tup_neB k8.bag e4') (s9 _ _ e4') (.cons (.str _) (.cons (DK.keep (k38.trans k89) d3') .nil))
          refine k _ H9 (.trial kk ((bs.take i ++ [(br.1, t')]) ++ bs.drop (i + 1))) k9 ?_ (mid_trial (k := kk) hib ok0 (hst br hbm).weak o3')
          rw [treeD, brsD_map]
          exact DK.tup nqb e9 (.cons (.str _) (.cons (.int _) (.cons (DK.tup (tup_neB k8.bag e8) (s9 _ _ e8) (mid_dhs i (DKs.keep k9 hus) dz)) .nil)))
theorem ok_bentN {f fT : Addr} {fd dT' : FuncData} (F : Fun K "_law_bent" "_law_bent" sBent f fd) (T : Nm mg) (Tk : FnOk P w K mg base CX0 1 fT dT' ["bag", "many"] spTake) (bT : L2.Binds K dT' ["bag", "many"] []) (kT : PySem.W.keepIn K (.ref fT) = true) (mT : mg "_law_take" = some (.ref fT)) (bB : L2.Binds K fd ["bag", "tree"] []) (mB : mg "_law_bent" = some (.ref f)) : ∀ n, FnOk P w K mg base CX0 (n + 1) f fd ["bag", "tree"] (spBent n)
  | 0 => ok_bent0 F
  | n + 1 => ok_bentS F T Tk bT kT mT (ok_bentN F T Tk bT kT mT bB mB n) bB mB
end
end Gl

set_option Elab.async false
set_option linter.all false
set_option maxRecDepth 100000
set_option maxHeartbeats 1000000
namespace Gl
open PySem L2 PyProof.Rows
abbrev sLaw : Stmt := top 20
section
variable {P : Program} {w : World} {K : PySem.W.Frag} {mg : Str → Option Value} {base : Heap}
def spLaw (K : PySem.W.Frag) : Sp := fun vs H Q _ => ∃ (a : Addr) (ns : List Int), vs = [.ref a] ∧ SqL K H a (ns.map V.int) ∧ ns.length ≤ 63 ∧ ∀ H', Q (.bl true) H'
structure Fn (P : Program) (w : World) (K : PySem.W.Frag) (mg : Str → Option Value) (base : Heap) (k : Nat) (x : Str) (ps : List Str) (sp : Sp) (f : Addr) (fd : FuncData) : Prop where
  ok : FnOk P w K mg base CX0 k f fd ps sp
  bd : L2.Binds K fd ps []
  kp : PySem.W.keepIn K (.ref f) = true
  mg : mg x = some (.ref f)
structure LG (P : Program) (w : World) (K : PySem.W.Frag) (mg : Str → Option Value) (base : Heap) (fB fD fL fR fN fS fY : Addr) (dB dD dL dR dN dS dY : FuncData) : Prop where
  T : Nm mg
  B : Fn P w K mg base 1 "_law_bag" ["script", "k"] (spBag K) fB dB
  D : Fn P w K mg base 2 "_law_doubts" ["bag"] spLDoubts fD dD
  L : Fn P w K mg base 37 "least_tree" ["doubts"] spLeastT fL dL
  R : Fn P w K mg base 5 "_law_drawn" ["bag", "deep"] (spDrawn 3) fR dR
  N : Fn P w K mg base 9 "_law_bent" ["bag", "tree"] (spBent 8) fN dN
  S : Fn P w K mg base 3 "settles" ["doubts", "tree"] spSettles fS dS
  Y : Fn P w K mg base 2 "_law_settles" ["doubts", "tree"] spLSettles fY dY
abbrev NL : List Str := ["script", "k", "bag", "doubts", "told", "some", "tree", "found"]
theorem scLaw : FnScope NL ["script"] (defScope sLaw) := ⟨rfl, rfl, rfl, by decide +kernel, rfl, by decide +kernel, by decide +kernel⟩
theorem resB_at {b : Addr} {H : Hp} {v : V} {sz : Nat} (hb : Bag H b) (h : Res H v sz) : ∃ (p : Addr) (d : Int) (w : V) (t : Tree), v = .ref p ∧ H p = some (.tup [.int d, w]) ∧ DK b H w (treeD t) ∧ OkTree true sz t := by
  obtain ⟨d, t, dh, ok⟩ := h
  obtain ⟨x, y, eb⟩ := hb
  cases dh with
  | tup e q =>
    cases q with
    | cons q1 q =>
      cases q1
      cases q with
      | cons q2 q =>
        cases q
        exact ⟨_, d, _, t, rfl, e, DH.hide eb (tree_noL ok) q2, ok⟩
theorem ok_law {f fB fD fL fR fN fS fY : Addr} {fd dB dD dL dR dN dS dY : FuncData} (F : Fun K "law" "law" sLaw f fd) (Z : LG P w K mg base fB fD fL fR fN fS fY dB dD dL dR dN dS dY) : FnOk P w K mg base CX0 38 f fd ["script"] (spLaw K) := by
  refine F.ok scLaw (fun vs H Q E h => ?_) (fun cdv A outer s H vs Q E hr h => ?_)
  · obtain ⟨a, ns, rfl, _⟩ := h
    rfl
  · obtain ⟨a, ns, rfl, hS, hl, q⟩ := h
    have hr1 := hr.mono (show 1 ≤ 37 by decide)
    have hr2 := hr.mono (show 2 ≤ 37 by decide)
    have hr3 := hr.mono (show 3 ≤ 37 by decide)
    have hr5 := hr.mono (show 5 ≤ 37 by decide)
    have hr9 := hr.mono (show 9 ≤ 37 by decide)
    refine' ⟨_, pss_cons ?zfor (pss_one (ps_ret pe_bl)), ?zread⟩
    case zfor =>
      refine' ps_for PassesOwn.never rfl (pi_range1 (by rfl) Z.T.range (pa_cons (pe_op op_add (pe_callB (call_min2 rfl) (by rfl) Z.T.min (by decide +kernel) (pa_cons (pe_callB call_len_seq (by rfl) Z.T.len PySem.boot_len (pa_cons (pv 0) pa_nil)) (pa_cons pe_int pa_nil))) pe_int) pa_nil)) (pg_name (i := 1) scLaw.nd rfl (by first | exact Or.inl rfl | exact Or.inr rfl)) (pss_cons ?z1 (pss_cons ?z2 (pss_cons ?z3 (pss_cons ?z4 (pss_one ?z5)))))
      case z1 => exact ps_set (i := 2) scLaw.nd rfl (by first | exact Or.inl rfl | exact Or.inr rfl) (pe_call Z.B.ok hr1 (by rfl) Z.B.mg Z.B.kp Z.B.bd .nil pass0 (pa_cons (pv 0) (pa_cons (pv 1) pa_nil)))
      case z2 => exact ps_set (i := 3) scLaw.nd rfl (by first | exact Or.inl rfl | exact Or.inr rfl) (pe_call Z.D.ok hr2 (by rfl) Z.D.mg Z.D.kp Z.D.bd .nil pass0 (pa_cons (pv 2) pa_nil))
      case z3 => exact ps_set (i := 4) scLaw.nd rfl (by first | exact Or.inl rfl | exact Or.inr rfl) (pe_ix ix_tup (pe_call Z.L.ok hr (by rfl) Z.L.mg Z.L.kp Z.L.bd .nil pass0 (pa_cons (pv 3) pa_nil)) pe_int (fun _ _ => rfl))
      case z4 => exact ps_set (i := 5) scLaw.nd rfl (by first | exact Or.inl rfl | exact Or.inr rfl) (pe_lst (pa_cons (pv 4) (pa_cons (pe_call Z.R.ok hr5 (by rfl) Z.R.mg Z.R.kp Z.R.bd .nil pass0 (pa_cons (pv 2) (pa_cons pe_int pa_nil))) (pa_cons (pe_call Z.N.ok hr9 (by rfl) Z.N.mg Z.N.kp Z.N.bd .nil pass0 (pa_cons (pv 2) (pa_cons (pv 4) pa_nil))) (pa_cons (pe_call Z.N.ok hr9 (by rfl) Z.N.mg Z.N.kp Z.N.bd .nil pass0 (pa_cons (pv 2) (pa_cons (pv 4) pa_nil))) (pa_cons (pe_ix ix_tup (pe_call Z.L.ok hr (by rfl) Z.L.mg Z.L.kp Z.L.bd .nil pass0 (pa_cons (pe_call Z.D.ok hr2 (by rfl) Z.D.mg Z.D.kp Z.D.bd .nil pass0 (pa_cons (pv 2) pa_nil)) pa_nil)) pe_int (fun _ _ => rfl)) pa_nil))))))
      case z5 =>
        refine' ps_for PassesOwn.never rfl (pi_list (pv 5)) (pg_name (i := 6) scLaw.nd rfl (by first | exact Or.inl rfl | exact Or.inr rfl)) (pss_cons ?y1 (pss_one ?y2))
        case y1 => exact ps_set (i := 7) scLaw.nd rfl (by first | exact Or.inl rfl | exact Or.inr rfl) (pe_call Z.S.ok hr3 (by rfl) Z.S.mg Z.S.kp Z.S.bd .nil pass0 (pa_cons (pv 3) (pa_cons (pv 6) pa_nil)))
        case y2 => exact ps_if (PW.pt (pw_or (pt_not (pt_val (pe_isi (by rfl) Z.T.isi (pv 7) (pe_bltn (v := .ty "bool") (by rfl) Z.T.bool (by decide +kernel) rfl)))) (pw_or1 (pt_cmpR op_ne (pv 7) (pe_call Z.Y.ok hr2 (by rfl) Z.Y.mg Z.Y.kp Z.Y.bd .nil pass0 (pa_cons (pv 3) (pa_cons (pv 6) pa_nil))) (nomark _))))) (pss_one (ps_ret pe_bl)) pss_nil
    case zread =>
      have lm : (ns.map V.int).length = ns.length := List.length_map _
      refine ⟨_, rfl, a, _, rfl, .inl hS, _, _, rfl, _, _, rfl, rfl, _, rfl, ?_, ?_, ?_⟩
      · split <;> omega
      · split <;> omega
      refine for_range (lo := 0) (n := _) (fun i σ H2 => SqL K H2 a (ns.map V.int) ∧ ∃ x1 x2 x3 x4 x5 x6 x7 : Option V, σ = [some (.ref a), x1, x2, x3, x4, x5, x6, x7]) ⟨hS, _, _, _, _, _, _, _, rfl⟩ ?_ ?_
      · rintro i σ H2 hi ⟨hS2, x1, x2, x3, x4, x5, x6, x7, rfl⟩
        have hi' : i ≤ 1000 := by
          have : i < 50 := by
            refine Nat.lt_of_lt_of_le hi ?_
            split <;> omega
          omega
        refine ⟨_, rfl, _, rfl, a, ns, i, by rw [Int.zero_add]; rfl, hS2, hi', fun b xb' yb' hb => ?_⟩
        have bg : Bag (upd H2 b (.lst [.int xb', .int yb'])) b := ⟨_, _, upd_same⟩
        generalize hH3 : upd H2 b (.lst [.int xb', .int yb']) = H3 at bg
        have scr : ∀ H', Keep b H3 H' → SqL K H' a (ns.map V.int) := fun H' k' => sq_keep hS2 hb (by rw [hH3]; exact k')
        refine ⟨_, rfl, b, rfl, bg, fun vd H4 rows m k4 dd okd => ?_⟩
        refine ⟨_, rfl, vd, m, rows, rfl, DK.dh dd, okd, fun v5 H5 s5 res5 => ?_⟩
        have k45 : Keep b H4 H5 := Keep.of k4.bag s5
        obtain ⟨p5, d5, told, t5, rfl, e5, dt5, ot5⟩ := resB_at k45.bag res5
        refine ⟨p5, _, 1, told, rfl, rfl, SqT.of e5, rfl, ?_⟩
        have k5 := k4.trans k45
        refine ⟨_, rfl, _, rfl, b, rfl, k5.bag, fun v6 H6 t6 k6 dt6 ot6 => ?_⟩
        refine ⟨_, rfl, _, rfl, b, told, t5, rfl, k6.bag, DK.keep k6 dt5, ot5, fun v7 H7 t7 k7 dt7 ot7 => ?_⟩
        have k57 := k6.trans k7
        refine ⟨_, rfl, _, rfl, b, told, t5, rfl, k57.bag, DK.keep k57 dt5, ot5, fun v8 H8 t8 k8 dt8 ot8 => ?_⟩
        refine ⟨_, rfl, b, rfl, k8.bag, fun vd' H9 rows' m' k9 dd' okd' => ?_⟩
        refine ⟨vd', m', rows', rfl, DK.dh dd', okd', fun v10 H10 s10 res10 => ?_⟩
        have k910 : Keep b H9 H10 := Keep.of k9.bag s10
        obtain ⟨p10, d10, last, t10, rfl, e10, dt10, ot10⟩ := resB_at k910.bag res10
        refine ⟨p10, _, 1, last, rfl, rfl, SqT.of e10, rfl, by show 5 ≤ sizeLine; decide, fun l hl => ?_⟩
        have k810 := k9.trans k910
        have k710 := k8.trans k810
        have k610 := k7.trans k710
        have k510 := k6.trans k610
        have hts : DKs b H10 [told, v6, v7, v8, last] ([t5, t6, t7, t8, t10].map treeD) := .cons (DK.keep k510 dt5) (.cons (DK.keep k610 dt6) (.cons (DK.keep k710 dt7) (.cons (DK.keep k810 dt8) (.cons dt10 .nil))))
        have hot : ∀ t ∈ [t5, t6, t7, t8, t10], OkTree false 12 t := fun t ht => by
          simp only [List.mem_cons, List.not_mem_nil, or_false] at ht
          rcases ht with rfl | rfl | rfl | rfl | rfl
          · exact ot5.weak.mono (by decide)
          · exact ot6.weak.mono (by decide)
          · exact ot7.mono (by decide)
          · exact ot8.mono (by decide)
          · exact ot10.weak.mono (by decide)
        generalize [t5, t6, t7, t8, t10] = ts at hts hot
        generalize [told, v6, v7, v8, last] = us at hts ⊢
        have s11 : Same H10 (upd H10 l (.lst us)) := Same.upd hl
        have e11 : upd H10 l (.lst us) l = some (.lst us) := upd_same
        generalize upd H10 l (.lst us) = H11 at s11 e11 ⊢
        have k1011 : Keep b H10 H11 := Keep.of k910.bag s11
        have k411 := k45.trans (k510.trans k1011)
        have k311 := k4.trans k411
        have hts11 := DHs.same hid_same (DKs.keep k1011 hts)
        have dd11 := DK.dh (DK.keep k411 dd)
        refine ⟨_, rfl, l, rfl, ⟨_, SqL.of e11⟩, for_list (K := K) (xs := us) (fun i σ H12 => Same H11 H12 ∧ ∃ x1 x6 x7 : Option V, σ = [some (.ref a), x1, some (.ref b), some vd, some told, some (.ref l), x6, x7]) ⟨Same.refl _, _, _, _, rfl⟩ (fun i σ H12 _ ⟨s12, _⟩ => SqL.of (s12 _ _ e11)) ?_ ?_⟩
        · rintro j v σ H12 hv ⟨s12, y1, y6, y7, rfl⟩
          obtain ⟨d, hd, hdv⟩ := hts11.get hv
          rw [List.getElem?_map] at hd
          obtain ⟨t, ht, rfl⟩ := Option.map_eq_some_iff.mp hd
          have ot := hot t (List.mem_of_getElem? ht)
          refine ⟨_, rfl, _, rfl, vd, v, rows, m, 12, t, rfl, DH.same s12 dd11, okd, DH.same s12 hdv, ot, by decide, fun H13 s13 => ?_⟩
          have s1113 := s12.trans s13
          refine ⟨_, rfl, _, _, _, _, rfl, rfl, (DH.bl _).ty, kit_bool K (DH.bl _ : DH H13 _ _), _, rfl, ?_⟩
          refine iteF ⟨_, rfl, _, rfl, _, rfl, vd, v, rows, m, 12, t, rfl, DH.same s1113 dd11, okd, DH.same s1113 hdv, ot, by decide, fun H14 s14 => ?_⟩
          refine ⟨rfl, _, rfl, ?_⟩
          rw [decide_eq_true rfl]
          exact iteF ⟨s1113.trans s14, _, _, _, rfl⟩
        · rintro σ H12 ⟨s12, y1, y6, y7, rfl⟩
          exact ⟨scr _ (k311.trans (Keep.of k311.bag s12)), _, _, _, _, _, _, _, rfl⟩
      · rintro σ H2 ⟨_, x1, x2, x3, x4, x5, x6, x7, rfl⟩
        exact q H2
end
end Gl

set_option Elab.async false
set_option linter.all false
set_option maxRecDepth 100000
set_option maxHeartbeats 0
namespace Gl
open PySem PySem.Spec PyProof.Rows L2
theorem sub_T {K : PySem.W.Frag} {C : Addr} {T : String} (h : ((PySem.fastBuiltinMro T).map fun l => l.all fun v => match v with | .type _ => true | _ => false) = some true) : PySem.W.subIn K (.type T) (.ref C) = some false := by
  show (PySem.fastBuiltinMro T).map (·.contains (.ref C)) = some false
  cases e : PySem.fastBuiltinMro T with
  | none => rw [e] at h; cases h
  | some l =>
    rw [e] at h
    have h' : (l.all fun v => match v with | .type _ => true | _ => false) = true := Option.some.inj h
    show some (l.contains (.ref C)) = some false
    congr 1
    rw [List.all_eq_true] at h'
    cases q : l.contains (Value.ref C) with
    | false => rfl
    | true =>
      have m := List.contains_iff_mem.mp q
      have z := h' _ m
      cases z
theorem kit_T {K : PySem.W.Frag} {C : Addr} {T : String} {c : Value} {d : Option Addr} {cd : ClassData} {sl : Array (Option Value)} (l : K.lookup C = some ⟨c, d, .cls cd, sl⟩) (ty : PySem.W.typeIn K (.ref C) = some (.type "type")) (s : PySem.W.subIn K (.type T) (.ref C) = some false) : PySem.W.kitOne K (.type T) (.ref C) = some false := by
  unfold PySem.W.kitOne
  rw [if_neg (by simp)]
  unfold PySem.W.kitCls
  have e : (PySem.W.clsIn K C).isSome = true := by unfold PySem.W.clsIn; rw [l]; rfl
  dsimp only
  rw [if_pos (by rw [e, ty]; decide)]
  exact s
theorem kit_slf {K : PySem.W.Frag} {C : Addr} : PySem.W.kitOne K (.ref C) (.ref C) = some true := by
  unfold PySem.W.kitOne
  rw [if_pos (by simp)]

theorem all_mk {l : PySem.W.OpenLaw} {w : World} {K : PySem.W.Frag} {h : Heap} {mg : Str → Option Value}  {fAr fPa fTr fBt fBe fLt fBr fLe fSe fBg fTk fLd fEn fLs fDw fBn fLw fa : Addr} (X : K.In h) (G : h.Ns mainGlobals mg) (hfa : mg "law" = some (.ref fa))
    (afAr : PySem.W.nsIn K mainGlobals "are_same" = some (some (.ref fAr)))
    (FfAr : ∃ fd, Fun K "are_same" "are_same" sAre fAr fd)
    (afPa : PySem.W.nsIn K mainGlobals "parted" = some (some (.ref fPa)))
    (FfPa : ∃ fd, Fun K "parted" "parted" sParted fPa fd)
    (afTr : PySem.W.nsIn K mainGlobals "tried" = some (some (.ref fTr)))
    (FfTr : ∃ fd, Fun K "tried" "tried" sTried fTr fd)
    (afBt : PySem.W.nsIn K mainGlobals "best_trial" = some (some (.ref fBt)))
    (FfBt : ∃ fd, Fun K "best_trial" "best_trial" sBestT fBt fd)
    (afBe : PySem.W.nsIn K mainGlobals "best" = some (some (.ref fBe)))
    (FfBe : ∃ fd, Fun K "best" "best" sBest fBe fd)
    (afLt : PySem.W.nsIn K mainGlobals "least_tree" = some (some (.ref fLt)))
    (FfLt : ∃ fd, Fun K "least_tree" "least_tree" sLeastT fLt fd)
    (afBr : PySem.W.nsIn K mainGlobals "branch_of" = some (some (.ref fBr)))
    (FfBr : ∃ fd, Fun K "branch_of" "branch_of" sBranch fBr fd)
    (afLe : PySem.W.nsIn K mainGlobals "leads_to" = some (some (.ref fLe)))
    (FfLe : ∃ fd, Fun K "leads_to" "leads_to" sLeads fLe fd)
    (afSe : PySem.W.nsIn K mainGlobals "settles" = some (some (.ref fSe)))
    (FfSe : ∃ fd, Fun K "settles" "settles" sSettles fSe fd)
    (afBg : PySem.W.nsIn K mainGlobals "_law_bag" = some (some (.ref fBg)))
    (FfBg : ∃ fd, Fun K "_law_bag" "_law_bag" sBag fBg fd)
    (afTk : PySem.W.nsIn K mainGlobals "_law_take" = some (some (.ref fTk)))
    (FfTk : ∃ fd, Fun K "_law_take" "_law_take" sTake fTk fd)
    (afLd : PySem.W.nsIn K mainGlobals "_law_doubts" = some (some (.ref fLd)))
    (FfLd : ∃ fd, Fun K "_law_doubts" "_law_doubts" sLDoubts fLd fd)
    (afEn : PySem.W.nsIn K mainGlobals "_law_end" = some (some (.ref fEn)))
    (FfEn : ∃ fd, Fun K "_law_end" "_law_end" sLEnd fEn fd)
    (afLs : PySem.W.nsIn K mainGlobals "_law_settles" = some (some (.ref fLs)))
    (FfLs : ∃ fd, Fun K "_law_settles" "_law_settles" sLSettles fLs fd)
    (afDw : PySem.W.nsIn K mainGlobals "_law_drawn" = some (some (.ref fDw)))
    (FfDw : ∃ fd, Fun K "_law_drawn" "_law_drawn" sDrawn fDw fd)
    (afBn : PySem.W.nsIn K mainGlobals "_law_bent" = some (some (.ref fBn)))
    (FfBn : ∃ fd, Fun K "_law_bent" "_law_bent" sBent fBn fd)
    (afLw : PySem.W.nsIn K mainGlobals "law" = some (some (.ref fLw)))
    (FfLw : ∃ fd, Fun K "law" "law" sLaw fLw fd)
    (nisinstance : PySem.W.nsIn K mainGlobals "isinstance" = some none)
    (nlen : PySem.W.nsIn K mainGlobals "len" = some none)
    (nint : PySem.W.nsIn K mainGlobals "int" = some none)
    (nbool : PySem.W.nsIn K mainGlobals "bool" = some none)
    (nstr : PySem.W.nsIn K mainGlobals "str" = some none)
    (ntuple : PySem.W.nsIn K mainGlobals "tuple" = some none)
    (nlist : PySem.W.nsIn K mainGlobals "list" = some none)
    (nall : PySem.W.nsIn K mainGlobals "all" = some none)
    (nsum : PySem.W.nsIn K mainGlobals "sum" = some none)
    (nsorted : PySem.W.nsIn K mainGlobals "sorted" = some none)
    (nset : PySem.W.nsIn K mainGlobals "set" = some none)
    (nenumerate : PySem.W.nsIn K mainGlobals "enumerate" = some none)
    (nrange : PySem.W.nsIn K mainGlobals "range" = some none)
    (nmin : PySem.W.nsIn K mainGlobals "min" = some none)
    (nmax : PySem.W.nsIn K mainGlobals "max" = some none) :
    ∃ fd : FuncData, (∀ (s : Shared) (v : Value), BindsTo s fd ⟨[v], []⟩ [("script", v)]) ∧ ∀ base : Heap, K.In base → base.Ns mainGlobals mg → FnOk l.prog w K mg base CX0 38 fa fd ["script"] (spLaw K) := by
  have e := hfa.symm.trans (PySem.W.mg_of X G afLw)
  cases e
  obtain ⟨fdfAr, FfAr⟩ := FfAr
  obtain ⟨fdfPa, FfPa⟩ := FfPa
  obtain ⟨fdfTr, FfTr⟩ := FfTr
  obtain ⟨fdfBt, FfBt⟩ := FfBt
  obtain ⟨fdfBe, FfBe⟩ := FfBe
  obtain ⟨fdfLt, FfLt⟩ := FfLt
  obtain ⟨fdfBr, FfBr⟩ := FfBr
  obtain ⟨fdfLe, FfLe⟩ := FfLe
  obtain ⟨fdfSe, FfSe⟩ := FfSe
  obtain ⟨fdfBg, FfBg⟩ := FfBg
  obtain ⟨fdfTk, FfTk⟩ := FfTk
  obtain ⟨fdfLd, FfLd⟩ := FfLd
  obtain ⟨fdfEn, FfEn⟩ := FfEn
  obtain ⟨fdfLs, FfLs⟩ := FfLs
  obtain ⟨fdfDw, FfDw⟩ := FfDw
  obtain ⟨fdfBn, FfBn⟩ := FfBn
  obtain ⟨fdfLw, FfLw⟩ := FfLw
  have bfAr := FfAr.binds (ps := ["doubts", "group"]) fun _ _ _ _ _ _ us hl => match us, hl with | [_, _], _ => rfl
  have bfPa := FfPa.binds (ps := ["doubts", "group", "number"]) fun _ _ _ _ _ _ us hl => match us, hl with | [_, _, _], _ => rfl
  have bfTr := FfTr.binds (ps := ["doubts", "shown", "number", "known"]) fun _ _ _ _ _ _ us hl => match us, hl with | [_, _, _, _], _ => rfl
  have bfBt := FfBt.binds (ps := ["doubts", "group", "known"]) fun _ _ _ _ _ _ us hl => match us, hl with | [_, _, _], _ => rfl
  have bfBe := FfBe.binds (ps := ["doubts", "group", "known"]) fun _ _ _ _ _ _ us hl => match us, hl with | [_, _, _], _ => rfl
  have bfLt := FfLt.binds (ps := ["doubts"]) fun _ _ _ _ _ _ us hl => match us, hl with | [_], _ => rfl
  have bfBr := FfBr.binds (ps := ["branches", "look"]) fun _ _ _ _ _ _ us hl => match us, hl with | [_, _], _ => rfl
  have bfLe := FfLe.binds (ps := ["tree", "row"]) fun _ _ _ _ _ _ us hl => match us, hl with | [_, _], _ => rfl
  have bfSe := FfSe.binds (ps := ["doubts", "tree"]) fun _ _ _ _ _ _ us hl => match us, hl with | [_, _], _ => rfl
  have bfBg := FfBg.binds (ps := ["script", "k"]) fun _ _ _ _ _ _ us hl => match us, hl with | [_, _], _ => rfl
  have bfTk := FfTk.binds (ps := ["bag", "many"]) fun _ _ _ _ _ _ us hl => match us, hl with | [_, _], _ => rfl
  have bfLd := FfLd.binds (ps := ["bag"]) fun _ _ _ _ _ _ us hl => match us, hl with | [_], _ => rfl
  have bfEn := FfEn.binds (ps := ["row", "tree"]) fun _ _ _ _ _ _ us hl => match us, hl with | [_, _], _ => rfl
  have bfLs := FfLs.binds (ps := ["doubts", "tree"]) fun _ _ _ _ _ _ us hl => match us, hl with | [_, _], _ => rfl
  have bfDw := FfDw.binds (ps := ["bag", "deep"]) fun _ _ _ _ _ _ us hl => match us, hl with | [_, _], _ => rfl
  have bfBn := FfBn.binds (ps := ["bag", "tree"]) fun _ _ _ _ _ _ us hl => match us, hl with | [_, _], _ => rfl
  have T : Nm mg := {
    isi := PySem.W.mg_none_of X G nisinstance
    len := PySem.W.mg_none_of X G nlen
    int := PySem.W.mg_none_of X G nint
    bool := PySem.W.mg_none_of X G nbool
    str := PySem.W.mg_none_of X G nstr
    tuple := PySem.W.mg_none_of X G ntuple
    list := PySem.W.mg_none_of X G nlist
    all := PySem.W.mg_none_of X G nall
    sum := PySem.W.mg_none_of X G nsum
    sorted := PySem.W.mg_none_of X G nsorted
    set := PySem.W.mg_none_of X G nset
    enum := PySem.W.mg_none_of X G nenumerate
    range := PySem.W.mg_none_of X G nrange
    min := PySem.W.mg_none_of X G nmin
    max := PySem.W.mg_none_of X G nmax }
  refine ⟨fdfLw, ?_, fun base kb nb => ?_⟩
  · obtain ⟨oc, od, kV, doc, pm, an, cdv, ct, osl, rfl, lk, hcd⟩ := FfLw.ex
    exact fun s v => .of_eq rfl
  have GTk := ok_take (P := l.prog) (w := w) (mg := mg) (base := base) FfTk
  have GBg := ok_bag (P := l.prog) (w := w) (base := base) FfBg T
  have GLd := ok_ldoubts FfLd T GTk bfTk FfTk.kp (PySem.W.mg_of X G afTk)
  have BTz : BT K mg fAr fPa fTr fBt fBe fdfAr fdfPa fdfTr fdfBt fdfBe := { A := FfAr, Pt := FfPa, Td := FfTr, S := FfBt, B := FfBe, bA := bfAr, bP := bfPa, bT := bfTr, bS := bfBt, bB := bfBe, mA := PySem.W.mg_of X G afAr, mP := PySem.W.mg_of X G afPa, mT := PySem.W.mg_of X G afTr, mS := PySem.W.mg_of X G afBt, mB := PySem.W.mg_of X G afBe }
  have GBe := ok_bestN (P := l.prog) (w := w) (base := base) T BTz 8
  have GLt := ok_leastT FfLt T GBe bfBe FfBe.kp (PySem.W.mg_of X G afBe)
  have GBr := ok_branch (P := l.prog) (w := w) (mg := mg) (base := base) FfBr
  have GLe := ok_leads FfLe T GBr bfBr FfBr.kp (PySem.W.mg_of X G afBr)
  have GSe := ok_settles FfSe T GLe bfLe FfLe.kp (PySem.W.mg_of X G afLe)
  have GEn := ok_lend (P := l.prog) (w := w) (base := base) FfEn T
  have GLs := ok_lsettles FfLs T GEn bfEn FfEn.kp (PySem.W.mg_of X G afEn)
  have GDw := ok_drawnN FfDw T GTk bfTk FfTk.kp (PySem.W.mg_of X G afTk) bfDw (PySem.W.mg_of X G afDw) 3
  have GBn := ok_bentN FfBn T GTk bfTk FfTk.kp (PySem.W.mg_of X G afTk) bfBn (PySem.W.mg_of X G afBn) 8
  exact ok_law FfLw (⟨T, ⟨GBg, bfBg, FfBg.kp, PySem.W.mg_of X G afBg⟩, ⟨GLd, bfLd, FfLd.kp, PySem.W.mg_of X G afLd⟩, ⟨GLt, bfLt, FfLt.kp, PySem.W.mg_of X G afLt⟩, ⟨GDw, bfDw, FfDw.kp, PySem.W.mg_of X G afDw⟩, ⟨GBn, bfBn, FfBn.kp, PySem.W.mg_of X G afBn⟩, ⟨GSe, bfSe, FfSe.kp, PySem.W.mg_of X G afSe⟩, ⟨GLs, bfLs, FfLs.kp, PySem.W.mg_of X G afLs⟩⟩ : LG l.prog w K mg base fBg fLd fLt fDw fBn fSe fLs fdfBg fdfLd fdfLt fdfDw fdfBn fdfSe fdfLs)
theorem walk {l : PySem.W.OpenLaw} {q : Program} {loose : List Str} {XP : (Str → Option Value) → Heap → Prop} {YP : World → Heap → Prop} {d : DefRec} {K : Params → PySem.W.Frag} (hn : l.most = some 63) (hdf : d.params.defaults = [])
    (hY : ∀ (w : World) (h : Heap), YP w h → (K w.params).In h)
    (F : ∀ (w : World) (mg : Str → Option Value) (fa : Addr) (h : Heap), (K w.params).In h → h.Ns mainGlobals mg → mg d.name = some (.ref fa) →
      ∃ fd : FuncData, (∀ (s : Shared) (u : Value), BindsTo s fd ⟨[u], []⟩ [("script", u)]) ∧ ∀ base : Heap, (K w.params).In base → base.Ns mainGlobals mg → FnOk l.prog w (K w.params) mg base CX0 38 fa fd ["script"] (spLaw (K w.params))) :
    PySem.W.WalkO q loose XP YP l.row.toRowW d [] (fun f vs => PySem.call f vs) :=
  L2.walk_of (n := 63) (k := 38) (x := "script") (CX := fun _ => CX0) (sp := fun w => spLaw (K w.params)) hn (by decide) hdf ⟨rfl, by decide, by decide⟩ hY F (fun _ _ a ns hl _ hS => ⟨a, ns, rfl, hS, hl, fun _ => rfl⟩) fun _ _ _ _ _ z => z
end Gl

set_option Elab.async false
set_option linter.all false
open PySem PySem.W PyProof.Rows L2 Gl
set_option maxRecDepth 100000 in
set_option maxHeartbeats 0 in
theorem PySem.Challenge.cw_glazetold_k13_trees_that_settle_holds : PySem.Challenge.rw_glazetold_k13_trees_that_settle.Holds := by
  w_on; o_law; k_head; (case hw => w_witness2)
  k_fill
  refine Gl.walk (l := PySem.Challenge.rw_glazetold_k13_trees_that_settle) rfl rfl (fun w h Y => PySem.W.kIn_of Y) ?F
  case F =>
    intro w mg fa h KX G hmg
    refine' Gl.all_mk KX G hmg ?zzafAr ?zzFfAr ?zzafPa ?zzFfPa ?zzafTr ?zzFfTr ?zzafBt ?zzFfBt ?zzafBe ?zzFfBe ?zzafLt ?zzFfLt ?zzafBr ?zzFfBr ?zzafLe ?zzFfLe ?zzafSe ?zzFfSe ?zzafBg ?zzFfBg ?zzafTk ?zzFfTk ?zzafLd ?zzFfLd ?zzafEn ?zzFfEn ?zzafLs ?zzFfLs ?zzafDw ?zzFfDw ?zzafBn ?zzFfBn ?zzafLw ?zzFfLw ?zznisinstance ?zznlen ?zznint ?zznbool ?zznstr ?zzntuple ?zznlist ?zznall ?zznsum ?zznsorted ?zznset ?zznenumerate ?zznrange ?zznmin ?zznmax
    (case zzafAr => k_is)
    (case zzFfAr => (refine' ⟨_, fun_mk ?zl ?zc ?zk⟩; (case zl => k_is); (case zc => k_is); (case zk => k_is)))
    (case zzafPa => k_is)
    (case zzFfPa => (refine' ⟨_, fun_mk ?zl ?zc ?zk⟩; (case zl => k_is); (case zc => k_is); (case zk => k_is)))
    (case zzafTr => k_is)
    (case zzFfTr => (refine' ⟨_, fun_mk ?zl ?zc ?zk⟩; (case zl => k_is); (case zc => k_is); (case zk => k_is)))
    (case zzafBt => k_is)
    (case zzFfBt => (refine' ⟨_, fun_mk ?zl ?zc ?zk⟩; (case zl => k_is); (case zc => k_is); (case zk => k_is)))
    (case zzafBe => k_is)
    (case zzFfBe => (refine' ⟨_, fun_mk ?zl ?zc ?zk⟩; (case zl => k_is); (case zc => k_is); (case zk => k_is)))
    (case zzafLt => k_is)
    (case zzFfLt => (refine' ⟨_, fun_mk ?zl ?zc ?zk⟩; (case zl => k_is); (case zc => k_is); (case zk => k_is)))
    (case zzafBr => k_is)
    (case zzFfBr => (refine' ⟨_, fun_mk ?zl ?zc ?zk⟩; (case zl => k_is); (case zc => k_is); (case zk => k_is)))
    (case zzafLe => k_is)
    (case zzFfLe => (refine' ⟨_, fun_mk ?zl ?zc ?zk⟩; (case zl => k_is); (case zc => k_is); (case zk => k_is)))
    (case zzafSe => k_is)
    (case zzFfSe => (refine' ⟨_, fun_mk ?zl ?zc ?zk⟩; (case zl => k_is); (case zc => k_is); (case zk => k_is)))
    (case zzafBg => k_is)
    (case zzFfBg => (refine' ⟨_, fun_mk ?zl ?zc ?zk⟩; (case zl => k_is); (case zc => k_is); (case zk => k_is)))
    (case zzafTk => k_is)
    (case zzFfTk => (refine' ⟨_, fun_mk ?zl ?zc ?zk⟩; (case zl => k_is); (case zc => k_is); (case zk => k_is)))
    (case zzafLd => k_is)
    (case zzFfLd => (refine' ⟨_, fun_mk ?zl ?zc ?zk⟩; (case zl => k_is); (case zc => k_is); (case zk => k_is)))
    (case zzafEn => k_is)
    (case zzFfEn => (refine' ⟨_, fun_mk ?zl ?zc ?zk⟩; (case zl => k_is); (case zc => k_is); (case zk => k_is)))
    (case zzafLs => k_is)
    (case zzFfLs => (refine' ⟨_, fun_mk ?zl ?zc ?zk⟩; (case zl => k_is); (case zc => k_is); (case zk => k_is)))
    (case zzafDw => k_is)
    (case zzFfDw => (refine' ⟨_, fun_mk ?zl ?zc ?zk⟩; (case zl => k_is); (case zc => k_is); (case zk => k_is)))
    (case zzafBn => k_is)
    (case zzFfBn => (refine' ⟨_, fun_mk ?zl ?zc ?zk⟩; (case zl => k_is); (case zc => k_is); (case zk => k_is)))
    (case zzafLw => k_is)
    (case zzFfLw => (refine' ⟨_, fun_mk ?zl ?zc ?zk⟩; (case zl => k_is); (case zc => k_is); (case zk => k_is)))
    (case zznisinstance => k_is)
    (case zznlen => k_is)
    (case zznint => k_is)
    (case zznbool => k_is)
    (case zznstr => k_is)
    (case zzntuple => k_is)
    (case zznlist => k_is)
    (case zznall => k_is)
    (case zznsum => k_is)
    (case zznsorted => k_is)
    (case zznset => k_is)
    (case zznenumerate => k_is)
    (case zznrange => k_is)
    (case zznmin => k_is)
    (case zznmax => k_is)

