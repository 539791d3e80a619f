import PyProof.Rows.All
import Wide.All
import OpenK.AllK
import Wide.FinOn
import HandS.ForMost
import HandS.ForExc
import HandS.SortInts
import KE.KIndexOf
import KE.DatumOrd
import KE.GoesMore
import KE.GoesEnum
import PyProof.Rows.SortShellAny
import HandS.OwnEq
import HandS.MakeKwOnly
import HandS.Strs
import HandS.Style
import HandS.Conv
import HandS.Sort
import HandS.SortRule
import HandS.CallSlots
import HandS.Flow
import HandS.Deep
import HandS.More
import HandS.WordsExc
import HandS.ExcOwn
import HandS.Exc
import PySem.Challenge.RW_turnedvalleys_k06_stretches_that_may_be
set_option Elab.async false
set_option linter.all false
set_option maxRecDepth 100000
set_option maxHeartbeats 1000000
/-! rules over tuples that the hand layer has for lists alone -/
namespace FDB
open PySem PySem.Spec PyProof.Rows L2 HT
section
variable {prog : Program} {w : World} {A : Around} {E : Value → Shared → Prop} {s : Shared}
theorem getItem_tuple_whole {t sl : Addr} {items : Array Value} {vl vu : Value} {lo hi : Option Int} {Q : Value → Shared → Prop} (ht : IsTup s.heap t items) (hs : s.heap.IsSliceOf sl vl vu .none) (pl : IsPart vl lo) (pu : IsPart vu hi)
    (h1 : sIx items.size 0 lo = 0) (h2 : sIx items.size items.size hi = items.size) (h : Q (.ref t) s) : wpAny (model prog w) A (getItem (.ref t) (.ref sl)) Q E s := by
  obtain ⟨os, hos, hcs, hds⟩ := id hs
  have hTs : s.TypeIs (.ref sl) "slice" := ⟨os, hos, hcs⟩
  unfold getItem
  try with_reducible refine wpAny_holding ?_
  first | refine wpAny_bind (wpAny_pure ?_) | skip
  refine wpAny_bind (wpAny_sequenceKey ht.typeIs (by decide) ?_)
  refine wpAny_bind (wpAny_callSpecial?_slot (name := Str.ofString "__getitem__") ht.typeIs PyProof.Rows.slot_tuple_getitem
    (wpAny_call_entry PyProof.Rows.slot_tuple_getitem ht.typeIs entry_tuple_getitem ?_ (args_tuple_getitem _ _)))
  show wpAny _ _ (Builtin.Tuple.tupleItemsOf (.ref t) >>= _) _ _ s
  refine wpAny_bind (tupleItemsOf_ ht ?_)
  refine wpAny_bind (wpAny_typeOf hTs ?_)
  rw [if_pos (by decide)]
  refine wpAny_bind (sliceApplied_gen hs pl pu ?_)
  show wpAny _ _ (if (((sIx items.size 0 lo : Nat) : Int) == 0 && (1 : Int) == 1 && (sIx items.size items.size hi - sIx items.size 0 lo) == items.size) = true then _ else _) _ _ s
  rw [if_pos (by rw [h1, h2]; simp)]
  refine wpAny_bind (m := Builtin.Tuple.tupleIsExact (.ref t)) ?_
  unfold Builtin.Tuple.tupleIsExact
  refine wpAny_bind (wpAny_typeOf ht.typeIs (wpAny_pure ?_))
  show wpAny _ _ (if (Value.type "tuple" == Value.type "tuple") = true then _ else _) _ _ s
  rw [if_pos (by rfl)]
  refine wpAny_bind (wpAny_rule ?_)
  first
    | exact wpAny_pure ⟨_, rfl, wpAny_pure h⟩
    | exact wpAny_bind (wpAny_pure ⟨_, rfl, wpAny_pure h⟩)
    | exact wpAny_bind (wpAny_pure (wpAny_pure ⟨_, rfl, wpAny_pure h⟩))
    | exact wpAny_pure (wpAny_pure ⟨_, rfl, wpAny_pure h⟩)
theorem cat_tup0 {t b : Addr} {ws : List Value} {Q : Value → Shared → Prop} (ht : IsTup s.heap t #[]) (hb : IsTup s.heap b ws.toArray) (h : Q (.ref b) s) : wpAny (model prog w) A (binaryOp .Add (.ref t) (.ref b)) Q E s := by
  obtain ⟨⟨cls, dd, data, sl⟩, ho, hc, n, hd⟩ := id ht
  obtain ⟨⟨cls2, dd2, data2, sl2⟩, ho2, hc2, n2, hd2⟩ := id hb
  simp only at hc hd hc2 hd2
  subst hc hd hc2 hd2
  refine concat_meets ⟨_, ho, rfl⟩ ⟨_, ho2, rfl⟩ noFill_tuple_add seq_tuple_add PySem.F.slot_tuple_add PySem.F.entry_tuple_add (PySem.F.args_tuple_add_2 _ _) (.of_wp fun prog w A R s h => ?_ : Meets (Builtin.«tuple.__add__» ⟨[.ref t, .ref b], []⟩) (fun _ R s => s.heap.get? t = some { cls := .type "tuple", dict := dd, data := .seq #[] n, slots := sl } ∧ s.heap.get? b = some { cls := .type "tuple", dict := dd2, data := .seq ws.toArray n2, slots := sl2 } ∧ R (.ok (.ret (Value.ref b))) s)) ⟨ho, ho2, h⟩
  obtain ⟨k1, k2, k3⟩ := h
  have T1 : s.TypeIs (.ref t) "tuple" := ⟨_, k1, rfl⟩
  have T2 : s.TypeIs (.ref b) "tuple" := ⟨_, k2, rfl⟩
  have P1 : IsTup s.heap t #[] := ⟨_, k1, rfl, _, rfl⟩
  have P2 : IsTup s.heap b ws.toArray := ⟨_, k2, rfl, _, rfl⟩
  show wpAny _ _ (isInstance (.ref b) (.type "tuple") >>= _) _ _ s
  refine wpAny_bind (wpAny_isInstance (T := "tuple") (b := true) T2 (by rw [isSubtype_type]; kernel_rfl) ?_)
  show wpAny _ _ (Builtin.Tuple.tupleItemsOf (.ref t) >>= _) _ _ s
  refine wpAny_bind (tupleItemsOf_ P1 ?_)
  refine wpAny_bind (tupleItemsOf_ P2 ?_)
  rw [if_pos (by rfl)]
  refine wpAny_bind (m := Builtin.Tuple.tupleIsExact (.ref b)) ?_
  unfold Builtin.Tuple.tupleIsExact
  refine wpAny_bind (wpAny_typeOf T2 (wpAny_pure ?_))
  show wpAny _ _ (if (Value.type "tuple" == Value.type "tuple") = true then _ else _) _ _ s
  rw [if_pos (by rfl)]
  refine wpAny_bind (wpAny_rule ?_)
  first
    | exact wpAny_pure ⟨_, rfl, k3⟩
    | exact wpAny_bind (wpAny_pure ⟨_, rfl, k3⟩)
    | exact wpAny_bind (wpAny_pure (wpAny_pure ⟨_, rfl, k3⟩))
theorem collect_tuple {l : Addr} {vs : List Value} {Q : List Value → Shared → Prop} (hl : s.heap.IsTuple l vs.toArray)
    (h : Q vs { s with heap := (s.heap.push (seqObj "list" #[] 0)).update s.heap.objs.size (Obj.mapSeq (· ++ vs.toArray)) }) (hsz : vs.length ≤ sizeLine) :
    wpAny (model prog w) A (collect (.ref l)) Q E s := by
  obtain ⟨o, ho, hc, n, hd⟩ := id hl
  unfold collect
  refine wpAny_bind (wpAny_runValue (codeAny_builtin entry_proto_collect' ?_))
  show wpAny _ _ (do again (.builtin "list.__iadd__" ⟨[← newList [], .ref l], []⟩)) _ _ s
  refine wpAny_bind (wpAny_newList (wpAny_pure ⟨Code.quiet_builtin _ (by decide +kernel), codeAny_builtin entry_list_iadd' ?_⟩))
  show wpAny _ _ (Builtin.List.listExtendWith (.ref s.heap.objs.size) (.ref l) (.ref s.heap.objs.size)) _ _ { s with heap := s.heap.push (seqObj "list" #[] 0) }
  unfold Builtin.List.listExtendWith
  have ho' : (s.heap.push (seqObj "list" #[] 0)).get? l = some o := Heap.get?_push_of_some _ ho
  refine wpAny_bind (wpAny_typeOf (T := "tuple") ⟨o, ho', hc⟩ ?_)
  rw [if_pos (by simp)]
  refine wpAny_bind (listItems_at ho' hd ?_)
  refine wpAny_bind (listItems_at (xs := #[]) (n := 0) (Heap.get?_push_size _ rfl) rfl ?_)
  rw [if_neg (by simp)]
  refine wpAny_bind (listUpdate_at (xs := #[]) (n := 0) (Heap.get?_push_size _ rfl) rfl ?_ (Nat.zero_le _) (by show (#[] ++ vs.toArray).size ≤ sizeLine + 1; simp only [Array.size_append, List.size_toArray, List.length_nil]; omega))
  refine wpAny_pure ?_
  show wpAny (model prog w) A (do
      let o ← load s.heap.objs.size
      match o.data with
      | .seq xs _ => pure xs.toList
      | _ => unsupported "internal:collect") Q E { s with heap := (s.heap.push (seqObj "list" #[] 0)).update s.heap.objs.size (Obj.mapSeq (· ++ vs.toArray)) }
  refine wpAny_bind (wpAny_load (get?_update_seq (Heap.get?_push_size _ rfl) _) ?_)
  show wpAny _ _ (pure ((#[] : Array Value) ++ vs.toArray).toList) Q E _
  rw [show ((#[] : Array Value) ++ vs.toArray).toList = vs by simp]
  exact wpAny_pure h
theorem sorted_intsT {l : Addr} {vs : List Value} {ns : List Int} {Q : Value → Shared → Prop} (hl : s.heap.IsTuple l vs.toArray) (hI : IntsAre vs ns) (hL : vs.length ≤ sizeLine)
    (h : ∀ (out : Array Value) (ns' : List Int), IntsAre out.toList ns' → ns'.Perm ns → ns'.Pairwise (· ≤ ·) → Q (.ref (s.heap.objs.size + 1)) { s with heap := sortedAll s.heap vs out }) :
    wpAny (model prog w) A (call (.builtin "sorted") [.ref l]) Q E s := by
  refine Calls.call_function_entry kind_sorted plain_sorted entry_sorted (args_sorted1 _) ?_
  unfold Builtin.«sorted»
  refine wpAny_bind (m := checkCount "sorted" 1 1 _) (wpAny_pure ?_)
  refine wpAny_bind (collect_tuple hl ?_ hL)
  refine wpAny_bind (wpAny_newList ?_)
  have hsz : ((s.heap.push (seqObj "list" #[] 0)).update s.heap.objs.size (Obj.mapSeq (· ++ vs.toArray))).objs.size = s.heap.objs.size + 1 := by
    rw [Heap.size_update, size_push']
  have hoL : (((s.heap.push (seqObj "list" #[] 0)).update s.heap.objs.size (Obj.mapSeq (· ++ vs.toArray))).push (seqObj "list" vs.toArray 0)).get? (s.heap.objs.size + 1) = some (seqObj "list" vs.toArray 0) := by
    rw [← hsz]; exact Heap.get?_push_size _ rfl
  show wpAny _ _ _ _ _ { s with heap := ((s.heap.push (seqObj "list" #[] 0)).update s.heap.objs.size (Obj.mapSeq (· ++ vs.toArray))).push (seqObj "list" vs.toArray 0) }
  rw [hsz]
  refine wpAny_bind (wpAny_holding (wpAny_call_entry slot_list_sort ⟨_, hoL, rfl⟩ entry_list_sort (list_sort_treeAny hoL hI hL fun out ns' a1 a2 a3 => ⟨_, rfl, ?_⟩) (args_list_sort _)))
  exact wpAny_pure ⟨_, rfl, h out ns' a1 a2 a3⟩
end

section
variable {X : Cx}
/-- a new tuple, its object known -/
def NewT (H : Hp) (xs : List V) (Q : VK) : Prop := ∀ (p : Addr) (o : Obj), H p = none → o.cls = .type "tuple" → o.dict = none → Q (.ref p) (upd H p (.frz o (.tup xs)))
theorem newT_ok {pins : List (Addr × Obj)} {σ : L2.St} {H : Hp} {s : Shared} {xs : List V} {its : List Value} {Q : VK} (I : Inv X pins σ H s) (r : Vals xs its) (hz : xs.length ≤ sizeLine) (q : NewT H xs Q) :
    EP X pins σ Q (.ref s.heap.objs.size) { s with heap := s.heap.push { cls := .type "tuple", data := .seq its.toArray } } := by
  have e : (s.heap.push ({ cls := .type "tuple", data := .seq its.toArray } : Obj)).get? s.heap.objs.size = some { cls := .type "tuple", data := .seq its.toArray } := Heap.get?_push_size _ rfl
  exact ⟨.ref s.heap.objs.size, _, I.laid (t' := s.toks) (o := .frz { cls := .type "tuple", data := .seq its.toArray } (.tup xs)) (fun b ob q => Heap.get?_push_of_some _ q) (Nat.le_refl _) ⟨e, hz, its, r, ⟨_, e, rfl, _, rfl⟩⟩, rfl, q _ _ (I.hok.fresh (Nat.le_refl _)) rfl rfl⟩
def tTupF (t : TA) : TE := fun σ H Q => t σ H fun xs H1 => xs.length ≤ sizeLine ∧ NewT H1 xs Q
theorem pe_tupF {es : List Expr} {t : TA} {pos : Pos} {x1} (h : PA X es t) : PE X (.Tuple es x1 pos) (tTupF t) := by
  refine ⟨fun pins s σ H Q I hq => ?_⟩
  refine wpAny_Tuple_spliced (thn (h.run pos pins s σ H _ I hq) fun us s1 ⟨xs, H1, I1, r, z, q⟩ => ⟨by rw [← r.length]; exact z, ?_⟩)
  exact newT_ok I1 r z q
theorem call_tuple_ofF : CallR X (.type "tuple") (fun xs H Q => ∃ p ys, xs = [.ref p] ∧ ((SqL X.K H p ys ∧ NewT H ys Q) ∨ (SqT X.K H p ys ∧ Q (.ref p) H))) := by
  intro pins s σ H xs us Q I r h
  obtain ⟨p, ys, rfl, h⟩ := h
  obtain ⟨u, rfl, rx⟩ := vals1 r
  cases rx
  rcases h with ⟨hq, q⟩ | ⟨hq, q⟩
  · obtain ⟨its, r', pl, hz⟩ := I.list hq
    have hlen := r'.length
    refine call_tuple_list pl.isList (fun h' kp => ?_) (by simp only [List.size_toArray] <;> omega)
    exact newT_ok (s := { s with heap := h' }) (I.kept (t' := s.toks) kp) r' hz q
  · obtain ⟨its, r', pl, hz⟩ := I.tuple hq
    exact call_tuple_same pl ⟨.ref p, H, I, rfl, q⟩
/-- o.m(e, ..), o a tuple whose object is known -/
def tBMF (T : String) (r : V → List V → Hp → VK → Prop) (to : TE) (t : TA) : TE := fun σ H Q => to σ H fun x H1 => (∃ (a : Addr) (o : Obj) (u : HO), x = .ref a ∧ H1 a = some (.frz o u) ∧ o.cls = .type T ∧ o.dict = none) ∧ t σ H1 fun xs H2 => r x xs H2 Q
theorem pe_bmF {o e : Expr} {es : List Expr} {to : TE} {t : TA} {name : Str} {apos cpos : Pos} {T id : String} {r : V → List V → Hp → VK → Prop} (pa : PlainAttrs T) (slot : Slot T name id) (hty : typeOf (.builtin id) = pure (.type "method_descriptor")) (hm : MtR X id r) (ho : PE X o to) (ha : PA X (e :: es) t)
    (hbase : attributeBase o name X.env (eval o X.env) = eval o X.env := by rfl)
    (hfew : ((backTo cpos (starEach (e :: es) X.env)).all (fun x => !x.1) && (backToKw cpos (keywordEach [] X.env)).all (fun x => x.1.isSome)
      && decide ((e :: es).length + ([] : List Keyword).length + (if ([] : List Keyword).isEmpty then 0 else 1) < 30)) = true := by rfl)
    (hline : (apos.endLine == cpos.line) = true := by rfl) (hs : starEach (e :: es) X.env = (false, eval e X.env) :: starEach es X.env := by rfl) (hplain : (backTo cpos (starEach es X.env)).any (·.1) = false := by rfl) :
    PE X (.Call (.Attribute o name apos) (e :: es) [] cpos) (tBMF T r to t) := by
  refine ⟨fun pins s σ H Q I h => ?_⟩
  refine wpAny_Call_method_late hbase hfew hline rfl (thn (ho.run pins s σ H _ I h) fun v s1 ⟨x, H1, I1, r1, ty, q1⟩ => ?_)
  obtain ⟨a, ob, u, rfl, hk, hc, hd⟩ := ty
  have r1' := r1
  cases r1
  have e1 : s1.heap.get? a = some ob := (I1.hok a _ hk).1
  refine ⟨T, id, pa, slot, hty, ⟨ob, e1, hc⟩, fun b eb => by cases eb; exact ⟨ob, e1, hd⟩, ?_⟩
  have hA := ha.run cpos pins s1 σ H1 _ I1 q1
  rw [hs] at hA ⊢
  refine Calls.callWith_builtin (by show (false || (backTo cpos (starEach es X.env)).any (·.1)) = false; rw [hplain] <;> rfl) (Calls.evalArgs_plain ?_)
  exact thn hA fun us s2 ⟨vs, H2, I2, r2, q2⟩ => hm pins s2 σ H2 (.ref a) vs (.ref a) us Q I2 r1' r2 q2
/-- t[lo:hi] -/
def rSlT2 (K : PySem.W.Frag) : V → Option Int → Option Int → Hp → VK → Prop := fun x lo hi H Q => ∃ a xs, x = .ref a ∧ SqT K H a xs ∧
  (HT.sIx xs.length 0 lo = 0 → HT.sIx xs.length xs.length hi = xs.length → Q (.ref a) H) ∧
  (¬ (HT.sIx xs.length 0 lo = 0 ∧ HT.sIx xs.length xs.length hi = xs.length) → NewT H (cutV xs lo hi) Q)
theorem sl_tup2 : SlR X (rSlT2 X.K) := by
  intro pins s σ H x v vl vu lo hi sl Q I rx hs pl pu h
  obtain ⟨a, xs, rfl, hx, q1, q2⟩ := h
  by_cases hw : HT.sIx xs.length 0 lo = 0 ∧ HT.sIx xs.length xs.length hi = xs.length
  · cases rx
    obtain ⟨its, r, ht, hz⟩ := I.tuple hx
    have hlen : its.toArray.size = xs.length := by rw [List.size_toArray]; exact r.length.symm
    refine ⟨"tuple", _, PyProof.Rows.slot_tuple_getitem.lookup, ht.typeIs, ?_⟩
    exact getItem_tuple_whole ht hs pl pu (by rw [hlen]; exact hw.1) (by rw [hlen]; exact hw.2) ⟨.ref a, H, I, rfl, q1 hw.1 hw.2⟩
  · cases rx
    obtain ⟨its, r, ht, hz⟩ := I.tuple hx
    have hlen : its.toArray.size = xs.length := by rw [List.size_toArray]; exact r.length.symm
    refine ⟨"tuple", _, PyProof.Rows.slot_tuple_getitem.lookup, ht.typeIs, ?_⟩
    refine HT.getItem_tuple_cut ht hs pl pu (by rw [hlen]; exact hw) ?_ (by rw [hlen]; exact hz)
    rw [hlen]
    exact newT_ok I ((r.drop (HT.sIx xs.length 0 lo)).take (HT.sIx xs.length xs.length hi - HT.sIx xs.length 0 lo)) (Nat.le_trans (cutV_length xs lo hi) hz) (q2 hw)
/-- t + u -/
def rCatT2 (K : PySem.W.Frag) : R2 := fun x y H Q => ∃ a b xs ys, x = .ref a ∧ y = .ref b ∧ SqT K H a xs ∧ SqT K H b ys ∧ xs.length + ys.length ≤ sizeLine ∧
  (xs = [] → Q (.ref b) H) ∧ (xs ≠ [] → ys = [] → Q (.ref a) H) ∧ (xs ≠ [] → ys ≠ [] → NewT H (xs ++ ys) Q)
theorem op_catT2 : OpR X (binaryOp .Add) (rCatT2 X.K) := by
  intro pins s σ H x y v u Q I rx ry h
  obtain ⟨a, b, xs, ys, rfl, rfl, ha, hb, hz, q0, q1, q2⟩ := h
  by_cases hx : xs = []
  · cases rx
    cases ry
    obtain ⟨its, r1, p1, _⟩ := I.tuple ha
    obtain ⟨its2, r2, p2, _⟩ := I.tuple hb
    have e : its = [] := r1.nil_iff.mpr hx
    subst e
    exact cat_tup0 p1 p2 ⟨.ref b, H, I, rfl, q0 hx⟩
  · cases rx
    cases ry
    obtain ⟨its, r1, p1, _⟩ := I.tuple ha
    obtain ⟨its2, r2, p2, _⟩ := I.tuple hb
    refine HT.cat_tup p1 p2 (fun z => hx (r1.nil_iff.mp z)) (fun z => ⟨.ref a, H, I, rfl, q1 hx (r2.nil_iff.mp z)⟩) (fun z => ?_) (by rw [← r1.length, ← r2.length]; exact hz)
    exact newT_ok I (r1.append r2) (by rw [List.length_append]; exact hz) (q2 hx fun w => z (r2.nil_iff.mpr w))
/-- t.index(k), ints -/
def rTupIndex (K : PySem.W.Frag) : V → List V → Hp → VK → Prop := fun x xs H Q => ∃ (a : Addr) (ns : List Int) (k : Int), x = .ref a ∧ xs = [.int k] ∧ SqT K H a (ns.map V.int) ∧ k ∈ ns ∧ Q (.int (ns.idxOf k : Nat)) H
theorem mt_tupIndex : MtR X "tuple.index" (rTupIndex X.K) := by
  intro pins s σ H x xs v us Q I rx rxs h
  obtain ⟨a, ns, k, rfl, rfl, ht, hk, q⟩ := h
  cases rx
  cases rxs with
  | cons ry rt =>
    cases rt
    obtain ⟨t, rfl⟩ := ry
    obtain ⟨its, rv, p, hz⟩ := I.tuple ht
    exact PySem.SeqAt.tuple_index_ints (show s.heap.IsTuple a its.toArray from p) rv.ints hk ⟨.int _, H, I.tok _, ⟨_, rfl⟩, q⟩
/-- sorted(t), ints -/
def rSortedT1 (K : PySem.W.Frag) : List V → Hp → VK → Prop := fun vs H Q => ∃ (a : Addr) (ns : List Int), vs = [V.ref a] ∧ SqT K H a (ns.map V.int) ∧
  ∀ (ns' : List Int) (p : Addr), ns'.Perm ns → ns'.Pairwise (· ≤ ·) → H p = none → Q (.ref p) (upd H p (.lst (ns'.map V.int)))
theorem cr_sortedT1 : CallR X (.builtin "sorted") (rSortedT1 X.K) := by
  intro pins s σ H vs us Q I r h
  obtain ⟨a, ns, rfl, hs, q⟩ := h
  obtain ⟨its, rv, hl, hz⟩ := I.tuple hs
  rw [Vals.ref1 r]
  have hi := rv.ints
  refine sorted_intsT (show s.heap.IsTuple a its.toArray from hl) hi (by rw [← rv.length]; exact hz) fun out ns' h1 h2 h3 => ?_
  obtain ⟨ep, he'⟩ := PyProof.Rows.sortedAll_at s.heap its out
  have hlen : (ns'.map V.int).length ≤ sizeLine := by
    rw [List.length_map, h2.length_eq]
    rw [List.length_map] at hz
    exact hz
  exact ⟨.ref _, upd H (s.heap.objs.size + 1) (.lst (ns'.map V.int)), I.laid (t' := s.toks) (fun _ _ => PyProof.Rows.sortedAll_old) (Nat.le_succ _) ⟨hlen, out.toList, ep, vals_of_ints h1, he'⟩, rfl, q ns' _ h2 h3 (I.hok.fresh (Nat.le_succ _))⟩
end
end FDB

set_option Elab.async false
set_option linter.all false
set_option maxRecDepth 100000
set_option maxHeartbeats 1000000
/-! x in o by the own __contains__ of o's class; max, min of a tuple; enumerate of a tuple -/
namespace FDB
open PySem PySem.Spec PyProof.Rows L2 HT
section
open PySem.W
variable {prog : Program} {w : World} {A : Around} {E : Value → Shared → Prop} {s : Shared} {K : Frag} {x C f : Addr} {ox : Obj} {od : Option Obj}
theorem contains_K {b : Value} {Q : Bool → Shared → Prop} (X : K.In s.heap) (I : InstAt s.heap x ox C od) (hs : findIn K (.ref C) "__contains__" = some (some (.ref f))) (hf : isFn K (.ref f) = true)
    (h : wpAny (model prog w) A (call (.ref f) [.ref x, b]) (fun v s' => wpAny (model prog w) A (truthy v) Q E s') E s) : wpAny (model prog w) A (contains (.ref x) b) Q E s := by
  have sp : ∀ {Q' : Option Value → Shared → Prop}, Q' (some (.ref f)) s → wpAny (model prog w) A (specialOf (.ref x) "__contains__") Q' E s := fun {Q'} q => by
    unfold specialOf
    exact wpAny_bind (I.type.here ((looks_findIn X hs).here q))
  unfold contains
  refine wpAny_holding ?_
  show wpAny _ _ (specialOf (.ref x) "__contains__" >>= _) _ _ s
  refine wpAny_bind (sp ?_)
  rw [if_neg (by simp)]
  unfold callSpecialUnlessNone?
  refine wpAny_bind (wpAny_bind (sp ?_))
  show wpAny _ _ (holding (.ref x :: [b]) _) _ _ s
  refine wpAny_holding (wpAny_bind ((bind_fn X _ (beq_iff_eq.mp hf)).here ?_))
  show wpAny _ _ (if (Value.ref f == Value.none) = true then _ else _) _ _ s
  rw [if_neg (by simp)]
  refine wpAny_bind (wpAny_mono h (fun v s' h' => wpAny_pure ?_) fun _ _ e => e)
  exact h'
end

section
variable {X : Cx}
/-- max(t), min(t), ints, not empty -/
def maxI (n : Int) (ns : List Int) : Int := ns.foldl (fun a y => if a < y then y else a) n
def minI (n : Int) (ns : List Int) : Int := ns.foldl (fun a y => if y < a then y else a) n
theorem maxOf_eq (n : Int) (ns : List Int) : PySem.W.maxOf n ns = maxI n ns := by
  unfold PySem.W.maxOf maxI
  congr 1
  funext a y
  show (if decide (a < y) = true then y else a) = if a < y then y else a
  by_cases h : a < y <;> simp [h]
theorem minOf_eq (n : Int) (ns : List Int) : PySem.W.minOf n ns = minI n ns := by
  unfold PySem.W.minOf minI
  congr 1
  funext a y
  show (if decide (y < a) = true then y else a) = if y < a then y else a
  by_cases h : y < a <;> simp [h]
def rMaxT (K : PySem.W.Frag) : List V → Hp → VK → Prop := fun vs H Q => ∃ (a : Addr) (n : Int) (ns : List Int), vs = [V.ref a] ∧ SqT K H a ((n :: ns).map V.int) ∧ Q (.int (maxI n ns)) H
def rMinT (K : PySem.W.Frag) : List V → Hp → VK → Prop := fun vs H Q => ∃ (a : Addr) (n : Int) (ns : List Int), vs = [V.ref a] ∧ SqT K H a ((n :: ns).map V.int) ∧ Q (.int (minI n ns)) H
theorem cr_maxT (hc : X.calm = true) (hu : X.A.units + 64 < cLine) : CallR X (.builtin "max") (rMaxT X.K) := by
  intro pins s σ H vs us Q I r h
  obtain ⟨a, n, ns, rfl, hs, q⟩ := h
  obtain ⟨its, rv, ht, _⟩ := I.tuple hs
  rw [Vals.ref1 r]
  refine PySem.W.max_tuple_datum (I.ok.hd hc) (show s.heap.IsTuple a its.toArray from ht) (PySem.W.HoldAll.of_ints (by simpa using rv.ints)) (by show X.A.units + 1 + 0 < cLine; omega) fun i v h' tk _ hv hk => ?_
  obtain ⟨t, rfl⟩ := PySem.W.int_of_holds hv
  refine ⟨.int _, H, I.kept hk, ⟨_, rfl⟩, ?_⟩
  rw [maxOf_eq]
  exact q
theorem cr_minT (hc : X.calm = true) (hu : X.A.units + 64 < cLine) : CallR X (.builtin "min") (rMinT X.K) := by
  intro pins s σ H vs us Q I r h
  obtain ⟨a, n, ns, rfl, hs, q⟩ := h
  obtain ⟨its, rv, ht, _⟩ := I.tuple hs
  rw [Vals.ref1 r]
  refine PySem.W.min_tuple_datum (I.ok.hd hc) (show s.heap.IsTuple a its.toArray from ht) (PySem.W.HoldAll.of_ints (by simpa using rv.ints)) (by show X.A.units + 1 + 0 < cLine; omega) fun i v h' tk _ hv hk => ?_
  obtain ⟨t, rfl⟩ := PySem.W.int_of_holds hv
  refine ⟨.int _, H, I.kept hk, ⟨_, rfl⟩, ?_⟩
  rw [minOf_eq]
  exact q
/-- x in o, o an instance with an own __contains__ that keeps the promise sp -/
def rInOwn (C : Addr) (sp : Sp) (E : XK) (neg : Bool) : R2 := fun x y H Q => ∃ a dx fs, y = .ref a ∧ H a = some (.ins C dx fs) ∧ sp [y, x] H (fun v H' => ∃ b, v = .bl b ∧ Q (.bl (if neg then !b else b)) H') E
theorem in_own {CX : CXT} {n : Nat} {C f : Addr} {fd : FuncData} {ps : List Str} {sp : Sp} {E : XK} (F : FnOk X.prog X.w X.K X.mg X.base CX n f fd ps sp) (hr : Room n X.A)
    (hs : PySem.W.findIn X.K (.ref C) "__contains__" = some (some (.ref f))) (hf : PySem.W.isFn X.K (.ref f) = true) (hb : Binds X.K fd ps []) (hx : Passes CX X E)
    {pins : List (Addr × Obj)} {s : Shared} {σ : L2.St} {H : Hp} {x : V} {a dx : Addr} {fs : List (Str × V)} {v : Value} {Q : Bool → Shared → Prop} (I : Inv X pins σ H s) (rx : RelV x v) (ha : H a = some (.ins C dx fs))
    (hq : sp [.ref a, x] H (fun v H' => ∃ b, v = .bl b ∧ ∀ s', Inv X pins σ H' s' → Q b s') E) : wpAny (model X.prog X.w) X.A (contains (.ref a) v) Q X.xe s := by
  obtain ⟨mA, J, _⟩ := ins_get I.hok ha
  obtain ⟨od, J, _⟩ := J.look
  refine contains_K I.kIn J hs hf ?_
  refine thn (run_fn (us := [.ref a, v]) (vs := [.ref a, x]) (dvs := []) (ds := []) F hr hb .nil hx I (.cons rfl (.cons rx .nil)) (by rw [List.append_nil]; exact hq)) fun u s' h => ?_
  obtain ⟨z, H', I', rz, b, ez, q⟩ := h
  subst ez
  cases rz
  exact wpAny_truthy_bool (q _ I')
theorem op_inOwn {CX : CXT} {n : Nat} {C f : Addr} {fd : FuncData} {ps : List Str} {sp : Sp} {E : XK} (F : FnOk X.prog X.w X.K X.mg X.base CX n f fd ps sp) (hr : Room n X.A)
    (hs : PySem.W.findIn X.K (.ref C) "__contains__" = some (some (.ref f))) (hf : PySem.W.isFn X.K (.ref f) = true) (hb : Binds X.K fd ps []) (hx : Passes CX X E) (hm : ∀ vs H Q Q', (∀ v H, Q v H → Q' v H) → sp vs H Q E → sp vs H Q' E) : OpR X (compareOp .In) (rInOwn C sp E false) := by
  intro pins s σ H x y v u Q I rx ry h
  obtain ⟨a, dx, fs, rfl, ha, q⟩ := h
  cases ry
  show wpAny _ _ (contains (.ref a) v >>= _) _ _ s
  refine wpAny_bind (in_own F hr hs hf hb hx I rx ha (hm _ _ _ _ (fun w H' z => ?_) q))
  obtain ⟨b, e, q⟩ := z
  exact ⟨b, e, fun s' I' => wpAny_pure ⟨.bl b, H', I', rfl, q⟩⟩
theorem op_notInOwn {CX : CXT} {n : Nat} {C f : Addr} {fd : FuncData} {ps : List Str} {sp : Sp} {E : XK} (F : FnOk X.prog X.w X.K X.mg X.base CX n f fd ps sp) (hr : Room n X.A)
    (hs : PySem.W.findIn X.K (.ref C) "__contains__" = some (some (.ref f))) (hf : PySem.W.isFn X.K (.ref f) = true) (hb : Binds X.K fd ps []) (hx : Passes CX X E) (hm : ∀ vs H Q Q', (∀ v H, Q v H → Q' v H) → sp vs H Q E → sp vs H Q' E) : OpR X (compareOp .NotIn) (rInOwn C sp E true) := by
  intro pins s σ H x y v u Q I rx ry h
  obtain ⟨a, dx, fs, rfl, ha, q⟩ := h
  cases ry
  show wpAny _ _ (contains (.ref a) v >>= _) _ _ s
  refine wpAny_bind (in_own F hr hs hf hb hx I rx ha (hm _ _ _ _ (fun w H' z => ?_) q))
  obtain ⟨b, e, q⟩ := z
  exact ⟨b, e, fun s' I' => wpAny_pure ⟨.bl (!b), H', I', rfl, q⟩⟩

/-! ### enumerate(tuple) -/
theorem pyNext_enumT_end {prog : Program} {w : World} {A : Around} {E : Value → Shared → Prop} {s : Shared} {e it t : Addr} {items : Array Value} {i : Nat} {old : Value} {Q : Option Value → Shared → Prop}
    (hh : A.handled = none) (he : IsEnum s.heap e it i old) (hit : s.heap.IsTupleIter it t i) (ht : s.heap.IsTuple t items) (hx : items[i]? = none)
    (hQ : ∀ h', Heap.ExtBut it s.heap h' → Q none { s with heap := h' }) : wpAny (model prog w) A (pyNext (.ref e)) Q E s := by
  have hT : s.TypeIs (.ref e) "enumerate" := ⟨_, he, rfl⟩
  unfold pyNext
  refine wpAny_bind (wpAny_attempt (wpAny_callSpecial?_slot (name := Str.ofString "__next__") hT F.slot_enumerate_next
    (wpAny_call_entry F.slot_enumerate_next hT F.entry_enumerate_next ?_ (F.args_enumerate_next_1 _))))
  show wpAny _ _ (field (.ref e) 2 >>= _) _ _ _
  refine wpAny_bind (wpAny_field he rfl (x := .ref it) rfl ?_)
  refine wpAny_bind (wpAny_nextOf_tuple_end (A := A.in1) hh hit ht hx fun h' x he' hx' => ?_)
  obtain ⟨o, ho, hc⟩ := hx'
  refine wpAny_bind (wpAny_isInstance (T := "StopIteration") (b := true) ⟨o, ho, hc⟩ isSubtype_stop ?_)
  exact wpAny_pure (hQ _ he')
set_option maxHeartbeats 1000000 in
theorem meets_enumerate_newB1 {v : Value} {o : Obj} {H : Heap → Prop} (B : Begins v o H) :
    Meets (Builtin.«enumerate.__new__» ⟨[.type "enumerate", v], []⟩) (fun _ R s => H s.heap ∧
      R (.ok (.ret (.ref (s.heap.push o).objs.size))) { s with heap := (s.heap.push o).push { cls := .type "enumerate", data := .fields #[.none, .bool false, .ref s.heap.objs.size, rawInt 0, .none, .none] } }) :=
  .of_wp fun prog w A R s h => by
    obtain ⟨hp, g, d, tk, os⟩ := s; obtain ⟨h1, h⟩ := h
    have hsub := sub_enumerate
    have q1 : ∀ {A' : Around} {E : Value → Shared → Prop} {Q : Value → Shared → Prop}, Q (.ref hp.objs.size) ⟨hp.push o, g, d, tk, os⟩ → wpAny (model prog w) A' (pyIter v) Q E ⟨hp, g, d, tk, os⟩ :=
      fun q => B.iter prog w _ _ ⟨hp, g, d, tk, os⟩ _ h1 q
    wp_walk using q1
    refine wpAny_stack_any fun st => wpAny_pure ?_
    split
    · rename_i c _ _ _ _ _
      cases (c == Value.type "enumerate")
      · wp_walk using q1
        exact ⟨_, rfl, h⟩
      · wp_walk using q1
        exact ⟨_, rfl, h⟩
    · wp_walk using q1
      exact ⟨_, rfl, h⟩
theorem enum_begins1 {prog : Program} {w : World} {A : Around} {E : Value → Shared → Prop} {s : Shared} {v : Value} {o : Obj} {H : Heap → Prop} {Q : Value → Shared → Prop} (B : Begins v o H) (h1 : H s.heap)
    (h : ∀ h', IsEnum h' (s.heap.objs.size + 1) s.heap.objs.size 0 .none → h'.get? s.heap.objs.size = some o → h'.objs.size = s.heap.objs.size + 2 →
      (∀ b o, s.heap.get? b = some o → h'.get? b = some o) → Q (.ref (s.heap.objs.size + 1)) { s with heap := h' }) :
    wpAny (model prog w) A (call (.type "enumerate") [v]) Q E s := by
  refine callType_new F.called_enumerate (by decide) (F.typeCall_enumerate_1 _) (F.newCall_enumerate_1 _) (fun obj => F.args_object_init_2 obj _) F.entry_enumerate_new
    (meets_enumerate_newB1 B) ⟨h1, ?_⟩
  have hz : (s.heap.push o).objs.size = s.heap.objs.size + 1 := Heap.size_push ..
  show _ ∧ _
  rw [hz]
  have he : IsEnum ((s.heap.push o).push { cls := .type "enumerate", data := .fields #[.none, .bool false, .ref s.heap.objs.size, rawInt 0, .none, .none] }) (s.heap.objs.size + 1) s.heap.objs.size 0 .none := by
    have := Heap.get?_push_size (s.heap.push o) (o := { cls := .type "enumerate", data := .fields #[.none, .bool false, .ref s.heap.objs.size, rawInt 0, .none, .none] }) rfl
    rw [hz] at this; exact this
  refine ⟨⟨_, he, rfl⟩, h _ he (Heap.get?_push_of_some _ (Heap.get?_push_size _ B.free)) (by rw [Heap.size_push, hz]) fun b o x => Heap.get?_push_of_some _ (Heap.get?_push_of_some _ x)⟩
def Itet (K : PySem.W.Frag) (a : Addr) : It :=
  ⟨fun i H => ∃ (xs : List V) (x : V), SqT K H a xs ∧ xs[i]? = some x, fun i H v H' => ∃ T x, v = .ref T ∧ H T = none ∧ H' = upd H T (.tup [.int (i : Nat), x]) ∧ ∀ xs, SqT K H a xs → xs[i]? = some x, fun i H => ∃ xs : List V, SqT K H a xs ∧ xs.length ≤ i⟩
theorem turn_enumT {P : Program} {w : World} {K : PySem.W.Frag} {elts : List Expr} {kk : Nat} {tpos : Pos} (a e it : Addr) (hai : a ≠ it) (hae : a ≠ e) :
    Turn P w K (.Tuple elts kk tpos) (Itet K a) [e, it] e (fun i h => (∃ old, IsEnum h e it ((i : Nat) : Int) old) ∧ h.IsTupleIter it a i ∧ e ≠ it) where
  mem := by simp
  obj := fun i h st b hb => by
    obtain ⟨⟨old, he⟩, ⟨o, ho, hc, hd⟩, _⟩ := st
    have e' : b = e ∨ b = it := by simpa using hb
    rcases e' with z | z
    · rw [z]; exact ⟨_, he, fun v q => nomatch q⟩
    · rw [z]; exact ⟨o, ho, fun v q => by rw [hd] at q; cases q⟩
  keep := fun i h h' st k => let ⟨⟨old, he⟩, hi, hne⟩ := st; ⟨⟨old, k e (by simp) _ he⟩, hi.at fun o q => k it (by simp) o q, hne⟩
  item := by
    intro X hP hw hK hc i pins s σ H E I hf st hg
    subst hP hw hK
    obtain ⟨⟨old, he⟩, hit, hne⟩ := st
    obtain ⟨xs, x, hq, hx⟩ := hg
    obtain ⟨its, rv, p, hz⟩ := I.tuple hq
    obtain ⟨u, hu, ru⟩ := rv.get hx
    have hel : e < s.heap.objs.size := Heap.lt_size he
    have hil : it < s.heap.objs.size := by obtain ⟨_, q, _⟩ := hit; exact Heap.lt_size q
    have hlt : i < its.toArray.size := by
      have := (List.getElem?_eq_some_iff.mp hu).1
      simpa using this
    refine wpAny_pyNext_enum_itemD (Draws.tuple (A := X.A.in1) (I.ok.hd hc) it a hai its.toArray) he ⟨hit, p⟩ hlt hne (by simp [hne, hae.symm]) fun y h' tk hP ho hit' hT hsz hk => ?_
    have ey : y = u := by
      have e1 : its.toArray[i]? = some u := by simpa using hu
      rw [e1] at hP
      exact (Option.some.inj hP).symm
    subst ey
    refine ⟨_, rfl, wpAny_letOwnedTupleGo_enum (s := { s with heap := h', toks := tk + 1 }) ho fun h'' he' sb => ?_⟩
    have hT2 : h''.get? s.heap.objs.size = some { cls := .type "tuple", data := .seq #[.int i tk, y] } := (sb.2 _ (Nat.ne_of_gt hel)).trans hT
    have new : ObjOk X.prog X.w (upd H s.heap.objs.size (.tup [.int (i : Nat), x])) h'' s.heap.objs.size (.tup [.int (i : Nat), x]) :=
      ⟨by show 2 ≤ sizeLine; decide, [.int i tk, y], .cons ⟨_, rfl⟩ (.cons ru .nil), ⟨_, hT2, rfl, _, rfl⟩⟩
    have I1 : Inv X pins σ (upd H s.heap.objs.size (.tup [.int (i : Nat), x])) { s with heap := h'', toks := tk + 1 } :=
      I.turnedNew (ch := [e, it]) (fun b ob hb q => (sb.2 b (fun z => hb (by simp [z]))).trans (hk b ob (fun z => hb (by simp [z])) (fun z => hb (by simp [z])) q)) hf (Nat.le_refl _) new
    refine ⟨.ref s.heap.objs.size, _, I1, rfl, ⟨_, x, rfl, I.hok.fresh (Nat.le_refl _), rfl, fun ys hy => by rw [I.tuple_inj hy hq]; exact hx⟩, ⟨⟨y, ?_⟩, hit'.1.at fun o q => (sb.2 it (Ne.symm hne)).trans q, hne⟩, fun b hb => ?_⟩
    · have e1 : ((i + 1 : Nat) : Int) = (i : Int) + 1 := by omega
      rw [e1]; exact he'
    · have hb' : b < s.heap.objs.size := by
        have e' : b = e ∨ b = it := by simpa using hb
        rcases e' with z | z
        · rw [z]; exact hel
        · rw [z]; exact hil
      rw [upd_ne (Nat.ne_of_lt hb')]
      exact (hf b hb).1
  done := by
    intro X hP hw hK hc i pins s σ H E I hf st hg
    subst hP hw hK
    obtain ⟨⟨old, he⟩, hit, hne⟩ := st
    obtain ⟨xs, hq, hx⟩ := hg
    obtain ⟨its, rv, p, hz⟩ := I.tuple hq
    obtain ⟨f0, f1, f2, f3, f4, f5⟩ := hf it (by simp)
    have hl := rv.length
    exact pyNext_enumT_end (I.ok.hd hc) he hit p (by simp; omega) fun h' eb => ⟨rfl, I.turned (t' := s.toks) (fun b o hb q => eb b o hb q) f0 f1 f3 f4 f5⟩
  self := fun A i s Q E st h => let ⟨⟨_, he⟩, _⟩ := st; wpAny_pyIter_enum he h
def iEnumT (K : PySem.W.Frag) (ta : TA) : TI := fun σ H R => ta σ H fun vs H1 => ∃ a xs, vs = [.ref a] ∧ SqT K H1 a xs ∧ R (Itet K a) H1
theorem pi_enumT {e : Expr} {ta : TA} {p pos tpos : Pos} {elts : List Expr} {kk : Nat} (hg : Gl X "enumerate") (hm : X.mg "enumerate" = none) (ha : PA X [e] ta) (hs : starEach [e] X.env = [(false, eval e X.env)] := by rfl) :
    PI X (.Tuple elts kk tpos) (.Call (.Name "enumerate" p) [e] [] pos) (iEnumT X.K ta) := by
  refine ⟨fun pins s σ H R I h => ?_⟩
  refine Call_ (ld_blt I hg hm boot_enumerate (PyProof.Rows.callWith_type1 (thn (ha.run pos pins s σ H _ I h) fun us s1 ⟨vs, H1, I1, r1, q1⟩ => ?_) hs rfl))
  obtain ⟨a, xs, ex, hq, q⟩ := q1
  subst ex
  cases r1 with
  | cons r rr =>
    cases rr
    cases r
    obtain ⟨its, rv, p', hz⟩ := I1.tuple hq
    have hal : a < s1.heap.objs.size := p'.lt
    refine enum_begins1 (begins_tuple a its.toArray) p' fun h' he hit hsz hk => wpAny_pyIter_enum he ?_
    have I2 : Inv X pins σ H1 { s1 with heap := h' } := I1.kept (t' := s1.toks) hk
    refine ⟨s1.heap.objs.size + 1, [s1.heap.objs.size + 1, s1.heap.objs.size], _, _, H1, rfl, I2, turn_enumT a (s1.heap.objs.size + 1) s1.heap.objs.size (Nat.ne_of_lt hal) (Nat.ne_of_lt (Nat.lt_succ_of_lt hal)), ⟨⟨.none, he⟩, ⟨_, hit, rfl, rfl⟩, Nat.succ_ne_self _⟩, fun b hb => ?_, q⟩
    have e' : b = s1.heap.objs.size + 1 ∨ b = s1.heap.objs.size := by simpa using hb
    have hle : s1.heap.objs.size ≤ b := by
      rcases e' with z | z
      · rw [z]; exact Nat.le_add_right _ _
      · rw [z]; exact Nat.le_refl _
    exact I1.fpOk hle (I1.hok.fresh hle)
end
end FDB

set_option Elab.async false
set_option linter.all false
set_option maxRecDepth 100000
set_option maxHeartbeats 1000000
/-! FD: the data layer over the hand layer: what a text computes, as a total function of plain data. -/
namespace FD
open PySem PySem.Spec PyProof.Rows L2

/-- data -/
inductive D where
  | non | bl (b : Bool) | int (i : Int) | str (s : Str)
  | tup (ds : List D) | lst (ds : List D) | obj (c : Addr) (fs : List (Str × D)) | loc (n : Nat)
  /-- the script -/
  | scr (ns : List Int)

/-- a tuple whose object is known -/
def TupF (F : Hp) (a : Addr) (vs : List V) : Prop := ∃ o : Obj, F a = some (.frz o (.tup vs)) ∧ o.cls = .type "tuple" ∧ o.dict = none
theorem TupF.sq {K : PySem.W.Frag} {F : Hp} {a : Addr} {vs : List V} (h : TupF F a vs) : SqT K F a vs := let ⟨o, e, _⟩ := h; .inl (.inr ⟨o, e⟩)
theorem TupF.mono {F F' : Hp} {a : Addr} {vs : List V} (s : Same F F') (h : TupF F a vs) : TupF F' a vs := let ⟨o, e, q⟩ := h; ⟨o, s _ _ e, q⟩
mutual
inductive Rep (K : PySem.W.Frag) (φ : List Addr) (F : Hp) : V → D → Prop
  | non : Rep K φ F .non .non
  | bl (b : Bool) : Rep K φ F (.bl b) (.bl b)
  | int (i : Int) : Rep K φ F (.int i) (.int i)
  | str (s : Str) : Rep K φ F (.str s) (.str s)
  | tup {a : Addr} {vs : List V} {ds : List D} : TupF F a vs → Reps K φ F vs ds → Rep K φ F (.ref a) (.tup ds)
  | lst {a : Addr} {vs : List V} {ds : List D} : F a = some (.lst vs) → Reps K φ F vs ds → Rep K φ F (.ref a) (.lst ds)
  | obj {a c dx : Addr} {fv : List (Str × V)} {fd : List (Str × D)} : F a = some (.ins c dx fv) → RepF K φ F fv fd → Rep K φ F (.ref a) (.obj c fd)
  | loc {a : Addr} {n : Nat} : φ[n]? = some a → Rep K φ F (.ref a) (.loc n)
  | scr {a : Addr} {ns : List Int} : SqL K F a (ns.map V.int) → Rep K φ F (.ref a) (.scr ns)
inductive Reps (K : PySem.W.Frag) (φ : List Addr) (F : Hp) : List V → List D → Prop
  | nil : Reps K φ F [] []
  | cons {v : V} {d : D} {vs : List V} {ds : List D} : Rep K φ F v d → Reps K φ F vs ds → Reps K φ F (v :: vs) (d :: ds)
inductive RepF (K : PySem.W.Frag) (φ : List Addr) (F : Hp) : List (Str × V) → List (Str × D) → Prop
  | nil : RepF K φ F [] []
  | cons {x : Str} {v : V} {d : D} {vs : List (Str × V)} {ds : List (Str × D)} : Rep K φ F v d → RepF K φ F vs ds → RepF K φ F ((x, v) :: vs) ((x, d) :: ds)
end

section
variable {K : PySem.W.Frag} {φ φ' : List Addr} {F F' : Hp}
theorem sqT_mono {a : Addr} {xs : List V} (s : Same F F') (h : SqT K F a xs) : SqT K F' a xs := by
  rcases h with (h | ⟨o, h⟩) | h
  · exact .inl (.inl (s _ _ h))
  · exact .inl (.inr ⟨o, s _ _ h⟩)
  · exact .inr h
theorem phi_get {n : Nat} {a : Addr} (p : ∃ t, φ' = φ ++ t) (h : φ[n]? = some a) : φ'[n]? = some a := by
  obtain ⟨t, rfl⟩ := p
  rw [List.getElem?_append_left (List.getElem?_eq_some_iff.mp h).1]
  exact h
mutual
theorem Rep.mono (s : Same F F') (p : ∃ t, φ' = φ ++ t) : ∀ {v : V} {d : D}, Rep K φ F v d → Rep K φ' F' v d
  | _, _, .non => .non
  | _, _, .bl b => .bl b
  | _, _, .int i => .int i
  | _, _, .str i => .str i
  | _, _, .tup h r => .tup (h.mono s) (Reps.mono s p r)
  | _, _, .lst h r => .lst (s _ _ h) (Reps.mono s p r)
  | _, _, .obj h r => .obj (s _ _ h) (RepF.mono s p r)
  | _, _, .loc h => .loc (phi_get p h)
  | _, _, .scr h => .scr (s.seq h)
theorem Reps.mono (s : Same F F') (p : ∃ t, φ' = φ ++ t) : ∀ {v : List V} {d : List D}, Reps K φ F v d → Reps K φ' F' v d
  | _, _, .nil => .nil
  | _, _, .cons h r => .cons (Rep.mono s p h) (Reps.mono s p r)
theorem RepF.mono (s : Same F F') (p : ∃ t, φ' = φ ++ t) : ∀ {v : List (Str × V)} {d : List (Str × D)}, RepF K φ F v d → RepF K φ' F' v d
  | _, _, .nil => .nil
  | _, _, .cons h r => .cons (Rep.mono s p h) (RepF.mono s p r)
end
theorem Reps.length : ∀ {vs : List V} {ds : List D}, Reps K φ F vs ds → vs.length = ds.length
  | _, _, .nil => rfl
  | _, _, .cons _ r => by rw [List.length_cons, List.length_cons, Reps.length r]
theorem Reps.append : ∀ {vs ws : List V} {ds es : List D}, Reps K φ F vs ds → Reps K φ F ws es → Reps K φ F (vs ++ ws) (ds ++ es)
  | _, _, _, _, .nil, s => s
  | _, _, _, _, .cons h r, s => .cons h (Reps.append r s)
theorem Reps.get : ∀ {vs : List V} {ds : List D} {i : Nat} {d : D}, Reps K φ F vs ds → ds[i]? = some d → ∃ v, vs[i]? = some v ∧ Rep K φ F v d
  | _, _, _, _, .nil, h => by simp at h
  | _, _, 0, _, .cons h r, e => by simp at e; subst e; exact ⟨_, rfl, h⟩
  | _, _, i + 1, d, .cons h r, e => by
    obtain ⟨v, h1, h2⟩ := Reps.get (i := i) (d := d) r (by simpa using e)
    exact ⟨v, by simpa using h1, h2⟩
theorem Reps.getV : ∀ {vs : List V} {ds : List D} {i : Nat} {v : V}, Reps K φ F vs ds → vs[i]? = some v → ∃ d, ds[i]? = some d ∧ Rep K φ F v d
  | _, _, _, _, .nil, h => by simp at h
  | _, _, 0, _, .cons h r, e => by simp at e; subst e; exact ⟨_, rfl, h⟩
  | _, _, i + 1, d, .cons h r, e => by
    obtain ⟨v, h1, h2⟩ := Reps.getV (i := i) (v := d) r (by simpa using e)
    exact ⟨v, by simpa using h1, h2⟩
theorem Reps.set {v : V} {d : D} (h : Rep K φ F v d) : ∀ {vs : List V} {ds : List D} (i : Nat), Reps K φ F vs ds → Reps K φ F (vs.set i v) (ds.set i d)
  | _, _, _, .nil => .nil
  | _, _, 0, .cons _ r => .cons h r
  | _, _, i + 1, .cons q r => .cons q (Reps.set h i r)
theorem Reps.take : ∀ {vs : List V} {ds : List D} (n : Nat), Reps K φ F vs ds → Reps K φ F (vs.take n) (ds.take n)
  | _, _, 0, _ => .nil
  | _, _, _ + 1, .nil => .nil
  | _, _, n + 1, .cons h r => .cons h (Reps.take n r)
theorem Reps.drop : ∀ {vs : List V} {ds : List D} (n : Nat), Reps K φ F vs ds → Reps K φ F (vs.drop n) (ds.drop n)
  | _, _, 0, r => r
  | _, _, _ + 1, .nil => .nil
  | _, _, n + 1, .cons h r => Reps.drop n r
theorem Reps.eraseIdx : ∀ {vs : List V} {ds : List D} (n : Nat), Reps K φ F vs ds → Reps K φ F (vs.eraseIdx n) (ds.eraseIdx n)
  | _, _, _, .nil => .nil
  | _, _, 0, .cons h r => r
  | _, _, n + 1, .cons h r => .cons h (Reps.eraseIdx n r)
theorem Reps.reverse : ∀ {vs : List V} {ds : List D}, Reps K φ F vs ds → Reps K φ F vs.reverse ds.reverse
  | _, _, .nil => .nil
  | _, _, .cons h r => by
    rw [List.reverse_cons, List.reverse_cons]
    exact (Reps.reverse r).append (.cons h .nil)
/-- ints alone -/
theorem Reps.ints : ∀ {vs : List V} {ns : List Int}, Reps K φ F vs (ns.map D.int) → vs = ns.map V.int
  | _, [], .nil => rfl
  | _, n :: ns, .cons h r => by
    cases h
    rw [List.map_cons, Reps.ints r]
theorem Reps.of_ints : ∀ (ns : List Int), Reps K φ F (ns.map V.int) (ns.map D.int)
  | [] => .nil
  | n :: ns => .cons (.int n) (Reps.of_ints ns)
theorem RepF.lookup {x : Str} {d : D} : ∀ {vs : List (Str × V)} {ds : List (Str × D)}, RepF K φ F vs ds → ds.lookup x = some d → ∃ v, vs.lookup x = some v ∧ Rep K φ F v d
  | _, _, .nil, h => by simp at h
  | _, _, .cons (x := y) (v := v) (d := e) h r, q => by
    rw [List.lookup_cons] at q ⊢
    cases hxy : x == y with
    | true =>
      rw [hxy] at q
      simp only [Option.some.injEq] at q
      subst q
      exact ⟨_, rfl, h⟩
    | false =>
      rw [hxy] at q
      exact RepF.lookup r q
theorem RepF.keys : ∀ {vs : List (Str × V)} {ds : List (Str × D)}, RepF K φ F vs ds → vs.map (·.1) = ds.map (·.1)
  | _, _, .nil => rfl
  | _, _, .cons h r => by rw [List.map_cons, List.map_cons, RepF.keys r]
end

/-- what a name of a def holds -/
inductive Sl where
  | un | val (d : D)
  /-- a list, a dict, a set, an instance that nothing else refers to -/
  | lst (ds : List D) | dct (kvs : List (Key × D)) | set (xs : List Int) | ins (a c : Addr) (fs : List (Str × D))
def Sl.own : Sl → Bool
  | .un => false
  | .val _ => false
  | _ => true
structure Z where
  ρ : List Sl
  S : List (List D)
structure Pm where
  K : PySem.W.Frag
  w : World
  P : Program
  cls : Str → Addr

def RepK (K : PySem.W.Frag) (φ : List Addr) (F : Hp) : List (Key × V) → List (Key × D) → Prop := Paired fun p q => p.1 = q.1 ∧ Rep K φ F p.2 q.2
theorem RepK.mono {K : PySem.W.Frag} {φ φ' : List Addr} {F F' : Hp} (s : Same F F') (p : ∃ t, φ' = φ ++ t) {a : List (Key × V)} {b : List (Key × D)} (h : RepK K φ F a b) : RepK K φ' F' a b :=
  L2.Paired.mapP h fun _ _ q => ⟨q.1, q.2.mono s p⟩

def SlRep (p : Pm) (φ : List Addr) (F H : Hp) (s : Sl) (ov : Option V) : Prop := match s with
  | .un => True
  | .val d => ∃ v, ov = some v ∧ Rep p.K φ F v d
  | .lst ds => ∃ a vs, ov = some (.ref a) ∧ H a = some (.lst vs) ∧ Reps p.K φ F vs ds
  | .dct kvs => ∃ a kvv, ov = some (.ref a) ∧ H a = some (.dK kvv) ∧ RepK p.K φ F kvv kvs
  | .set xs => ∃ a, ov = some (.ref a) ∧ H a = some (SetO p.w a (fun i => decide (i ∈ xs)) xs.length) ∧ xs.Nodup
  | .ins a c fs => ∃ dx fv, ov = some (.ref a) ∧ H a = some (.ins c dx fv) ∧ RepF p.K φ F fv fs

def ownAt (ρ : List Sl) (σ : L2.St) (a : Addr) : Prop := ∃ (i : Nat) (s : Sl), ρ[i]? = some s ∧ s.own = true ∧ σ[i]? = some (some (.ref a))

structure Ok (p : Pm) (φ : List Addr) (F : Hp) (z : Z) (σ : L2.St) (H : Hp) : Prop where
  sub : Same F H
  len : z.ρ.length = σ.length
  sl : ∀ (i : Nat) (s : Sl) (v : Option V), z.ρ[i]? = some s → σ[i]? = some v → SlRep p φ F H s v
  fr : ∀ a, ownAt z.ρ σ a → F a = none ∧ a ∉ φ
  ap : ∀ (i j : Nat) (s t : Sl) (a : Addr), z.ρ[i]? = some s → z.ρ[j]? = some t → s.own = true → t.own = true → σ[i]? = some (some (.ref a)) → σ[j]? = some (some (.ref a)) → i = j
  ph : ∀ (n : Nat) (a : Addr), φ[n]? = some a → F a = none ∧ ∃ ds vs, z.S[n]? = some ds ∧ H a = some (.lst vs) ∧ Reps p.K φ F vs ds
  phl : φ.length = z.S.length
  phn : φ.Nodup

structure Af (φ : List Addr) (F : Hp) (z : Z) (σ : L2.St) (H : Hp) (φ' : List Addr) (F' : Hp) (z' : Z) (σ' : L2.St) (H' : Hp) : Prop where
  sF : Same F F'
  pφ : ∃ t, φ' = φ ++ t
  out : ∀ a o, H a = some o → F a = none → a ∉ φ → ¬ ownAt z.ρ σ a → H' a = some o ∧ F' a = none ∧ a ∉ φ' ∧ ¬ ownAt z'.ρ σ' a

section
variable {p : Pm} {φ φ1 φ2 : List Addr} {F F1 F2 : Hp} {z z1 z2 : Z} {σ σ1 σ2 : L2.St} {H H1 H2 : Hp}
theorem Af.refl : Af φ F z σ H φ F z σ H := ⟨Same.refl _, ⟨[], by simp⟩, fun _ _ h1 h2 h3 h4 => ⟨h1, h2, h3, h4⟩⟩
theorem Af.trans (a : Af φ F z σ H φ1 F1 z1 σ1 H1) (b : Af φ1 F1 z1 σ1 H1 φ2 F2 z2 σ2 H2) : Af φ F z σ H φ2 F2 z2 σ2 H2 :=
  ⟨a.sF.trans b.sF, by
    obtain ⟨t, rfl⟩ := a.pφ
    obtain ⟨u, rfl⟩ := b.pφ
    exact ⟨t ++ u, List.append_assoc _ _ _⟩, fun c o h1 h2 h3 h4 => by
    obtain ⟨q1, q2, q3, q4⟩ := a.out c o h1 h2 h3 h4
    exact b.out c o q1 q2 q3 q4⟩
theorem Af.rep (a : Af φ F z σ H φ1 F1 z1 σ1 H1) {v : V} {d : D} (r : Rep p.K φ F v d) : Rep p.K φ1 F1 v d := r.mono a.sF a.pφ
theorem Af.reps (a : Af φ F z σ H φ1 F1 z1 σ1 H1) {v : List V} {d : List D} (r : Reps p.K φ F v d) : Reps p.K φ1 F1 v d := r.mono a.sF a.pφ
theorem SlRep.mono {s : Sl} {v : Option V} (h : SlRep p φ F H s v) (f : Same F F1) (q : ∃ t, φ1 = φ ++ t) (k : s.own = true → ∀ a, v = some (.ref a) → ∀ o, H a = some o → H1 a = some o) : SlRep p φ1 F1 H1 s v := by
  cases s with
  | un => trivial
  | val d => obtain ⟨u, e, r⟩ := h; exact ⟨u, e, r.mono f q⟩
  | lst ds => obtain ⟨a, vs, e, ha, r⟩ := h; exact ⟨a, vs, e, k rfl a e _ ha, r.mono f q⟩
  | dct kvs => obtain ⟨a, vs, e, ha, r⟩ := h; exact ⟨a, vs, e, k rfl a e _ ha, r.mono f q⟩
  | set xs => obtain ⟨a, e, ha, r⟩ := h; exact ⟨a, e, k rfl a e _ ha, r⟩
  | ins a c fs => obtain ⟨dx, fv, e, ha, r⟩ := h; exact ⟨dx, fv, e, k rfl a e _ ha, r.mono f q⟩
theorem SlRep.at {s : Sl} {a : Addr} (h : SlRep p φ F H s (some (.ref a))) (o : s.own = true) : ∃ u, H a = some u := by
  cases s with
  | un => cases o
  | val d => cases o
  | lst ds => obtain ⟨b, vs, e, ha, r⟩ := h; cases e; exact ⟨_, ha⟩
  | dct kvs => obtain ⟨b, vs, e, ha, r⟩ := h; cases e; exact ⟨_, ha⟩
  | set xs => obtain ⟨b, e, ha, r⟩ := h; cases e; exact ⟨_, ha⟩
  | ins b c fs => obtain ⟨dx, fv, e, ha, r⟩ := h; cases e; exact ⟨_, ha⟩
theorem Ok.own_some (h : Ok p φ F z σ H) {a : Addr} (o : ownAt z.ρ σ a) : ∃ u, H a = some u := by
  obtain ⟨i, s, h1, h2, h3⟩ := o
  exact (h.sl i s _ h1 h3).at h2
theorem Ok.fnone (h : Ok p φ F z σ H) {q : Addr} (n : H q = none) : F q = none := h.sub.free n
theorem Ok.not_own (h : Ok p φ F z σ H) {q : Addr} (n : H q = none) : ¬ ownAt z.ρ σ q := fun o => by
  obtain ⟨u, e⟩ := h.own_some o
  rw [n] at e; cases e
theorem Ok.not_phi (h : Ok p φ F z σ H) {q : Addr} (n : H q = none) : q ∉ φ := fun m => by
  obtain ⟨i, hi, e⟩ := List.getElem_of_mem m
  obtain ⟨_, _, _, _, e2, _⟩ := h.ph i q (by rw [List.getElem?_eq_getElem hi, e])
  rw [n] at e2; cases e2

/-- the general step: F grows by objects that stand in H', the owned and shared ones are kept -/
theorem Ok.step (h : Ok p φ F z σ H) (f : Same F F1) (sub : Same F1 H1) (k : ∀ a o, H a = some o → (a ∈ φ ∨ ownAt z.ρ σ a) → H1 a = some o ∧ F1 a = none) : Ok p φ F1 z σ H1 where
  sub := sub
  len := h.len
  sl := fun i s v h1 h2 => (h.sl i s v h1 h2).mono f ⟨[], by simp⟩ fun o a e u hu => (k a u hu (.inr ⟨i, s, h1, o, by rw [h2, e]⟩)).1
  fr := fun a o => by
    obtain ⟨u, e⟩ := h.own_some o
    exact ⟨(k a u e (.inr o)).2, (h.fr a o).2⟩
  ap := h.ap
  ph := fun n a e => by
    obtain ⟨_, ds, vs, e1, e2, r⟩ := h.ph n a e
    obtain ⟨k1, k2⟩ := k a _ e2 (.inl (List.mem_of_getElem? e))
    exact ⟨k2, ds, vs, e1, k1, r.mono f ⟨[], by simp⟩⟩
  phl := h.phl
  phn := h.phn
/-- a new frozen object -/
theorem Ok.alloc (h : Ok p φ F z σ H) {q : Addr} {o : HO} (n : H q = none) : Ok p φ (upd F q o) z σ (upd H q o) ∧ Af φ F z σ H φ (upd F q o) z σ (upd H q o) := by
  have fq := h.fnone n
  have s1 : Same F (upd F q o) := fun b u e => by rw [upd_ne (ne_of_none e fq)]; exact e
  refine ⟨h.step s1 (fun b u e => ?_) fun a u e m => ?_, s1, ⟨[], by simp⟩, fun a u h1 h2 h3 h4 => ?_⟩
  · by_cases hb : b = q
    · subst hb; rw [upd_same] at e ⊢; exact e
    · rw [upd_ne hb] at e ⊢; exact h.sub b u e
  · have na : a ≠ q := ne_of_none e n
    refine ⟨by rw [upd_ne na]; exact e, ?_⟩
    rw [upd_ne na]
    rcases m with m | m
    · obtain ⟨i, hi, e'⟩ := List.getElem_of_mem m
      exact (h.ph i a (by rw [List.getElem?_eq_getElem hi, e'])).1
    · exact (h.fr a m).1
  · have na : a ≠ q := ne_of_none h1 n
    exact ⟨by rw [upd_ne na]; exact h1, by rw [upd_ne na]; exact h2, h3, h4⟩
/-- an untracked new object (the layer does not own it) -/
theorem Ok.junk (h : Ok p φ F z σ H) {q : Addr} {o : HO} (n : H q = none) : Ok p φ F z σ (upd H q o) ∧ Af φ F z σ H φ F z σ (upd H q o) := by
  refine ⟨h.step (Same.refl _) (fun b u e => ?_) fun a u e m => ?_, Same.refl _, ⟨[], by simp⟩, fun a u h1 h2 h3 h4 => ?_⟩
  · rw [upd_ne (ne_of_none (h.sub _ _ e) n)]; exact h.sub b u e
  · refine ⟨by rw [upd_ne (ne_of_none e n)]; exact e, ?_⟩
    rcases m with m | m
    · obtain ⟨i, hi, e'⟩ := List.getElem_of_mem m
      exact (h.ph i a (by rw [List.getElem?_eq_getElem hi, e'])).1
    · exact (h.fr a m).1
  · exact ⟨by rw [upd_ne (ne_of_none h1 n)]; exact h1, h2, h3, h4⟩
theorem ownAt_set {ρ : List Sl} {i : Nat} {s : Sl} {σ : L2.St} {v : Option V} {a : Addr} (o : ownAt (ρ.set i s) (σ.set i v) a) (hl : ρ.length = σ.length) : (s.own = true ∧ v = some (.ref a)) ∨ ownAt ρ σ a := by
  obtain ⟨j, t, h1, h2, h3⟩ := o
  by_cases e : i = j
  · subst e
    by_cases hi : i < ρ.length
    · rw [List.getElem?_set_self hi] at h1
      rw [List.getElem?_set_self (by rw [← hl]; exact hi)] at h3
      cases h1; cases h3
      exact .inl ⟨h2, rfl⟩
    · rw [List.getElem?_eq_none (by rw [List.length_set]; omega)] at h1; cases h1
  · rw [List.getElem?_set_ne e] at h1 h3
    exact .inr ⟨j, t, h1, h2, h3⟩
/-- a name gets a value -/
theorem Ok.store (h : Ok p φ F z σ H) {i : Nat} {v : V} {d : D} (r : Rep p.K φ F v d) : Ok p φ F ⟨z.ρ.set i (.val d), z.S⟩ (σ.set i (some v)) H ∧ Af φ F z σ H φ F ⟨z.ρ.set i (.val d), z.S⟩ (σ.set i (some v)) H := by
  have own : ∀ a, ownAt (z.ρ.set i (.val d)) (σ.set i (some v)) a → ownAt z.ρ σ a := fun a o => by
    rcases ownAt_set o h.len with ⟨z, _⟩ | z
    · cases z
    · exact z
  refine ⟨⟨h.sub, by simpa using h.len, fun j s u h1 h2 => ?_, fun a o => h.fr a (own a o), fun j k s t a h1 h2 o1 o2 h3 h4 => ?_, h.ph, h.phl, h.phn⟩, Same.refl _, ⟨[], by simp⟩, fun a o h1 h2 h3 h4 => ⟨h1, h2, h3, fun z => h4 (own a z)⟩⟩
  · by_cases e : i = j
    · subst e
      have hi : i < z.ρ.length := by
        have := (List.getElem?_eq_some_iff.mp h1).1
        simpa using this
      rw [List.getElem?_set_self hi] at h1
      rw [List.getElem?_set_self (by rw [← h.len]; exact hi)] at h2
      cases h1; cases h2
      exact ⟨v, rfl, r⟩
    · rw [List.getElem?_set_ne e] at h1 h2
      exact h.sl j s u h1 h2
  · have g : ∀ (m : Nat) (s : Sl), (z.ρ.set i (.val d))[m]? = some s → s.own = true → i ≠ m ∧ z.ρ[m]? = some s := fun m s q o => by
      by_cases e : i = m
      · subst e
        have hi : i < z.ρ.length := by
          have := (List.getElem?_eq_some_iff.mp q).1
          simpa using this
        rw [List.getElem?_set_self hi] at q
        cases q; cases o
      · rw [List.getElem?_set_ne e] at q
        exact ⟨e, q⟩
    obtain ⟨n1, g1⟩ := g j s h1 o1
    obtain ⟨n2, g2⟩ := g k t h2 o2
    rw [List.getElem?_set_ne n1] at h3
    rw [List.getElem?_set_ne n2] at h4
    exact h.ap j k s t a g1 g2 o1 o2 h3 h4
/-- a name gets a new object of its own, at q (which stands in H and nowhere in the layer) -/
theorem Ok.storeOwn (h : Ok p φ F z σ H) {i : Nat} {q : Addr} {s : Sl} {o : HO} (hq : H q = some o) (f : F q = none) (nph : q ∉ φ) (nown : ¬ ownAt z.ρ σ q) (hs : s.own = true) (r : SlRep p φ F H s (some (.ref q))) :
    Ok p φ F ⟨z.ρ.set i s, z.S⟩ (σ.set i (some (.ref q))) H := by
  have own : ∀ a, ownAt (z.ρ.set i s) (σ.set i (some (.ref q))) a → a = q ∨ ownAt z.ρ σ a := fun a o => by
    rcases ownAt_set o h.len with ⟨_, e⟩ | z
    · cases e; exact .inl rfl
    · exact .inr z
  refine ⟨h.sub, by simpa using h.len, fun j t u h1 h2 => ?_, fun a o => ?_, fun j k t t' a h1 h2 o1 o2 h3 h4 => ?_, h.ph, h.phl, h.phn⟩
  · by_cases e : i = j
    · subst e
      have hi : i < z.ρ.length := by
        have := (List.getElem?_eq_some_iff.mp h1).1
        simpa using this
      rw [List.getElem?_set_self hi] at h1
      rw [List.getElem?_set_self (by rw [← h.len]; exact hi)] at h2
      cases h1; cases h2
      exact r
    · rw [List.getElem?_set_ne e] at h1 h2
      exact h.sl j t u h1 h2
  · rcases own a o with rfl | o
    · exact ⟨f, nph⟩
    · exact h.fr a o
  · have g : ∀ (m : Nat) (t : Sl), (z.ρ.set i s)[m]? = some t → t.own = true → (σ.set i (some (.ref q)))[m]? = some (some (.ref a)) → (i = m ∧ a = q) ∨ (i ≠ m ∧ z.ρ[m]? = some t ∧ σ[m]? = some (some (.ref a))) := fun m t q1 o q2 => by
      by_cases e : i = m
      · subst e
        have hi : i < z.ρ.length := by
          have := (List.getElem?_eq_some_iff.mp q1).1
          simpa using this
        rw [List.getElem?_set_self (by rw [← h.len]; exact hi)] at q2
        cases q2
        exact .inl ⟨rfl, rfl⟩
      · rw [List.getElem?_set_ne e] at q1 q2
        exact .inr ⟨e, q1, q2⟩
    rcases g j t h1 o1 h3 with ⟨e1, e2⟩ | ⟨e1, e2, e3⟩
    · rcases g k t' h2 o2 h4 with ⟨e4, e5⟩ | ⟨e4, e5, e6⟩
      · exact e1.symm.trans e4
      · subst e2
        exact absurd ⟨k, t', e5, o2, e6⟩ nown
    · rcases g k t' h2 o2 h4 with ⟨e4, e5⟩ | ⟨e4, e5, e6⟩
      · subst e5
        exact absurd ⟨j, t, e2, o1, e3⟩ nown
      · exact h.ap j k t t' a e2 e5 o1 o2 e3 e6
theorem Ok.storeOwnFr (h : Ok p φ F z σ H) {i : Nat} {q : Addr} {s : Sl} {H0 : Hp} (n : H0 q = none) (hk : ∀ b o, H0 b = some o → H b = some o) : (∀ a o, H0 a = some o → F a = none → a ∉ φ → ¬ ownAt z.ρ σ a → H a = some o ∧ F a = none ∧ a ∉ φ ∧ ¬ ownAt (z.ρ.set i s) (σ.set i (some (.ref q))) a) :=
  fun a o h1 h2 h3 h4 => ⟨hk a o h1, h2, h3, fun y => by
    rcases ownAt_set y h.len with ⟨_, e⟩ | y
    · cases e; rw [n] at h1; cases h1
    · exact h4 y⟩
/-- what a name owns is changed -/
theorem Ok.setOwn (h : Ok p φ F z σ H) {i : Nat} {q : Addr} {s s' : Sl} {o : HO} (hi : z.ρ[i]? = some s) (ho : s.own = true) (hq : σ[i]? = some (some (.ref q))) (hs : s'.own = true) (r : SlRep p φ F (upd H q o) s' (some (.ref q))) :
    Ok p φ F ⟨z.ρ.set i s', z.S⟩ σ (upd H q o) ∧ Af φ F z σ H φ F ⟨z.ρ.set i s', z.S⟩ σ (upd H q o) := by
  have oq : ownAt z.ρ σ q := ⟨i, s, hi, ho, hq⟩
  obtain ⟨fq, nph⟩ := h.fr q oq
  have hil : i < z.ρ.length := (List.getElem?_eq_some_iff.mp hi).1
  have own : ∀ a, ownAt (z.ρ.set i s') σ a → ownAt z.ρ σ a := fun a ⟨j, t, h1, h2, h3⟩ => by
    by_cases e : i = j
    · subst e
      exact ⟨i, s, hi, ho, h3⟩
    · rw [List.getElem?_set_ne e] at h1
      exact ⟨j, t, h1, h2, h3⟩
  refine ⟨⟨fun b u e => ?_, by simpa using h.len, fun j t u h1 h2 => ?_, fun a o => h.fr a (own a o), fun j k t t' a h1 h2 o1 o2 h3 h4 => ?_, fun n a e => ?_, h.phl, h.phn⟩, Same.refl _, ⟨[], by simp⟩, fun a u h1 h2 h3 h4 => ?_⟩
  · have nb : b ≠ q := ne_of_none e fq
    rw [upd_ne nb]; exact h.sub b u e
  · by_cases e : i = j
    · subst e
      rw [List.getElem?_set_self hil] at h1
      rw [hq] at h2
      cases h1; cases h2
      exact r
    · rw [List.getElem?_set_ne e] at h1
      refine (h.sl j t u h1 h2).mono (Same.refl _) ⟨[], by simp⟩ fun o1 a ea w hw => ?_
      subst ea
      have na : a ≠ q := fun eq => by
        subst eq
        exact e (h.ap i j s t a hi h1 ho o1 hq h2)
      rw [upd_ne na]; exact hw
  · have g : ∀ (m : Nat) (t : Sl), (z.ρ.set i s')[m]? = some t → t.own = true → ∃ t', z.ρ[m]? = some t' ∧ t'.own = true := fun m t q1 o => by
      by_cases e : i = m
      · subst e; exact ⟨s, hi, ho⟩
      · rw [List.getElem?_set_ne e] at q1
        exact ⟨t, q1, o⟩
    obtain ⟨t1, g1, g2⟩ := g j t h1 o1
    obtain ⟨t2, g3, g4⟩ := g k t' h2 o2
    exact h.ap j k t1 t2 a g1 g3 g2 g4 h3 h4
  · obtain ⟨e0, ds, vs, e1, e2, r⟩ := h.ph n a e
    have na : a ≠ q := fun eq => by subst eq; exact nph (List.mem_of_getElem? e)
    exact ⟨e0, ds, vs, e1, by rw [upd_ne na]; exact e2, r⟩
  · have na : a ≠ q := fun eq => by subst eq; exact h4 oq
    exact ⟨by rw [upd_ne na]; exact h1, h2, h3, fun y => h4 (own a y)⟩
/-- a shared list is changed -/
theorem Ok.setLoc (h : Ok p φ F z σ H) {n : Nat} {q : Addr} {vs : List V} {ds : List D} (hn : φ[n]? = some q) (r : Reps p.K φ F vs ds) :
    Ok p φ F ⟨z.ρ, z.S.set n ds⟩ σ (upd H q (.lst vs)) ∧ Af φ F z σ H φ F ⟨z.ρ, z.S.set n ds⟩ σ (upd H q (.lst vs)) := by
  obtain ⟨fq, ds0, vs0, e1, e2, r0⟩ := h.ph n q hn
  have mq : q ∈ φ := List.mem_of_getElem? hn
  refine ⟨⟨fun b u e => ?_, h.len, fun j t u h1 h2 => ?_, h.fr, h.ap, fun m a e => ?_, by simpa using h.phl, h.phn⟩, Same.refl _, ⟨[], by simp⟩, fun a u h1 h2 h3 h4 => ?_⟩
  · rw [upd_ne (ne_of_none e fq)]; exact h.sub b u e
  · refine (h.sl j t u h1 h2).mono (Same.refl _) ⟨[], by simp⟩ fun o1 a ea w hw => ?_
    subst ea
    have na : a ≠ q := fun eq => by
      subst eq
      exact (h.fr a ⟨j, t, h1, o1, h2⟩).2 mq
    rw [upd_ne na]; exact hw
  · by_cases e' : m = n
    · subst e'
      rw [hn] at e; cases e
      exact ⟨fq, ds, vs, by rw [List.getElem?_set_self (List.getElem?_eq_some_iff.mp e1).1], upd_same, r⟩
    · obtain ⟨f1, ds1, vs1, e3, e4, r1⟩ := h.ph m a e
      have na : a ≠ q := fun eq => by
        subst eq
        exact e' (by
          obtain ⟨l1, g1⟩ := List.getElem?_eq_some_iff.mp e
          obtain ⟨l2, g2⟩ := List.getElem?_eq_some_iff.mp hn
          exact (List.getElem_inj h.phn).mp (g1.trans g2.symm))
      exact ⟨f1, ds1, vs1, by rw [List.getElem?_set_ne (Ne.symm e')]; exact e3, by rw [upd_ne na]; exact e4, r1⟩
  · have na : a ≠ q := fun eq => by subst eq; exact h3 mq
    exact ⟨by rw [upd_ne na]; exact h1, h2, h3, h4⟩
/-- a new shared list -/
theorem Ok.newLoc (h : Ok p φ F z σ H) {q : Addr} {vs : List V} {ds : List D} (n : H q = none) (r : Reps p.K φ F vs ds) :
    Ok p (φ ++ [q]) F ⟨z.ρ, z.S ++ [ds]⟩ σ (upd H q (.lst vs)) ∧ Af φ F z σ H (φ ++ [q]) F ⟨z.ρ, z.S ++ [ds]⟩ σ (upd H q (.lst vs)) := by
  have fq := h.fnone n
  have nq := h.not_phi n
  have no := h.not_own n
  refine ⟨⟨fun b u e => ?_, h.len, fun j t u h1 h2 => ?_, fun a o => ?_, h.ap, fun m a e => ?_, by simp [h.phl], ?_⟩, Same.refl _, ⟨[q], rfl⟩, fun a u h1 h2 h3 h4 => ?_⟩
  · rw [upd_ne (ne_of_none e fq)]; exact h.sub b u e
  · refine (h.sl j t u h1 h2).mono (Same.refl _) ⟨[q], rfl⟩ fun o1 a ea w hw => ?_
    rw [upd_ne (ne_of_none hw n)]; exact hw
  · obtain ⟨u, e⟩ := h.own_some o
    refine ⟨(h.fr a o).1, fun m => ?_⟩
    rcases List.mem_append.mp m with m | m
    · exact (h.fr a o).2 m
    · rw [List.mem_singleton] at m
      subst m; rw [n] at e; cases e
  · by_cases hm : m < φ.length
    · rw [List.getElem?_append_left hm] at e
      obtain ⟨f1, ds1, vs1, e3, e4, r1⟩ := h.ph m a e
      exact ⟨f1, ds1, vs1, by rw [List.getElem?_append_left (by rw [← h.phl]; exact hm)]; exact e3, by rw [upd_ne (ne_of_none e4 n)]; exact e4, r1.mono (Same.refl _) ⟨[q], rfl⟩⟩
    · rw [List.getElem?_append_right (by omega)] at e
      have e0 : m - φ.length = 0 := by
        have := (List.getElem?_eq_some_iff.mp e).1
        simp at this; omega
      rw [e0] at e
      cases e
      exact ⟨fq, ds, vs, by rw [List.getElem?_append_right (by rw [← h.phl]; omega), ← h.phl, e0]; rfl, upd_same, r.mono (Same.refl _) ⟨[q], rfl⟩⟩
  · rw [List.nodup_append]
    refine ⟨h.phn, by simp, fun a ha b hb => ?_⟩
    rw [List.mem_singleton] at hb
    subst hb
    exact fun e => nq (e ▸ ha)
  · have na : a ≠ q := ne_of_none h1 n
    exact ⟨by rw [upd_ne na]; exact h1, h2, fun m => by
      rcases List.mem_append.mp m with m | m
      · exact h3 m
      · rw [List.mem_singleton] at m; exact na m, h4⟩
/-- a name's own object is frozen -/
theorem Ok.freeze (h : Ok p φ F z σ H) {i : Nat} {q : Addr} {s : Sl} {o : HO} {d : D} (hi : z.ρ[i]? = some s) (ho : s.own = true) (hq : σ[i]? = some (some (.ref q))) (hh : H q = some o) (r : Rep p.K φ (upd F q o) (.ref q) d) :
    Ok p φ (upd F q o) ⟨z.ρ.set i (.val d), z.S⟩ σ H ∧ Af φ F z σ H φ (upd F q o) ⟨z.ρ.set i (.val d), z.S⟩ σ H := by
  have oq : ownAt z.ρ σ q := ⟨i, s, hi, ho, hq⟩
  obtain ⟨fq, nph⟩ := h.fr q oq
  have hil : i < z.ρ.length := (List.getElem?_eq_some_iff.mp hi).1
  have s1 : Same F (upd F q o) := fun b u e => by rw [upd_ne (ne_of_none e fq)]; exact e
  have own : ∀ a, ownAt (z.ρ.set i (.val d)) σ a → ownAt z.ρ σ a ∧ a ≠ q := fun a ⟨j, t, h1, h2, h3⟩ => by
    by_cases e : i = j
    · subst e
      rw [List.getElem?_set_self hil] at h1
      cases h1; cases h2
    · rw [List.getElem?_set_ne e] at h1
      exact ⟨⟨j, t, h1, h2, h3⟩, fun eq => by
        subst eq
        exact e (h.ap i j s t a hi h1 ho h2 hq h3)⟩
  refine ⟨⟨fun b u e => ?_, by simpa using h.len, fun j t u h1 h2 => ?_, fun a o => ?_, fun j k t t' a h1 h2 o1 o2 h3 h4 => ?_, fun n a e => ?_, h.phl, h.phn⟩, s1, ⟨[], by simp⟩, fun a u h1 h2 h3 h4 => ?_⟩
  · by_cases hb : b = q
    · subst hb; rw [upd_same] at e; cases e; exact hh
    · rw [upd_ne hb] at e; exact h.sub b u e
  · by_cases e : i = j
    · subst e
      rw [List.getElem?_set_self hil] at h1
      rw [hq] at h2
      cases h1; cases h2
      exact ⟨_, rfl, r⟩
    · rw [List.getElem?_set_ne e] at h1
      exact (h.sl j t u h1 h2).mono s1 ⟨[], by simp⟩ fun _ _ _ _ w => w
  · obtain ⟨o1, na⟩ := own a o
    exact ⟨by rw [upd_ne na]; exact (h.fr a o1).1, (h.fr a o1).2⟩
  · have g : ∀ (m : Nat) (t : Sl), (z.ρ.set i (.val d))[m]? = some t → t.own = true → z.ρ[m]? = some t := fun m t q1 o => by
      by_cases e : i = m
      · subst e
        rw [List.getElem?_set_self hil] at q1
        cases q1; cases o
      · rw [List.getElem?_set_ne e] at q1
        exact q1
    exact h.ap j k t t' a (g j t h1 o1) (g k t' h2 o2) o1 o2 h3 h4
  · obtain ⟨e0, ds, vs, e1, e2, r2⟩ := h.ph n a e
    have na : a ≠ q := fun eq => by subst eq; exact nph (List.mem_of_getElem? e)
    exact ⟨by rw [upd_ne na]; exact e0, ds, vs, e1, e2, r2.mono s1 ⟨[], by simp⟩⟩
  · have na : a ≠ q := fun eq => by subst eq; exact h4 oq
    exact ⟨h1, by rw [upd_ne na]; exact h2, h3, fun y => h4 (own a y).1⟩
end
end FD

set_option Elab.async false
set_option linter.all false
set_option maxRecDepth 100000
set_option maxHeartbeats 1000000
namespace FD
open PySem PySem.Spec PyProof.Rows L2 FDB

inductive Res (α : Type) where
  | ok (a : α) (z : Z) | err (c : Str) (d : D) (z : Z) | stuck
def Res.bind {α β : Type} (r : Res α) (g : α → Z → Res β) : Res β := match r with
  | .ok a z => g a z
  | .err c d z => .err c d z
  | .stuck => .stuck
abbrev Den (α : Type) := Z → Res α
/-- how a value of the text bears a datum -/
abbrev RR (β α : Type) := List Addr → Hp → Z → L2.St → Hp → β → α → Prop
def rD (p : Pm) : RR V D := fun φ F _ _ _ v d => Rep p.K φ F v d
def rDs (p : Pm) : RR (List V) (List D) := fun φ F _ _ _ v d => Reps p.K φ F v d
def rB : RR Bool Bool := fun _ _ _ _ _ a b => a = b
def rOI : RR (Option Int) (Option Int) := fun _ _ _ _ _ a b => a = b

section
variable {p : Pm} {W : WX} {α β α' β' : Type}
def LGat (p : Pm) (W : WX) (R : RR β α) (φ : List Addr) (F : Hp) (z : Z) (r : Res α) (σ : L2.St) (H : Hp) (Q : β → Hp → Prop) : Prop := match r with
  | .ok a z' => ∀ φ' F' b H', Ok p φ' F' z' σ H' → Af φ F z σ H φ' F' z' σ H' → R φ' F' z' σ H' b a → Q b H'
  | .err c d z' => ∀ φ' F' v H' da, Ok p φ' F' z' σ H' → Af φ F z σ H φ' F' z' σ H' → H' da = some (.xd [(("what" : Str), v)]) → Rep p.K φ' F' v d → W (.ref (p.cls c)) (some da) σ H'
  | .stuck => False
def LG (p : Pm) (W : WX) (R : RR β α) (f : Den α) : L2.St → Hp → (β → Hp → Prop) → Prop := fun σ H Q => ∃ φ F z, Ok p φ F z σ H ∧ LGat p W R φ F z (f z) σ H Q

variable {R : RR β α} {R' : RR β' α'} {φ φ1 : List Addr} {F F1 : Hp} {z z1 : Z} {σ : L2.St} {H H1 : Hp} {Q : β → Hp → Prop} {Q' : β' → Hp → Prop}
theorem LGat.shift {r : Res α} (h : LGat p W R φ F z r σ H Q) (a : Af φ F z σ H φ1 F1 z1 σ H1) : LGat p W R φ1 F1 z1 r σ H1 Q := by
  cases r with
  | ok x z' => exact fun φ' F' b H' o f r => h φ' F' b H' o (a.trans f) r
  | err c d z' => exact fun φ' F' v H' da o f e r => h φ' F' v H' da o (a.trans f) e r
  | stuck => exact h
theorem LGat.mono {r : Res α} {Q2 : β → Hp → Prop} (h : LGat p W R φ F z r σ H Q) (q : ∀ b H', Q b H' → Q2 b H') : LGat p W R φ F z r σ H Q2 := by
  cases r with
  | ok x z' => exact fun φ' F' b H' o f r => q _ _ (h φ' F' b H' o f r)
  | err c d z' => exact h
  | stuck => exact h
theorem LG.mono {f : Den α} {Q2 : β → Hp → Prop} (h : LG p W R f σ H Q) (q : ∀ b H', Q b H' → Q2 b H') : LG p W R f σ H Q2 :=
  let ⟨φ, F, z, o, l⟩ := h
  ⟨φ, F, z, o, l.mono q⟩
theorem LGat.ret {a : α} {b : β} (h : LGat p W R φ F z (.ok a z1) σ H Q) (o : Ok p φ1 F1 z1 σ H1) (f : Af φ F z σ H φ1 F1 z1 σ H1) (r : R φ1 F1 z1 σ H1 b a) : Q b H1 := h φ1 F1 b H1 o f r
theorem LGat.here {a : α} {b : β} (h : LGat p W R φ F z (.ok a z) σ H Q) (o : Ok p φ F z σ H) (r : R φ F z σ H b a) : Q b H := h φ F b H o Af.refl r
/-- first f, then g -/
theorem LGat.bind {f : Den α} {g : α → Den α'} (o : Ok p φ F z σ H) (h : LGat p W R' φ F z ((f z).bind g) σ H Q') :
    LG p W R f σ H fun b H1 => ∃ φ1 F1 z1 a, Ok p φ1 F1 z1 σ H1 ∧ Af φ F z σ H φ1 F1 z1 σ H1 ∧ R φ1 F1 z1 σ H1 b a ∧ LGat p W R' φ1 F1 z1 (g a z1) σ H1 Q' := by
  refine ⟨φ, F, z, o, ?_⟩
  cases e : f z with
  | ok a z' =>
    rw [e] at h
    exact fun φ' F' b H' o' f' r' => ⟨φ', F', z', a, o', f', r', LGat.shift h f'⟩
  | err c d z' => rw [e] at h; exact h
  | stuck => rw [e] at h; exact h
end

/-! ### judgements -/
abbrev DE (X : Cx) (p : Pm) (W : WX) (e : Expr) (f : Den D) : Prop := PE X e (LG p W (rD p) f)
abbrev DT (X : Cx) (p : Pm) (W : WX) (e : Expr) (f : Den Bool) : Prop := PT X e (LG p W rB f)
abbrev DA (X : Cx) (p : Pm) (W : WX) (es : List Expr) (f : Den (List D)) : Prop := PA X es (LG p W (rDs p) f)

section
variable {X : Cx} {p : Pm} {W : WX}
theorem PE.imp {e : Expr} {t t' : TE} (h : PE X e t) (i : ∀ σ H Q, t' σ H Q → t σ H Q) : PE X e t' := ⟨fun pins s σ H Q I q => h.run pins s σ H Q I (i σ H Q q)⟩
theorem PT.imp {e : Expr} {t t' : TT} (h : PT X e t) (i : ∀ σ H Q, t' σ H Q → t σ H Q) : PT X e t' := ⟨fun pins s σ H Q I q => h.run pins s σ H Q I (i σ H Q q)⟩
theorem PA.imp {e : List Expr} {t t' : TA} (h : PA X e t) (i : ∀ σ H Q, t' σ H Q → t σ H Q) : PA X e t' := ⟨fun pos pins s σ H Q I q => h.run pos pins s σ H Q I (i σ H Q q)⟩
theorem PS.imp {e : Stmt} {t t' : TS} (h : PS X e t) (i : ∀ D σ H, t' D σ H → t D σ H) : PS X e t' := ⟨fun pins s σ H D I q => h.run pins s σ H D I (i D σ H q)⟩
theorem PSs.imp {e : List Stmt} {t t' : TS} (h : PSs X e t) (i : ∀ D σ H, t' D σ H → t D σ H) : PSs X e t' := ⟨fun pins s σ H D I q => h.run pins s σ H D I (i D σ H q)⟩
theorem PI.imp {tg e : Expr} {t t' : TI} (h : PI X tg e t) (i : ∀ σ H R, t' σ H R → t σ H R) : PI X tg e t' := ⟨fun pins s σ H R I q => h.run pins s σ H R I (i σ H R q)⟩
theorem PO.imp {e : Option Expr} {t t' : TO} (h : PO X e t) (i : ∀ σ H R, t' σ H R → t σ H R) : PO X e t' := ⟨fun pins s σ H R I q => h.run pins s σ H R I (i σ H R q)⟩

/-! ### names, constants -/
def varD (i : Nat) : Den D := fun z => match z.ρ[i]? with
  | some (.val d) => .ok d z
  | _ => .stuck
def conD (d : D) : Den D := fun z => .ok d z
theorem de_var {i : Nat} {x : Str} {pos : Pos} (hN : X.N[i]? = some x := by rfl) (hv : Vis X.env.scope x := by first | exact Or.inl rfl | exact Or.inr (Or.inl rfl) | exact Or.inr (Or.inr rfl)) (hd : (x == ("__debug__" : Str)) = false := by decide)
    (hcd : (x == ("__classdict__" : Str)) = false := by decide) : DE X p W (.Name x pos) (varD i) := by
  refine PE.imp (pe_var hN hv hd hcd) fun σ H Q h => ?_
  obtain ⟨φ, F, z, o, l⟩ := h
  unfold varD at l
  split at l
  · rename_i d e
    have hi : i < z.ρ.length := (List.getElem?_eq_some_iff.mp e).1
    have hs : i < σ.length := by rw [← o.len]; exact hi
    obtain ⟨v, ev, r⟩ := o.sl i _ _ e (List.getElem?_eq_getElem hs)
    exact ⟨v, by rw [List.getElem?_eq_getElem hs, ev], l.here o r⟩
  · exact l.elim
theorem de_con {e : Expr} {v : V} {d : D} (h : PE X e (tC v)) (r : ∀ φ F, Rep p.K φ F v d) : DE X p W e (conD d) := by
  refine PE.imp h fun σ H Q h => ?_
  obtain ⟨φ, F, z, o, l⟩ := h
  exact LGat.here (b := v) l o (r φ F)
theorem de_int {i j pos} : DE X p W (.Constant (.int i) j pos) (conD (.int i)) := de_con pe_int fun _ _ => .int i
theorem de_bl {i j pos} : DE X p W (.Constant (.bool i) j pos) (conD (.bl i)) := de_con pe_bl fun _ _ => .bl i
theorem de_str {i j pos} : DE X p W (.Constant (.str i) j pos) (conD (.str i)) := de_con pe_str fun _ _ => .str i
theorem de_non {j pos} : DE X p W (.Constant .none j pos) (conD .non) := de_con pe_non fun _ _ => .non

/-! ### operators -/
/-- an operator by values computes op on data -/
def OpSem (p : Pm) (r : R2) (op : D → D → Option D) : Prop := ∀ φ F z σ H x y d1 d2 d (Q : VK), Ok p φ F z σ H → Rep p.K φ F x d1 → Rep p.K φ F y d2 → op d1 d2 = some d →
  (∀ φ' F' v H', Ok p φ' F' z σ H' → Af φ F z σ H φ' F' z σ H' → Rep p.K φ' F' v d → Q v H') → r x y H Q
def optR {α : Type} : Option α → Den α
  | some a => fun z => .ok a z
  | none => fun _ => .stuck
def binD (op : D → D → Option D) (f g : Den D) : Den D := fun z => (f z).bind fun d1 z1 => (g z1).bind fun d2 z2 => optR (op d1 d2) z2
theorem op_imp {r : R2} {op : D → D → Option D} {f g : Den D} (hop : OpSem p r op) (σ : L2.St) (H : Hp) (Q : VK) (h : LG p W (rD p) (binD op f g) σ H Q) : tOp r (LG p W (rD p) f) (LG p W (rD p) g) σ H Q := by
  obtain ⟨φ, F, z, o, l⟩ := h
  refine LG.mono (LGat.bind o l) ?_
  rintro x H1 ⟨φ1, F1, z1, d1, o1, f1, r1, l1⟩
  refine LG.mono (LGat.bind o1 l1) ?_
  rintro y H2 ⟨φ2, F2, z2, d2, o2, f2, r2, l2⟩
  cases e : op d1 d2 with
  | none => rw [e] at l2; exact l2.elim
  | some d =>
    rw [e] at l2
    exact hop φ2 F2 z2 σ H2 x y d1 d2 d Q o2 (f2.rep r1) r2 e fun φ' F' v H' o' f' r' => l2 φ' F' v H' o' f' r'
theorem de_bin {op : Operator} {r : R2} {opd : D → D → Option D} {a b : Expr} {pos : Pos} {f g : Den D} (ho : OpR X (binaryOp op) r) (hop : OpSem p r opd) (ha : DE X p W a f) (hb : DE X p W b g) : DE X p W (.BinOp a op b pos) (binD opd f g) :=
  PE.imp (pe_op ho ha hb) (op_imp hop)
theorem de_cmp {op : CmpOp} {r : R2} {opd : D → D → Option D} {a b : Expr} {pos : Pos} {f g : Den D} (ho : OpR X (compareOp op) r) (hop : OpSem p r opd) (hm : behindInMarks op b = false) (ha : DE X p W a f) (hb : DE X p W b g) : DE X p W (.Compare a [op] [b] pos) (binD opd f g) :=
  PE.imp (pe_cmpR ho ha hb hm) (op_imp hop)
/-- a < b < c -/
def chainD (op op' : D → D → Option D) (f g k : Den D) : Den D := fun z => (f z).bind fun d1 z1 => (g z1).bind fun d2 z2 => match op d1 d2 with
  | some (.bl true) => (k z2).bind fun d3 z3 => optR (op' d2 d3) z3
  | some (.bl false) => .ok (.bl false) z2
  | _ => .stuck
theorem de_chain {op op' : CmpOp} {r r' : R2} {opd opd' : D → D → Option D} {a b c : Expr} {pos : Pos} {f g k : Den D} (ho : OpR X (compareOp op) r) (ho' : OpR X (compareOp op') r') (hop : OpSem p r opd) (hop' : OpSem p r' opd')
    (ha : DE X p W a f) (hb : DE X p W b g) (hc : DE X p W c k) (hm : lastMarks [op, op'] [b, c] = false := by with_unfolding_all rfl) : DE X p W (.Compare a [op, op'] [b, c] pos) (chainD opd opd' f g k) := by
  refine PE.imp (pe_chain ho ho' ha hb hc hm) fun σ H Q h => ?_
  obtain ⟨φ, F, z, o, l⟩ := h
  refine LG.mono (LGat.bind o l) ?_
  rintro x H1 ⟨φ1, F1, z1, d1, o1, f1, r1, l1⟩
  refine LG.mono (LGat.bind o1 l1) ?_
  rintro y H2 ⟨φ2, F2, z2, d2, o2, f2, r2, l2⟩
  cases e : opd d1 d2 with
  | none => rw [e] at l2; exact l2.elim
  | some d =>
    rw [e] at l2
    refine hop φ2 F2 z2 σ H2 x y d1 d2 d _ o2 (f2.rep r1) r2 e fun φ3 F3 v H3 o3 f3 r3 => ?_
    cases r3 with
    | bl t =>
      refine ⟨t, rfl, ?_⟩
      cases t with
      | false =>
        rw [if_neg Bool.false_ne_true]
        exact l2 φ3 F3 _ H3 o3 f3 (.bl false)
      | true =>
        rw [if_pos rfl]
        refine LG.mono (LGat.bind o3 (LGat.shift l2 f3)) ?_
        rintro w H4 ⟨φ4, F4, z4, d3, o4, f4, r4, l4⟩
        cases e' : opd' d2 d3 with
        | none => rw [e'] at l4; exact l4.elim
        | some d' =>
          rw [e'] at l4
          exact hop' φ4 F4 z4 σ H4 y w d2 d3 d' Q o4 (f4.rep (f3.rep r2)) r4 e' fun φ' F' v H' o' f' r' => l4 φ' F' v H' o' f' r'
    | _ => exact l2.elim
/-- unary -/
def UnSem (p : Pm) (r : V → Hp → VK → Prop) (op : D → Option D) : Prop := ∀ φ F z σ H x d1 d (Q : VK), Ok p φ F z σ H → Rep p.K φ F x d1 → op d1 = some d →
  (∀ φ' F' v H', Ok p φ' F' z σ H' → Af φ F z σ H φ' F' z σ H' → Rep p.K φ' F' v d → Q v H') → r x H Q
def unD (op : D → Option D) (f : Den D) : Den D := fun z => (f z).bind fun d z1 => optR (op d) z1
theorem un_imp {r : V → Hp → VK → Prop} {op : D → Option D} {f : Den D} (hop : UnSem p r op) (σ : L2.St) (H : Hp) (Q : VK) (h : LG p W (rD p) (unD op f) σ H Q) : tUn r (LG p W (rD p) f) σ H Q := by
  obtain ⟨φ, F, z, o, l⟩ := h
  refine LG.mono (LGat.bind o l) ?_
  rintro x H1 ⟨φ1, F1, z1, d1, o1, f1, r1, l1⟩
  cases e : op d1 with
  | none => rw [e] at l1; exact l1.elim
  | some d =>
    rw [e] at l1
    exact hop φ1 F1 z1 σ H1 x d1 d Q o1 r1 e fun φ' F' v H' o' f' r' => l1 φ' F' v H' o' f' r'
theorem de_un {op : UnaryOp} {r : V → Hp → VK → Prop} {opd : D → Option D} {a : Expr} {pos : Pos} {f : Den D} (ho : UnR X (unaryOp op) r) (hop : UnSem p r opd) (ha : DE X p W a f) : DE X p W (.UnaryOp op a pos) (unD opd f) :=
  PE.imp (pe_un ho ha) (un_imp hop)

/-! ### tests -/
def testD (f : Den D) : Den Bool := fun z => (f z).bind fun d z1 => match d with
  | .bl b => .ok b z1
  | _ => .stuck
theorem dt_val {e : Expr} {f : Den D} (h : DE X p W e f) (he : ∀ whole, isTrue e X.env whole = (do let v ← whole; standAt e.pos; holding [v] (truthy v)) := by intro _; rfl) : DT X p W e (testD f) := by
  refine PT.imp (pt_val h he) fun σ H Q h => ?_
  obtain ⟨φ, F, z, o, l⟩ := h
  refine LG.mono (LGat.bind o l) ?_
  rintro x H1 ⟨φ1, F1, z1, d1, o1, f1, r1, l1⟩
  cases d1 with
  | bl b => cases r1; exact ⟨b, rfl, l1.here o1 rfl⟩
  | _ => exact l1.elim
def notT (f : Den Bool) : Den Bool := fun z => (f z).bind fun b z1 => .ok (!b) z1
def andT (f g : Den Bool) : Den Bool := fun z => (f z).bind fun b z1 => if b then g z1 else .ok false z1
def orT (f g : Den Bool) : Den Bool := fun z => (f z).bind fun b z1 => if b then .ok true z1 else g z1
theorem not_imp {f : Den Bool} (σ : L2.St) (H : Hp) (Q : Bool → Hp → Prop) (h : LG p W rB (notT f) σ H Q) : tNot (LG p W rB f) σ H Q := by
  obtain ⟨φ, F, z, o, l⟩ := h
  refine LG.mono (LGat.bind (R := rB) o l) ?_
  rintro b H1 ⟨φ1, F1, z1, b', o1, f1, e, l1⟩
  cases e
  exact LGat.here l1 o1 (rfl : (!b) = (!b))
theorem and_imp {f g : Den Bool} (σ : L2.St) (H : Hp) (Q : Bool → Hp → Prop) (h : LG p W rB (andT f g) σ H Q) : tAnd (LG p W rB f) (LG p W rB g) σ H Q := by
  obtain ⟨φ, F, z, o, l⟩ := h
  refine LG.mono (LGat.bind (R := rB) o l) ?_
  rintro b H1 ⟨φ1, F1, z1, b', o1, f1, e, l1⟩
  cases e
  cases b with
  | true => exact ⟨φ1, F1, z1, o1, l1⟩
  | false => exact LGat.here l1 o1 (rfl : false = false)
theorem or_imp {f g : Den Bool} (σ : L2.St) (H : Hp) (Q : Bool → Hp → Prop) (h : LG p W rB (orT f g) σ H Q) : tOr (LG p W rB f) (LG p W rB g) σ H Q := by
  obtain ⟨φ, F, z, o, l⟩ := h
  refine LG.mono (LGat.bind (R := rB) o l) ?_
  rintro b H1 ⟨φ1, F1, z1, b', o1, f1, e, l1⟩
  cases e
  cases b with
  | true => exact LGat.here l1 o1 (rfl : true = true)
  | false => exact ⟨φ1, F1, z1, o1, l1⟩
theorem dt_not {e : Expr} {f : Den Bool} {pos : Pos} (h : DT X p W e f) : DT X p W (.UnaryOp .Not e pos) (notT f) := PT.imp (pt_not h) not_imp
abbrev DW (X : Cx) (p : Pm) (W : WX) (e : Expr) (f : Den Bool) : Prop := PW X e (LG p W rB f)
theorem PW.imp {e : Expr} {t t' : TT} (h : PW X e t) (i : ∀ σ H Q, t' σ H Q → t σ H Q) : PW X e t' := ⟨fun w pins s σ H Q I q => h.run w pins s σ H Q I (i σ H Q q)⟩
theorem dw_and1 {a : Expr} {f : Den Bool} {pos : Pos} (h : DT X p W a f) : DW X p W (.BoolOp .And [a] pos) f := pw_and1 h
theorem dw_or1 {a : Expr} {f : Den Bool} {pos : Pos} (h : DT X p W a f) : DW X p W (.BoolOp .Or [a] pos) f := pw_or1 h
theorem dw_and {a b : Expr} {rest : List Expr} {f g : Den Bool} {pos : Pos} (h : DT X p W a f) (k : DW X p W (.BoolOp .And (b :: rest) pos) g) : DW X p W (.BoolOp .And (a :: b :: rest) pos) (andT f g) := PW.imp (pw_and h k) and_imp
theorem dw_or {a b : Expr} {rest : List Expr} {f g : Den Bool} {pos : Pos} (h : DT X p W a f) (k : DW X p W (.BoolOp .Or (b :: rest) pos) g) : DW X p W (.BoolOp .Or (a :: b :: rest) pos) (orT f g) := PW.imp (pw_or h k) or_imp
/-- and, or, not of bools as values -/
def andD (f g : Den D) : Den D := fun z => (f z).bind fun d z1 => match d with
  | .bl true => g z1
  | .bl false => .ok (.bl false) z1
  | _ => .stuck
def orD (f g : Den D) : Den D := fun z => (f z).bind fun d z1 => match d with
  | .bl true => .ok (.bl true) z1
  | .bl false => g z1
  | _ => .stuck
def notD (f : Den D) : Den D := unD (fun d => match d with | .bl b => some (.bl (!b)) | _ => none) f
theorem de_one {op} {a : Expr} {pos : Pos} {f : Den D} (h : DE X p W a f) : DE X p W (.BoolOp op [a] pos) f := pe_one h
theorem de_and {a b : Expr} {rest : List Expr} {pos : Pos} {f g : Den D} (h : DE X p W a f) (k : DE X p W (.BoolOp .And (b :: rest) pos) g) : DE X p W (.BoolOp .And (a :: b :: rest) pos) (andD f g) := by
  refine PE.imp (pe_and h k) fun σ H Q h => ?_
  obtain ⟨φ, F, z, o, l⟩ := h
  refine LG.mono (LGat.bind (R := rD p) o l) ?_
  rintro x H1 ⟨φ1, F1, z1, d1, o1, f1, r1, l1⟩
  cases d1 with
  | bl b =>
    cases r1
    refine ⟨b, rfl, ?_⟩
    cases b with
    | true => exact ⟨φ1, F1, z1, o1, l1⟩
    | false => exact LGat.here l1 o1 (Rep.bl false)
  | _ => exact l1.elim
theorem de_or {a b : Expr} {rest : List Expr} {pos : Pos} {f g : Den D} (h : DE X p W a f) (k : DE X p W (.BoolOp .Or (b :: rest) pos) g) : DE X p W (.BoolOp .Or (a :: b :: rest) pos) (orD f g) := by
  refine PE.imp (pe_or h k) fun σ H Q h => ?_
  obtain ⟨φ, F, z, o, l⟩ := h
  refine LG.mono (LGat.bind (R := rD p) o l) ?_
  rintro x H1 ⟨φ1, F1, z1, d1, o1, f1, r1, l1⟩
  cases d1 with
  | bl b =>
    cases r1
    refine ⟨b, rfl, ?_⟩
    cases b with
    | true => exact LGat.here l1 o1 (Rep.bl true)
    | false => exact ⟨φ1, F1, z1, o1, l1⟩
  | _ => exact l1.elim
theorem de_not {a : Expr} {pos : Pos} {f : Den D} (h : DE X p W a f) : DE X p W (.UnaryOp .Not a pos) (notD f) := by
  refine PE.imp (pe_not h) fun σ H Q h => ?_
  obtain ⟨φ, F, z, o, l⟩ := h
  refine LG.mono (LGat.bind (R := rD p) o l) ?_
  rintro x H1 ⟨φ1, F1, z1, d1, o1, f1, r1, l1⟩
  cases d1 with
  | bl b =>
    cases r1
    exact ⟨b, rfl, LGat.here l1 o1 (Rep.bl (!b))⟩
  | _ => exact l1.elim
def ifD (c : Den Bool) (f g : Den D) : Den D := fun z => (c z).bind fun b z1 => if b then f z1 else g z1
theorem de_if {c a b : Expr} {pos : Pos} {k : Den Bool} {f g : Den D} (hc : DT X p W c k) (ha : DE X p W a f) (hb : DE X p W b g) : DE X p W (.IfExp c a b pos) (ifD k f g) := by
  refine PE.imp (pe_ifExp hc ha hb) fun σ H Q h => ?_
  obtain ⟨φ, F, z, o, l⟩ := h
  refine LG.mono (LGat.bind (R := rB) o l) ?_
  rintro t H1 ⟨φ1, F1, z1, b', o1, f1, e, l1⟩
  cases e
  cases t with
  | true => exact ⟨φ1, F1, z1, o1, l1⟩
  | false => exact ⟨φ1, F1, z1, o1, l1⟩
/-- is None -/
def isNonD (neg : Bool) : D → Option D
  | .non => some (.bl (!neg))
  | _ => some (.bl neg)
theorem de_isN {a : Expr} {j pos pos'} {f : Den D} (h : DE X p W a f) : DE X p W (.Compare a [.Is] [.Constant .none j pos'] pos) (unD (isNonD false) f) := by
  refine PE.imp (pe_cmp (pc_isN h) rfl) fun σ H Q h => ?_
  obtain ⟨φ, F, z, o, l⟩ := h
  refine LG.mono (LGat.bind (R := rD p) o l) ?_
  rintro x H1 ⟨φ1, F1, z1, d1, o1, f1, r1, l1⟩
  cases r1 <;> exact LGat.here l1 o1 (Rep.bl _)
theorem de_notN {a : Expr} {j pos pos'} {f : Den D} (h : DE X p W a f) : DE X p W (.Compare a [.IsNot] [.Constant .none j pos'] pos) (unD (isNonD true) f) := by
  refine PE.imp (pe_cmp (pc_notN h) rfl) fun σ H Q h => ?_
  obtain ⟨φ, F, z, o, l⟩ := h
  refine LG.mono (LGat.bind (R := rD p) o l) ?_
  rintro x H1 ⟨φ1, F1, z1, d1, o1, f1, r1, l1⟩
  cases r1 <;> exact LGat.here l1 o1 (Rep.bl _)

/-! ### arguments, displays -/
def nilA : Den (List D) := fun z => .ok [] z
def consA (f : Den D) (g : Den (List D)) : Den (List D) := fun z => (f z).bind fun d z1 => (g z1).bind fun ds z2 => .ok (d :: ds) z2
theorem da_nil : DA X p W [] nilA := by
  refine PA.imp pa_nil fun σ H Q h => ?_
  obtain ⟨φ, F, z, o, l⟩ := h
  exact LGat.here (b := []) l o Reps.nil
theorem da_cons {e : Expr} {es : List Expr} {f : Den D} {g : Den (List D)} (h : DE X p W e f) (k : DA X p W es g) (hs : starEach (e :: es) X.env = (false, eval e X.env) :: starEach es X.env := by rfl) : DA X p W (e :: es) (consA f g) := by
  refine PA.imp (pa_cons h k hs) fun σ H Q h => ?_
  obtain ⟨φ, F, z, o, l⟩ := h
  refine LG.mono (LGat.bind (R := rD p) o l) ?_
  rintro x H1 ⟨φ1, F1, z1, d1, o1, f1, r1, l1⟩
  refine LG.mono (LGat.bind (R := rDs p) o1 l1) ?_
  rintro xs H2 ⟨φ2, F2, z2, ds, o2, f2, r2, l2⟩
  exact LGat.here (b := x :: xs) l2 o2 (Reps.cons (f2.rep r1) r2)
def short (n : Nat) : Bool := decide (n ≤ 100000)
theorem short_line {n : Nat} (h : short n = true) : n ≤ sizeLine := by
  have := of_decide_eq_true h
  rw [sizeLine_eq]; omega
theorem short_lt {n : Nat} (h : short n = true) : n < sizeLine := by
  have := of_decide_eq_true h
  rw [sizeLine_eq]; omega
def tupD (f : Den (List D)) : Den D := fun z => (f z).bind fun ds z1 => if short ds.length then .ok (.tup ds) z1 else .stuck
def lstD (f : Den (List D)) : Den D := fun z => (f z).bind fun ds z1 => if short ds.length then .ok (.lst ds) z1 else .stuck
theorem de_tup {es : List Expr} {k pos} {f : Den (List D)} (h : DA X p W es f) : DE X p W (.Tuple es k pos) (tupD f) := by
  refine PE.imp (pe_tupF h) fun σ H Q h => ?_
  obtain ⟨φ, F, z, o, l⟩ := h
  refine LG.mono (LGat.bind (R := rDs p) o l) ?_
  rintro xs H1 ⟨φ1, F1, z1, ds, o1, f1, r1, l1⟩
  cases e : short ds.length with
  | false => rw [e] at l1; exact l1.elim
  | true =>
    rw [e] at l1
    refine ⟨by rw [r1.length]; exact short_line e, fun q ob hq hc hd => ?_⟩
    obtain ⟨o2, f2⟩ := o1.alloc (o := .frz ob (.tup xs)) hq
    exact l1 _ _ _ _ o2 f2 (.tup ⟨ob, upd_same, hc, hd⟩ (f2.reps r1))
theorem de_lst {es : List Expr} {pos} {f : Den (List D)} (h : DA X p W es f) : DE X p W (.List es pos) (lstD f) := by
  refine PE.imp (pe_lst h) fun σ H Q h => ?_
  obtain ⟨φ, F, z, o, l⟩ := h
  refine LG.mono (LGat.bind (R := rDs p) o l) ?_
  rintro xs H1 ⟨φ1, F1, z1, ds, o1, f1, r1, l1⟩
  cases e : short ds.length with
  | false => rw [e] at l1; exact l1.elim
  | true =>
    rw [e] at l1
    refine ⟨by rw [r1.length]; exact short_line e, fun q hq => ?_⟩
    obtain ⟨o2, f2⟩ := o1.alloc (o := .lst xs) hq
    exact l1 _ _ _ _ o2 f2 (.lst upd_same (f2.reps r1))
/-- a list that will be shared -/
def locD (f : Den (List D)) : Den D := fun z => (f z).bind fun ds z1 => if short ds.length then .ok (.loc z1.S.length) ⟨z1.ρ, z1.S ++ [ds]⟩ else .stuck
theorem de_lstLoc {es : List Expr} {pos} {f : Den (List D)} (h : DA X p W es f) : DE X p W (.List es pos) (locD f) := by
  refine PE.imp (pe_lst h) fun σ H Q h => ?_
  obtain ⟨φ, F, z, o, l⟩ := h
  refine LG.mono (LGat.bind (R := rDs p) o l) ?_
  rintro xs H1 ⟨φ1, F1, z1, ds, o1, f1, r1, l1⟩
  cases e : short ds.length with
  | false => rw [e] at l1; exact l1.elim
  | true =>
    rw [e] at l1
    refine ⟨by rw [r1.length]; exact short_line e, fun q hq => ?_⟩
    obtain ⟨o2, f2⟩ := o1.newLoc hq r1
    exact l1 _ _ _ _ o2 f2 (.loc (by rw [← o1.phl, List.getElem?_append_right (Nat.le_refl _), Nat.sub_self]; rfl))

/-! ### built-ins by values -/
def CallSem (p : Pm) (r : List V → Hp → VK → Prop) (op : List D → Option D) : Prop := ∀ φ F z σ H xs ds d (Q : VK), Ok p φ F z σ H → Reps p.K φ F xs ds → op ds = some d →
  (∀ φ' F' v H', Ok p φ' F' z σ H' → Af φ F z σ H φ' F' z σ H' → Rep p.K φ' F' v d → Q v H') → r xs H Q
def appD (op : List D → Option D) (f : Den (List D)) : Den D := fun z => (f z).bind fun ds z1 => optR (op ds) z1
theorem call_imp {r : List V → Hp → VK → Prop} {op : List D → Option D} {f : Den (List D)} (hop : CallSem p r op) (σ : L2.St) (H : Hp) (Q : VK) (h : LG p W (rD p) (appD op f) σ H Q) : tCB r (LG p W (rDs p) f) σ H Q := by
  obtain ⟨φ, F, z, o, l⟩ := h
  refine LG.mono (LGat.bind (R := rDs p) o l) ?_
  rintro x H1 ⟨φ1, F1, z1, d1, o1, f1, r1, l1⟩
  cases e : op d1 with
  | none => rw [e] at l1; exact l1.elim
  | some d =>
    rw [e] at l1
    exact hop φ1 F1 z1 σ H1 x d1 d Q o1 r1 e fun φ' F' v H' o' f' r' => l1 φ' F' v H' o' f' r'
theorem de_callB {x : Str} {q pos : Pos} {e : Expr} {es : List Expr} {id : String} {r : List V → Hp → VK → Prop} {op : List D → Option D} {f : Den (List D)} (hc : CallR X (.builtin id) r) (hop : CallSem p r op) (hg : Gl X x) (hm : X.mg x = none) (hv : bootBuiltins x = some (.builtin id)) (ha : DA X p W (e :: es) f) (hn : x ≠ "__name__" := by decide) (hdb : (x == ("__debug__" : Str)) = false := by decide)
    (he : starEach (e :: es) X.env = (false, eval e X.env) :: starEach es X.env := by rfl) (hpl : (backTo pos (starEach es X.env)).any (·.1) = false := by rfl) : DE X p W (.Call (.Name x q) (e :: es) [] pos) (appD op f) :=
  PE.imp (pe_callB hc hg hm hv ha hn hdb he hpl) (call_imp hop)
theorem de_callTy {x : Str} {q pos : Pos} {e : Expr} {es : List Expr} {id : String} {r : List V → Hp → VK → Prop} {op : List D → Option D} {f : Den (List D)} (hc : CallR X (.type id) r) (hop : CallSem p r op) (hg : Gl X x) (hm : X.mg x = none) (hv : bootBuiltins x = some (.type id)) (ha : DA X p W (e :: es) f) (hn : x ≠ "__name__" := by decide) (hdb : (x == ("__debug__" : Str)) = false := by decide)
    (he : starEach (e :: es) X.env = (false, eval e X.env) :: starEach es X.env := by rfl) (hpl : (backTo pos (starEach es X.env)).any (·.1) = false := by rfl) : DE X p W (.Call (.Name x q) (e :: es) [] pos) (appD op f) :=
  PE.imp (pe_callTy hc hg hm hv ha hn hdb he hpl) (call_imp hop)
/-- a built-in's method -/
def MtSem (p : Pm) (K : PySem.W.Frag) (T : String) (r : V → List V → Hp → VK → Prop) (op : D → List D → Option D) : Prop := ∀ φ F z σ H x xs d0 ds d (Q : VK), Ok p φ F z σ H → Rep p.K φ F x d0 → Reps p.K φ F xs ds → op d0 ds = some d →
  (∀ φ' F' v H', Ok p φ' F' z σ H' → Af φ F z σ H φ' F' z σ H' → Rep p.K φ' F' v d → Q v H') → r x xs H Q
def TyOf (p : Pm) (K : PySem.W.Frag) (T : String) (ok : D → Bool) : Prop := ∀ φ F H x d0, Same F H → Rep p.K φ F x d0 → ok d0 = true → tyV K T x H
def methD (ok : D → Bool) (op : D → List D → Option D) (f : Den D) (g : Den (List D)) : Den D := fun z => (f z).bind fun d z1 => if ok d then (g z1).bind fun ds z2 => optR (op d ds) z2 else .stuck
theorem de_bm {T : String} {name : Str} {id : String} {r : V → List V → Hp → VK → Prop} {o e : Expr} {es : List Expr} {apos cpos : Pos} {okd : D → Bool} {op : D → List D → Option D} {f : Den D} {g : Den (List D)}
    (pa : PlainAttrs T) (slot : Slot T name id) (hty : typeOf (.builtin id) = pure (.type "method_descriptor")) (hm : MtR X id r) (hop : MtSem p X.K T r op) (ht : TyOf p X.K T okd) (ho : DE X p W o f) (ha : DA X p W (e :: es) g)
    (hbase : attributeBase o name X.env (eval o X.env) = eval o X.env := by rfl)
    (hfew : ((backTo cpos (starEach (e :: es) X.env)).all (fun x => !x.1) && (backToKw cpos (keywordEach [] X.env)).all (fun x => x.1.isSome)
      && decide ((e :: es).length + ([] : List Keyword).length + (if ([] : List Keyword).isEmpty then 0 else 1) < 30)) = true := by rfl)
    (hline : (apos.endLine == cpos.line) = true := by rfl) (hs : starEach (e :: es) X.env = (false, eval e X.env) :: starEach es X.env := by rfl) (hplain : (backTo cpos (starEach es X.env)).any (·.1) = false := by rfl) :
    DE X p W (.Call (.Attribute o name apos) (e :: es) [] cpos) (methD okd op f g) := by
  refine PE.imp (pe_bm pa slot hty hm ho ha hbase hfew hline hs hplain) fun σ H Q h => ?_
  obtain ⟨φ, F, z, o, l⟩ := h
  refine LG.mono (LGat.bind (R := rD p) o l) ?_
  rintro x H1 ⟨φ1, F1, z1, d1, o1, f1, r1, l1⟩
  cases e : okd d1 with
  | false => rw [e] at l1; exact l1.elim
  | true =>
    rw [e] at l1
    refine ⟨ht φ1 F1 H1 x d1 o1.sub r1 e, ?_⟩
    refine LG.mono (LGat.bind (R := rDs p) o1 l1) ?_
    rintro xs H2 ⟨φ2, F2, z2, ds, o2, f2, r2, l2⟩
    cases e2 : op d1 ds with
    | none => rw [e2] at l2; exact l2.elim
    | some d =>
      rw [e2] at l2
      exact hop φ2 F2 z2 σ H2 x xs d1 ds d Q o2 (f2.rep r1) r2 e2 fun φ' F' v H' o' f' r' => l2 φ' F' v H' o' f' r'

/-- a tuple's method -/
def methT (op : List D → List D → Option D) (f : Den D) (g : Den (List D)) : Den D := fun z => (f z).bind fun d z1 => match d with
  | .tup es => (g z1).bind fun ds z2 => optR (op es ds) z2
  | _ => .stuck
theorem de_bmT {name : Str} {id : String} {r : V → List V → Hp → VK → Prop} {o e : Expr} {es : List Expr} {apos cpos : Pos} {op : List D → List D → Option D} {f : Den D} {g : Den (List D)}
    (pa : PlainAttrs "tuple") (slot : Slot "tuple" name id) (hty : typeOf (.builtin id) = pure (.type "method_descriptor")) (hm : MtR X id r)
    (hop : ∀ φ F z σ H a vs ws xs ds d (Q : VK), Ok p φ F z σ H → TupF F a vs → Reps p.K φ F vs ws → Reps p.K φ F xs ds → op ws ds = some d → (∀ φ' F' v H', Ok p φ' F' z σ H' → Af φ F z σ H φ' F' z σ H' → Rep p.K φ' F' v d → Q v H') → r (.ref a) xs H Q)
    (ho : DE X p W o f) (ha : DA X p W (e :: es) g)
    (hbase : attributeBase o name X.env (eval o X.env) = eval o X.env := by rfl)
    (hfew : ((backTo cpos (starEach (e :: es) X.env)).all (fun x => !x.1) && (backToKw cpos (keywordEach [] X.env)).all (fun x => x.1.isSome)
      && decide ((e :: es).length + ([] : List Keyword).length + (if ([] : List Keyword).isEmpty then 0 else 1) < 30)) = true := by rfl)
    (hline : (apos.endLine == cpos.line) = true := by rfl) (hs : starEach (e :: es) X.env = (false, eval e X.env) :: starEach es X.env := by rfl) (hplain : (backTo cpos (starEach es X.env)).any (·.1) = false := by rfl) :
    DE X p W (.Call (.Attribute o name apos) (e :: es) [] cpos) (methT op f g) := by
  refine PE.imp (pe_bmF pa slot hty hm ho ha hbase hfew hline hs hplain) fun σ H Q h => ?_
  obtain ⟨φ, F, z, o, l⟩ := h
  refine LG.mono (LGat.bind (R := rD p) o l) ?_
  rintro x H1 ⟨φ1, F1, z1, d1, o1, f1, r1, l1⟩
  cases r1 with
  | tup tf q =>
    have tf' := tf
    obtain ⟨ob, e1, e2, e3⟩ := tf'
    refine ⟨⟨_, ob, _, rfl, o1.sub _ _ e1, e2, e3⟩, ?_⟩
    refine LG.mono (LGat.bind (R := rDs p) o1 l1) ?_
    rintro xs H2 ⟨φ2, F2, z2, ds, o2, f2, r2, l2⟩
    cases e4 : op _ ds with
    | none => rw [e4] at l2; exact l2.elim
    | some d =>
      rw [e4] at l2
      exact hop φ2 F2 z2 σ H2 _ _ _ xs ds d Q o2 (tf.mono f2.sF) (f2.reps q) r2 e4 fun φ' F' v H' o' f' r' => l2 φ' F' v H' o' f' r'
  | _ => exact l1.elim

/-! ### subscripts, slices, fields -/
theorem de_ix {r : R2} {opd : D → D → Option D} {a b : Expr} {pos : Pos} {f g : Den D} (hr : IxR X r) (hop : OpSem p r opd) (ha : DE X p W a f) (hb : DE X p W b g) (hs : PlainIx b) : DE X p W (.Subscript a b pos) (binD opd f g) :=
  PE.imp (pe_ix hr ha hb hs) (op_imp hop)
abbrev DO (X : Cx) (p : Pm) (W : WX) (e : Option Expr) (f : Den (Option Int)) : Prop := PO X e (LG p W rOI f)
def noPart : Den (Option Int) := fun z => .ok none z
def partD (f : Den D) : Den (Option Int) := fun z => (f z).bind fun d z1 => match d with
  | .int i => .ok (some i) z1
  | _ => .stuck
theorem do_none : DO X p W none noPart := by
  refine PO.imp po_none fun σ H Q h => ?_
  obtain ⟨φ, F, z, o, l⟩ := h
  exact LGat.here (b := (none : Option Int)) l o rfl
theorem do_some {e : Expr} {f : Den D} (h : DE X p W e f) : DO X p W (some e) (partD f) := by
  refine PO.imp (po_some h) fun σ H Q h => ?_
  obtain ⟨φ, F, z, o, l⟩ := h
  refine LG.mono (LGat.bind (R := rD p) o l) ?_
  rintro x H1 ⟨φ1, F1, z1, d1, o1, f1, r1, l1⟩
  cases d1 with
  | int i => cases r1; exact ⟨i, rfl, l1.here o1 rfl⟩
  | _ => exact l1.elim
def SlSem (p : Pm) (r : V → Option Int → Option Int → Hp → VK → Prop) (op : D → Option Int → Option Int → Option D) : Prop := ∀ φ F z σ H x a b d1 d (Q : VK), Ok p φ F z σ H → Rep p.K φ F x d1 → op d1 a b = some d →
  (∀ φ' F' v H', Ok p φ' F' z σ H' → Af φ F z σ H φ' F' z σ H' → Rep p.K φ' F' v d → Q v H') → r x a b H Q
def sliceD (op : D → Option Int → Option Int → Option D) (f : Den D) (g k : Den (Option Int)) : Den D := fun z => (f z).bind fun d z1 => (g z1).bind fun a z2 => (k z2).bind fun b z3 => optR (op d a b) z3
theorem de_slice {r : V → Option Int → Option Int → Hp → VK → Prop} {op : D → Option Int → Option Int → Option D} {e : Expr} {lo hi : Option Expr} {p2 pos : Pos} {f : Den D} {g k : Den (Option Int)} (hr : SlR X r) (hop : SlSem p r op) (he : DE X p W e f) (hl : DO X p W lo g) (hu : DO X p W hi k) :
    DE X p W (.Subscript e (.Slice lo hi none p2) pos) (sliceD op f g k) := by
  refine PE.imp (pe_slice hr he hl hu) fun σ H Q h => ?_
  obtain ⟨φ, F, z, o, l⟩ := h
  refine LG.mono (LGat.bind (R := rD p) o l) ?_
  rintro x H1 ⟨φ1, F1, z1, d1, o1, f1, r1, l1⟩
  refine LG.mono (LGat.bind (R := rOI) o1 l1) ?_
  rintro a H2 ⟨φ2, F2, z2, a', o2, f2, ea, l2⟩
  refine LG.mono (LGat.bind (R := rOI) o2 l2) ?_
  rintro b H3 ⟨φ3, F3, z3, b', o3, f3, eb, l3⟩
  cases ea; cases eb
  cases e : op d1 a b with
  | none => rw [e] at l3; exact l3.elim
  | some d =>
    rw [e] at l3
    exact hop φ3 F3 z3 σ H3 x a b d1 d Q o3 (f3.rep (f2.rep r1)) e fun φ' F' v H' o' f' r' => l3 φ' F' v H' o' f' r'
def fieldD (c : Addr) (x : Str) : D → Option D
  | .obj c' fs => if c' = c then fs.lookup x else none
  | _ => none
theorem de_fld {e : Expr} {x : Str} {pos : Pos} {f : Den D} {C : Addr} (he : DE X p W e f) (hK : X.K = p.K) (cl : Cls X.K C) (na : NoAttr X.K C x) (hb : attributeBase e x X.env (eval e X.env) = eval e X.env := by rfl) : DE X p W (.Attribute e x pos) (unD (fieldD C x) f) := by
  refine PE.imp (pe_fld he hb) fun σ H Q h => ?_
  obtain ⟨φ, F, z, o, l⟩ := h
  refine LG.mono (LGat.bind (R := rD p) o l) ?_
  rintro v H1 ⟨φ1, F1, z1, d1, o1, f1, r1, l1⟩
  cases e : fieldD C x d1 with
  | none => rw [e] at l1; exact l1.elim
  | some d =>
    rw [e] at l1
    unfold fieldD at e
    cases r1 with
    | obj h1 h2 =>
      rename_i a c dx fv fd
      simp only at e
      split at e
      · rename_i ec
        subst ec
        obtain ⟨u, e1, e2⟩ := h2.lookup e
        exact ⟨a, c, dx, fv, u, rfl, o1.sub _ _ h1, cl, na, e1, LGat.here (b := u) l1 o1 e2⟩
      · cases e
    | _ => cases e
end
end FD

set_option Elab.async false
set_option linter.all false
set_option maxRecDepth 100000
set_option maxHeartbeats 1000000
namespace FD
open PySem PySem.Spec PyProof.Rows L2 FDB

section
variable {p : Pm} {X : Cx} {W : WX}
/-! ### intsOf -/
def int2 (f : Int → Int → Option D) : D → D → Option D
  | .int a, .int b => f a b
  | _, _ => none
theorem sem_int {r : R2} {f : Int → Int → Option D} (h : ∀ i j d (H : Hp) (Q : VK), f i j = some d → (∀ v, (∀ φ F, Rep p.K φ F v d) → Q v H) → r (.int i) (.int j) H Q) : OpSem p r (int2 f) := by
  intro φ F z σ H x y d1 d2 d Q o r1 r2 e k
  cases d1 with
  | int i =>
    cases d2 with
    | int j =>
      cases r1
      cases r2
      exact h i j d H Q e fun v hv => k φ F v H o Af.refl (hv φ F)
    | _ => cases e
  | _ => cases e
def addI : D → D → Option D := int2 fun a b => some (.int (a + b))
def subI : D → D → Option D := int2 fun a b => some (.int (a - b))
/-- a factor below 2 ^ 64 -/
def mulI : D → D → Option D := int2 fun a b => if (-(2 ^ 64) < a ∧ a < 2 ^ 64) ∨ (-(2 ^ 64) < b ∧ b < 2 ^ 64) then some (.int (a * b)) else none
def divI : D → D → Option D := int2 fun a b => if b ≠ 0 ∧ b.natAbs < 1073741824 then some (.int (a.fdiv b)) else none
def modI : D → D → Option D := int2 fun a b => if b ≠ 0 then some (.int (a.fmod b)) else none
def powI : D → D → Option D := int2 fun a b => if 0 ≤ b ∧ b ≤ 1000000 ∧ a.natAbs < 2 ^ 64 then some (.int (a ^ b.toNat)) else none
theorem sem_addI : OpSem p (rI0 fun i j => .int (i + j)) addI := sem_int fun i j d H Q e k => by cases e; exact ⟨i, j, rfl, rfl, k _ fun _ _ => .int _⟩
theorem sem_subI : OpSem p (rI0 fun i j => .int (i - j)) subI := sem_int fun i j d H Q e k => by cases e; exact ⟨i, j, rfl, rfl, k _ fun _ _ => .int _⟩
theorem sem_mulI : OpSem p (rI CMul fun i j => .int (i * j)) mulI := sem_int fun i j d H Q e k => by
  split at e
  · rename_i c
    cases e
    exact ⟨i, j, rfl, rfl, c, k _ fun _ _ => .int _⟩
  · cases e
theorem sem_divI : OpSem p (rI CDivN fun i j => .int (i.fdiv j)) divI := sem_int fun i j d H Q e k => by
  split at e
  · rename_i c
    cases e
    exact ⟨i, j, rfl, rfl, c, k _ fun _ _ => .int _⟩
  · cases e
theorem sem_modI : OpSem p (rI (fun _ j => j ≠ 0) fun i j => .int (i.fmod j)) modI := sem_int fun i j d H Q e k => by
  split at e
  · rename_i c
    cases e
    exact ⟨i, j, rfl, rfl, c, k _ fun _ _ => .int _⟩
  · cases e
theorem sem_powI : OpSem p (rI CPow fun i j => .int (i ^ j.toNat)) powI := sem_int fun i j d H Q e k => by
  split at e
  · rename_i c
    cases e
    exact ⟨i, j, rfl, rfl, c, k _ fun _ _ => .int _⟩
  · cases e
def ltI : D → D → Option D := int2 fun a b => some (.bl (decide (a < b)))
def leI : D → D → Option D := int2 fun a b => some (.bl (decide (a ≤ b)))
def gtI : D → D → Option D := int2 fun a b => some (.bl (decide (b < a)))
def geI : D → D → Option D := int2 fun a b => some (.bl (decide (b ≤ a)))
/-! ### + of sequences -/
def catT : D → D → Option D
  | .tup xs, .tup ys => if short (xs.length + ys.length) then some (.tup (xs ++ ys)) else none
  | _, _ => none
def catL : D → D → Option D
  | .lst xs, .lst ys => if short (xs.length + ys.length) then some (.lst (xs ++ ys)) else none
  | _, _ => none
theorem sem_catT : OpSem p (rCatT2 p.K) catT := by
  intro φ F z σ H x y d1 d2 d Q o r1 r2 e k
  cases r1 with
  | tup s1 q1 =>
    cases r2 with
    | tup s2 q2 =>
      rename_i a vs ds b ws es
      unfold catT at e
      simp only at e
      split at e
      · rename_i c
        cases e
        refine ⟨a, b, vs, ws, rfl, rfl, sqT_mono o.sub s1.sq, sqT_mono o.sub s2.sq, by rw [q1.length, q2.length]; exact short_line c, fun e => ?_, fun _ e => ?_, fun _ _ q ob hq hc hd => ?_⟩
        · subst e
          cases q1
          exact k φ F _ H o Af.refl (.tup s2 q2)
        · subst e
          cases q2
          rw [List.append_nil] at k
          exact k φ F _ H o Af.refl (.tup s1 q1)
        · obtain ⟨o2, f2⟩ := o.alloc (o := .frz ob (.tup (vs ++ ws))) hq
          exact k _ _ _ _ o2 f2 (.tup ⟨ob, upd_same, hc, hd⟩ ((f2.reps q1).append (f2.reps q2)))
      · cases e
    | _ => cases e
  | _ => cases e
theorem sem_catL : OpSem p rCat catL := by
  intro φ F z σ H x y d1 d2 d Q o r1 r2 e k
  cases r1 with
  | lst s1 q1 =>
    cases r2 with
    | lst s2 q2 =>
      rename_i a vs ds b ws es
      unfold catL at e
      simp only at e
      split at e
      · rename_i c
        cases e
        refine ⟨a, b, vs, ws, rfl, rfl, o.sub _ _ s1, o.sub _ _ s2, by rw [q1.length, q2.length]; exact short_line c, fun q hq => ?_⟩
        obtain ⟨o2, f2⟩ := o.alloc (o := .lst (vs ++ ws)) hq
        exact k _ _ _ _ o2 f2 (.lst upd_same ((f2.reps q1).append (f2.reps q2)))
      · cases e
    | _ => cases e
  | _ => cases e
def addD (a b : D) : Option D := match a with
  | .int _ => addI a b
  | .tup _ => catT a b
  | _ => catL a b
theorem sem_or {r r' : R2} {f g : D → D → Option D} {h : D → D → Option D} (hf : OpSem p r f) (hg : OpSem p r' g) (hh : ∀ a b d, h a b = some d → f a b = some d ∨ g a b = some d) : OpSem p (fun x y H Q => r x y H Q ∨ r' x y H Q) h := by
  intro φ F z σ H x y d1 d2 d Q o r1 r2 e k
  rcases hh d1 d2 d e with e | e
  · exact .inl (hf φ F z σ H x y d1 d2 d Q o r1 r2 e k)
  · exact .inr (hg φ F z σ H x y d1 d2 d Q o r1 r2 e k)
theorem sem_add : OpSem p (fun x y H Q => rI0 (fun i j => .int (i + j)) x y H Q ∨ rCatT2 p.K x y H Q ∨ rCat x y H Q) addD :=
  sem_or sem_addI (h := addD) (g := fun a b => match a with | .tup _ => catT a b | _ => catL a b) (sem_or sem_catT sem_catL fun a b d e => by cases a <;> first | exact .inl e | exact .inr e) fun a b d e => by cases a <;> first | exact .inl e | exact .inr e
theorem de_add {a b : Expr} {pos : Pos} {f g : Den D} (hK : X.K = p.K) (ha : DE X p W a f) (hb : DE X p W b g) : DE X p W (.BinOp a .Add b pos) (binD addD f g) :=
  de_bin (r := fun x y H Q => rI0 (fun i j => .int (i + j)) x y H Q ∨ rCatT2 p.K x y H Q ∨ rCat x y H Q) (op_add.or (by rw [← hK]; exact op_catT2.or op_cat)) sem_add ha hb
theorem de_sub {a b : Expr} {pos : Pos} {f g : Den D} (ha : DE X p W a f) (hb : DE X p W b g) : DE X p W (.BinOp a .Sub b pos) (binD subI f g) := de_bin op_sub sem_subI ha hb
theorem de_mul {a b : Expr} {pos : Pos} {f g : Den D} (ha : DE X p W a f) (hb : DE X p W b g) : DE X p W (.BinOp a .Mult b pos) (binD mulI f g) := de_bin op_mul sem_mulI ha hb
theorem de_div {a b : Expr} {pos : Pos} {f g : Den D} (ha : DE X p W a f) (hb : DE X p W b g) : DE X p W (.BinOp a .FloorDiv b pos) (binD divI f g) := de_bin op_fdivN sem_divI ha hb
theorem de_mod {a b : Expr} {pos : Pos} {f g : Den D} (ha : DE X p W a f) (hb : DE X p W b g) : DE X p W (.BinOp a .Mod b pos) (binD modI f g) := de_bin op_modN sem_modI ha hb
theorem de_pow {a b : Expr} {pos : Pos} {f g : Den D} (ha : DE X p W a f) (hb : DE X p W b g) : DE X p W (.BinOp a .Pow b pos) (binD powI f g) := de_bin op_pow sem_powI ha hb
def negI : D → Option D
  | .int a => some (.int (-a))
  | _ => none
theorem de_neg {a : Expr} {pos : Pos} {f : Den D} (ha : DE X p W a f) : DE X p W (.UnaryOp .USub a pos) (unD negI f) :=
  de_un un_neg (fun φ F z σ H x d1 d Q o r e k => by
    cases r with
    | int i => cases e; exact ⟨i, rfl, k φ F _ H o Af.refl (.int _)⟩
    | _ => cases e) ha
theorem sem_cmpI {op : Int → Int → Bool} : OpSem p (rI0 fun i j => .bl (op i j)) (int2 fun a b => some (.bl (op a b))) := sem_int fun i j d H Q e k => by cases e; exact ⟨i, j, rfl, rfl, k _ fun _ _ => .bl _⟩

/-! ### data for ==, in -/
mutual
def toPy : D → Option PyData
  | .non => some .none
  | .bl b => some (.bool b)
  | .int i => some (.int i)
  | .str s => some (.str s)
  | .tup ds => (toPys ds).map .tuple
  | .lst ds => (toPys ds).map .list
  | _ => none
def toPys : List D → Option (List PyData)
  | [] => some []
  | d :: ds => match toPy d, toPys ds with
    | some x, some xs => some (x :: xs)
    | _, _ => none
end
mutual
theorem Rep.dp {φ : List Addr} {F H : Hp} (s : Same F H) : ∀ {v : V} {d : D} {x : PyData}, Rep p.K φ F v d → toPy d = some x → Dp p.K H v x
  | _, _, _, .non, e => by cases e; exact .non
  | _, _, _, .bl b, e => by cases e; exact .bl b
  | _, _, _, .int i, e => by cases e; exact .int i
  | _, _, _, .str i, e => by cases e; exact .str i
  | _, _, _, .tup (ds := ds) h r, e => by
    unfold toPy at e
    cases q : toPys ds with
    | none => rw [q] at e; cases e
    | some xs => rw [q] at e; cases e; exact .tup (sqT_mono s h.sq) (Reps.dp s r q)
  | _, _, _, .lst (ds := ds) h r, e => by
    unfold toPy at e
    cases q : toPys ds with
    | none => rw [q] at e; cases e
    | some xs => rw [q] at e; cases e; exact .lst (.of (s _ _ h)) (Reps.dp s r q)
  | _, _, _, .obj _ _, e => by unfold toPy at e; cases e
  | _, _, _, .loc _, e => by unfold toPy at e; cases e
  | _, _, _, .scr _, e => by unfold toPy at e; cases e
theorem Reps.dp {φ : List Addr} {F H : Hp} (s : Same F H) : ∀ {v : List V} {d : List D} {x : List PyData}, Reps p.K φ F v d → toPys d = some x → DpAll p.K H v x
  | _, _, _, .nil, e => by cases e; exact .nil
  | _, _, _, .cons (d := d) (ds := ds) h r, e => by
    unfold toPys at e
    cases q : toPy d with
    | none => rw [q] at e; cases e
    | some x =>
      cases q2 : toPys ds with
      | none => rw [q, q2] at e; cases e
      | some xs =>
        rw [q, q2] at e
        cases e
        exact .cons (Rep.dp s h q) (Reps.dp s r q2)
end
def eqD (neg : Bool) (a b : D) : Option D := match toPy a, toPy b with
  | some x, some y => if SeqAt.shaped x && SeqAt.shaped y then some (.bl (if neg then !PyData.eqv x y else PyData.eqv x y)) else none
  | _, _ => none
theorem eq_split {neg : Bool} {a b d : D} (e : eqD neg a b = some d) : ∃ x y, toPy a = some x ∧ toPy b = some y ∧ SeqAt.shaped x = true ∧ SeqAt.shaped y = true ∧ d = .bl (if neg then !PyData.eqv x y else PyData.eqv x y) := by
  unfold eqD at e
  split at e
  · rename_i x y h1 h2
    split at e
    · rename_i c
      rw [Bool.and_eq_true] at c
      cases e
      exact ⟨x, y, h1, h2, c.1, c.2, rfl⟩
    · cases e
  · cases e
theorem sem_eq : OpSem p (rEqD p.K) (eqD false) := by
  intro φ F z σ H x y d1 d2 d Q o r1 r2 e k
  obtain ⟨u, v, h1, h2, s1, s2, rfl⟩ := eq_split e
  exact ⟨u, v, r1.dp o.sub h1, r2.dp o.sub h2, s1, s2, k φ F _ H o Af.refl (.bl _)⟩
theorem sem_ne : OpSem p (rNeD p.K) (eqD true) := by
  intro φ F z σ H x y d1 d2 d Q o r1 r2 e k
  obtain ⟨u, v, h1, h2, s1, s2, rfl⟩ := eq_split e
  exact ⟨u, v, r1.dp o.sub h1, r2.dp o.sub h2, s1, s2, k φ F _ H o Af.refl (.bl _)⟩
theorem de_eq {a b : Expr} {pos : Pos} {f g : Den D} (hK : X.K = p.K) (hu : X.A.units + 64 < cLine) (ha : DE X p W a f) (hb : DE X p W b g) : DE X p W (.Compare a [.Eq] [b] pos) (binD (eqD false) f g) :=
  de_cmp (op_eqD hu) (by rw [hK]; exact sem_eq) (nomark _) ha hb
theorem de_ne {a b : Expr} {pos : Pos} {f g : Den D} (hK : X.K = p.K) (hu : X.A.units + 64 < cLine) (ha : DE X p W a f) (hb : DE X p W b g) : DE X p W (.Compare a [.NotEq] [b] pos) (binD (eqD true) f g) :=
  de_cmp (op_neD hu) (by rw [hK]; exact sem_ne) (nomark _) ha hb
def flatD : D → Bool
  | .non => true | .bl _ => true | .int _ => true | .str _ => true
  | _ => false
def eqF : D → D → Bool
  | .non, .non => true
  | .bl a, .bl b => a == b
  | .bl a, .int b => (if a then 1 else 0) == b
  | .int a, .bl b => a == (if b then 1 else 0)
  | .int a, .int b => a == b
  | .str a, .str b => a == b
  | _, _ => false
def inD (neg : Bool) (a b : D) : Option D := match b with
  | .tup ds => if flatD a && ds.all flatD then some (.bl (if neg then !ds.any fun y => eqF y a else ds.any fun y => eqF y a)) else none
  | .lst ds => if flatD a && ds.all flatD then some (.bl (if neg then !ds.any fun y => eqF y a else ds.any fun y => eqF y a)) else none
  | _ => none
theorem Rep.flat {φ : List Addr} {F : Hp} {v : V} {d : D} (r : Rep p.K φ F v d) (h : flatD d = true) : flatV v = true := by cases r <;> first | rfl | cases h
theorem Reps.flat {φ : List Addr} {F : Hp} : ∀ {v : List V} {d : List D}, Reps p.K φ F v d → d.all flatD = true → v.all flatV = true
  | _, _, .nil, _ => rfl
  | _, _, .cons h r, e => by
    rw [List.all_cons, Bool.and_eq_true] at e ⊢
    exact ⟨h.flat e.1, Reps.flat r e.2⟩
theorem Rep.eqF {φ : List Addr} {F : Hp} {v w : V} {d e : D} (r : Rep p.K φ F v d) (q : Rep p.K φ F w e) (h1 : flatD d = true) (h2 : flatD e = true) : eqV v w = eqF d e := by
  cases r <;> cases q <;> first | rfl | cases h1 | cases h2
theorem Reps.any {φ : List Addr} {F : Hp} {w : V} {e : D} (q : Rep p.K φ F w e) (h2 : flatD e = true) : ∀ {v : List V} {d : List D}, Reps p.K φ F v d → d.all flatD = true → inV w v = d.any fun y => FD.eqF y e
  | _, _, .nil, _ => rfl
  | _, _, .cons h r, k => by
    rw [List.all_cons, Bool.and_eq_true] at k
    show (_ :: _ : List V).any _ = _
    rw [List.any_cons, List.any_cons, h.eqF q k.1 h2]
    congr 1
    exact Reps.any q h2 r k.2
theorem sem_in (neg : Bool) : OpSem p (rIn p.K neg) (inD neg) := by
  intro φ F z σ H x y d1 d2 d Q o r1 r2 e k
  cases r2 with
  | tup s q =>
    unfold inD at e
    simp only at e
    split at e
    · rename_i c
      rw [Bool.and_eq_true] at c
      cases e
      refine ⟨_, _, rfl, .inr (sqT_mono o.sub s.sq), r1.flat c.1, q.flat c.2, ?_⟩
      rw [Reps.any r1 c.1 q c.2]
      exact k φ F _ H o Af.refl (.bl _)
    · cases e
  | lst s q =>
    unfold inD at e
    simp only at e
    split at e
    · rename_i c
      rw [Bool.and_eq_true] at c
      cases e
      refine ⟨_, _, rfl, .inl (.of (o.sub _ _ s)), r1.flat c.1, q.flat c.2, ?_⟩
      rw [Reps.any r1 c.1 q c.2]
      exact k φ F _ H o Af.refl (.bl _)
    · cases e
  | _ => cases e
theorem de_in {a b : Expr} {pos : Pos} {f g : Den D} (hK : X.K = p.K) (ha : DE X p W a f) (hb : DE X p W b g) (hm : behindInMarks .In b = false := by rfl) : DE X p W (.Compare a [.In] [b] pos) (binD (inD false) f g) :=
  de_cmp op_in_seq (by rw [hK]; exact sem_in false) hm ha hb
theorem de_notIn {a b : Expr} {pos : Pos} {f g : Den D} (hK : X.K = p.K) (ha : DE X p W a f) (hb : DE X p W b g) (hm : behindInMarks .NotIn b = false := by rfl) : DE X p W (.Compare a [.NotIn] [b] pos) (binD (inD true) f g) :=
  de_cmp op_notIn_seq (by rw [hK]; exact sem_in true) hm ha hb

/-! ### subscripts and slices -/
def ixD : D → D → Option D
  | .tup ds, .int i => atI ds i
  | .lst ds, .int i => atI ds i
  | .scr ns, .int i => (atI ns i).map .int
  | _, _ => none
theorem Reps.atI {φ : List Addr} {F : Hp} {vs : List V} {ds : List D} {i : Int} {d : D} (r : Reps p.K φ F vs ds) (h : L2.atI ds i = some d) : ∃ v, L2.atI vs i = some v ∧ Rep p.K φ F v d := by
  unfold L2.atI at h ⊢
  rw [r.length]
  cases e : ixN ds.length i with
  | none => rw [e] at h; cases h
  | some j =>
    rw [e] at h
    exact Reps.get r h
theorem sem_ix : OpSem p (rIx p.K) ixD := by
  intro φ F z σ H x y d1 d2 d Q o r1 r2 e k
  cases r1 with
  | tup s q =>
    cases r2 with
    | int i =>
      obtain ⟨v, e1, e2⟩ := q.atI e
      exact .inr (.inl ⟨_, _, i, v, rfl, rfl, sqT_mono o.sub s.sq, e1, k φ F v H o Af.refl e2⟩)
    | _ => cases e
  | lst s q =>
    cases r2 with
    | int i =>
      obtain ⟨v, e1, e2⟩ := q.atI e
      exact .inl ⟨_, _, i, v, rfl, rfl, .of (o.sub _ _ s), e1, k φ F v H o Af.refl e2⟩
    | _ => cases e
  | scr s =>
    cases r2 with
    | int i =>
      rename_i a ns
      unfold ixD at e
      simp only [Option.map_eq_some_iff] at e
      obtain ⟨m, e1, e2⟩ := e
      subst e2
      have e3 : L2.atI (ns.map V.int) i = some (.int m) := by
        unfold L2.atI at e1 ⊢
        rw [List.length_map]
        cases q : ixN ns.length i with
        | none => rw [q] at e1; cases e1
        | some j =>
          rw [q] at e1
          show (ns.map V.int)[j]? = _
          rw [List.getElem?_map, show ns[j]? = some m from e1]
          rfl
      exact .inl ⟨_, _, i, .int m, rfl, rfl, o.sub.seq s, e3, k φ F _ H o Af.refl (.int m)⟩
    | _ => cases e
  | _ => cases e
theorem de_item {a b : Expr} {pos : Pos} {f g : Den D} (hK : X.K = p.K) (ha : DE X p W a f) (hb : DE X p W b g) (hs : PlainIx b := by exact fun _ _ => rfl) : DE X p W (.Subscript a b pos) (binD ixD f g) :=
  de_ix ix_seq (by rw [hK]; exact sem_ix) ha hb hs
def cutD (xs : List D) (lo hi : Option Int) : List D := (xs.drop (HT.sIx xs.length 0 lo)).take (HT.sIx xs.length xs.length hi - HT.sIx xs.length 0 lo)
def slD : D → Option Int → Option Int → Option D
  | .tup ds, a, b => some (.tup (cutD ds a b))
  | .lst ds, a, b => some (.lst (cutD ds a b))
  | _, _, _ => none
theorem Reps.cut {φ : List Addr} {F : Hp} {vs : List V} {ds : List D} (r : Reps p.K φ F vs ds) (a b : Option Int) : Reps p.K φ F (cutV vs a b) (cutD ds a b) := by
  unfold cutV cutD
  rw [r.length]
  exact (r.drop _).take _
theorem cutD_whole {xs : List D} {a b : Option Int} (h1 : HT.sIx xs.length 0 a = 0) (h2 : HT.sIx xs.length xs.length b = xs.length) : cutD xs a b = xs := by
  unfold cutD
  rw [h1, h2, List.drop_zero, Nat.sub_zero, List.take_length]
theorem sem_sl : SlSem p (fun x lo hi H Q => rSlT2 p.K x lo hi H Q ∨ rSlL p.K x lo hi H Q) slD := by
  intro φ F z σ H x a b d1 d Q o r1 e k
  cases r1 with
  | tup s q =>
    cases e
    refine .inl ⟨_, _, rfl, sqT_mono o.sub s.sq, fun h1 h2 => ?_, fun _ t ob ht hc hd => ?_⟩
    · rw [q.length] at h1 h2
      rw [cutD_whole h1 h2] at k
      exact k φ F _ H o Af.refl (.tup s q)
    · obtain ⟨o2, f2⟩ := o.alloc (o := .frz ob (.tup (cutV _ a b))) ht
      exact k _ _ _ _ o2 f2 (.tup ⟨ob, upd_same, hc, hd⟩ ((f2.reps q).cut a b))
  | lst s q =>
    cases e
    refine .inr ⟨_, _, rfl, .of (o.sub _ _ s), fun t ht => ?_⟩
    obtain ⟨o2, f2⟩ := o.alloc (o := .lst (cutV _ a b)) ht
    exact k _ _ _ _ o2 f2 (.lst upd_same ((f2.reps q).cut a b))
  | _ => cases e
theorem de_cut {e : Expr} {lo hi : Option Expr} {p2 pos : Pos} {f : Den D} {g k : Den (Option Int)} (hK : X.K = p.K) (he : DE X p W e f) (hl : DO X p W lo g) (hu : DO X p W hi k) : DE X p W (.Subscript e (.Slice lo hi none p2) pos) (sliceD slD f g k) :=
  de_slice (r := fun x lo hi H Q => rSlT2 p.K x lo hi H Q ∨ rSlL p.K x lo hi H Q) (by rw [← hK]; exact sl_tup2.or sl_list) sem_sl he hl hu

/-! ### built-ins -/
def lenB : List D → Option D
  | [.tup ds] => some (.int ds.length)
  | [.lst ds] => some (.int ds.length)
  | [.scr ns] => some (.int ns.length)
  | _ => none
theorem sem_len : CallSem p (fun xs H Q => ∃ a ys, xs = [.ref a] ∧ (SqL p.K H a ys ∨ SqT p.K H a ys) ∧ Q (.int ys.length) H) lenB := by
  intro φ F z σ H xs ds d Q o r e k
  cases r with
  | nil => cases e
  | cons h t =>
    cases t with
    | cons _ _ => cases h <;> cases e
    | nil =>
      cases h with
      | tup s q => cases e; exact ⟨_, _, rfl, .inr (sqT_mono o.sub s.sq), k φ F _ H o Af.refl (by rw [q.length]; exact .int _)⟩
      | lst s q => cases e; exact ⟨_, _, rfl, .inl (.of (o.sub _ _ s)), k φ F _ H o Af.refl (by rw [q.length]; exact .int _)⟩
      | scr s => cases e; exact ⟨_, _, rfl, .inl (o.sub.seq s), k φ F _ H o Af.refl (by rw [List.length_map]; exact .int _)⟩
      | _ => cases e
def absB : List D → Option D
  | [.int i] => some (.int (if i < 0 then -i else i))
  | _ => none
theorem sem_abs : CallSem p (fun xs H Q => ∃ i, xs = [.int i] ∧ Q (.int (if i < 0 then -i else i)) H) absB := by
  intro φ F z σ H xs ds d Q o r e k
  match ds, r, e with
  | [.int i], .cons (.int _) .nil, e => cases e; exact ⟨i, rfl, k φ F _ H o Af.refl (.int _)⟩
def intB : List D → Option D
  | [.int i] => some (.int i)
  | [.bl b] => some (.int (if b then 1 else 0))
  | _ => none
theorem sem_intB : CallSem p (fun xs H Q => (∃ i, xs = [.int i] ∧ Q (.int i) H) ∨ ∃ k, xs = [.bl k] ∧ Q (.int (if k then 1 else 0)) H) intB := by
  intro φ F z σ H xs ds d Q o r e k
  match ds, r, e with
  | [.int i], .cons (.int _) .nil, e => cases e; exact .inl ⟨i, rfl, k φ F _ H o Af.refl (.int _)⟩
  | [.bl b], .cons (.bl _) .nil, e => cases e; exact .inr ⟨b, rfl, k φ F _ H o Af.refl (.int _)⟩
/-- all intsOf -/
def intsOf : List D → Option (List Int)
  | [] => some []
  | .int i :: r => (intsOf r).map (i :: ·)
  | _ => none
theorem intsOf_eq : ∀ {ds : List D} {ns : List Int}, intsOf ds = some ns → ds = ns.map D.int
  | [], _, h => by cases h; rfl
  | .int i :: r, _, h => by
    unfold intsOf at h
    simp only [Option.map_eq_some_iff] at h
    obtain ⟨ms, h1, h2⟩ := h
    subst h2
    rw [List.map_cons, intsOf_eq h1]
  | .non :: _, _, h => by simp [intsOf] at h
  | .bl _ :: _, _, h => by simp [intsOf] at h
  | .str _ :: _, _, h => by simp [intsOf] at h
  | .tup _ :: _, _, h => by simp [intsOf] at h
  | .lst _ :: _, _, h => by simp [intsOf] at h
  | .obj _ _ :: _, _, h => by simp [intsOf] at h
  | .loc _ :: _, _, h => by simp [intsOf] at h
  | .scr _ :: _, _, h => by simp [intsOf] at h
theorem intsOf_map : ∀ (ns : List Int), intsOf (ns.map D.int) = some ns
  | [] => rfl
  | n :: ns => by
    rw [List.map_cons]
    unfold intsOf
    rw [intsOf_map ns]
    rfl
def ofInts (f : List Int → Option D) (ds : List D) : Option D := match intsOf ds with
  | some ns => f ns
  | none => none
def maxF : List Int → Option D
  | [] => none
  | n :: r => some (.int (maxI n r))
def minF : List Int → Option D
  | [] => none
  | n :: r => some (.int (minI n r))
/-- max of two, of a tuple, of a list -/
def maxB : List D → Option D
  | [.int i, .int j] => some (.int (if j > i then j else i))
  | [.tup ds] => ofInts maxF ds
  | [.lst ds] => ofInts maxF ds
  | _ => none
def minB : List D → Option D
  | [.int i, .int j] => some (.int (if j < i then j else i))
  | [.tup ds] => ofInts minF ds
  | [.lst ds] => ofInts minF ds
  | _ => none
theorem maxI_spec : ∀ (ns : List Int) (n : Int), maxI n ns ∈ n :: ns ∧ ∀ y ∈ n :: ns, y ≤ maxI n ns
  | [], n => ⟨by simp [maxI], fun y h => by simp at h; rw [h]; exact Int.le_refl _⟩
  | m :: ns, n => by
    have e : maxI n (m :: ns) = maxI (if n < m then m else n) ns := rfl
    rw [e]
    obtain ⟨h1, h2⟩ := maxI_spec ns (if n < m then m else n)
    by_cases c : n < m
    · rw [if_pos c] at h1 h2 ⊢
      refine ⟨List.mem_cons_of_mem _ h1, fun y hy => ?_⟩
      rcases List.mem_cons.mp hy with rfl | hy
      · exact Int.le_trans (Int.le_of_lt c) (h2 m List.mem_cons_self)
      · exact h2 y hy
    · rw [if_neg c] at h1 h2 ⊢
      refine ⟨?_, fun y hy => ?_⟩
      · rcases List.mem_cons.mp h1 with h | h
        · rw [h]; exact List.mem_cons_self
        · exact List.mem_cons_of_mem _ (List.mem_cons_of_mem _ h)
      · rcases List.mem_cons.mp hy with rfl | hy
        · exact h2 _ List.mem_cons_self
        · rcases List.mem_cons.mp hy with rfl | hy
          · exact Int.le_trans (Int.not_lt.mp c) (h2 n List.mem_cons_self)
          · exact h2 y (List.mem_cons_of_mem _ hy)
theorem minI_spec : ∀ (ns : List Int) (n : Int), minI n ns ∈ n :: ns ∧ ∀ y ∈ n :: ns, minI n ns ≤ y
  | [], n => ⟨by simp [minI], fun y h => by simp at h; rw [h]; exact Int.le_refl _⟩
  | m :: ns, n => by
    have e : minI n (m :: ns) = minI (if m < n then m else n) ns := rfl
    rw [e]
    obtain ⟨h1, h2⟩ := minI_spec ns (if m < n then m else n)
    by_cases c : m < n
    · rw [if_pos c] at h1 h2 ⊢
      refine ⟨List.mem_cons_of_mem _ h1, fun y hy => ?_⟩
      rcases List.mem_cons.mp hy with rfl | hy
      · exact Int.le_trans (h2 m List.mem_cons_self) (Int.le_of_lt c)
      · exact h2 y hy
    · rw [if_neg c] at h1 h2 ⊢
      refine ⟨?_, fun y hy => ?_⟩
      · rcases List.mem_cons.mp h1 with h | h
        · rw [h]; exact List.mem_cons_self
        · exact List.mem_cons_of_mem _ (List.mem_cons_of_mem _ h)
      · rcases List.mem_cons.mp hy with rfl | hy
        · exact h2 _ List.mem_cons_self
        · rcases List.mem_cons.mp hy with rfl | hy
          · exact Int.le_trans (h2 n List.mem_cons_self) (Int.not_lt.mp c)
          · exact h2 y (List.mem_cons_of_mem _ hy)
theorem max_unique {m : Int} {n : Int} {ns : List Int} (h1 : m ∈ n :: ns) (h2 : ∀ y, y ∈ n :: ns → y ≤ m) : m = maxI n ns :=
  Int.le_antisymm ((maxI_spec ns n).2 m h1) (h2 _ (maxI_spec ns n).1)
theorem min_unique {m : Int} {n : Int} {ns : List Int} (h1 : m ∈ n :: ns) (h2 : ∀ y, y ∈ n :: ns → m ≤ y) : m = minI n ns :=
  Int.le_antisymm (h2 _ (minI_spec ns n).1) ((minI_spec ns n).2 m h1)
abbrev rMax3 (K : PySem.W.Frag) : List V → Hp → VK → Prop := fun xs H Q => (∃ i j, xs = [.int i, .int j] ∧ Q (.int (if j > i then j else i)) H) ∨ rMaxT K xs H Q ∨ rMax K xs H Q
abbrev rMin3 (K : PySem.W.Frag) : List V → Hp → VK → Prop := fun xs H Q => (∃ i j, xs = [.int i, .int j] ∧ Q (.int (if j < i then j else i)) H) ∨ rMinT K xs H Q ∨ rMin K xs H Q
theorem ofInts_some {f : List Int → Option D} {ds : List D} {d : D} (h : ofInts f ds = some d) : ∃ ns, ds = ns.map D.int ∧ f ns = some d := by
  unfold ofInts at h
  cases e : intsOf ds with
  | none => rw [e] at h; cases h
  | some ns => rw [e] at h; exact ⟨ns, intsOf_eq e, h⟩
theorem sem_max : CallSem p (rMax3 p.K) maxB := by
  intro φ F z σ H xs ds d Q o r e k
  match ds, r, e with
  | [.int i, .int j], .cons (.int _) (.cons (.int _) .nil), e => cases e; exact .inl ⟨i, j, rfl, k φ F _ H o Af.refl (.int _)⟩
  | [.tup es], .cons (.tup s q) .nil, e =>
    obtain ⟨ns, rfl, e0⟩ := ofInts_some (f := maxF) (ds := es) e
    cases ns with
    | nil => cases e0
    | cons n ns =>
      cases e0
      exact .inr (.inl ⟨_, n, ns, rfl, by rw [← q.ints]; exact sqT_mono o.sub s.sq, k φ F _ H o Af.refl (.int _)⟩)
  | [.lst es], .cons (.lst s q) .nil, e =>
    obtain ⟨ns, rfl, e0⟩ := ofInts_some (f := maxF) (ds := es) e
    cases ns with
    | nil => cases e0
    | cons n ns =>
      cases e0
      refine .inr (.inr ⟨_, n :: ns, rfl, by rw [← q.ints]; exact .of (o.sub _ _ s), Nat.succ_pos _, fun m h1 h2 => ?_⟩)
      rw [max_unique h1 h2]
      exact k φ F _ H o Af.refl (.int _)
theorem sem_min : CallSem p (rMin3 p.K) minB := by
  intro φ F z σ H xs ds d Q o r e k
  match ds, r, e with
  | [.int i, .int j], .cons (.int _) (.cons (.int _) .nil), e => cases e; exact .inl ⟨i, j, rfl, k φ F _ H o Af.refl (.int _)⟩
  | [.tup es], .cons (.tup s q) .nil, e =>
    obtain ⟨ns, rfl, e0⟩ := ofInts_some (f := minF) (ds := es) e
    cases ns with
    | nil => cases e0
    | cons n ns =>
      cases e0
      exact .inr (.inl ⟨_, n, ns, rfl, by rw [← q.ints]; exact sqT_mono o.sub s.sq, k φ F _ H o Af.refl (.int _)⟩)
  | [.lst es], .cons (.lst s q) .nil, e =>
    obtain ⟨ns, rfl, e0⟩ := ofInts_some (f := minF) (ds := es) e
    cases ns with
    | nil => cases e0
    | cons n ns =>
      cases e0
      refine .inr (.inr ⟨_, n :: ns, rfl, by rw [← q.ints]; exact .of (o.sub _ _ s), Nat.succ_pos _, fun m h1 h2 => ?_⟩)
      rw [min_unique h1 h2]
      exact k φ F _ H o Af.refl (.int _)
/-! sorted -/
def insS (x : Int) : List Int → List Int
  | [] => [x]
  | y :: r => if x ≤ y then x :: y :: r else y :: insS x r
def sortI : List Int → List Int
  | [] => []
  | x :: r => insS x (sortI r)
theorem insS_perm (x : Int) : ∀ l : List Int, (insS x l).Perm (x :: l)
  | [] => List.Perm.refl _
  | y :: r => by
    unfold insS
    split
    · exact List.Perm.refl _
    · exact ((insS_perm x r).cons y).trans (List.Perm.swap x y r)
theorem sortI_perm : ∀ l : List Int, (sortI l).Perm l
  | [] => List.Perm.refl _
  | x :: r => (insS_perm x (sortI r)).trans ((sortI_perm r).cons x)
theorem insS_sorted (x : Int) : ∀ l : List Int, l.Pairwise (· ≤ ·) → (insS x l).Pairwise (· ≤ ·)
  | [], _ => List.pairwise_singleton _ _
  | y :: r, h => by
    unfold insS
    split
    · rename_i c
      refine List.pairwise_cons.mpr ⟨fun a ha => ?_, h⟩
      rcases List.mem_cons.mp ha with rfl | ha
      · exact c
      · exact Int.le_trans c ((List.pairwise_cons.mp h).1 a ha)
    · rename_i c
      refine List.pairwise_cons.mpr ⟨fun a ha => ?_, insS_sorted x r (List.pairwise_cons.mp h).2⟩
      rcases List.mem_cons.mp ((insS_perm x r).mem_iff.mp ha) with rfl | ha
      · omega
      · exact (List.pairwise_cons.mp h).1 a ha
theorem sortI_sorted : ∀ l : List Int, (sortI l).Pairwise (· ≤ ·)
  | [] => .nil
  | x :: r => insS_sorted x _ (sortI_sorted r)
theorem sorted_unique : ∀ {l m : List Int}, l.Perm m → l.Pairwise (· ≤ ·) → m.Pairwise (· ≤ ·) → l = m := fun {l m} h a b =>
  h.eq_of_pairwise (fun x y _ _ h1 h2 => Int.le_antisymm h1 h2) a b
def srtF (ns : List Int) : Option D := some (.lst ((sortI ns).map .int))
def sortedB : List D → Option D
  | [.tup ds] => ofInts srtF ds
  | [.lst ds] => ofInts srtF ds
  | _ => none
theorem sem_sorted : CallSem p (fun xs H Q => rSortedT1 p.K xs H Q ∨ rSortedI p.K xs H Q) sortedB := by
  intro φ F z σ H xs ds d Q o r e k
  match ds, r, e with
  | [.tup es], .cons (.tup s q) .nil, e =>
    obtain ⟨ns, rfl, e0⟩ := ofInts_some (f := srtF) (ds := es) e
    cases e0
    refine .inl ⟨_, ns, rfl, by rw [← q.ints]; exact sqT_mono o.sub s.sq, fun ms t h1 h2 ht => ?_⟩
    have em : ms = sortI ns := sorted_unique (h1.trans (sortI_perm ns).symm) h2 (sortI_sorted ns)
    subst em
    obtain ⟨o2, f2⟩ := o.alloc (o := .lst ((sortI ns).map V.int)) ht
    exact k _ _ _ _ o2 f2 (.lst upd_same (Reps.of_ints _))
  | [.lst es], .cons (.lst s q) .nil, e =>
    obtain ⟨ns, rfl, e0⟩ := ofInts_some (f := srtF) (ds := es) e
    cases e0
    refine .inr ⟨_, ns, rfl, by rw [← q.ints]; exact .of (o.sub _ _ s), fun ms t h1 h2 ht => ?_⟩
    have em : ms = sortI ns := sorted_unique (h1.trans (sortI_perm ns).symm) h2 (sortI_sorted ns)
    subst em
    obtain ⟨o2, f2⟩ := o.alloc (o := .lst ((sortI ns).map V.int)) ht
    exact k _ _ _ _ o2 f2 (.lst upd_same (Reps.of_ints _))
def tupleB : List D → Option D
  | [.tup ds] => some (.tup ds)
  | [.lst ds] => some (.tup ds)
  | _ => none
theorem sem_tuple : CallSem p (fun xs H Q => ∃ a ys, xs = [.ref a] ∧ ((SqL p.K H a ys ∧ NewT H ys Q) ∨ (SqT p.K H a ys ∧ Q (.ref a) H))) tupleB := by
  intro φ F z σ H xs ds d Q o r e k
  match ds, r, e with
  | [.tup es], .cons (.tup s q) .nil, e => cases e; exact ⟨_, _, rfl, .inr ⟨sqT_mono o.sub s.sq, k φ F _ H o Af.refl (.tup s q)⟩⟩
  | [.lst es], .cons (.lst s q) .nil, e =>
    cases e
    refine ⟨_, _, rfl, .inl ⟨.of (o.sub _ _ s), fun t ob ht hc hd => ?_⟩⟩
    obtain ⟨o2, f2⟩ := o.alloc (o := .frz ob (.tup _)) ht
    exact k _ _ _ _ o2 f2 (.tup ⟨ob, upd_same, hc, hd⟩ (f2.reps q))
def listB : List D → Option D
  | [.tup ds] => some (.lst ds)
  | [.lst ds] => some (.lst ds)
  | _ => none
theorem sem_list : CallSem p (fun xs H Q => ∃ a ys, xs = [.ref a] ∧ (SqL p.K H a ys ∨ SqT p.K H a ys) ∧ ∀ l, H l = none → Q (.ref l) (upd H l (.lst ys))) listB := by
  intro φ F z σ H xs ds d Q o r e k
  match ds, r, e with
  | [.tup es], .cons (.tup s q) .nil, e =>
    cases e
    refine ⟨_, _, rfl, .inr (sqT_mono o.sub s.sq), fun t ht => ?_⟩
    obtain ⟨o2, f2⟩ := o.alloc (o := .lst _) ht
    exact k _ _ _ _ o2 f2 (.lst upd_same (f2.reps q))
  | [.lst es], .cons (.lst s q) .nil, e =>
    cases e
    refine ⟨_, _, rfl, .inl (.of (o.sub _ _ s)), fun t ht => ?_⟩
    obtain ⟨o2, f2⟩ := o.alloc (o := .lst _) ht
    exact k _ _ _ _ o2 f2 (.lst upd_same (f2.reps q))
/-! t.index(k) -/
def indexM (ds : List D) : List D → Option D
  | [.int k] => ofInts (fun ns => if k ∈ ns then some (.int (ns.idxOf k : Nat)) else none) ds
  | _ => none
theorem de_index {o e : Expr} {apos cpos : Pos} {f : Den D} {g : Den (List D)} (hK : X.K = p.K) (ho : DE X p W o f) (ha : DA X p W [e] g)
    (hbase : attributeBase o "index" X.env (eval o X.env) = eval o X.env := by rfl)
    (hfew : ((backTo cpos (starEach (e :: []) X.env)).all (fun x => !x.1) && (backToKw cpos (keywordEach [] X.env)).all (fun x => x.1.isSome)
      && decide ((e :: []).length + ([] : List Keyword).length + (if ([] : List Keyword).isEmpty then 0 else 1) < 30)) = true := by rfl)
    (hline : (apos.endLine == cpos.line) = true := by rfl) (hs : starEach (e :: []) X.env = (false, eval e X.env) :: starEach [] X.env := by rfl) (hplain : (backTo cpos (starEach [] X.env)).any (·.1) = false := by rfl) :
    DE X p W (.Call (.Attribute o "index" apos) [e] [] cpos) (methT indexM f g) := by
  refine de_bmT PySem.F.plainAttrs_tuple PySem.F.slot_tuple_index PySem.F.type_tuple_index mt_tupIndex ?_ ho ha hbase hfew hline hs hplain
  intro φ F z σ H a vs ws xs ds d Q ok tf q r e k
  match ds, r, e with
  | [.int i], .cons (.int _) .nil, e =>
    obtain ⟨ns, rfl, e0⟩ := ofInts_some (f := fun ns => if i ∈ ns then some (.int (ns.idxOf i : Nat)) else none) (ds := ws) e
    by_cases c : i ∈ ns
    · rw [if_pos c] at e0
      cases e0
      exact ⟨_, ns, i, rfl, rfl, by rw [← q.ints, hK]; exact sqT_mono ok.sub tf.sq, c, k φ F _ H ok Af.refl (.int _)⟩
    · rw [if_neg c] at e0
      cases e0
end
end FD

set_option Elab.async false
set_option linter.all false
set_option maxRecDepth 100000
set_option maxHeartbeats 1000000
namespace FD
open PySem PySem.Spec PyProof.Rows L2 FDB

inductive Fl where
  | nx (z : Z) | rt (d : D) (z : Z) | bk (z : Z) | ct (z : Z) | err (c : Str) (d : D) (z : Z) | stuck
abbrev Prog := Z → Fl
section
variable {p : Pm} {X : Cx} {W : WX}
def LSat (p : Pm) (W : WX) (φ : List Addr) (F : Hp) (z : Z) (r : Fl) (σ : L2.St) (H : Hp) (D : Ends) : Prop := match r with
  | .nx z' => ∀ φ' F' σ' H', Ok p φ' F' z' σ' H' → Af φ F z σ H φ' F' z' σ' H' → D.nx σ' H'
  | .rt d z' => ∀ φ' F' σ' v H', Ok p φ' F' z' σ' H' → Af φ F z σ H φ' F' z' σ' H' → Rep p.K φ' F' v d → D.rt v H'
  | .bk z' => ∀ φ' F' σ' H', Ok p φ' F' z' σ' H' → Af φ F z σ H φ' F' z' σ' H' → D.bk σ' H'
  | .ct z' => ∀ φ' F' σ' H', Ok p φ' F' z' σ' H' → Af φ F z σ H φ' F' z' σ' H' → D.ct σ' H'
  | .err c d z' => ∀ φ' F' σ' v H' da, Ok p φ' F' z' σ' H' → Af φ F z σ H φ' F' z' σ' H' → H' da = some (.xd [(("what" : Str), v)]) → Rep p.K φ' F' v d → W (.ref (p.cls c)) (some da) σ' H'
  | .stuck => False
def LS (p : Pm) (W : WX) (f : Prog) : TS := fun D σ H => ∃ φ F z, Ok p φ F z σ H ∧ LSat p W φ F z (f z) σ H D
abbrev DS (X : Cx) (p : Pm) (W : WX) (st : Stmt) (f : Prog) : Prop := PS X st (LS p W f)
abbrev DSs (X : Cx) (p : Pm) (W : WX) (st : List Stmt) (f : Prog) : Prop := PSs X st (LS p W f)
variable {φ φ1 : List Addr} {F F1 : Hp} {z z1 : Z} {σ σ1 : L2.St} {H H1 : Hp} {D D' : Ends}
theorem LSat.shift {r : Fl} (h : LSat p W φ F z r σ H D) (a : Af φ F z σ H φ1 F1 z1 σ1 H1) : LSat p W φ1 F1 z1 r σ1 H1 D := by
  cases r with
  | nx z' => exact fun φ' F' σ' H' o f => h φ' F' σ' H' o (a.trans f)
  | rt d z' => exact fun φ' F' σ' v H' o f r => h φ' F' σ' v H' o (a.trans f) r
  | bk z' => exact fun φ' F' σ' H' o f => h φ' F' σ' H' o (a.trans f)
  | ct z' => exact fun φ' F' σ' H' o f => h φ' F' σ' H' o (a.trans f)
  | err c d z' => exact fun φ' F' σ' v H' da o f e r => h φ' F' σ' v H' da o (a.trans f) e r
  | stuck => exact h
/-- an expression, then what follows -/
def Res.then {α : Type} (r : Res α) (g : α → Z → Fl) : Fl := match r with
  | .ok a z => g a z
  | .err c d z => .err c d z
  | .stuck => .stuck
theorem LSat.bind {β α : Type} {R : RR β α} {f : Den α} {g : α → Z → Fl} (o : Ok p φ F z σ H) (h : LSat p W φ F z ((f z).then g) σ H D) :
    LG p W R f σ H fun b H1 => ∃ φ1 F1 z1 a, Ok p φ1 F1 z1 σ H1 ∧ Af φ F z σ H φ1 F1 z1 σ H1 ∧ R φ1 F1 z1 σ H1 b a ∧ LSat p W φ1 F1 z1 (g a z1) σ H1 D := by
  refine ⟨φ, F, z, o, ?_⟩
  cases e : f z with
  | ok a z' =>
    rw [e] at h
    exact fun φ' F' b H' o' f' r' => ⟨φ', F', z', a, o', f', r', LSat.shift h f'⟩
  | err c d z' => rw [e] at h; exact fun φ' F' v H' da o f e r => h φ' F' σ v H' da o f e r
  | stuck => rw [e] at h; exact h
/-- first f, then g where it goes on -/
def Fl.seq (r : Fl) (g : Prog) : Fl := match r with
  | .nx z => g z
  | .rt d z => .rt d z
  | .bk z => .bk z
  | .ct z => .ct z
  | .err c d z => .err c d z
  | .stuck => .stuck
def nilS : Prog := fun z => .nx z
def seqS (f g : Prog) : Prog := fun z => (f z).seq g
theorem ds_nil : DSs X p W [] nilS := by
  refine PSs.imp pss_nil fun D σ H h => ?_
  obtain ⟨φ, F, z, o, l⟩ := h
  exact l φ F σ H o Af.refl
theorem ds_pass {pos} : DS X p W (.Pass pos) nilS := by
  refine PS.imp ps_pass fun D σ H h => ?_
  obtain ⟨φ, F, z, o, l⟩ := h
  exact l φ F σ H o Af.refl
theorem ds_cons {st : Stmt} {rest : List Stmt} {f g : Prog} (h1 : DS X p W st f) (h2 : DSs X p W rest g) : DSs X p W (st :: rest) (seqS f g) := by
  refine PSs.imp (pss_cons h1 h2) fun D σ H h => ?_
  obtain ⟨φ, F, z, o, l⟩ := h
  refine ⟨φ, F, z, o, ?_⟩
  unfold seqS Fl.seq at l
  cases e : f z with
  | nx z' =>
    rw [e] at l
    exact fun φ' F' σ' H' o' a' => ⟨φ', F', z', o', LSat.shift l a'⟩
  | rt d z' => rw [e] at l; exact l
  | bk z' => rw [e] at l; exact l
  | ct z' => rw [e] at l; exact l
  | err c d z' => rw [e] at l; exact l
  | stuck => rw [e] at l; exact l
theorem ds_one {st : Stmt} {f : Prog} (h1 : DS X p W st f) : DSs X p W [st] f := pss_one h1
theorem ds_stuck {st : Stmt} : DS X p W st (fun _ => .stuck) := PS.imp ps_never fun D σ H h => by
  obtain ⟨φ, F, z, o, l⟩ := h
  exact l
def exprS (f : Den FD.D) : Prog := fun z => (f z).then fun _ z1 => .nx z1
theorem ds_expr {e : Expr} {pos : Pos} {f : Den FD.D} (h : DE X p W e f) (hs : swapsWith e none pos.line X.env = pure false := by rfl) : DS X p W (.Expr e pos) (exprS f) := by
  refine PS.imp (ps_expr h hs) fun D σ H h => ?_
  obtain ⟨φ, F, z, o, l⟩ := h
  refine LG.mono (LSat.bind (R := rD p) o l) ?_
  rintro x H1 ⟨φ1, F1, z1, d1, o1, f1, r1, l1⟩
  exact l1 _ _ _ _ o1 Af.refl
def retS (f : Den FD.D) : Prog := fun z => (f z).then fun d z1 => .rt d z1
theorem ds_ret {e : Expr} {pos : Pos} {f : Den FD.D} (h : DE X p W e f) : DS X p W (.Return (some e) pos) (retS f) := by
  refine PS.imp (ps_ret h) fun D σ H h => ?_
  obtain ⟨φ, F, z, o, l⟩ := h
  refine LG.mono (LSat.bind (R := rD p) o l) ?_
  rintro x H1 ⟨φ1, F1, z1, d1, o1, f1, r1, l1⟩
  exact l1 _ _ _ _ _ o1 Af.refl r1
theorem ds_retN {pos : Pos} : DS X p W (.Return none pos) (fun z => .rt .non z) := by
  refine PS.imp ps_retN fun D σ H h => ?_
  obtain ⟨φ, F, z, o, l⟩ := h
  exact l _ _ _ _ _ o Af.refl .non
theorem ds_break {pos : Pos} : DS X p W (.Break pos) (fun z => .bk z) := by
  refine PS.imp ps_break fun D σ H h => ?_
  obtain ⟨φ, F, z, o, l⟩ := h
  exact l _ _ _ _ o Af.refl
theorem ds_continue {pos : Pos} : DS X p W (.Continue pos) (fun z => .ct z) := by
  refine PS.imp ps_continue fun D σ H h => ?_
  obtain ⟨φ, F, z, o, l⟩ := h
  exact l _ _ _ _ o Af.refl
def ifS (c : Den Bool) (f g : Prog) : Prog := fun z => (c z).then fun b z1 => if b then f z1 else g z1
theorem ds_if {c : Expr} {a b : List Stmt} {pos : Pos} {k : Den Bool} {f g : Prog} (hc : DT X p W c k) (ha : DSs X p W a f) (hb : DSs X p W b g) : DS X p W (.If c a b pos) (ifS k f g) := by
  refine PS.imp (ps_if hc ha hb) fun D σ H h => ?_
  obtain ⟨φ, F, z, o, l⟩ := h
  refine LG.mono (LSat.bind (R := rB) o l) ?_
  rintro t H1 ⟨φ1, F1, z1, b', o1, f1, e, l1⟩
  cases e
  cases t with
  | true => exact ⟨φ1, F1, z1, o1, l1⟩
  | false => exact ⟨φ1, F1, z1, o1, l1⟩
/-! ### stores -/
def put (i : Nat) (d : FD.D) (z : Z) : Z := ⟨z.ρ.set i (.val d), z.S⟩
def setS (i : Nat) (f : Den FD.D) : Prog := fun z => (f z).then fun d z1 => .nx (put i d z1)
theorem ds_set {i : Nat} {x : Str} {e : Expr} {pos pos' : Pos} {f : Den FD.D} (he : DE X p W e f) (hN : X.N.Nodup) (hi : X.N[i]? = some x := by rfl) (hx : Loc X.env.scope x := by first | exact .inl rfl | exact .inr rfl) (hs : swapsWith e (some (.Name x pos')) pos.line X.env = pure false := by rfl) (hf : X.fn x = true ∨ X.env.scope.names.lookup x = some .local := by first | exact .inl rfl | exact .inr rfl | assumption) :
    DS X p W (.Assign [.Name x pos'] e pos) (setS i f) := by
  refine PS.imp (ps_set hN hi hx he hs hf) fun D σ H h => ?_
  obtain ⟨φ, F, z, o, l⟩ := h
  refine LG.mono (LSat.bind (R := rD p) o l) ?_
  rintro x H1 ⟨φ1, F1, z1, d1, o1, f1, r1, l1⟩
  obtain ⟨o2, f2⟩ := o1.store (i := i) r1
  exact l1 _ _ _ _ o2 f2
/-- y = [.. for ..] -/
theorem ds_setLc {i : Nat} {st : Stmt} {te : TE} {f : Den FD.D} (h : PS X st (tAsg te (gName i))) (ht : ∀ σ H Q, LG p W (rD p) f σ H Q → te σ H Q) : DS X p W st (setS i f) := by
  refine PS.imp h fun D σ H h => ?_
  obtain ⟨φ, F, z, o, l⟩ := h
  refine ht _ _ _ (LG.mono (LSat.bind (R := rD p) o l) ?_)
  rintro x H1 ⟨φ1, F1, z1, d1, o1, f1, r1, l1⟩
  obtain ⟨o2, f2⟩ := o1.store (i := i) r1
  exact l1 _ _ _ _ o2 f2
/-- a, b = e1, e2 (plain names) -/
def par2S (i j : Nat) (f : Den (List FD.D)) : Prog := fun z => (f z).then fun ds z1 => match ds with
  | [d, e] => .nx (put j e (put i d z1))
  | _ => .stuck
theorem ds_par {i j : Nat} {x y : Str} {a b : Expr} {px py pt pos : Pos} {kt k2 pt2} {f : Den (List FD.D)} (hc : X.calm = true) (hN : X.N.Nodup) (ha : DA X p W [a, b] f) (hi : X.N[i]? = some x := by rfl) (hj : X.N[j]? = some y := by rfl) (hij : i ≠ j := by decide)
    (hx : X.env.scope.names.lookup x = some .local := by rfl) (hy : X.env.scope.names.lookup y = some .local := by rfl)
    (hw : swappedStores [.Tuple [.Name x px, .Name y py] kt pt] (.Tuple [a, b] k2 pt2) X.env = pure (some [x, y]) := by rfl)
    (hs : swapsWithSole [.Tuple [.Name x px, .Name y py] kt pt] (.Tuple [a, b] k2 pt2) pos.line X.env = pure false := by rfl) :
    DS X p W (.Assign [.Tuple [.Name x px, .Name y py] kt pt] (.Tuple [a, b] k2 pt2) pos) (par2S i j f) := by
  refine PS.imp (ps_par hc hN hi hj hij hx hy ha hw hs) fun D σ H h => ?_
  obtain ⟨φ, F, z, o, l⟩ := h
  refine LG.mono (LSat.bind (R := rDs p) o l) ?_
  rintro vs H1 ⟨φ1, F1, z1, ds, o1, f1, r1, l1⟩
  match vs, ds, r1, l1 with
  | [v, w], [d, e], .cons r1 (.cons r2 .nil), l1 =>
    refine ⟨v, w, rfl, ?_⟩
    obtain ⟨o2, f2⟩ := o1.store (i := i) r1
    obtain ⟨o3, f3⟩ := o2.store (i := j) (f2.rep r2)
    exact l1 _ _ _ _ o3 (f2.trans f3)
  | [], [], .nil, l1 => exact l1.elim
  | [_], [_], .cons _ .nil, l1 => exact l1.elim
  | _ :: _ :: _ :: _, _ :: _ :: _ :: _, .cons _ (.cons _ (.cons _ _)), l1 => exact l1.elim
/-- a, b, .. = a tuple -/
def puts : List Nat → List FD.D → Z → Option Z
  | [], [], z => some z
  | i :: is, d :: ds, z => puts is ds (put i d z)
  | _, _, _ => none
def unpackS (is : List Nat) (f : Den FD.D) : Prog := fun z => (f z).then fun d z1 => match d with
  | .tup ds => match puts is ds z1 with
    | some z2 => .nx z2
    | none => .stuck
  | _ => .stuck
theorem wipe_set1 (σ : L2.St) (v : Option V) (i : Nat) : ∀ ws : List Nat, (wipe (σ.set i v) ws).set i none = (wipe σ ws).set i none
  | [] => by unfold wipe; rw [List.set_set]
  | b :: r => by
    unfold wipe
    by_cases e : b = i
    · subst e
      rw [List.set_set, List.set_set]
      exact wipe_set1 σ v b r
    · rw [List.set_comm _ _ e, wipe_set1 σ v i r, List.set_comm _ _ (Ne.symm e)]
theorem wipe_set {σ : L2.St} (v : Option V) {i : Nat} : ∀ {ws : List Nat}, i ∈ ws → wipe (σ.set i v) ws = wipe σ ws
  | b :: r, h => by
    unfold wipe
    by_cases e : i = b
    · subst e
      exact wipe_set1 σ v i r
    · rcases List.mem_cons.mp h with h | h
      · exact absurd h e
      · rw [wipe_set v h]
def gNames : List Nat → TGs
  | [] => gNil
  | i :: is => gCons (gName i) (gNames is)
theorem gNames_put : ∀ (is : List Nat) {vs : List V} {ds : List FD.D} {φ : List Addr} {F : Hp} {z z2 : Z} {σ : L2.St} {H : Hp} {Q : L2.St → Hp → Prop}, Ok p φ F z σ H → Reps p.K φ F vs ds → puts is ds z = some z2 →
    (∀ σ2, Ok p φ F z2 σ2 H → Af φ F z σ H φ F z2 σ2 H → (∀ ws : List Nat, (∀ i ∈ is, i ∈ ws) → wipe σ2 ws = wipe σ ws) → Q σ2 H) → gNames is vs σ H Q
  | [], _, _, φ, F, z, z2, σ, H, Q, o, .nil, e, k => by
    cases e
    exact ⟨rfl, k σ o Af.refl fun _ _ => rfl⟩
  | i :: is, _, _, φ, F, z, z2, σ, H, Q, o, .cons r rs, e, k => by
    obtain ⟨o2, f2⟩ := o.store (i := i) r
    exact ⟨_, _, rfl, gNames_put is o2 (f2.reps rs) e fun σ2 o3 f3 hw => k σ2 o3 (f2.trans f3) fun ws h => (hw ws fun j hj => h j (List.mem_cons_of_mem _ hj)).trans (wipe_set _ (h i List.mem_cons_self))⟩
  | [], _, _, _, _, _, _, _, _, _, _, .cons _ _, e, _ => by cases e
  | _ :: _, _, _, _, _, _, _, _, _, _, _, .nil, e, _ => by cases e
theorem puts_length : ∀ (is : List Nat) (ds : List FD.D) (z z2 : Z), puts is ds z = some z2 → ds.length = is.length
  | [], [], _, _, _ => rfl
  | i :: is, d :: ds, z, z2, e => by
    rw [List.length_cons, List.length_cons, puts_length is ds _ _ e]
  | [], _ :: _, _, _, e => by cases e
  | _ :: _, [], _, _, e => by cases e
theorem ds_unpack {is : List Nat} {es : List Expr} {e : Expr} {k : Nat} {pt pos : Pos} {f : Den FD.D} {n : Nat} (hK : X.K = p.K) (hc : X.calm = true) (he : DE X p W e f) (ht : PGs X es (gNames is)) (hn : is.length = n := by rfl)
    (h1 : (assignEach es X.env).length = n := by rfl) (hst : (assignEach es X.env).findIdx? (·.1) = none := by rfl)
    (hs : swapsWithSole [.Tuple es k pt] e pos.line X.env = pure false := by rfl) (hw : swappedStores [.Tuple es k pt] e X.env = pure none := by rfl)
    (h2 : (assignEach [.Tuple es k pt] X.env).map (·.2) = [assign (.Tuple es k pt) X.env] := by rfl) : DS X p W (.Assign [.Tuple es k pt] e pos) (unpackS is f) := by
  refine PS.imp (ps_asg he (pg_tup hc ht h1 hst) hs hw h2) fun D σ H h => ?_
  obtain ⟨φ, F, z, o, l⟩ := h
  refine LG.mono (LSat.bind (R := rD p) o l) ?_
  rintro x H1 ⟨φ1, F1, z1, d1, o1, f1, r1, l1⟩
  cases r1 with
  | tup tf q =>
    rename_i a vs ds
    cases e2 : puts is ds z1 with
    | none => simp only [e2] at l1; exact l1.elim
    | some z2 =>
      simp only [e2] at l1
      refine ⟨a, vs, rfl, by rw [hK]; exact sqT_mono o1.sub tf.sq, by rw [q.length, puts_length is ds _ _ e2]; exact hn, ?_⟩
      exact gNames_put is o1 q e2 fun σ2 o3 f3 _ => l1 _ _ _ _ o3 f3
  | _ => exact l1.elim
/-- o[i] = e, o a shared list -/
def setIxS (f g k : Den FD.D) : Prog := fun z => (f z).then fun d z1 => (g z1).then fun o z2 => (k z2).then fun i z3 => match o, i with
  | .loc n, .int j => match z3.S[n]? with
    | some ds => match ixN ds.length j with
      | some m => .nx ⟨z3.ρ, z3.S.set n (ds.set m d)⟩
      | none => .stuck
    | none => .stuck
  | _, _ => .stuck
theorem ds_setIx {o i e : Expr} {pos pos' : Pos} {f g k : Den FD.D} (he : DE X p W e f) (ho : DE X p W o g) (hi : DE X p W i k)
    (ha : ∀ v, assign (.Subscript o i pos') X.env v = (do
      let ov ← holding [v] (eval o X.env)
      let iv ← holding [v, ov] (eval i X.env)
      standAt pos'
      holding [v, ov, iv] (setItem ov iv v)
      release [v, ov, iv] []) := by intro _; rfl)
    (hs : swapsWithSole [.Subscript o i pos'] e pos.line X.env = pure false := by rfl) (hw : swappedStores [.Subscript o i pos'] e X.env = pure none := by rfl)
    (h1 : (assignEach [.Subscript o i pos'] X.env).map (·.2) = [assign (.Subscript o i pos') X.env] := by rfl) : DS X p W (.Assign [.Subscript o i pos'] e pos) (setIxS f g k) := by
  refine PS.imp (ps_asg he (pg_sub ho hi set_list ha) hs hw h1) fun D σ H h => ?_
  obtain ⟨φ, F, z, o, l⟩ := h
  refine LG.mono (LSat.bind (R := rD p) o l) ?_
  rintro x H1 ⟨φ1, F1, z1, d1, o1, f1, r1, l1⟩
  refine LG.mono (LSat.bind (R := rD p) o1 l1) ?_
  rintro y H2 ⟨φ2, F2, z2, d2, o2, f2, r2, l2⟩
  refine LG.mono (LSat.bind (R := rD p) o2 l2) ?_
  rintro w H3 ⟨φ3, F3, z3, d3, o3, f3, r3, l3⟩
  have r2' := f3.rep r2
  have r1' := f3.rep (f2.rep r1)
  cases r2' with
  | loc hn =>
    rename_i a n
    cases r3 with
    | int j =>
      obtain ⟨_, ds, vs, e1, e2, q⟩ := o3.ph n a hn
      simp only [e1] at l3
      cases e3 : ixN ds.length j with
      | none => simp only [e3] at l3; exact l3.elim
      | some m =>
        simp only [e3] at l3
        refine ⟨a, vs, j, m, rfl, rfl, e2, by rw [q.length]; exact e3, ?_⟩
        obtain ⟨o4, f4⟩ := o3.setLoc hn (q.set r1' m)
        exact l3 _ _ _ _ o4 f4
    | _ => exact l3.elim
  | _ => cases r3 <;> exact l3.elim
/-- o[i], o a shared list -/
def locIx (f g : Den FD.D) : Den FD.D := fun z => (f z).bind fun o z1 => (g z1).bind fun i z2 => match o, i with
  | .loc n, .int j => match z2.S[n]? with
    | some ds => optR (L2.atI ds j) z2
    | none => .stuck
  | _, _ => .stuck
theorem de_locIx {a b : Expr} {pos : Pos} {f g : Den FD.D} (ha : DE X p W a f) (hb : DE X p W b g) (hs : PlainIx b := by exact fun _ _ => rfl) : DE X p W (.Subscript a b pos) (locIx f g) := by
  refine PE.imp (pe_ix ix_list ha hb hs) fun σ H Q h => ?_
  obtain ⟨φ, F, z, o, l⟩ := h
  refine LG.mono (LGat.bind (R := rD p) o l) ?_
  rintro x H1 ⟨φ1, F1, z1, d1, o1, f1, r1, l1⟩
  refine LG.mono (LGat.bind (R := rD p) o1 l1) ?_
  rintro y H2 ⟨φ2, F2, z2, d2, o2, f2, r2, l2⟩
  have r1' := f2.rep r1
  cases r1' with
  | loc hn =>
    rename_i a n
    cases r2 with
    | int j =>
      obtain ⟨_, ds, vs, e1, e2, q⟩ := o2.ph n a hn
      simp only [e1] at l2
      cases e3 : L2.atI ds j with
      | none => rw [e3] at l2; exact l2.elim
      | some d =>
        rw [e3] at l2
        obtain ⟨v, g1, g2⟩ := q.atI e3
        exact ⟨a, vs, j, v, rfl, rfl, .of e2, g1, LGat.here (b := v) l2 o2 g2⟩
    | _ => exact l2.elim
  | _ => cases r2 <;> exact l2.elim
/-- x op= e -/
def augS (i : Nat) (op : FD.D → FD.D → Option FD.D) (f : Den FD.D) : Prog := fun z => match z.ρ[i]? with
  | some (.val d) => (f z).then fun e z1 => match op d e with
    | some r => .nx (put i r z1)
    | none => .stuck
  | _ => .stuck
theorem ds_aug {i : Nat} {x : Str} {e : Expr} {op : Operator} {ti : TIp} {opd : FD.D → FD.D → Option FD.D} {pos pos' : Pos} {f : Den FD.D} (hN : X.N.Nodup) (he : DE X p W e f) (ho : PIp X op ti)
    (hop : ∀ (H : Hp) (Q : VK) a b d, (∀ φ F x y, Rep p.K φ F x a → Rep p.K φ F y b → opd a b = some d → (∀ v, Rep p.K φ F v d → Q v H) → ti x y H Q)) (hi : X.N[i]? = some x := by rfl) (hx : Loc X.env.scope x := by first | exact .inl rfl | exact .inr rfl) (hf : X.fn x = true ∨ X.env.scope.names.lookup x = some .local := by first | exact .inl rfl | exact .inr rfl | assumption) :
    DS X p W (.AugAssign (.Name x pos') op e pos) (augS i opd f) := by
  refine PS.imp (ps_aug hN hi hx he ho hf) fun D σ H h => ?_
  obtain ⟨φ, F, z, o, l⟩ := h
  unfold augS at l
  split at l
  · rename_i d e1
    have hl : i < z.ρ.length := (List.getElem?_eq_some_iff.mp e1).1
    have hs : i < σ.length := by rw [← o.len]; exact hl
    obtain ⟨v, ev, r⟩ := o.sl i _ _ e1 (List.getElem?_eq_getElem hs)
    refine ⟨v, by rw [List.getElem?_eq_getElem hs, ev], ?_⟩
    refine LG.mono (LSat.bind (R := rD p) o l) ?_
    rintro y H1 ⟨φ1, F1, z1, d1, o1, f1, r1, l1⟩
    cases e2 : opd d d1 with
    | none => simp only [e2] at l1; exact l1.elim
    | some t =>
      simp only [e2] at l1
      refine hop H1 _ d d1 t φ1 F1 v y (f1.rep r) r1 e2 fun w rw' => ?_
      obtain ⟨o2, f2⟩ := o1.store (i := i) rw'
      exact l1 _ _ _ _ o2 f2
  · exact l.elim
theorem ds_augAdd {i : Nat} {x : Str} {e : Expr} {pos pos' : Pos} {f : Den FD.D} (hN : X.N.Nodup) (he : DE X p W e f) (hi : X.N[i]? = some x := by rfl) (hx : Loc X.env.scope x := by first | exact .inl rfl | exact .inr rfl) (hf : X.fn x = true ∨ X.env.scope.names.lookup x = some .local := by first | exact .inl rfl | exact .inr rfl | assumption) :
    DS X p W (.AugAssign (.Name x pos') .Add e pos) (augS i addI f) := ds_aug hN he ip_add (fun H Q a b d φ F x y r1 r2 e k => by
    cases r1 with
    | int i =>
      cases r2 with
      | int j => cases e; exact ⟨i, j, rfl, rfl, k _ (.int _)⟩
      | _ => cases e
    | _ => cases e) hi hx hf
theorem ds_augSub {i : Nat} {x : Str} {e : Expr} {pos pos' : Pos} {f : Den FD.D} (hN : X.N.Nodup) (he : DE X p W e f) (hi : X.N[i]? = some x := by rfl) (hx : Loc X.env.scope x := by first | exact .inl rfl | exact .inr rfl) (hf : X.fn x = true ∨ X.env.scope.names.lookup x = some .local := by first | exact .inl rfl | exact .inr rfl | assumption) :
    DS X p W (.AugAssign (.Name x pos') .Sub e pos) (augS i subI f) := ds_aug hN he ip_sub (fun H Q a b d φ F x y r1 r2 e k => by
    cases r1 with
    | int i =>
      cases r2 with
      | int j => cases e; exact ⟨i, j, rfl, rfl, k _ (.int _)⟩
      | _ => cases e
    | _ => cases e) hi hx hf
/-! ### while -/
def whileD (c : Den Bool) (b : Prog) : Nat → Prog
  | 0, _ => .stuck
  | n + 1, z => (c z).then fun t z1 => if t then match b z1 with
      | .nx z2 => whileD c b n z2
      | .ct z2 => whileD c b n z2
      | .bk z2 => .nx z2
      | .rt d z2 => .rt d z2
      | .err e d z2 => .err e d z2
      | .stuck => .stuck
    else .nx z1
theorem ds_while {c : Expr} {body : List Stmt} {pos : Pos} {k : Den Bool} {f : Prog} (n : Nat) (hp : PassesOwn (model X.prog X.w) X.A X.env X.xe) (hc : DT X p W c k) (hb : DSs X p W body f) : DS X p W (.While c body [] pos) (whileD k f n) := by
  refine PS.imp (ps_while hp hc hb) fun D σ H h => ?_
  obtain ⟨φ, F, z, o, l⟩ := h
  refine ⟨fun m σ H => ∃ φ F z, Ok p φ F z σ H ∧ LSat p W φ F z (whileD k f m z) σ H D, ⟨n, φ, F, z, o, l⟩, ?_⟩
  rintro m σ1 H1 ⟨φ1, F1, z1, o1, l1⟩
  cases m with
  | zero => exact l1.elim
  | succ m =>
    refine LG.mono (LSat.bind (R := rB) o1 l1) ?_
    rintro t H2 ⟨φ2, F2, z2, t', o2, f2, e, l2⟩
    cases e
    cases t with
    | false => exact l2 _ _ _ _ o2 Af.refl
    | true =>
      rw [if_pos rfl]
      refine ⟨fun σ' H' => ∃ φ F z, Ok p φ F z σ' H' ∧ LSat p W φ F z (whileD k f m z) σ' H' D, fun σ' H' q => ⟨m, Nat.lt_succ_self m, q⟩, φ2, F2, z2, o2, ?_⟩
      simp only [if_true] at l2
      cases e : f z2 with
      | nx z' => rw [e] at l2; exact fun φ' F' σ' H' o' a' => ⟨φ', F', z', o', LSat.shift l2 a'⟩
      | ct z' => rw [e] at l2; exact fun φ' F' σ' H' o' a' => ⟨φ', F', z', o', LSat.shift l2 a'⟩
      | bk z' => rw [e] at l2; exact l2
      | rt d z' => rw [e] at l2; exact l2
      | err c d z' => rw [e] at l2; exact l2
      | stuck => rw [e] at l2; exact l2
/-! ### what is walked -/
structure JOk (p : Pm) (φ : List Addr) (F : Hp) (J : It) (g : TG) (tg : FD.D → Z → Option Z) (is : List Nat) (ds : List FD.D) : Prop where
  go : ∀ F' i H, Same F F' → Same F' H → i < ds.length → J.go i H
  stop : ∀ F' i H, Same F F' → Same F' H → ds.length ≤ i → J.stop i H
  step : ∀ φ' F' z σ H i d z', Same F F' → (∃ t, φ' = φ ++ t) → Ok p φ' F' z σ H → ds[i]? = some d → tg d z = some z' → ∀ x H', J.yld i H x H' → ∀ (Q : L2.St → Hp → Prop),
    (∀ φ'' F'' σ'' H'', Ok p φ'' F'' z' σ'' H'' → Af φ' F' z σ H φ'' F'' z' σ'' H'' → wipe σ'' is = wipe σ is → Q σ'' H'') → g x σ H' Q
def LIat (p : Pm) (W : WX) (g : TG) (tg : FD.D → Z → Option Z) (is : List Nat) (φ : List Addr) (F : Hp) (z : Z) (r : Res (List FD.D)) (σ : L2.St) (H : Hp) (R : It → Hp → Prop) : Prop := match r with
  | .ok ds z' => ∀ φ' F' J H', Ok p φ' F' z' σ H' → Af φ F z σ H φ' F' z' σ H' → JOk p φ' F' J g tg is ds → R J H'
  | .err c d z' => ∀ φ' F' v H' da, Ok p φ' F' z' σ H' → Af φ F z σ H φ' F' z' σ H' → H' da = some (.xd [(("what" : Str), v)]) → Rep p.K φ' F' v d → W (.ref (p.cls c)) (some da) σ H'
  | .stuck => False
def LI (p : Pm) (W : WX) (g : TG) (tg : FD.D → Z → Option Z) (is : List Nat) (f : Den (List FD.D)) : TI := fun σ H R => ∃ φ F z, Ok p φ F z σ H ∧ LIat p W g tg is φ F z (f z) σ H R
theorem LIat.shift {g : TG} {tg : FD.D → Z → Option Z} {is : List Nat} {r : Res (List FD.D)} {R : It → Hp → Prop} (h : LIat p W g tg is φ F z r σ H R) (a : Af φ F z σ H φ1 F1 z1 σ H1) : LIat p W g tg is φ1 F1 z1 r σ H1 R := by
  cases r with
  | ok x z' => exact fun φ' F' J H' o f j => h φ' F' J H' o (a.trans f) j
  | err c d z' => exact fun φ' F' v H' da o f e r => h φ' F' v H' da o (a.trans f) e r
  | stuck => exact h
abbrev DI (X : Cx) (p : Pm) (W : WX) (tge iter : Expr) (g : TG) (tg : FD.D → Z → Option Z) (is : List Nat) (f : Den (List FD.D)) : Prop := PI X tge iter (LI p W g tg is f)
def tgName (i : Nat) : FD.D → Z → Option Z := fun d z => some (put i d z)
def tgNames (is : List Nat) : FD.D → Z → Option Z := fun d z => match d with
  | .tup ds => puts is ds z
  | _ => none
theorem LI.bind {β α : Type} {R0 : RR β α} {g : TG} {tg : FD.D → Z → Option Z} {is : List Nat} {f : Den α} {k : α → Den (List FD.D)} {R : It → Hp → Prop} {σ : L2.St} {H : Hp} (h : LI p W g tg is (fun z => (f z).bind k) σ H R) :
    LG p W R0 f σ H fun b H1 => ∃ φ1 F1 z1 a, Ok p φ1 F1 z1 σ H1 ∧ R0 φ1 F1 z1 σ H1 b a ∧ LIat p W g tg is φ1 F1 z1 (k a z1) σ H1 R := by
  obtain ⟨φ, F, z, o, l⟩ := h
  refine ⟨φ, F, z, o, ?_⟩
  have l' : LIat p W g tg is φ F z ((f z).bind k) σ H R := l
  cases e : f z with
  | ok a z' =>
    rw [e] at l'
    exact fun φ' F' b H' o' f' r' => ⟨φ', F', z', a, o', r', LIat.shift l' f'⟩
  | err c d z' => rw [e] at l'; exact l'
  | stuck => rw [e] at l'; exact l'
def asL : FD.D → Option (List FD.D)
  | .lst ds => some ds
  | _ => none
def asT : FD.D → Option (List FD.D)
  | .tup ds => some ds
  | _ => none
def itL (f : Den FD.D) : Den (List FD.D) := fun z => (f z).bind fun d z1 => optR (asL d) z1
def itT (f : Den FD.D) : Den (List FD.D) := fun z => (f z).bind fun d z1 => optR (asT d) z1
/-- a list, a tuple by a target g that takes an item -/
structure TgOk (p : Pm) (g : TG) (tg : FD.D → Z → Option Z) (is : List Nat) : Prop where
  step : ∀ φ F z σ H d z' x, Ok p φ F z σ H → Rep p.K φ F x d → tg d z = some z' → ∀ (Q : L2.St → Hp → Prop), (∀ φ'' F'' σ'' H'', Ok p φ'' F'' z' σ'' H'' → Af φ F z σ H φ'' F'' z' σ'' H'' → wipe σ'' is = wipe σ is → Q σ'' H'') → g x σ H Q
theorem tg_name (i : Nat) : TgOk p (gName i) (tgName i) [i] := ⟨fun φ F z σ H d z' x o r e Q k => by
  cases e
  obtain ⟨o2, f2⟩ := o.store (i := i) r
  exact k _ _ _ _ o2 f2 (wipe_set _ (List.mem_singleton.mpr rfl))⟩
theorem tg_names {is : List Nat} {n : Nat} (hn : is.length = n) : TgOk p (gTup p.K n (gNames is)) (tgNames is) is := ⟨fun φ F z σ H d z' x o r e Q k => by
  cases r with
  | tup tf q =>
    exact ⟨_, _, rfl, sqT_mono o.sub tf.sq, by rw [q.length, puts_length is _ _ _ e]; exact hn, gNames_put is o q e fun σ2 o3 f3 hw => k _ _ _ _ o3 f3 (hw is fun _ h => h)⟩
  | _ => cases e⟩
theorem di_list {e tge : Expr} {f : Den FD.D} {g : TG} {tg : FD.D → Z → Option Z} {is : List Nat} (hK : X.K = p.K) (h : DE X p W e f) (ht : TgOk p g tg is) : DI X p W tge e g tg is (itL f) := by
  refine PI.imp (pi_list h) fun σ H R h => ?_
  refine LG.mono (LI.bind (R0 := rD p) h) ?_
  rintro x H1 ⟨φ1, F1, z1, d, o1, r1, l1⟩
  cases r1 with
  | lst s q =>
    rename_i a vs ds
    refine ⟨a, rfl, ⟨vs, .of (o1.sub _ _ s)⟩, l1 φ1 F1 _ H1 o1 Af.refl ⟨fun F' i H s1 s2 hi => ?_, fun F' i H s1 s2 hi => ?_, fun φ' F' z σ H i d z' s1 p1 o e1 e2 x H' y Q k => ?_⟩⟩
    · have hi' : i < vs.length := by rw [q.length]; exact hi
      exact ⟨vs, vs[i], .of (s2 _ _ (s1 _ _ s)), List.getElem?_eq_getElem hi'⟩
    · exact ⟨vs, .of (s2 _ _ (s1 _ _ s)), by rw [q.length]; exact hi⟩
    · obtain ⟨eH, y⟩ := y
      subst eH
      obtain ⟨v, ev, rv⟩ := (q.mono s1 p1).get e1
      have ex := (y vs (.of (o.sub _ _ (s1 _ _ s)))).symm.trans ev
      cases ex
      exact ht.step φ' F' z σ H' d z' _ o rv e2 Q k
  | _ => exact l1.elim
theorem di_tup {e tge : Expr} {f : Den FD.D} {g : TG} {tg : FD.D → Z → Option Z} {is : List Nat} (hK : X.K = p.K) (h : DE X p W e f) (ht : TgOk p g tg is) : DI X p W tge e g tg is (itT f) := by
  refine PI.imp (pi_tup h) fun σ H R h => ?_
  refine LG.mono (LI.bind (R0 := rD p) h) ?_
  rintro x H1 ⟨φ1, F1, z1, d, o1, r1, l1⟩
  cases r1 with
  | tup s q =>
    rename_i a vs ds
    refine ⟨a, rfl, ⟨vs, sqT_mono o1.sub s.sq⟩, l1 φ1 F1 _ H1 o1 Af.refl ⟨fun F' i H s1 s2 hi => ?_, fun F' i H s1 s2 hi => ?_, fun φ' F' z σ H i d z' s1 p1 o e1 e2 x H' y Q k => ?_⟩⟩
    · have hi' : i < vs.length := by rw [q.length]; exact hi
      exact ⟨vs, vs[i], sqT_mono (s1.trans s2) s.sq, List.getElem?_eq_getElem hi'⟩
    · exact ⟨vs, sqT_mono (s1.trans s2) s.sq, by rw [q.length]; exact hi⟩
    · obtain ⟨eH, y⟩ := y
      subst eH
      obtain ⟨v, ev, rv⟩ := (q.mono s1 p1).get e1
      have ex := (y vs (sqT_mono (s1.trans o.sub) s.sq)).symm.trans ev
      cases ex
      exact ht.step φ' F' z σ H' d z' _ o rv e2 Q k
  | _ => exact l1.elim
/-- lo, lo + 1, .. below hi -/
def rangeL (lo : Int) (n : Nat) : List FD.D := (List.range n).map fun k => .int (lo + (k : Nat))
def rng1 (f : Den (List FD.D)) : Den (List FD.D) := fun z => (f z).bind fun ds z1 => match ds with
  | [.int j] => if -(2 ^ 62) ≤ j ∧ j < 2 ^ 62 then .ok (rangeL 0 j.toNat) z1 else .stuck
  | _ => .stuck
def rng2 (f : Den (List FD.D)) : Den (List FD.D) := fun z => (f z).bind fun ds z1 => match ds with
  | [.int i, .int j] => if -(2 ^ 62) ≤ i ∧ i < 2 ^ 62 ∧ -(2 ^ 62) ≤ j ∧ j < 2 ^ 62 then .ok (rangeL i (j - i).toNat) z1 else .stuck
  | _ => .stuck
theorem jok_range {lo : Int} {n : Nat} {g : TG} {tg : FD.D → Z → Option Z} {is : List Nat} (ht : TgOk p g tg is) {φ : List Addr} {F : Hp} : JOk p φ F (Itr lo n) g tg is (rangeL lo n) where
  go := fun F' i H _ _ hi => by
    unfold rangeL at hi
    rw [List.length_map, List.length_range] at hi
    exact hi
  stop := fun F' i H _ _ hi => by
    unfold rangeL at hi
    rw [List.length_map, List.length_range] at hi
    exact hi
  step := fun φ' F' z σ H i d z' s1 p1 o e1 e2 x H' y Q k => by
    obtain ⟨eH, y⟩ := y
    subst eH y
    unfold rangeL at e1
    rw [List.getElem?_map] at e1
    cases e3 : (List.range n)[i]? with
    | none => rw [e3] at e1; cases e1
    | some m =>
      rw [e3] at e1
      have em : m = i := by
        have hl := (List.getElem?_eq_some_iff.mp e3).1
        rw [List.length_range] at hl
        rw [List.getElem?_range hl] at e3
        exact (Option.some.inj e3).symm
      subst em
      cases e1
      exact ht.step φ' F' z σ H' _ z' _ o (.int _) e2 Q k
theorem di_range1 {a tge : Expr} {q pos : Pos} {f : Den (List FD.D)} {g : TG} {tg : FD.D → Z → Option Z} {is : List Nat} (hg : Gl X "range") (hm : X.mg "range" = none) (ha : DA X p W [a] f) (ht : TgOk p g tg is) (hs : starEach [a] X.env = [(false, eval a X.env)] := by rfl) :
    DI X p W tge (.Call (.Name "range" q) [a] [] pos) g tg is (rng1 f) := by
  refine PI.imp (pi_range1 hg hm ha hs) fun σ H R h => ?_
  refine LG.mono (LI.bind (R0 := rDs p) h) ?_
  rintro xs H1 ⟨φ1, F1, z1, ds, o1, r1, l1⟩
  by_cases c : ∃ j, ds = [.int j] ∧ -(2 ^ 62) ≤ j ∧ j < 2 ^ 62
  · obtain ⟨j, rfl, c⟩ := c
    match xs, r1 with
    | _, .cons (.int _) .nil =>
      simp only [if_pos c] at l1
      exact ⟨j, rfl, c.1, c.2, l1 φ1 F1 _ H1 o1 Af.refl (jok_range ht)⟩
  · exfalso
    split at l1
    · rename_i j
      split at l1
      · rename_i cc
        exact c ⟨j, rfl, cc⟩
      · exact l1
    · exact l1
theorem di_range2 {a b tge : Expr} {q pos : Pos} {f : Den (List FD.D)} {g : TG} {tg : FD.D → Z → Option Z} {is : List Nat} (hg : Gl X "range") (hm : X.mg "range" = none) (ha : DA X p W [a, b] f) (ht : TgOk p g tg is) (hs : starEach [a, b] X.env = [(false, eval a X.env), (false, eval b X.env)] := by rfl) (hs2 : starEach [b] X.env = [(false, eval b X.env)] := by rfl) :
    DI X p W tge (.Call (.Name "range" q) [a, b] [] pos) g tg is (rng2 f) := by
  refine PI.imp (pi_range2 hg hm ha hs hs2) fun σ H R h => ?_
  refine LG.mono (LI.bind (R0 := rDs p) h) ?_
  rintro xs H1 ⟨φ1, F1, z1, ds, o1, r1, l1⟩
  by_cases c : ∃ i j, ds = [.int i, .int j] ∧ -(2 ^ 62) ≤ i ∧ i < 2 ^ 62 ∧ -(2 ^ 62) ≤ j ∧ j < 2 ^ 62
  · obtain ⟨i, j, rfl, c⟩ := c
    match xs, r1 with
    | _, .cons (.int _) (.cons (.int _) .nil) =>
      simp only [if_pos c] at l1
      exact ⟨i, j, rfl, ⟨c.1, c.2.1, c.2.2.1, c.2.2.2⟩, l1 φ1 F1 _ H1 o1 Af.refl (jok_range ht)⟩
  · exfalso
    split at l1
    · rename_i i j
      split at l1
      · rename_i cc
        exact c ⟨i, j, rfl, cc⟩
      · exact l1
    · exact l1
/-- enumerate(t) -/
def enumL (ds : List FD.D) : List FD.D := ds.zipIdx.map fun q => .tup [.int (q.2 : Nat), q.1]
def enumT (f : Den (List FD.D)) : Den (List FD.D) := fun z => (f z).bind fun ds z1 => match ds with
  | [.tup es] => .ok (enumL es) z1
  | _ => .stuck
theorem di_enumT {e : Expr} {q pos tpos : Pos} {elts : List Expr} {kk : Nat} {f : Den (List FD.D)} {i j : Nat} (hK : X.K = p.K) (hg : Gl X "enumerate") (hm : X.mg "enumerate" = none) (ha : DA X p W [e] f) (hs : starEach [e] X.env = [(false, eval e X.env)] := by rfl) :
    DI X p W (.Tuple elts kk tpos) (.Call (.Name "enumerate" q) [e] [] pos) (gTup p.K 2 (gNames [i, j])) (tgNames [i, j]) [i, j] (enumT f) := by
  refine PI.imp (pi_enumT hg hm ha hs) fun σ H R h => ?_
  refine LG.mono (LI.bind (R0 := rDs p) h) ?_
  rintro xs H1 ⟨φ1, F1, z1, ds, o1, r1, l1⟩
  by_cases c : ∃ es, ds = [.tup es]
  · obtain ⟨es, rfl⟩ := c
    match xs, r1 with
    | _, .cons (.tup (a := a) (vs := vs) s q) .nil =>
      refine ⟨a, vs, rfl, by rw [hK]; exact sqT_mono o1.sub s.sq, l1 φ1 F1 _ H1 o1 Af.refl ⟨fun F' n H s1 s2 hn => ?_, fun F' n H s1 s2 hn => ?_, fun φ' F' z σ H n d z' s1 p1 o e1 e2 x H' y Q k => ?_⟩⟩
      · have hn' : n < vs.length := by
          unfold enumL at hn
          rw [List.length_map, List.length_zipIdx] at hn
          rw [q.length]; exact hn
        exact ⟨vs, vs[n], by rw [hK]; exact sqT_mono (s1.trans s2) s.sq, List.getElem?_eq_getElem hn'⟩
      · refine ⟨vs, by rw [hK]; exact sqT_mono (s1.trans s2) s.sq, ?_⟩
        unfold enumL at hn
        rw [List.length_map, List.length_zipIdx] at hn
        rw [q.length]; exact hn
      · obtain ⟨T, w, rfl, hT, rfl, y⟩ := y
        unfold enumL at e1
        rw [List.getElem?_map, List.getElem?_zipIdx] at e1
        cases e3 : es[n]? with
        | none => rw [e3] at e1; cases e1
        | some d0 =>
          rw [e3] at e1
          simp only [Option.map_some, Option.some.injEq] at e1
          subst e1
          obtain ⟨v, ev, rv⟩ := (q.mono s1 p1).get e3
          have ex := (y vs (by rw [hK]; exact sqT_mono (s1.trans o.sub) s.sq)).symm.trans ev
          cases ex
          obtain ⟨o2, f2⟩ := o.junk (o := .tup [.int (n : Nat), w]) hT
          have e2' : puts [i, j] [.int ((0 + n : Nat) : Int), d0] z = some z' := e2
          rw [Nat.zero_add] at e2'
          exact ⟨T, _, rfl, .of upd_same, rfl, gNames_put [i, j] o2 (.cons (.int _) (.cons rv .nil)) e2' fun σ2 o3 f3 hw => k _ _ _ _ o3 (f2.trans f3) (hw _ fun _ h => h)⟩
  · exfalso
    split at l1
    · rename_i es
      exact c ⟨es, rfl⟩
    · exact l1
/-! ### for -/
def forL (tg : FD.D → Z → Option Z) (b : Prog) : List FD.D → Prog
  | [], z => .nx z
  | d :: r, z => match tg d z with
    | none => .stuck
    | some z1 => match b z1 with
      | .nx z2 => forL tg b r z2
      | .ct z2 => forL tg b r z2
      | .bk z2 => .nx z2
      | .rt e z2 => .rt e z2
      | .err c e z2 => .err c e z2
      | .stuck => .stuck
def forS (tg : FD.D → Z → Option Z) (f : Den (List FD.D)) (b : Prog) : Prog := fun z => (f z).then fun ds z1 => forL tg b ds z1
theorem ds_for {tge iter : Expr} {body : List Stmt} {pos : Pos} {g : TG} {tg : FD.D → Z → Option Z} {is : List Nat} {f : Den (List FD.D)} {b : Prog} (hp : PassesOwn (model X.prog X.w) X.A X.env X.xe) (hc : X.calm = true) (hi : DI X p W tge iter g tg is f) (hg : PG X tge g) (hb : DSs X p W body b)
    (hs : ∀ x, foldedSetIterable iter X.env x = pure x := by intro _; rfl) : DS X p W (.For tge iter body [] pos) (forS tg f b) := by
  refine PS.imp (ps_for hp hc hi hg hb hs) fun D σ H h => ?_
  obtain ⟨φ, F, z, o, l⟩ := h
  refine ⟨φ, F, z, o, ?_⟩
  unfold forS Res.then at l
  cases e : f z with
  | stuck => rw [e] at l; exact l
  | err c d z' => rw [e] at l; exact fun φ' F' v H' da o f e r => l φ' F' σ v H' da o f e r
  | ok ds z' =>
    rw [e] at l
    show LIat p W g tg is φ F z (.ok ds z') σ H _
    intro φ1 F1 J H1 o1 f1 j1
    refine ⟨fun i m σ H => m = ds.length - i ∧ i ≤ ds.length ∧ ∃ φ F z, Same F1 F ∧ (∃ t, φ = φ1 ++ t) ∧ Ok p φ F z σ H ∧ LSat p W φ F z (forL tg b (ds.drop i) z) σ H D,
      ⟨ds.length, by simp, Nat.zero_le _, φ1, F1, z', Same.refl _, ⟨[], by simp⟩, o1, LSat.shift l f1⟩, ?_⟩
    rintro i m σ2 H2 ⟨rfl, hi, φ2, F2, z2, s2, p2, o2, l2⟩
    by_cases hlt : i < ds.length
    · refine .inr ⟨j1.go F2 i H2 s2 o2.sub hlt, fun σ' H' => i + 1 ≤ ds.length ∧ ∃ φ F z, Same F1 F ∧ (∃ t, φ = φ1 ++ t) ∧ Ok p φ F z σ' H' ∧ LSat p W φ F z (forL tg b (ds.drop (i + 1)) z) σ' H' D,
        fun σ' H' q => ⟨ds.length - (i + 1), by omega, rfl, q.1, q.2⟩, fun x H' y => ?_⟩
      rw [List.drop_eq_getElem_cons hlt] at l2
      unfold forL at l2
      cases e2 : tg ds[i] z2 with
      | none => rw [e2] at l2; exact l2.elim
      | some z3 =>
        rw [e2] at l2
        simp only at l2
        refine j1.step φ2 F2 z2 σ2 H2 i ds[i] z3 s2 p2 o2 (List.getElem?_eq_getElem hlt) e2 x H' y _ fun φ3 F3 σ3 H3 o3 f3 _ => ?_
        refine ⟨φ3, F3, z3, o3, ?_⟩
        have tr : ∃ t, φ3 = φ1 ++ t := by
          obtain ⟨t, rfl⟩ := p2
          obtain ⟨u, hu⟩ := f3.pφ
          exact ⟨t ++ u, by rw [hu, List.append_assoc]⟩
        have again : ∀ {z4 : Z}, LSat p W φ2 F2 z2 (forL tg b (ds.drop (i + 1)) z4) σ2 H2 D → ∀ φ' F' σ' H', Ok p φ' F' z4 σ' H' → Af φ3 F3 z3 σ3 H3 φ' F' z4 σ' H' →
            i + 1 ≤ ds.length ∧ ∃ φ F z, Same F1 F ∧ (∃ t, φ = φ1 ++ t) ∧ Ok p φ F z σ' H' ∧ LSat p W φ F z (forL tg b (ds.drop (i + 1)) z) σ' H' D := fun {z4} l φ' F' σ' H' o' a' =>
          ⟨hlt, φ', F', z4, s2.trans (f3.sF.trans a'.sF), by
            obtain ⟨t, rfl⟩ := tr
            obtain ⟨u, hu⟩ := a'.pφ
            exact ⟨t ++ u, by rw [hu, List.append_assoc]⟩, o', LSat.shift l (f3.trans a')⟩
        cases e3 : b z3 with
        | nx z4 => rw [e3] at l2; exact again l2
        | ct z4 => rw [e3] at l2; exact again l2
        | bk z4 => rw [e3] at l2; exact LSat.shift l2 f3
        | rt d z4 => rw [e3] at l2; exact LSat.shift l2 f3
        | err c d z4 => rw [e3] at l2; exact LSat.shift l2 f3
        | stuck => rw [e3] at l2; exact l2
    · refine .inl ⟨j1.stop F2 i H2 s2 o2.sub (by omega), ?_⟩
      rw [List.drop_eq_nil_of_le (by omega)] at l2
      exact l2 _ _ _ _ o2 Af.refl
end
end FD

set_option Elab.async false
set_option linter.all false
set_option maxRecDepth 100000
set_option maxHeartbeats 1000000
namespace FD
open PySem PySem.Spec PyProof.Rows L2 FDB
section
variable {p : Pm} {X : Cx} {W : WX}
/-! ### a name's own list -/
theorem Ok.ownLst {φ : List Addr} {F : Hp} {z : Z} {σ : L2.St} {H : Hp} (o : Ok p φ F z σ H) {i : Nat} {ds : List FD.D} (e : z.ρ[i]? = some (.lst ds)) : ∃ a vs, σ[i]? = some (some (.ref a)) ∧ H a = some (.lst vs) ∧ Reps p.K φ F vs ds := by
  have hs : i < σ.length := by rw [← o.len]; exact (List.getElem?_eq_some_iff.mp e).1
  obtain ⟨a, vs, e1, e2, r⟩ := o.sl i _ _ e (List.getElem?_eq_getElem hs)
  exact ⟨a, vs, by rw [List.getElem?_eq_getElem hs, e1], e2, r⟩
/-- a new object of its own at a name -/
theorem Ok.newOwn {φ : List Addr} {F : Hp} {z : Z} {σ : L2.St} {H : Hp} (o : Ok p φ F z σ H) {i : Nat} {q : Addr} {s : Sl} {u : HO} (n : H q = none) (hs : s.own = true) (r : SlRep p φ F (upd H q u) s (some (.ref q))) :
    Ok p φ F ⟨z.ρ.set i s, z.S⟩ (σ.set i (some (.ref q))) (upd H q u) ∧ Af φ F z σ H φ F ⟨z.ρ.set i s, z.S⟩ (σ.set i (some (.ref q))) (upd H q u) := by
  obtain ⟨o1, _⟩ := o.junk (o := u) n
  refine ⟨o1.storeOwn upd_same (o.fnone n) (o.not_phi n) (o.not_own n) hs r, Same.refl _, ⟨[], by simp⟩, ?_⟩
  exact o1.storeOwnFr (H0 := H) n fun b v e => by rw [upd_ne (ne_of_none e n)]; exact e
def ownS (i : Nat) (f : Den (List FD.D)) : Prog := fun z => (f z).then fun ds z1 => if short ds.length then .nx ⟨z1.ρ.set i (.lst ds), z1.S⟩ else .stuck
theorem ds_own {i : Nat} {x : Str} {es : List Expr} {pos pos' lp : Pos} {f : Den (List FD.D)} (hN : X.N.Nodup) (he : DA X p W es f) (hi : X.N[i]? = some x := by rfl) (hx : Loc X.env.scope x := by first | exact .inl rfl | exact .inr rfl) (hs : swapsWith (.List es lp) (some (.Name x pos')) pos.line X.env = pure false := by rfl) (hf : X.fn x = true ∨ X.env.scope.names.lookup x = some .local := by first | exact .inl rfl | exact .inr rfl | assumption) :
    DS X p W (.Assign [.Name x pos'] (.List es lp) pos) (ownS i f) := by
  refine PS.imp (ps_set hN hi hx (pe_lst he) hs hf) fun D σ H h => ?_
  obtain ⟨φ, F, z, o, l⟩ := h
  refine LG.mono (LSat.bind (R := rDs p) o l) ?_
  rintro xs H1 ⟨φ1, F1, z1, ds, o1, f1, r1, l1⟩
  cases e : short ds.length with
  | false => simp only [e] at l1; exact l1.elim
  | true =>
    simp only [e, if_true] at l1
    refine ⟨by rw [r1.length]; exact short_line e, fun q hq => ?_⟩
    obtain ⟨o2, f2⟩ := o1.newOwn (i := i) (q := q) (s := .lst ds) (u := .lst xs) hq rfl ⟨q, xs, rfl, upd_same, r1⟩
    exact l1 _ _ _ _ o2 f2
/-- a, b = [], [] -/
def own2S (i j : Nat) : Prog := fun z => .nx ⟨(z.ρ.set i (.lst [])).set j (.lst []), z.S⟩
theorem ds_own2 {i j : Nat} {x y : Str} {px py pt pos l1 l2 : Pos} {kt k2 pt2} (hc : X.calm = true) (hN : X.N.Nodup) (hi : X.N[i]? = some x := by rfl) (hj : X.N[j]? = some y := by rfl) (hij : i ≠ j := by decide)
    (hx : X.env.scope.names.lookup x = some .local := by rfl) (hy : X.env.scope.names.lookup y = some .local := by rfl)
    (h1 : starEach [.List [] l1, .List [] l2] X.env = (false, eval (.List [] l1) X.env) :: starEach [.List [] l2] X.env := by rfl) (h2 : starEach [.List [] l2] X.env = (false, eval (.List [] l2) X.env) :: starEach [] X.env := by rfl)
    (hw : swappedStores [.Tuple [.Name x px, .Name y py] kt pt] (.Tuple [.List [] l1, .List [] l2] k2 pt2) X.env = pure (some [x, y]) := by rfl)
    (hs : swapsWithSole [.Tuple [.Name x px, .Name y py] kt pt] (.Tuple [.List [] l1, .List [] l2] k2 pt2) pos.line X.env = pure false := by rfl) :
    DS X p W (.Assign [.Tuple [.Name x px, .Name y py] kt pt] (.Tuple [.List [] l1, .List [] l2] k2 pt2) pos) (own2S i j) := by
  refine PS.imp (ps_par hc hN hi hj hij hx hy (pa_cons (pe_lst pa_nil) (pa_cons (pe_lst pa_nil) pa_nil h2) h1) hw hs) fun D σ H h => ?_
  obtain ⟨φ, F, z, o, l⟩ := h
  refine ⟨Nat.zero_le _, fun q hq => ⟨Nat.zero_le _, fun t ht => ⟨.ref q, .ref t, rfl, ?_⟩⟩⟩
  obtain ⟨o2, f2⟩ := o.newOwn (i := i) (q := q) (s := .lst []) (u := .lst []) hq rfl ⟨q, [], rfl, upd_same, .nil⟩
  obtain ⟨o3, f3⟩ := o2.newOwn (i := j) (q := t) (s := .lst []) (u := .lst []) ht rfl ⟨t, [], rfl, upd_same, .nil⟩
  exact l _ _ _ _ o3 (f2.trans f3)
/-- the list is handed on for good -/
def varF (i : Nat) : Den FD.D := fun z => match z.ρ[i]? with
  | some (.lst ds) => .ok (.lst ds) ⟨z.ρ.set i (.val (.lst ds)), z.S⟩
  | _ => .stuck
theorem de_varF {i : Nat} {x : Str} {pos : Pos} (hN : X.N[i]? = some x := by rfl) (hv : Vis X.env.scope x := by first | exact Or.inl rfl | exact Or.inr (Or.inl rfl) | exact Or.inr (Or.inr rfl)) (hd : (x == ("__debug__" : Str)) = false := by decide)
    (hcd : (x == ("__classdict__" : Str)) = false := by decide) : DE X p W (.Name x pos) (varF i) := by
  refine PE.imp (pe_var hN hv hd hcd) fun σ H Q h => ?_
  obtain ⟨φ, F, z, o, l⟩ := h
  unfold varF at l
  split at l
  · rename_i ds e
    obtain ⟨a, vs, e1, e2, r⟩ := o.ownLst e
    have fa := (o.fr a ⟨i, _, e, rfl, e1⟩).1
    have s1 : Same F (upd F a (.lst vs)) := fun b u q => by rw [upd_ne (ne_of_none q fa)]; exact q
    have rr : Rep p.K φ (upd F a (.lst vs)) (.ref a) (.lst ds) := .lst upd_same (r.mono s1 ⟨[], by simp⟩)
    obtain ⟨o2, f2⟩ := o.freeze e rfl e1 e2 rr
    exact ⟨.ref a, e1, l _ _ _ _ o2 f2 rr⟩
  · exact l.elim
/-- x.append(e) -/
def appendS (i : Nat) (f : Den FD.D) : Prog := fun z => match z.ρ[i]? with
  | some (.lst _) => (f z).then fun d z1 => match z1.ρ[i]? with
    | some (.lst ds) => if short (ds.length + 1) then .nx ⟨z1.ρ.set i (.lst (ds ++ [d])), z1.S⟩ else .stuck
    | _ => .stuck
  | _ => .stuck
theorem ds_append {i : Nat} {x : Str} {e : Expr} {px apos cpos pos : Pos} {f : Den FD.D} (he : DE X p W e f) (hN : X.N[i]? = some x := by rfl) (hv : Vis X.env.scope x := by first | exact Or.inl rfl | exact Or.inr (Or.inl rfl) | exact Or.inr (Or.inr rfl)) (hd : (x == ("__debug__" : Str)) = false := by decide)
    (hcd : (x == ("__classdict__" : Str)) = false := by decide)
    (hbase : attributeBase (.Name x px) "append" X.env (eval (.Name x px) X.env) = eval (.Name x px) X.env := by rfl)
    (hfew : ((backTo cpos (starEach (e :: []) X.env)).all (fun x => !x.1) && (backToKw cpos (keywordEach [] X.env)).all (fun x => x.1.isSome)
      && decide ((e :: []).length + ([] : List Keyword).length + (if ([] : List Keyword).isEmpty then 0 else 1) < 30)) = true := by rfl)
    (hline : (apos.endLine == cpos.line) = true := by rfl) (hs : starEach (e :: []) X.env = (false, eval e X.env) :: starEach [] X.env := by rfl) (hplain : (backTo cpos (starEach [] X.env)).any (·.1) = false := by rfl)
    (hs2 : swapsWith (.Call (.Attribute (.Name x px) "append" apos) [e] [] cpos) none pos.line X.env = pure false := by rfl) :
    DS X p W (.Expr (.Call (.Attribute (.Name x px) "append" apos) [e] [] cpos) pos) (appendS i f) := by
  refine PS.imp (ps_expr (pe_bm PySem.F.plainAttrs_list PySem.F.slot_list_append PySem.F.type_list_append mt_append (pe_var hN hv hd hcd) (pa_cons he pa_nil hs) hbase hfew hline hs hplain) hs2) fun D σ H h => ?_
  obtain ⟨φ, F, z, o, l⟩ := h
  unfold appendS at l
  split at l
  · rename_i ds e
    obtain ⟨a, vs, e1, e2, r⟩ := o.ownLst e
    refine ⟨.ref a, e1, .inl ⟨rfl, vs, .of e2⟩, ?_⟩
    refine LG.mono (LSat.bind (R := rD p) o l) ?_
    rintro y H1 ⟨φ1, F1, z1, d, o1, f1, r1, l1⟩
    try simp only at l1
    split at l1
    · rename_i ds1 e3
      obtain ⟨a', vs1, e4, e5, r2⟩ := o1.ownLst e3
      rw [e1] at e4
      cases e4
      cases c : short (ds1.length + 1) with
      | false => simp only [c] at l1; exact l1.elim
      | true =>
        simp only [c, if_true] at l1
        refine ⟨a, vs1, y, rfl, rfl, e5, by rw [r2.length]; exact Nat.lt_of_succ_le (short_line c), ?_⟩
        obtain ⟨o2, f2⟩ := o1.setOwn (s' := .lst (ds1 ++ [d])) (o := .lst (vs1 ++ [y])) e3 rfl e1 rfl ⟨a, _, rfl, upd_same, r2.append (.cons r1 .nil)⟩
        exact l1 _ _ _ _ o2 f2
    · exact l1.elim
  · exact l.elim
/-- x.pop(e) -/
def popO (i : Nat) (f : Den FD.D) : Den FD.D := fun z => match z.ρ[i]? with
  | some (.lst _) => (f z).bind fun d z1 => match z1.ρ[i]?, d with
    | some (.lst ds), .int k => if 0 ≤ k ∧ k < ds.length ∧ short ds.length then (match ds[k.toNat]? with
      | some e => .ok e ⟨z1.ρ.set i (.lst (ds.eraseIdx k.toNat)), z1.S⟩
      | none => .stuck) else .stuck
    | _, _ => .stuck
  | _ => .stuck
theorem de_pop {i : Nat} {x : Str} {e : Expr} {px apos cpos : Pos} {f : Den FD.D} (he : DE X p W e f) (hN : X.N[i]? = some x := by rfl) (hv : Vis X.env.scope x := by first | exact Or.inl rfl | exact Or.inr (Or.inl rfl) | exact Or.inr (Or.inr rfl)) (hd : (x == ("__debug__" : Str)) = false := by decide)
    (hcd : (x == ("__classdict__" : Str)) = false := by decide)
    (hbase : attributeBase (.Name x px) "pop" X.env (eval (.Name x px) X.env) = eval (.Name x px) X.env := by rfl)
    (hfew : ((backTo cpos (starEach (e :: []) X.env)).all (fun x => !x.1) && (backToKw cpos (keywordEach [] X.env)).all (fun x => x.1.isSome)
      && decide ((e :: []).length + ([] : List Keyword).length + (if ([] : List Keyword).isEmpty then 0 else 1) < 30)) = true := by rfl)
    (hline : (apos.endLine == cpos.line) = true := by rfl) (hs : starEach (e :: []) X.env = (false, eval e X.env) :: starEach [] X.env := by rfl) (hplain : (backTo cpos (starEach [] X.env)).any (·.1) = false := by rfl) :
    DE X p W (.Call (.Attribute (.Name x px) "pop" apos) [e] [] cpos) (popO i f) := by
  refine PE.imp (pe_bm PySem.F.plainAttrs_list PySem.F.slot_list_pop PySem.F.type_list_pop mt_popAt (pe_var hN hv hd hcd) (pa_cons he pa_nil hs) hbase hfew hline hs hplain) fun σ H Q h => ?_
  obtain ⟨φ, F, z, o, l⟩ := h
  unfold popO at l
  split at l
  · rename_i ds e
    obtain ⟨a, vs, e1, e2, r⟩ := o.ownLst e
    refine ⟨.ref a, e1, .inl ⟨rfl, vs, .of e2⟩, ?_⟩
    refine LG.mono (LGat.bind (R := rD p) o l) ?_
    rintro y H1 ⟨φ1, F1, z1, d, o1, f1, r1, l1⟩
    try simp only at l1
    split at l1
    · rename_i ds1 k e3
      obtain ⟨a', vs1, e4, e5, r2⟩ := o1.ownLst e3
      rw [e1] at e4
      cases e4
      cases r1
      split at l1
      · rename_i c
        split at l1
        · rename_i g e6
          obtain ⟨w, g1, g2⟩ := r2.get e6
          have hl := r2.length
          have hsz := short_line c.2.2
          have h63 := line63
          refine ⟨a, vs1, k, k.toNat, w, rfl, rfl, e5, by omega, by omega, seqIndex_of c.1 (by rw [hl]; exact c.2.1), g1, ?_⟩
          obtain ⟨o2, f2⟩ := o1.setOwn (s' := .lst (ds1.eraseIdx k.toNat)) (o := .lst (vs1.eraseIdx k.toNat)) e3 rfl e1 rfl ⟨a, _, rfl, upd_same, r2.eraseIdx _⟩
          exact l1 _ _ _ _ o2 f2 g2
        · exact l1.elim
      · exact l1.elim
    · exact l1.elim
  · exact l.elim
/-- len(x) -/
def lenO (i : Nat) : Den FD.D := fun z => match z.ρ[i]? with
  | some (.lst ds) => .ok (.int ds.length) z
  | _ => .stuck
theorem de_lenO {i : Nat} {x : Str} {q px pos : Pos} (hg : Gl X "len") (hm : X.mg "len" = none) (hN : X.N[i]? = some x := by rfl) (hv : Vis X.env.scope x := by first | exact Or.inl rfl | exact Or.inr (Or.inl rfl) | exact Or.inr (Or.inr rfl)) (hd : (x == ("__debug__" : Str)) = false := by decide)
    (hcd : (x == ("__classdict__" : Str)) = false := by decide) (he : starEach (.Name x px :: []) X.env = (false, eval (.Name x px) X.env) :: starEach [] X.env := by rfl) (hpl : (backTo pos (starEach [] X.env)).any (·.1) = false := by rfl) :
    DE X p W (.Call (.Name "len" q) [.Name x px] [] pos) (lenO i) := by
  refine PE.imp (pe_callB call_len_seq hg hm PySem.boot_len (pa_cons (pe_var hN hv hd hcd) pa_nil he) (by decide) (by decide) he hpl) fun σ H Q h => ?_
  obtain ⟨φ, F, z, o, l⟩ := h
  unfold lenO at l
  split at l
  · rename_i ds e
    obtain ⟨a, vs, e1, e2, r⟩ := o.ownLst e
    refine ⟨.ref a, e1, a, vs, rfl, .inl (.of e2), ?_⟩
    rw [r.length]
    exact LGat.here (R := rD p) (b := V.int ds.length) l o (show Rep p.K φ F (V.int (ds.length : Int)) (D.int ds.length) from Rep.int _)
  · exact l.elim
/-! ### a name's own dict, int keys -/
theorem Ok.ownDct {φ : List Addr} {F : Hp} {z : Z} {σ : L2.St} {H : Hp} (o : Ok p φ F z σ H) {i : Nat} {ds : List (Key × FD.D)} (e : z.ρ[i]? = some (.dct ds)) : ∃ a vs, σ[i]? = some (some (.ref a)) ∧ H a = some (.dK vs) ∧ RepK p.K φ F vs ds := by
  have hs : i < σ.length := by rw [← o.len]; exact (List.getElem?_eq_some_iff.mp e).1
  obtain ⟨a, vs, e1, e2, r⟩ := o.sl i _ _ e (List.getElem?_eq_getElem hs)
  exact ⟨a, vs, by rw [List.getElem?_eq_getElem hs, e1], e2, r⟩
def dctS (i : Nat) : Prog := fun z => .nx ⟨z.ρ.set i (.dct []), z.S⟩
theorem ds_dct {i : Nat} {x : Str} {pos pos' lp : Pos} (hN : X.N.Nodup) (hi : X.N[i]? = some x := by rfl) (hx : Loc X.env.scope x := by first | exact .inl rfl | exact .inr rfl) (hs : swapsWith (.Dict [] [] lp) (some (.Name x pos')) pos.line X.env = pure false := by rfl) (hf : X.fn x = true ∨ X.env.scope.names.lookup x = some .local := by first | exact .inl rfl | exact .inr rfl | assumption) :
    DS X p W (.Assign [.Name x pos'] (.Dict [] [] lp) pos) (dctS i) := by
  refine PS.imp (ps_set hN hi hx pe_dnewK hs hf) fun D σ H h => ?_
  obtain ⟨φ, F, z, o, l⟩ := h
  intro q hq
  obtain ⟨o2, f2⟩ := o.newOwn (i := i) (q := q) (s := .dct []) (u := .dK []) hq rfl ⟨q, [], rfl, upd_same, .nil⟩
  exact l _ _ _ _ o2 f2
def putD (kvs : List (Key × FD.D)) (k : Key) (d : FD.D) : List (Key × FD.D) :=
  if (kvs.any fun kv => decide (kv.1 = k)) = true then kvs.map (fun kv => if kv.1 = k then (kv.1, d) else kv) else kvs ++ [(k, d)]
theorem RepK.any {φ : List Addr} {F : Hp} {k : Key} : ∀ {vs : List (Key × V)} {ds : List (Key × FD.D)}, RepK p.K φ F vs ds → (vs.any fun kv => decide (kv.1 = k)) = ds.any fun kv => decide (kv.1 = k)
  | _, _, .nil => rfl
  | _, _, .cons h r => by
    rw [List.any_cons, List.any_cons, h.1]
    congr 1
    exact RepK.any r
theorem RepK.put {φ : List Addr} {F : Hp} {k : Key} {v : V} {d : FD.D} {vs : List (Key × V)} {ds : List (Key × FD.D)} (r : RepK p.K φ F vs ds) (h : Rep p.K φ F v d) : RepK p.K φ F (putK vs k v) (putD ds k d) := by
  unfold putK putD
  rw [r.any]
  split
  · have m : ∀ {vs : List (Key × V)} {ds : List (Key × FD.D)}, RepK p.K φ F vs ds → RepK p.K φ F (vs.map fun kv => if kv.1 = k then (kv.1, v) else kv) (ds.map fun kv => if kv.1 = k then (kv.1, d) else kv) := by
      intro vs ds r
      induction r with
      | nil => exact .nil
      | @cons a b _ _ q _ ih =>
        refine .cons ?_ ih
        by_cases c : b.1 = k
        · have c' : a.1 = k := q.1.trans c
          simp only [c, c', if_true]
          exact ⟨trivial, h⟩
        · have c' : ¬ a.1 = k := fun e => c (q.1.symm.trans e)
          simp only [c, c', if_false]
          exact q
    exact m r
  · have m : ∀ {vs : List (Key × V)} {ds : List (Key × FD.D)}, RepK p.K φ F vs ds → RepK p.K φ F (vs ++ [(k, v)]) (ds ++ [(k, d)]) := by
      intro vs ds r
      induction r with
      | nil => exact .cons ⟨rfl, h⟩ .nil
      | cons q _ ih => exact .cons q ih
    exact m r
theorem RepK.length {φ : List Addr} {F : Hp} {vs : List (Key × V)} {ds : List (Key × FD.D)} (r : RepK p.K φ F vs ds) : vs.length = ds.length := PySem.Paired.length r
theorem RepK.keys {φ : List Addr} {F : Hp} : ∀ {vs : List (Key × V)} {ds : List (Key × FD.D)}, RepK p.K φ F vs ds → vs.map (·.1) = ds.map (·.1)
  | _, _, .nil => rfl
  | _, _, .cons h r => by rw [List.map_cons, List.map_cons, h.1, RepK.keys r]
/-- x[k] = e -/
def dputS (i : Nat) (f g : Den FD.D) : Prog := fun z => (f z).then fun d z1 => match z1.ρ[i]? with
  | some (.dct _) => (g z1).then fun k z2 => match z2.ρ[i]?, k with
    | some (.dct kvs), .int n => if short (kvs.length + 1) then .nx ⟨z2.ρ.set i (.dct (putD kvs (.inl n) d)), z2.S⟩ else .stuck
    | _, _ => .stuck
  | _ => .stuck
theorem ds_dput {i : Nat} {x : Str} {k e : Expr} {px pos pos' : Pos} {f g : Den FD.D} (hu : X.A.units + 1 < cLine) (he : DE X p W e f) (hk : DE X p W k g) (hN : X.N[i]? = some x := by rfl) (hv : Vis X.env.scope x := by first | exact Or.inl rfl | exact Or.inr (Or.inl rfl) | exact Or.inr (Or.inr rfl)) (hd : (x == ("__debug__" : Str)) = false := by decide)
    (hcd : (x == ("__classdict__" : Str)) = false := by decide) (hs : swapsWith e (some (.Subscript (.Name x px) k pos')) pos.line X.env = pure false := by rfl) :
    DS X p W (.Assign [.Subscript (.Name x px) k pos'] e pos) (dputS i f g) := by
  refine PS.imp (ps_dput hu (pe_var hN hv hd hcd) hk he hs) fun D σ H h => ?_
  obtain ⟨φ, F, z, o, l⟩ := h
  refine LG.mono (LSat.bind (R := rD p) o l) ?_
  rintro v H1 ⟨φ1, F1, z1, d, o1, f1, r1, l1⟩
  try simp only at l1
  split at l1
  · rename_i kvs e
    obtain ⟨a, vs, e1, e2, r⟩ := o1.ownDct e
    refine ⟨.ref a, e1, ?_⟩
    refine LG.mono (LSat.bind (R := rD p) o1 l1) ?_
    rintro y H2 ⟨φ2, F2, z2, d2, o2, f2, r2, l2⟩
    try simp only at l2
    split at l2
    · rename_i kvs2 n e3
      obtain ⟨a', vs2, e4, e5, rk⟩ := o2.ownDct e3
      rw [e1] at e4
      cases e4
      cases r2
      split at l2
      · rename_i c
        obtain ⟨o3, f3⟩ := o2.setOwn (s' := .dct (putD kvs2 (.inl n) d)) (o := .dK (putK vs2 (.inl n) v)) e3 rfl e1 rfl ⟨a, _, rfl, upd_same, rk.put (f2.rep r1)⟩
        exact ⟨a, _, rfl, DPut.k (k := .inl n) e5 (by rw [rk.length]; exact Nat.lt_of_succ_le (short_line c)), l2 _ _ _ _ o3 f3⟩
      · exact l2.elim
    · exact l2.elim
  · exact l1.elim
/-- sorted(x) of int keys -/
def keysI : List (Key × FD.D) → Option (List Int)
  | [] => some []
  | (.inl n, _) :: r => (keysI r).map (n :: ·)
  | _ => none
theorem keysI_eq : ∀ {kvs : List (Key × FD.D)} {ns : List Int}, keysI kvs = some ns → kvs.map (·.1) = ns.map Sum.inl
  | [], _, h => by cases h; rfl
  | (.inl n, _) :: r, _, h => by
    unfold keysI at h
    simp only [Option.map_eq_some_iff] at h
    obtain ⟨ms, h1, h2⟩ := h
    subst h2
    rw [List.map_cons, List.map_cons, keysI_eq h1]
  | (.inr _, _) :: _, _, h => by simp [keysI] at h
def sortDct (i : Nat) : Den FD.D := fun z => match z.ρ[i]? with
  | some (.dct kvs) => match keysI kvs with
    | some ns => if ns.length < 64 then .ok (.lst ((sortI ns).map .int)) z else .stuck
    | none => .stuck
  | _ => .stuck
theorem de_sortDct {i : Nat} {x : Str} {q px pos : Pos} (hc : X.calm = true) (hg : Gl X "sorted") (hm : X.mg "sorted" = none) (hN : X.N[i]? = some x := by rfl) (hv : Vis X.env.scope x := by first | exact Or.inl rfl | exact Or.inr (Or.inl rfl) | exact Or.inr (Or.inr rfl)) (hd : (x == ("__debug__" : Str)) = false := by decide)
    (hcd : (x == ("__classdict__" : Str)) = false := by decide) (he : starEach (.Name x px :: []) X.env = (false, eval (.Name x px) X.env) :: starEach [] X.env := by rfl) (hpl : (backTo pos (starEach [] X.env)).any (·.1) = false := by rfl) :
    DE X p W (.Call (.Name "sorted" q) [.Name x px] [] pos) (sortDct i) := by
  refine PE.imp (pe_callB (call_sortedDI hc) hg hm (by decide +kernel) (pa_cons (pe_var hN hv hd hcd) pa_nil he) (by decide) (by decide) he hpl) fun σ H Q h => ?_
  obtain ⟨φ, F, z, o, l⟩ := h
  unfold sortDct at l
  split at l
  · rename_i kvs e
    obtain ⟨a, vs, e1, e2, r⟩ := o.ownDct e
    split at l
    · rename_i ns ek
      split at l
      · rename_i c
        refine ⟨.ref a, e1, a, vs, ns, rfl, .of e2, by rw [r.keys]; exact keysI_eq ek, c, fun ms t h1 h2 ht => ?_⟩
        have em : ms = sortI ns := sorted_unique (h1.trans (sortI_perm ns).symm) h2 (sortI_sorted ns)
        subst em
        obtain ⟨o2, f2⟩ := o.alloc (o := .lst ((sortI ns).map V.int)) ht
        exact l _ _ _ _ o2 f2 (.lst upd_same (Reps.of_ints _))
      · exact l.elim
    · exact l.elim
  · exact l.elim
/-! ### a name's own set of ints -/
theorem Ok.ownSet {φ : List Addr} {F : Hp} {z : Z} {σ : L2.St} {H : Hp} (o : Ok p φ F z σ H) {i : Nat} {ns : List Int} (e : z.ρ[i]? = some (.set ns)) : ∃ a, σ[i]? = some (some (.ref a)) ∧ H a = some (SetO p.w a (fun i => decide (i ∈ ns)) ns.length) ∧ ns.Nodup := by
  have hs : i < σ.length := by rw [← o.len]; exact (List.getElem?_eq_some_iff.mp e).1
  obtain ⟨a, e1, e2, r⟩ := o.sl i _ _ e (List.getElem?_eq_getElem hs)
  exact ⟨a, by rw [List.getElem?_eq_getElem hs, e1], e2, r⟩
def setNewS (i : Nat) : Prog := fun z => .nx ⟨z.ρ.set i (.set []), z.S⟩
theorem ds_setNew {i : Nat} {x : Str} {pos pos' q cp : Pos} (hW : X.w = p.w) (hN : X.N.Nodup) (hg : Gl X "set") (hm : X.mg "set" = none) (hi : X.N[i]? = some x := by rfl) (hx : Loc X.env.scope x := by first | exact .inl rfl | exact .inr rfl) (hs : swapsWith (.Call (.Name "set" q) [] [] cp) (some (.Name x pos')) pos.line X.env = pure false := by rfl) (hf : X.fn x = true ∨ X.env.scope.names.lookup x = some .local := by first | exact .inl rfl | exact .inr rfl | assumption) :
    DS X p W (.Assign [.Name x pos'] (.Call (.Name "set" q) [] [] cp) pos) (setNewS i) := by
  refine PS.imp (ps_set hN hi hx (pe_callTy0 cr_set0 hg hm (by decide +kernel)) hs hf) fun D σ H h => ?_
  obtain ⟨φ, F, z, o, l⟩ := h
  refine ⟨rfl, fun q hq => ?_⟩
  rw [hW]
  have e0 : (fun _ : Int => false) = fun i : Int => decide (i ∈ ([] : List Int)) := by funext i; simp
  obtain ⟨o2, f2⟩ := o.newOwn (i := i) (q := q) (s := .set []) (u := SetO p.w q (fun _ => false) 0) hq rfl ⟨q, rfl, by rw [upd_same, e0]; rfl, .nil⟩
  exact l _ _ _ _ o2 f2
def addSetS (i : Nat) (f : Den FD.D) : Prog := fun z => match z.ρ[i]? with
  | some (.set _) => (f z).then fun d z1 => match z1.ρ[i]?, d with
    | some (.set ns), .int n => if ns.length < 1000 then .nx ⟨z1.ρ.set i (.set (if n ∈ ns then ns else ns ++ [n])), z1.S⟩ else .stuck
    | _, _ => .stuck
  | _ => .stuck
theorem ds_addSet {i : Nat} {x : Str} {e : Expr} {px apos cpos pos : Pos} {f : Den FD.D} (hW : X.w = p.w) (he : DE X p W e f) (hN : X.N[i]? = some x := by rfl) (hv : Vis X.env.scope x := by first | exact Or.inl rfl | exact Or.inr (Or.inl rfl) | exact Or.inr (Or.inr rfl)) (hd : (x == ("__debug__" : Str)) = false := by decide)
    (hcd : (x == ("__classdict__" : Str)) = false := by decide)
    (hbase : attributeBase (.Name x px) "add" X.env (eval (.Name x px) X.env) = eval (.Name x px) X.env := by rfl)
    (hfew : ((backTo cpos (starEach (e :: []) X.env)).all (fun x => !x.1) && (backToKw cpos (keywordEach [] X.env)).all (fun x => x.1.isSome)
      && decide ((e :: []).length + ([] : List Keyword).length + (if ([] : List Keyword).isEmpty then 0 else 1) < 30)) = true := by rfl)
    (hline : (apos.endLine == cpos.line) = true := by rfl) (hs : starEach (e :: []) X.env = (false, eval e X.env) :: starEach [] X.env := by rfl) (hplain : (backTo cpos (starEach [] X.env)).any (·.1) = false := by rfl)
    (hs2 : swapsWith (.Call (.Attribute (.Name x px) "add" apos) [e] [] cpos) none pos.line X.env = pure false := by rfl) :
    DS X p W (.Expr (.Call (.Attribute (.Name x px) "add" apos) [e] [] cpos) pos) (addSetS i f) := by
  refine PS.imp (ps_expr (pe_sadd (pe_var hN hv hd hcd) (pa_cons he pa_nil hs) hbase hfew hline hs hplain) hs2) fun D σ H h => ?_
  obtain ⟨φ, F, z, o, l⟩ := h
  unfold addSetS at l
  split at l
  · rename_i ns e
    obtain ⟨a, e1, e2, nd⟩ := o.ownSet e
    refine ⟨.ref a, e1, ⟨a, _, _, rfl, by rw [hW]; exact e2⟩, ?_⟩
    refine LG.mono (LSat.bind (R := rD p) o l) ?_
    rintro y H1 ⟨φ1, F1, z1, d, o1, f1, r1, l1⟩
    try simp only at l1
    split at l1
    · rename_i ns1 n e3
      obtain ⟨a', e4, e5, nd1⟩ := o1.ownSet e3
      rw [e1] at e4
      cases e4
      cases r1
      split at l1
      · rename_i c
        refine ⟨a, n, _, _, rfl, rfl, by rw [hW]; exact e5, by unfold scanBound; omega, ?_⟩
        rw [hW]
        have e0 : (fun j : Int => decide (j ∈ ns1) || decide (j = n)) = fun j => decide (j ∈ (if n ∈ ns1 then ns1 else ns1 ++ [n])) := by
          funext j
          by_cases hn : n ∈ ns1
          · rw [if_pos hn]
            by_cases hj : j = n
            · subst hj; simp [hn]
            · simp [hj]
          · rw [if_neg hn]
            simp [List.mem_append]
        have e6 : (if decide (n ∈ ns1) = true then ns1.length else ns1.length + 1) = (if n ∈ ns1 then ns1 else ns1 ++ [n]).length := by
          by_cases hn : n ∈ ns1 <;> simp [hn]
        have nd2 : (if n ∈ ns1 then ns1 else ns1 ++ [n]).Nodup := by
          by_cases hn : n ∈ ns1
          · rw [if_pos hn]; exact nd1
          · rw [if_neg hn]
            rw [List.nodup_append]
            exact ⟨nd1, by simp, fun a ha b hb => by
              rw [List.mem_singleton] at hb
              subst hb
              exact fun e => hn (e ▸ ha)⟩
        simp only [e0, e6]
        obtain ⟨o2, f2⟩ := o1.setOwn (s' := .set (if n ∈ ns1 then ns1 else ns1 ++ [n])) (o := SetO p.w a (fun j => decide (j ∈ (if n ∈ ns1 then ns1 else ns1 ++ [n]))) (if n ∈ ns1 then ns1 else ns1 ++ [n]).length) e3 rfl e1 rfl ⟨a, rfl, upd_same, nd2⟩
        exact l1 _ _ _ _ o2 f2
      · exact l1.elim
    · exact l1.elim
  · exact l.elim
/-- e in x -/
def inSet (i : Nat) (f : Den FD.D) : Den FD.D := fun z => (f z).bind fun d z1 => match z1.ρ[i]?, d with
  | some (.set ns), .int n => .ok (.bl (decide (n ∈ ns))) z1
  | _, _ => .stuck
theorem de_inSet {i : Nat} {x : Str} {e : Expr} {px pos : Pos} {f : Den FD.D} (hW : X.w = p.w) (he : DE X p W e f) (hN : X.N[i]? = some x := by rfl) (hv : Vis X.env.scope x := by first | exact Or.inl rfl | exact Or.inr (Or.inl rfl) | exact Or.inr (Or.inr rfl)) (hd : (x == ("__debug__" : Str)) = false := by decide)
    (hcd : (x == ("__classdict__" : Str)) = false := by decide) (hm : behindInMarks .In (.Name x px) = false := by rfl) : DE X p W (.Compare e [.In] [.Name x px] pos) (inSet i f) := by
  refine PE.imp (pe_cmpR or_sin he (pe_var hN hv hd hcd) hm) fun σ H Q h => ?_
  obtain ⟨φ, F, z, o, l⟩ := h
  refine LG.mono (LGat.bind (R := rD p) o l) ?_
  rintro y H1 ⟨φ1, F1, z1, d, o1, f1, r1, l1⟩
  try simp only at l1
  split at l1
  · rename_i ns n e
    obtain ⟨a, e1, e2, nd⟩ := o1.ownSet e
    cases r1
    exact ⟨.ref a, e1, n, a, _, _, rfl, rfl, by rw [hW]; exact e2, LGat.here (R := rD p) (b := V.bl (decide (n ∈ ns))) l1 o1 (show Rep p.K φ1 F1 (V.bl (decide (n ∈ ns))) (D.bl (decide (n ∈ ns))) from Rep.bl _)⟩
  · exact l1.elim
end
end FD

set_option Elab.async false
set_option linter.all false
set_option maxRecDepth 100000
set_option maxHeartbeats 1000000
namespace FD
open PySem PySem.Spec PyProof.Rows L2 FDB
/-! ### calls of the text's own functions -/
inductive FR where
  | ok (d : FD.D) (S : List (List FD.D)) | err (c : Str) (d : FD.D) (S : List (List FD.D)) | stuck
abbrev FnD := List FD.D → List (List FD.D) → FR
section
variable {p : Pm} {φ φ1 φ2 : List Addr} {F F1 F2 : Hp} {z z1 z2 : Z} {σ σ1 σ2 : L2.St} {H H1 H2 : Hp}
theorem no_own {a : Addr} : ¬ ownAt [] σ a := fun ⟨i, s, h, _⟩ => by simp at h
/-- without the names -/
theorem Ok.drop (o : Ok p φ F z σ H) : Ok p φ F ⟨[], z.S⟩ [] H where
  sub := o.sub
  len := rfl
  sl := fun i s v h => by simp at h
  fr := fun a h => absurd h no_own
  ap := fun i j s t a h => by simp at h
  ph := o.ph
  phl := o.phl
  phn := o.phn
/-- into a body: the parameters' values -/
theorem no_own_start {ds : List FD.D} {n : Nat} {a : Addr} : ¬ ownAt (ds.map Sl.val ++ List.replicate n Sl.un) σ a := fun ⟨i, s, h, ho, _⟩ => by
  have m := List.mem_of_getElem? h
  rcases List.mem_append.mp m with m | m
  · obtain ⟨d, _, rfl⟩ := List.mem_map.mp m
    cases ho
  · obtain ⟨_, rfl⟩ := List.mem_replicate.mp m
    cases ho
theorem Ok.enter {S : List (List FD.D)} {vs : List V} {ds : List FD.D} {n : Nat} (o : Ok p φ F ⟨[], S⟩ [] H) (r : Reps p.K φ F vs ds) :
    Ok p φ F ⟨ds.map Sl.val ++ List.replicate n Sl.un, S⟩ (vs.map some ++ List.replicate n none) H where
  sub := o.sub
  len := by simp [r.length]
  sl := fun i s v h1 h2 => by
    by_cases hi : i < ds.length
    · rw [List.getElem?_append_left (by simpa using hi), List.getElem?_map] at h1
      rw [List.getElem?_append_left (by simpa [r.length] using hi), List.getElem?_map] at h2
      cases e : ds[i]? with
      | none => rw [e] at h1; cases h1
      | some d =>
        rw [e] at h1
        obtain ⟨u, e1, e2⟩ := r.get e
        rw [e1] at h2
        cases h1; cases h2
        exact ⟨u, rfl, e2⟩
    · rw [List.getElem?_append_right (by simpa using hi)] at h1
      have m := List.mem_of_getElem? h1
      obtain ⟨_, rfl⟩ := List.mem_replicate.mp m
      trivial
  fr := fun a h => absurd h no_own_start
  ap := fun i j s t a h1 h2 o1 o2 h3 h4 => absurd ⟨i, s, h1, o1, h3⟩ no_own_start
  ph := o.ph
  phl := o.phl
  phn := o.phn
/-- back at the caller -/
theorem Ok.back {S' : List (List FD.D)} (o : Ok p φ F z σ H) (o1 : Ok p φ1 F1 ⟨[], S'⟩ [] H1) (a : Af φ F ⟨[], z.S⟩ [] H φ1 F1 ⟨[], S'⟩ [] H1) : Ok p φ1 F1 ⟨z.ρ, S'⟩ σ H1 ∧ Af φ F z σ H φ1 F1 ⟨z.ρ, S'⟩ σ H1 := by
  have k : ∀ a, ownAt z.ρ σ a → ∃ u, H a = some u ∧ H1 a = some u ∧ F1 a = none ∧ a ∉ φ1 := fun b hb => by
    obtain ⟨u, e⟩ := o.own_some hb
    obtain ⟨f1, f2⟩ := o.fr b hb
    obtain ⟨g1, g2, g3, _⟩ := a.out b u e f1 f2 no_own
    exact ⟨u, e, g1, g2, g3⟩
  refine ⟨⟨o1.sub, o.len, fun i s v h1 h2 => ?_, fun b hb => ?_, o.ap, o1.ph, o1.phl, o1.phn⟩, a.sF, a.pφ, fun b u h1 h2 h3 h4 => ?_⟩
  · refine (o.sl i s v h1 h2).mono a.sF a.pφ fun ho b eb u hu => ?_
    subst eb
    obtain ⟨u', e1, e2, _⟩ := k b ⟨i, s, h1, ho, h2⟩
    rw [hu] at e1; cases e1
    exact e2
  · obtain ⟨_, _, _, e3, e4⟩ := k b hb
    exact ⟨e3, e4⟩
  · obtain ⟨g1, g2, g3, _⟩ := a.out b u h1 h2 h3 no_own
    exact ⟨g1, g2, g3, h4⟩
/-- from the body's start to its end, without the names -/
theorem Af.drop {S' : List (List FD.D)} (hz : ∀ a, ¬ ownAt z.ρ σ a) (a : Af φ F z σ H φ1 F1 z1 σ1 H1) : Af φ F ⟨[], z.S⟩ [] H φ1 F1 ⟨[], z1.S⟩ [] H1 :=
  ⟨a.sF, a.pφ, fun b u h1 h2 h3 _ => by
    obtain ⟨g1, g2, g3, _⟩ := a.out b u h1 h2 h3 (hz b)
    exact ⟨g1, g2, g3, no_own⟩⟩
end
/-- the promise of a function that computes fd -/
def FRat (p : Pm) (φ : List Addr) (F : Hp) (S : List (List FD.D)) (H : Hp) (r : FR) (Q : VK) (E : XK) : Prop := match r with
  | .ok d S' => ∀ φ' F' v H', Ok p φ' F' ⟨[], S'⟩ [] H' → Af φ F ⟨[], S⟩ [] H φ' F' ⟨[], S'⟩ [] H' → Rep p.K φ' F' v d → Q v H'
  | .err c d S' => ∀ φ' F' v H' da, Ok p φ' F' ⟨[], S'⟩ [] H' → Af φ F ⟨[], S⟩ [] H φ' F' ⟨[], S'⟩ [] H' → H' da = some (.xd [(("what" : Str), v)]) → Rep p.K φ' F' v d → E (.ref (p.cls c)) (some da) H'
  | .stuck => False
def spF (p : Pm) (n : Nat) (fd : FnD) : Sp := fun vs H Q E => vs.length = n ∧ ∃ φ F S ds, Ok p φ F ⟨[], S⟩ [] H ∧ Reps p.K φ F vs ds ∧ FRat p φ F S H (fd ds S) Q E
/-- n names, k of them parameters -/
def Fl.fr : Fl → FR
  | .nx z => .ok .non z.S
  | .rt d z => .ok d z.S
  | .err c d z => .err c d z.S
  | _ => .stuck
def fnD (n : Nat) (b : Prog) : FnD := fun ds S => (b ⟨ds.map Sl.val ++ List.replicate (n - ds.length) Sl.un, S⟩).fr
section
variable {p : Pm}
theorem fn_start {N : List Str} {n k : Nat} {b : Prog} {vs : List V} {H : Hp} {Q : VK} {E : XK} (hn : N.length = n) (h : spF p k (fnD n b) vs H Q E) :
    LS p (fun cls d _ H => E cls d H) b { nx := fun _ H' => Q .non H', rt := Q } (L2.start N vs) H := by
  obtain ⟨hl, φ, F, S, ds, o, r, q⟩ := h
  have e : L2.start N vs = vs.map some ++ List.replicate (n - ds.length) none := by
    unfold L2.start
    rw [hn, r.length]
  rw [e]
  refine ⟨φ, F, _, o.enter (n := n - ds.length) r, ?_⟩
  unfold fnD at q
  have hz : ∀ a, ¬ ownAt (ds.map Sl.val ++ List.replicate (n - ds.length) Sl.un) (vs.map some ++ List.replicate (n - ds.length) none) a := fun _ => no_own_start
  cases eb : b ⟨ds.map Sl.val ++ List.replicate (n - ds.length) Sl.un, S⟩ with
  | nx z =>
    rw [eb] at q
    exact fun φ' F' σ' H' o' a' => q φ' F' .non H' o'.drop (Af.drop (S' := S) hz a') .non
  | rt d z =>
    rw [eb] at q
    exact fun φ' F' σ' v H' o' a' r' => q φ' F' v H' o'.drop (Af.drop (S' := S) hz a') r'
  | err c d z =>
    rw [eb] at q
    exact fun φ' F' σ' v H' da o' a' e' r' => q φ' F' v H' da o'.drop (Af.drop (S' := S) hz a') e' r'
  | bk z => rw [eb] at q; exact q.elim
  | ct z => rw [eb] at q; exact q.elim
  | stuck => rw [eb] at q; exact q.elim
theorem spF_len {k : Nat} {fd : FnD} (vs : List V) (H : Hp) (Q : VK) (E : XK) (h : spF p k fd vs H Q E) : vs.length = k := h.1
variable {P : Program} {w : World} {K : PySem.W.Frag} {mg : Str → Option Value} {base : Heap}
abbrev WB (E : XK) : WX := fun cls d _ H => E cls d H
/-- a def's promise, by its body -/
theorem fn_okX {x qual : Str} {st : Stmt} {f : Addr} {fd : FuncData} {N ps : List Str} {k n m : Nat} {b : Prog} (F : Fun K x qual st f fd) (S : FnScope N ps (defScope st)) (hn : N.length = n) (hm : ps.length = m)
    (hb : ∀ (cdv : Value) (A : Around) (outer : List Env) (s : Shared) (H : Hp) (E : XK), Room k (A.deeper (envOfC qual (defScope st) s.heap.objs.size f cdv)) →
      DSs (cxOf (L2.CX P w) P w K mg base N qual (defScope st) f cdv A outer s H E) p (WB E) (defBody st) b) : FnOk P w K mg base (L2.CX P w) (k + 1) f fd ps (spF p m (fnD n b)) := by
  refine F.okX S (fun vs H Q E h => by rw [hm]; exact spF_len vs H Q E h) (fun cdv A outer s H vs Q E hr h => ⟨_, hb cdv A outer s H E hr, fn_start hn h⟩)
/-! ### the call -/
def FR.den (r : FR) (z : Z) : Res FD.D := match r with
  | .ok d S => .ok d ⟨z.ρ, S⟩
  | .err c d S => .err c d ⟨z.ρ, S⟩
  | .stuck => .stuck
def callF (fd : FnD) (f : Den (List FD.D)) : Den FD.D := fun z => (f z).bind fun ds z1 => (fd ds z1.S).den z1
theorem frat_of {W : WX} {φ : List Addr} {F : Hp} {z : Z} {σ : L2.St} {H : Hp} {Q : VK} {r : FR} (o : Ok p φ F z σ H) (l : LGat p W (rD p) φ F z (r.den z) σ H Q) : FRat p φ F z.S H r Q (fun cls d H => W cls d σ H) := by
  cases r with
  | ok d S =>
    intro φ' F' v H' o' a' r'
    obtain ⟨o2, a2⟩ := o.back o' a'
    exact l _ _ _ _ o2 a2 r'
  | err c d S =>
    intro φ' F' v H' da o' a' e' r'
    obtain ⟨o2, a2⟩ := o.back o' a'
    exact l _ _ _ _ da o2 a2 e' r'
  | stuck => exact l.elim
variable {X : Cx} {W : WX}
def LenA (h : Den (List FD.D)) (n : Nat) : Prop := ∀ z ds z1, h z = .ok ds z1 → ds.length = n
theorem lenA_nil : LenA nilA 0 := fun z ds z1 e => by cases e; rfl
theorem lenA_cons {f : Den FD.D} {g : Den (List FD.D)} {n : Nat} (h : LenA g n) : LenA (consA f g) (n + 1) := fun z ds z1 e => by
  unfold consA at e
  cases e1 : f z with
  | ok d z2 =>
    rw [e1] at e
    simp only [Res.bind] at e
    cases e2 : g z2 with
    | ok es z3 =>
      rw [e2] at e
      simp only [Res.ok.injEq] at e
      rw [← e.1, List.length_cons, h _ _ _ e2]
    | err c d z3 => rw [e2] at e; cases e
    | stuck => rw [e2] at e; cases e
  | err c d z2 => rw [e1] at e; cases e
  | stuck => rw [e1] at e; cases e
theorem de_call {x : Str} {q pos : Pos} {e : Expr} {es : List Expr} {f : Addr} {fd : FuncData} {ps : List Str} {k m : Nat} {g : FnD} {h : Den (List FD.D)} (Fo : FnOk X.prog X.w X.K X.mg X.base (L2.CX X.prog X.w) k f fd ps (spF p m g)) (hr : Room k X.A) (hm : X.mg x = some (.ref f)) (hk : PySem.W.keepIn X.K (.ref f) = true) (hb : Binds X.K fd ps [])
    (tk : Takes X W) (ha : DA X p W (e :: es) h) (hlen : LenA h m := by repeat first | exact lenA_nil | refine lenA_cons ?_) (hg : Gl X x := by rfl) (hdb : (x == ("__debug__" : Str)) = false := by decide) (he : starEach (e :: es) X.env = (false, eval e X.env) :: starEach es X.env := by rfl) (hpl : (backTo pos (starEach es X.env)).any (·.1) = false := by rfl) :
    DE X p W (.Call (.Name x q) (e :: es) [] pos) (callF g h) := by
  refine PE.imp (pe_callS Fo hr hg hm hk hb (fun σ => passAt tk σ) ha hdb he hpl) fun σ H Q hq => ?_
  obtain ⟨φ, F, z, o, l⟩ := hq
  have l' : LGat p W (rD p) φ F z ((h z).bind fun ds z1 => (g ds z1.S).den z1) σ H Q := l
  refine ⟨φ, F, z, o, ?_⟩
  cases eh : h z with
  | stuck => rw [eh] at l'; exact l'
  | err c d z' => rw [eh] at l'; exact l'
  | ok ds z' =>
    rw [eh] at l'
    intro φ' F' vs H' o' a' r'
    exact ⟨by rw [r'.length]; exact hlen _ _ _ eh, φ', F', z'.S, ds, o'.drop, r', frat_of o' (LGat.shift l' a')⟩
end
end FD

set_option Elab.async false
set_option linter.all false
set_option maxRecDepth 100000
set_option maxHeartbeats 1000000
namespace FD
open PySem PySem.Spec PyProof.Rows L2 FDB
/-! ### calls by keywords in the parameters' order -/
structure KB (K : PySem.W.Frag) (fd : FuncData) (ps : List Str) (n : Nat) (ks : List Str) : Prop where
  to : ∀ (s : Shared) (us ws : List Value), K.In s.heap → us.length = n → ws.length = ks.length → BindsTo s fd ⟨us, ks.zip ws⟩ (ps.zip (us ++ ws))
theorem KB.mk' {K : PySem.W.Frag} {x qual : Str} {st : Stmt} {f : Addr} {fd : FuncData} {ps ks : List Str} {n : Nat} (F : Fun K x qual st f fd)
    (h : ∀ (kV doc pm : Value) (an : Option Addr) (cdv ct : Value) (us ws : List Value), us.length = n → ws.length = ks.length → bindArgs (PySem.W.fnOf x qual (defArgs st) (defBody st) (defScope st) .none kV doc pm an cdv ct) ⟨us, ks.zip ws⟩ = pure (ps.zip (us ++ ws))) : KB K fd ps n ks := by
  obtain ⟨oc, od, kV, doc, pm, an, cdv, ct, osl, rfl, lk, hcd⟩ := F.ex
  exact ⟨fun s us ws _ h1 h2 => .of_eq (h kV doc pm an cdv ct us ws h1 h2)⟩
section
variable {X : Cx} {CX : CXT} {k n : Nat} {f C : Addr} {fd : FuncData} {ps ks : List Str} {sp : Sp} {E : L2.St → XK} {x : Str} {q pos : Pos} {e : Expr} {es : List Expr} {kws : List Keyword} {t tk : TA}
theorem run_fnKS {pins : List (Addr × Obj)} {σ : L2.St} {H : Hp} {s : Shared} {Q : VK} {us ws : List Value} {vs zs : List V} (F : FnOk X.prog X.w X.K X.mg X.base CX k f fd ps sp) (hr : Room k X.A) (hb : KB X.K fd ps n ks) (hx : PassesAt CX X σ (E σ))
    (I : Inv X pins σ H s) (r : Vals vs us) (rz : Vals zs ws) (l1 : vs.length = n) (l2 : zs.length = ks.length) (h : sp (vs ++ zs) H Q (E σ)) : wpAny (model X.prog X.w) X.A (call (.ref f) us (ks.zip ws)) (EP X pins σ Q) X.xe s := by
  refine wpAny_call (codeAny_mono (F.run X.A X.stack s H ⟨us, ks.zip ws⟩ (us ++ ws) (vs ++ zs) Q (E σ) hr I.env0 (hb.to s us ws I.kIn (r.length.symm.trans l1) (rz.length.symm.trans l2)) (r.append rz) h) fun r s' hq => ?_)
  cases r with
  | error e => exact hx pins H s e s' I hq
  | ok fl =>
    cases fl with
    | ret u => exact I.after hq
    | next => exact False.elim hq
    | brk => exact False.elim hq
    | cont => exact False.elim hq
def tCallKS (n m : Nat) (sp : Sp) (E : L2.St → XK) (t tk : TA) : TE := fun σ H Q => t σ H fun vs H1 => tk σ H1 fun zs H2 => vs.length = n ∧ zs.length = m ∧ sp (vs ++ zs) H2 Q (E σ)
theorem pe_callKS (F : FnOk X.prog X.w X.K X.mg X.base CX k f fd ps sp) (hr : Room k X.A) (hg : Gl X x) (hm : X.mg x = some (.ref f)) (hk : PySem.W.keepIn X.K (.ref f) = true) (hb : KB X.K fd ps n ks) (hx : ∀ σ, PassesAt CX X σ (E σ))
    (ha : PA X (e :: es) t) (hkw : PK X kws tk) (hall : (backToKw pos (keywordEach kws X.env)).all (·.1.isSome) = true := by rfl) (hks : (backToKw pos (keywordEach kws X.env)).filterMap (·.1) = ks := by rfl)
    (hdb : (x == ("__debug__" : Str)) = false := by decide) (he : starEach (e :: es) X.env = (false, eval e X.env) :: starEach es X.env := by rfl)
    (hpl : ((backTo pos (starEach (e :: es) X.env)).any (·.1) || (backToKw pos (keywordEach kws X.env)).any (·.1.isNone)) = false := by rfl) :
    PE X (.Call (.Name x q) (e :: es) kws pos) (tCallKS n ks.length sp E t tk) := by
  refine ⟨fun pins s σ H Q I h => ?_⟩
  refine wpAny_Call_Name_kw (ld_glob I hg hm ?_ hdb)
  refine PySem.W.callWith_KW (h₀ := X.base) I.ok.mod.kin hk hall (thn (ha.run pos pins s σ H _ I h) fun us s1 ⟨vs, H1, I1, r, q⟩ => ?_) hpl he
  refine thn (hkw.run pos pins s1 σ H1 _ I1 q) fun ws s2 ⟨zs, H2, I2, rz, q1, q2, q3⟩ => ⟨I2.kIn, ?_⟩
  rw [hks]
  exact run_fnKS F hr hb (hx σ) I2 r rz q1 q2 q3
theorem pe_callKS0 (F : FnOk X.prog X.w X.K X.mg X.base CX k f fd ps sp) (hr : Room k X.A) (hg : Gl X x) (hm : X.mg x = some (.ref f)) (hk : PySem.W.keepIn X.K (.ref f) = true) (hb : KB X.K fd ps 0 ks) (hx : ∀ σ, PassesAt CX X σ (E σ))
    (hkw : PK X kws tk) (hall : (backToKw pos (keywordEach kws X.env)).all (·.1.isSome) = true := by rfl) (hks : (backToKw pos (keywordEach kws X.env)).filterMap (·.1) = ks := by rfl)
    (hdb : (x == ("__debug__" : Str)) = false := by decide)
    (hpl : ((backTo pos (starEach [] X.env)).any (·.1) || (backToKw pos (keywordEach kws X.env)).any (·.1.isNone)) = false := by rfl) :
    PE X (.Call (.Name x q) [] kws pos) (tCallKS 0 ks.length sp E tNil tk) := by
  refine ⟨fun pins s σ H Q I h => ?_⟩
  refine wpAny_Call_Name_kw (ld_glob I hg hm ?_ hdb)
  refine PySem.W.callWith_KW0 (h₀ := X.base) I.ok.mod.kin hk hall ?_ hpl
  refine thn (hkw.run pos pins s σ H _ I h) fun ws s2 ⟨zs, H2, I2, rz, q1, q2, q3⟩ => ⟨I2.kIn, ?_⟩
  rw [hks]
  exact run_fnKS (us := []) (vs := []) F hr hb (hx σ) I2 .nil rz q1 q2 q3
/-! ### an instance made -/
theorem run_makeKS {pins : List (Addr × Obj)} {σ : L2.St} {H : Hp} {s : Shared} {Q : VK} {us ws : List Value} {vs zs : List V} (M : Mk X.K C f) (F : FnOk X.prog X.w X.K X.mg X.base CX k f fd ps sp) (hr : Room (k + 1) X.A) (hb : KB X.K fd ps (n + 1) ks) (hx : PassesAt CX X σ (E σ))
    (I : Inv X pins σ H s) (r : Vals vs us) (rz : Vals zs ws) (l1 : vs.length = n) (l2 : zs.length = ks.length)
    (h : ∀ x dx, H x = none → H dx = none → dx ≠ x → sp (V.ref x :: (vs ++ zs)) (upd (upd H dx (.own x)) x (.ins C dx [])) (fun v H2 => v = .non ∧ Q (.ref x) H2) (E σ))
    (hx2 : ∀ (pins : List (Addr × Obj)) (H : Hp) (s : Shared) (e : Value) (s' : Shared), Inv X pins σ H s → CX X.stack H s (E σ) e s' → X.xe e s') :
    wpAny (model X.prog X.w) X.A (call (.ref C) us (ks.zip ws)) (EP X pins σ Q) X.xe s := by
  have hq := h (s.heap.objs.size + 1) s.heap.objs.size (I.hok.fresh (Nat.le_succ _)) (I.hok.fresh (Nat.le_refl _)) (Nat.ne_of_lt (Nat.lt_succ_self _))
  have I2 := Inv.made (C := C) I
  have r1 : Vals (V.ref (s.heap.objs.size + 1) :: vs) (Value.ref (s.heap.objs.size + 1) :: us) := .cons rfl r
  have n1 : (Value.ref (s.heap.objs.size + 1) :: us).length = n + 1 := by
    rw [List.length_cons, ← r.length, l1]
  refine wpAny_call (make_map (f := f) I.kIn M.makes M.init (beq_iff_eq.mp M.fn) (codeAny_mono (F.run _ X.stack _ _ ⟨Value.ref (s.heap.objs.size + 1) :: us, ks.zip ws⟩ ((Value.ref (s.heap.objs.size + 1) :: us) ++ ws) _ _ (E σ) (hr.make C us (ks.zip ws))
    (I2.env0.make C us (ks.zip ws)) (hb.to _ (Value.ref (s.heap.objs.size + 1) :: us) ws I2.kIn n1 (rz.length.symm.trans l2)) (r1.append rz) hq) fun r s' hq' => ?_))
  cases r with
  | error e => exact hx2 pins _ _ e s' I2 hq'
  | ok fl =>
    cases fl with
    | ret u =>
      obtain ⟨v, H', I3, rv, ev, q3⟩ := I2.after hq'
      subst ev
      exact ⟨rv, ⟨V.ref (s.heap.objs.size + 1), H', I3, rfl, q3⟩⟩
    | next => exact False.elim hq'
    | brk => exact False.elim hq'
    | cont => exact False.elim hq'
def tMakeKS (C : Addr) (n m : Nat) (sp : Sp) (E : L2.St → XK) (t tk : TA) : TE := fun σ H Q => t σ H fun vs H1 => tk σ H1 fun zs H2 => vs.length = n ∧ zs.length = m ∧ ∀ x dx, H2 x = none → H2 dx = none → dx ≠ x →
  sp (.ref x :: (vs ++ zs)) (upd (upd H2 dx (.own x)) x (.ins C dx [])) (fun v H3 => v = .non ∧ Q (.ref x) H3) (E σ)
theorem pe_makeKS (M : Mk X.K C f) (F : FnOk X.prog X.w X.K X.mg X.base CX k f fd ps sp) (hr : Room (k + 1) X.A) (hg : Gl X x) (hm : X.mg x = some (.ref C)) (hb : KB X.K fd ps (n + 1) ks) (hx : ∀ σ, PassesAt CX X σ (E σ)) (ha : PA X (e :: es) t) (hkw : PK X kws tk)
    (hall : (backToKw pos (keywordEach kws X.env)).all (·.1.isSome) = true := by rfl) (hks : (backToKw pos (keywordEach kws X.env)).filterMap (·.1) = ks := by rfl) (hdb : (x == ("__debug__" : Str)) = false := by decide)
    (he : starEach (e :: es) X.env = (false, eval e X.env) :: starEach es X.env := by rfl) (hpl : ((backTo pos (starEach (e :: es) X.env)).any (·.1) || (backToKw pos (keywordEach kws X.env)).any (·.1.isNone)) = false := by rfl) :
    PE X (.Call (.Name x q) (e :: es) kws pos) (tMakeKS C n ks.length sp E t tk) := by
  refine ⟨fun pins s σ H Q I h => ?_⟩
  refine wpAny_Call_Name_kw (ld_glob I hg hm ?_ hdb)
  refine PySem.W.callWith_KW (h₀ := X.base) I.ok.mod.kin M.kp hall (thn (ha.run pos pins s σ H _ I h) fun us s1 ⟨vs, H1, I1, r, q⟩ => ?_) hpl he
  refine thn (hkw.run pos pins s1 σ H1 _ I1 q) fun ws s2 ⟨zs, H2, I2, rz, l1, l2, q2⟩ => ⟨I2.kIn, ?_⟩
  rw [hks]
  exact run_makeKS M F hr hb (hx σ) I2 r rz l1 l2 q2 (hx σ)
/-- C(e, ..) -/
theorem pe_makeS (M : Mk X.K C f) (F : FnOk X.prog X.w X.K X.mg X.base CX k f fd ps sp) (hr : Room (k + 1) X.A) (hg : Gl X x) (hm : X.mg x = some (.ref C)) (hb : KB X.K fd ps (n + 1) []) (hx : ∀ σ, PassesAt CX X σ (E σ)) (ha : PA X (e :: es) t)
    (hdb : (x == ("__debug__" : Str)) = false := by decide)
    (he : starEach (e :: es) X.env = (false, eval e X.env) :: starEach es X.env := by rfl) (hpl : (backTo pos (starEach es X.env)).any (·.1) = false := by rfl) :
    PE X (.Call (.Name x q) (e :: es) [] pos) (tMakeKS C n 0 sp E t tNil) := by
  refine ⟨fun pins s σ H Q I h => ?_⟩
  refine wpAny_Call_Name_kw (ld_glob I hg hm ?_ hdb)
  refine PySem.W.callWith_K (h₀ := X.base) I.ok.mod.kin M.kp (thn (ha.run pos pins s σ H _ I h) fun us s1 ⟨vs, H1, I1, r, l1, l2, q2⟩ => ⟨I1.kIn, ?_⟩) he hpl
  exact run_makeKS (ws := []) (zs := []) M F hr hb (hx σ) I1 r .nil l1 l2 q2 (hx σ)
end
end FD

set_option Elab.async false
set_option linter.all false
set_option maxRecDepth 100000
set_option maxHeartbeats 1000000
namespace FD
open PySem PySem.Spec PyProof.Rows L2 FDB
section
variable {p : Pm} {X : Cx} {W : WX}
/-! ### keywords' values -/
abbrev DK (X : Cx) (p : Pm) (W : WX) (kws : List Keyword) (f : Den (List FD.D)) : Prop := PK X kws (LG p W (rDs p) f)
theorem PK.imp {e : List Keyword} {t t' : TA} (h : PK X e t) (i : ∀ σ H Q, t' σ H Q → t σ H Q) : PK X e t' := ⟨fun pos pins s σ H Q I q => h.run pos pins s σ H Q I (i σ H Q q)⟩
theorem dk_nil : DK X p W [] nilA := by
  refine PK.imp pk_nil fun σ H Q h => ?_
  obtain ⟨φ, F, z, o, l⟩ := h
  exact LGat.here (b := []) l o Reps.nil
theorem dk_cons {e : Expr} {nm : Option Str} {kpos : Pos} {kws : List Keyword} {f : Den FD.D} {g : Den (List FD.D)} (h : DE X p W e f) (k : DK X p W kws g) : DK X p W (⟨nm, e, kpos⟩ :: kws) (consA f g) := by
  refine PK.imp (pk_cons h k) fun σ H Q h => ?_
  obtain ⟨φ, F, z, o, l⟩ := h
  refine LG.mono (LGat.bind (R := rD p) o l) ?_
  rintro x H1 ⟨φ1, F1, z1, d1, o1, f1, r1, l1⟩
  refine LG.mono (LGat.bind (R := rDs p) o1 l1) ?_
  rintro xs H2 ⟨φ2, F2, z2, ds, o2, f2, r2, l2⟩
  exact LGat.here (b := x :: xs) l2 o2 (Reps.cons (f2.rep r1) r2)
def appA (f g : Den (List FD.D)) : Den (List FD.D) := fun z => (f z).bind fun ds z1 => (g z1).bind fun es z2 => .ok (ds ++ es) z2
/-- positional values and keywords -/
theorem two_imp {n m : Nat} {f g : Den (List FD.D)} {k : List FD.D → Den FD.D} (lf : LenA f n) (lg : LenA g m) {σ : L2.St} {H : Hp} {Q : VK} (h : LG p W (rD p) (fun z => (appA f g z).bind k) σ H Q) :
    LG p W (rDs p) f σ H fun vs H1 => LG p W (rDs p) g σ H1 fun zs H2 => vs.length = n ∧ zs.length = m ∧ ∃ φ F z ds, Ok p φ F z σ H2 ∧ Reps p.K φ F (vs ++ zs) ds ∧ LGat p W (rD p) φ F z (k ds z) σ H2 Q := by
  obtain ⟨φ, F, z, o, l⟩ := h
  have l' : LGat p W (rD p) φ F z ((f z).bind fun ds z1 => ((g z1).bind fun es z2 => .ok (ds ++ es) z2).bind k) σ H Q := by
    have e : ((appA f g z).bind k) = ((f z).bind fun ds z1 => ((g z1).bind fun es z2 => .ok (ds ++ es) z2).bind k) := by
      unfold appA
      cases f z <;> rfl
    rw [← e]; exact l
  refine ⟨φ, F, z, o, ?_⟩
  cases e1 : f z with
  | stuck => rw [e1] at l'; exact l'
  | err c d z' => rw [e1] at l'; exact l'
  | ok ds z1 =>
    rw [e1] at l'
    intro φ1 F1 vs H1 o1 a1 r1
    have l1 := LGat.shift l' a1
    refine ⟨φ1, F1, z1, o1, ?_⟩
    simp only [Res.bind] at l1
    cases e2 : g z1 with
    | stuck => rw [e2] at l1; exact l1
    | err c d z' => rw [e2] at l1; exact l1
    | ok es z2 =>
      rw [e2] at l1
      intro φ2 F2 zs H2 o2 a2 r2
      exact ⟨by rw [r1.length]; exact lf _ _ _ e1, by rw [r2.length]; exact lg _ _ _ e2, φ2, F2, z2, ds ++ es, o2, (a2.reps r1).append r2, LGat.shift l1 a2⟩
theorem de_callK {x : Str} {q pos : Pos} {e : Expr} {es : List Expr} {kws : List Keyword} {f : Addr} {fd : FuncData} {ps ks : List Str} {k n m : Nat} {g : FnD} {h h2 : Den (List FD.D)} (Fo : FnOk X.prog X.w X.K X.mg X.base (L2.CX X.prog X.w) k f fd ps (spF p m g)) (hr : Room k X.A) (hm : X.mg x = some (.ref f)) (hk : PySem.W.keepIn X.K (.ref f) = true) (hb : KB X.K fd ps n ks)
    (tk : Takes X W) (ha : DA X p W (e :: es) h) (hkw : DK X p W kws h2) (hlen : LenA h n := by repeat first | exact lenA_nil | refine lenA_cons ?_) (hlen2 : LenA h2 ks.length := by repeat first | exact lenA_nil | refine lenA_cons ?_) (hnm : n + ks.length = m := by rfl) (hg : Gl X x := by rfl)
    (hall : (backToKw pos (keywordEach kws X.env)).all (·.1.isSome) = true := by rfl) (hks : (backToKw pos (keywordEach kws X.env)).filterMap (·.1) = ks := by rfl)
    (hdb : (x == ("__debug__" : Str)) = false := by decide) (he : starEach (e :: es) X.env = (false, eval e X.env) :: starEach es X.env := by rfl)
    (hpl : ((backTo pos (starEach (e :: es) X.env)).any (·.1) || (backToKw pos (keywordEach kws X.env)).any (·.1.isNone)) = false := by rfl) :
    DE X p W (.Call (.Name x q) (e :: es) kws pos) (callF g (appA h h2)) := by
  refine PE.imp (pe_callKS Fo hr hg hm hk hb (fun σ => passAt tk σ) ha hkw hall hks hdb he hpl) fun σ H Q hq => ?_
  refine LG.mono (two_imp hlen hlen2 hq) fun vs H1 q1 => LG.mono q1 fun zs H2 q2 => ?_
  obtain ⟨l1, l2, φ, F, z, ds, o, r, l⟩ := q2
  exact ⟨l1, l2, by rw [List.length_append, l1, l2]; exact hnm, φ, F, z.S, ds, o.drop, r, frat_of o l⟩
theorem de_callK0 {x : Str} {q pos : Pos} {kws : List Keyword} {f : Addr} {fd : FuncData} {ps ks : List Str} {k m : Nat} {g : FnD} {h2 : Den (List FD.D)} (Fo : FnOk X.prog X.w X.K X.mg X.base (L2.CX X.prog X.w) k f fd ps (spF p m g)) (hr : Room k X.A) (hm : X.mg x = some (.ref f)) (hk : PySem.W.keepIn X.K (.ref f) = true) (hb : KB X.K fd ps 0 ks)
    (tk : Takes X W) (hkw : DK X p W kws h2) (hlen2 : LenA h2 ks.length := by repeat first | exact lenA_nil | refine lenA_cons ?_) (hnm : ks.length = m := by rfl) (hg : Gl X x := by rfl)
    (hall : (backToKw pos (keywordEach kws X.env)).all (·.1.isSome) = true := by rfl) (hks : (backToKw pos (keywordEach kws X.env)).filterMap (·.1) = ks := by rfl)
    (hdb : (x == ("__debug__" : Str)) = false := by decide)
    (hpl : ((backTo pos (starEach [] X.env)).any (·.1) || (backToKw pos (keywordEach kws X.env)).any (·.1.isNone)) = false := by rfl) :
    DE X p W (.Call (.Name x q) [] kws pos) (callF g h2) := by
  refine PE.imp (pe_callKS0 Fo hr hg hm hk hb (fun σ => passAt tk σ) hkw hall hks hdb hpl) fun σ H Q hq => ?_
  have hq' : LG p W (rD p) (fun z => (appA nilA h2 z).bind fun ds z1 => (g ds z1.S).den z1) σ H Q := by
    obtain ⟨φ, F, z, o, l⟩ := hq
    refine ⟨φ, F, z, o, ?_⟩
    have e : ((appA nilA h2 z).bind fun ds z1 => (g ds z1.S).den z1) = callF g h2 z := by
      unfold appA nilA callF
      simp only [Res.bind]
      cases h2 z <;> rfl
    show LGat p W (rD p) φ F z ((appA nilA h2 z).bind fun ds z1 => (g ds z1.S).den z1) σ H Q
    rw [e]; exact l
  obtain ⟨φ, F, z, o, l⟩ := two_imp lenA_nil hlen2 hq'
  obtain q2 := l φ F [] H o Af.refl .nil
  refine LG.mono q2 fun zs H2 q2 => ?_
  obtain ⟨l1, l2, φ, F, z, ds, o, r, l⟩ := q2
  exact ⟨l1, l2, by rw [List.nil_append, l2]; exact hnm, φ, F, z.S, ds, o.drop, r, frat_of o l⟩
/-! ### __init__ -/
inductive FI where
  | ok (fs : List (Str × FD.D)) (S : List (List FD.D)) | err (c : Str) (d : FD.D) (S : List (List FD.D)) | stuck
abbrev FnI := List FD.D → List (List FD.D) → FI
def FIat (p : Pm) (C x : Addr) (φ : List Addr) (F : Hp) (S : List (List FD.D)) (H : Hp) (r : FI) (Q : VK) (E : XK) : Prop := match r with
  | .ok fs S' => ∀ φ' F' σ' H', Ok p φ' F' ⟨[.ins x C fs], S'⟩ σ' H' → Af φ F ⟨[.ins x C []], S⟩ [some (.ref x)] H φ' F' ⟨[.ins x C fs], S'⟩ σ' H' → Q .non H'
  | .err c d S' => ∀ φ' F' v H' da, Ok p φ' F' ⟨[], S'⟩ [] H' → Af φ F ⟨[.ins x C []], S⟩ [some (.ref x)] H φ' F' ⟨[], S'⟩ [] H' → H' da = some (.xd [(("what" : Str), v)]) → Rep p.K φ' F' v d → E (.ref (p.cls c)) (some da) H'
  | .stuck => False
def spI (p : Pm) (C : Addr) (n : Nat) (fd : FnI) : Sp := fun vs H Q E => ∃ x vs', vs = .ref x :: vs' ∧ vs'.length = n ∧ ∃ φ F S ds, Ok p φ F ⟨[.ins x C []], S⟩ [some (.ref x)] H ∧ Reps p.K φ F vs' ds ∧ FIat p C x φ F S H (fd ds S) Q E
theorem Ok.app {φ : List Addr} {F : Hp} {ρ : List Sl} {S : List (List FD.D)} {σ : L2.St} {H : Hp} {vs : List V} {ds : List FD.D} {n : Nat} (o : Ok p φ F ⟨ρ, S⟩ σ H) (r : Reps p.K φ F vs ds) :
    Ok p φ F ⟨ρ ++ (ds.map Sl.val ++ List.replicate n Sl.un), S⟩ (σ ++ (vs.map some ++ List.replicate n none)) H ∧ ∀ a, ownAt (ρ ++ (ds.map Sl.val ++ List.replicate n Sl.un)) (σ ++ (vs.map some ++ List.replicate n none)) a → ownAt ρ σ a := by
  have hl : ρ.length = σ.length := o.len
  have key : ∀ (i : Nat) (s : Sl) (v : Option V), (ρ ++ (ds.map Sl.val ++ List.replicate n Sl.un))[i]? = some s → (σ ++ (vs.map some ++ List.replicate n none))[i]? = some v → (ρ[i]? = some s ∧ σ[i]? = some v) ∨ (s.own = false ∧ SlRep p φ F H s v) := fun i s v h1 h2 => by
    by_cases hi : i < ρ.length
    · rw [List.getElem?_append_left hi] at h1
      rw [List.getElem?_append_left (by rw [← hl]; exact hi)] at h2
      exact .inl ⟨h1, h2⟩
    · rw [List.getElem?_append_right (by omega)] at h1
      rw [List.getElem?_append_right (by omega), ← hl] at h2
      refine .inr ⟨?_, ?_⟩
      · have m := List.mem_of_getElem? h1
        rcases List.mem_append.mp m with m | m
        · obtain ⟨d, _, rfl⟩ := List.mem_map.mp m; rfl
        · obtain ⟨_, rfl⟩ := List.mem_replicate.mp m; rfl
      · by_cases hj : i - ρ.length < ds.length
        · rw [List.getElem?_append_left (by simpa using hj), List.getElem?_map] at h1
          rw [List.getElem?_append_left (by simpa [r.length] using hj), List.getElem?_map] at h2
          cases e : ds[i - ρ.length]? with
          | none => rw [e] at h1; cases h1
          | some d =>
            rw [e] at h1
            obtain ⟨u, e1, e2⟩ := r.get e
            rw [e1] at h2
            cases h1; cases h2
            exact ⟨u, rfl, e2⟩
        · rw [List.getElem?_append_right (by simpa using hj)] at h1
          have m := List.mem_of_getElem? h1
          obtain ⟨_, rfl⟩ := List.mem_replicate.mp m
          trivial
  have own : ∀ (a : Addr) (i : Nat) (s : Sl), (ρ ++ (ds.map Sl.val ++ List.replicate n Sl.un))[i]? = some s → s.own = true → (σ ++ (vs.map some ++ List.replicate n none))[i]? = some (some (.ref a)) → ρ[i]? = some s ∧ σ[i]? = some (some (.ref a)) := fun a i s h1 h2 h3 => by
    rcases key i s _ h1 h3 with h | ⟨h, _⟩
    · exact h
    · rw [h2] at h; cases h
  have own2 : ∀ a, ownAt (ρ ++ (ds.map Sl.val ++ List.replicate n Sl.un)) (σ ++ (vs.map some ++ List.replicate n none)) a → ownAt ρ σ a := fun a ⟨i, s, h1, h2, h3⟩ => ⟨i, s, (own a i s h1 h2 h3).1, h2, (own a i s h1 h2 h3).2⟩
  refine ⟨⟨o.sub, by simp [r.length, hl], fun i s v h1 h2 => ?_, fun a h => o.fr a (own2 a h), fun i j s t a h1 h2 o1 o2 h3 h4 => ?_, o.ph, o.phl, o.phn⟩, own2⟩
  · rcases key i s v h1 h2 with h | h
    · exact o.sl i s v h.1 h.2
    · exact h.2
  · obtain ⟨a1, a2⟩ := own a i s h1 o1 h3
    obtain ⟨b1, b2⟩ := own a j t h2 o2 h4
    exact o.ap i j s t a a1 b1 o1 o2 a2 b2
/-- the instance alone is kept -/
theorem Ok.keep1 {φ : List Addr} {F : Hp} {z : Z} {σ : L2.St} {H : Hp} {s : Sl} (o : Ok p φ F z σ H) (h : z.ρ[0]? = some s) : ∃ v, σ[0]? = some v ∧ Ok p φ F ⟨[s], z.S⟩ [v] H := by
  have h0 : 0 < σ.length := by rw [← o.len]; exact (List.getElem?_eq_some_iff.mp h).1
  have hv := List.getElem?_eq_getElem h0
  have e0 : ∀ (i : Nat) (t : Sl), ([s] : List Sl)[i]? = some t → i = 0 ∧ t = s := fun i t q => by
    cases i with
    | zero => cases q; exact ⟨rfl, rfl⟩
    | succ i => simp at q
  have own : ∀ a, ownAt [s] [σ[0]] a → ownAt z.ρ σ a := fun a ⟨i, t, h1, h2, h3⟩ => by
    obtain ⟨rfl, rfl⟩ := e0 i t h1
    exact ⟨0, t, h, h2, by rw [hv]; simpa using h3⟩
  refine ⟨_, hv, o.sub, rfl, fun i t v h1 h2 => ?_, fun a q => o.fr a (own a q), fun i j t t' a h1 h2 _ _ _ _ => (e0 i t h1).1.trans (e0 j t' h2).1.symm, o.ph, o.phl, o.phn⟩
  obtain ⟨rfl, rfl⟩ := e0 i t h1
  have : v = σ[0] := by simpa using h2.symm
  subst this
  exact o.sl 0 t _ h hv
def doneI (x C : Addr) (z : Z) : FI := match z.ρ[(0 : Nat)]? with
  | some (.ins a c fs) => if a = x ∧ c = C then .ok fs z.S else .stuck
  | _ => .stuck
def Fl.fi (x C : Addr) (r : Fl) : FI := match r with
  | .nx z => doneI x C z
  | .rt .non z => doneI x C z
  | .err c d z => .err c d z.S
  | _ => .stuck
/-- x: where the instance stands; n names, the first is self -/
def fnI (C : Addr) (n : Nat) (b : Prog) (x : Addr) : FnI := fun ds S => (b ⟨[.ins x C []] ++ (ds.map Sl.val ++ List.replicate (n - (ds.length + 1)) Sl.un), S⟩).fi x C
theorem fni_start {N : List Str} {C : Addr} {n k : Nat} {b : Prog} {g : FnI} {vs : List V} {H : Hp} {Q : VK} {E : XK} (hn : N.length = n) (hg : ∀ x ds S, ds.length = k → g ds S ≠ .stuck → fnI C n b x ds S = g ds S) (h : spI p C k g vs H Q E) :
    LS p (WB E) b { nx := fun _ H' => Q .non H', rt := Q } (L2.start N vs) H := by
  obtain ⟨x, vs', rfl, hl, φ, F, S, ds, o, r, q⟩ := h
  have e : L2.start N (.ref x :: vs') = [some (.ref x)] ++ (vs'.map some ++ List.replicate (n - (ds.length + 1)) none) := by
    unfold L2.start
    rw [hn, List.length_cons, r.length]
    rfl
  rw [e]
  have hns : g ds S ≠ .stuck := fun e => by rw [e] at q; exact q
  rw [← hg x ds S (by rw [← r.length]; exact hl) hns] at q
  obtain ⟨o2, ow⟩ := o.app (n := n - (ds.length + 1)) r
  refine ⟨φ, F, _, o2, ?_⟩
  unfold fnI at q
  have done : ∀ (z : Z) (φ' : List Addr) (F' : Hp) (σ' : L2.St) (H' : Hp), FIat p C x φ F S H (doneI x C z) Q E → Ok p φ' F' z σ' H' → Af φ F ⟨[.ins x C []] ++ (ds.map Sl.val ++ List.replicate (n - (ds.length + 1)) Sl.un), S⟩ ([some (.ref x)] ++ (vs'.map some ++ List.replicate (n - (ds.length + 1)) none)) H φ' F' z σ' H' → Q .non H' := by
    intro z φ' F' σ' H' q o' a'
    unfold doneI at q
    split at q
    · rename_i a c fs e0
      split at q
      · rename_i ec
        obtain ⟨rfl, rfl⟩ := ec
        obtain ⟨v, ev, ok⟩ := o'.keep1 e0
        refine q φ' F' [v] H' ok ⟨a'.sF, a'.pφ, fun b u h1 h2 h3 h4 => ?_⟩
        obtain ⟨g1, g2, g3, g4⟩ := a'.out b u h1 h2 h3 fun hh => h4 (ow b hh)
        refine ⟨g1, g2, g3, fun hh => g4 ?_⟩
        obtain ⟨i, t, k1, k2, k3⟩ := hh
        cases i with
        | zero => cases k1; exact ⟨0, _, e0, rfl, by rw [ev]; simpa using k3⟩
        | succ i => simp at k1
      · exact q.elim
    · exact q.elim
  have errs : ∀ (c : Str) (d : FD.D) (z : Z), FIat p C x φ F S H (.err c d z.S) Q E → ∀ φ' F' σ' v H' da, Ok p φ' F' z σ' H' → Af φ F ⟨[.ins x C []] ++ (ds.map Sl.val ++ List.replicate (n - (ds.length + 1)) Sl.un), S⟩ ([some (.ref x)] ++ (vs'.map some ++ List.replicate (n - (ds.length + 1)) none)) H φ' F' z σ' H' → H' da = some (.xd [(("what" : Str), v)]) → Rep p.K φ' F' v d → E (.ref (p.cls c)) (some da) H' := by
    intro c d z q φ' F' σ' v H' da o' a' e' r'
    refine q φ' F' v H' da o'.drop ⟨a'.sF, a'.pφ, fun b u h1 h2 h3 h4 => ?_⟩ e' r'
    obtain ⟨g1, g2, g3, _⟩ := a'.out b u h1 h2 h3 fun hh => h4 (ow b hh)
    exact ⟨g1, g2, g3, no_own⟩
  cases eb : b ⟨[.ins x C []] ++ (ds.map Sl.val ++ List.replicate (n - (ds.length + 1)) Sl.un), S⟩ with
  | nx z =>
    rw [eb] at q
    exact fun φ' F' σ' H' o' a' => done z φ' F' σ' H' q o' a'
  | rt d z =>
    rw [eb] at q
    intro φ' F' σ' v H' o' a' r'
    cases d with
    | non => cases r'; exact done z φ' F' σ' H' q o' a'
    | _ => exact q.elim
  | err c d z =>
    rw [eb] at q
    exact errs c d z q
  | bk z => rw [eb] at q; exact q.elim
  | ct z => rw [eb] at q; exact q.elim
  | stuck => rw [eb] at q; exact q.elim
variable {P : Program} {w : World} {K : PySem.W.Frag} {mg : Str → Option Value} {base : Heap}
theorem init_okX {C : Addr} {x qual : Str} {st : Stmt} {f : Addr} {fd : FuncData} {N ps : List Str} {k n m : Nat} {b : Prog} {g : FnI} (F : Fun K x qual st f fd) (S : FnScope N ps (defScope st)) (hn : N.length = n) (hm : ps.length = m + 1) (hg : ∀ x ds S, ds.length = m → g ds S ≠ .stuck → fnI C n b x ds S = g ds S)
    (hb : ∀ (cdv : Value) (A : Around) (outer : List Env) (s : Shared) (H : Hp) (E : XK), Room k (A.deeper (envOfC qual (defScope st) s.heap.objs.size f cdv)) →
      DSs (cxOf (L2.CX P w) P w K mg base N qual (defScope st) f cdv A outer s H E) p (WB E) (defBody st) b) : FnOk P w K mg base (L2.CX P w) (k + 1) f fd ps (spI p C m g) := by
  refine F.okX S (fun vs H Q E h => by
    obtain ⟨x, vs', rfl, hl, _⟩ := h
    rw [List.length_cons, hl, hm]) (fun cdv A outer s H vs Q E hr h => ⟨_, hb cdv A outer s H E hr, fni_start hn hg h⟩)
/-- self.f = e -/
def putD' (x : Str) (d : FD.D) : List (Str × FD.D) → List (Str × FD.D)
  | [] => [(x, d)]
  | (g, e) :: r => if g = x then (g, d) :: r else (g, e) :: putD' x d r
theorem RepF.put {φ : List Addr} {F : Hp} {x : Str} {v : V} {d : FD.D} (h : Rep p.K φ F v d) : ∀ {vs : List (Str × V)} {ds : List (Str × FD.D)}, RepF p.K φ F vs ds → RepF p.K φ F (putF x v vs) (putD' x d ds)
  | _, _, .nil => .cons h .nil
  | _, _, .cons (x := y) q r => by
    unfold putF putD'
    by_cases e : y = x
    · rw [if_pos e, if_pos e]; exact .cons h r
    · rw [if_neg e, if_neg e]; exact .cons q (RepF.put h r)
def fldS (C : Addr) (i : Nat) (x : Str) (f : Den FD.D) : Prog := fun z => (f z).then fun d z1 => match z1.ρ[i]? with
  | some (.ins a c fs) => if c = C ∧ fs.length < 1000 then .nx ⟨z1.ρ.set i (.ins a c (putD' x d fs)), z1.S⟩ else .stuck
  | _ => .stuck
theorem RepF.length {φ : List Addr} {F : Hp} {vs : List (Str × V)} {ds : List (Str × FD.D)} (r : RepF p.K φ F vs ds) : vs.length = ds.length := by
  have := congrArg List.length r.keys
  simpa using this
theorem ds_fld {C : Addr} {i : Nat} {s x : Str} {e : Expr} {px pos pos' : Pos} {f : Den FD.D} (hK : X.K = p.K) (cl : Cls X.K C) (na : NoAttr X.K C x) (he : DE X p W e f) (hN : X.N[i]? = some s := by rfl) (hv : Vis X.env.scope s := by first | exact Or.inl rfl | exact Or.inr (Or.inl rfl) | exact Or.inr (Or.inr rfl)) (hd : (s == ("__debug__" : Str)) = false := by decide)
    (hcd : (s == ("__classdict__" : Str)) = false := by decide) (hs : swapsWith e (some (.Attribute (.Name s px) x pos')) pos.line X.env = pure false := by rfl) :
    DS X p W (.Assign [.Attribute (.Name s px) x pos'] e pos) (fldS C i x f) := by
  refine PS.imp (ps_fld (pe_var hN hv hd hcd) he hs) fun D σ H h => ?_
  obtain ⟨φ, F, z, o, l⟩ := h
  refine LG.mono (LSat.bind (R := rD p) o l) ?_
  rintro v H1 ⟨φ1, F1, z1, d, o1, f1, r1, l1⟩
  try simp only at l1
  split at l1
  · rename_i a c fs e
    split at l1
    · rename_i cc
      obtain ⟨rfl, hlen⟩ := cc
      have hs : i < σ.length := by rw [← o1.len]; exact (List.getElem?_eq_some_iff.mp e).1
      obtain ⟨dx, fv, e1, e2, r⟩ := o1.sl i _ _ e (List.getElem?_eq_getElem hs)
      have e3 : σ[i]? = some (some (.ref a)) := by rw [List.getElem?_eq_getElem hs, e1]
      obtain ⟨o2, f2⟩ := o1.setOwn (s' := .ins a c (putD' x d fs)) (o := .ins c dx (putF x v fv)) e rfl e3 rfl ⟨dx, _, rfl, upd_same, r.put r1⟩
      exact ⟨.ref a, e3, a, c, dx, fv, rfl, e2, cl, na, by rw [r.length]; exact hlen, l1 _ _ _ _ o2 f2⟩
    · exact l1.elim
  · exact l1.elim
end
end FD

set_option Elab.async false
set_option linter.all false
set_option maxRecDepth 100000
set_option maxHeartbeats 1000000
namespace FD
open PySem PySem.Spec PyProof.Rows L2 FDB
section
variable {p : Pm} {X : Cx} {W : WX} {φ φ1 : List Addr} {F F1 : Hp} {z z1 : Z} {σ σ1 : L2.St} {H H1 : Hp}
/-- one object of its own, alone -/
theorem Ok.one {S : List (List FD.D)} {s : Sl} {a : Addr} (o : Ok p φ F ⟨[], S⟩ [] H) (f : F a = none) (nph : a ∉ φ) (r : SlRep p φ F H s (some (.ref a))) : Ok p φ F ⟨[s], S⟩ [some (.ref a)] H := by
  have e0 : ∀ (i : Nat) (t : Sl), ([s] : List Sl)[i]? = some t → i = 0 ∧ t = s := fun i t q => by
    cases i with
    | zero => cases q; exact ⟨rfl, rfl⟩
    | succ i => simp at q
  have e1 : ∀ (i : Nat) (t : Option V), ([some (.ref a)] : L2.St)[i]? = some t → t = some (.ref a) := fun i t q => by
    cases i with
    | zero => cases q; rfl
    | succ i => simp at q
  refine ⟨o.sub, rfl, fun i t v h1 h2 => ?_, fun b ⟨i, t, h1, h2, h3⟩ => ?_, fun i j t t' b h1 h2 _ _ _ _ => (e0 i t h1).1.trans (e0 j t' h2).1.symm, o.ph, o.phl, o.phn⟩
  · obtain ⟨_, rfl⟩ := e0 i t h1
    rw [e1 i v h2]; exact r
  · cases e1 i _ h3
    exact ⟨f, nph⟩
def FI.den (C : Addr) (r : FI) (z : Z) : Res FD.D := match r with
  | .ok fs S => .ok (.obj C fs) ⟨z.ρ, S⟩
  | .err c d S => .err c d ⟨z.ρ, S⟩
  | .stuck => .stuck
def makeF (C : Addr) (g : FnI) (h : Den (List FD.D)) : Den FD.D := fun z => (h z).bind fun ds z1 => (g ds z1.S).den C z1
theorem make_end {C : Addr} {n : Nat} {g : FnI} {vs : List V} {ds : List FD.D} {Q : VK} (o : Ok p φ F z σ H) (hl : vs.length = n) (r : Reps p.K φ F vs ds) (l : LGat p W (rD p) φ F z ((g ds z.S).den C z) σ H Q) (x dx : Addr) (nx : H x = none) (ndx : H dx = none) (hne : dx ≠ x) :
    spI p C n g (.ref x :: vs) (upd (upd H dx (.own x)) x (.ins C dx [])) (fun v H3 => v = .non ∧ Q (.ref x) H3) (fun cls d H => W cls d σ H) := by
  obtain ⟨o1, a1⟩ := o.junk (q := dx) (o := .own x) ndx
  have nx1 : upd H dx (.own x) x = none := by rw [upd_ne (Ne.symm hne)]; exact nx
  obtain ⟨o2, a2⟩ := o1.junk (q := x) (o := .ins C dx []) nx1
  refine ⟨x, vs, rfl, hl, φ, F, z.S, ds, o2.drop.one (o.fnone nx) (o.not_phi nx) ⟨dx, [], rfl, upd_same, .nil⟩, r, ?_⟩
  have base : ∀ {φ' F' z' σ' H'}, Af φ F ⟨[.ins x C []], z.S⟩ [some (.ref x)] (upd (upd H dx (.own x)) x (.ins C dx [])) φ' F' z' σ' H' → Af φ F ⟨[], z.S⟩ [] H φ' F' ⟨[], z'.S⟩ [] H' := fun {φ' F' z' σ' H'} a => ⟨a.sF, a.pφ, fun b u h1 h2 h3 _ => by
    have b1 : b ≠ x := ne_of_none h1 nx
    have b2 : b ≠ dx := ne_of_none h1 ndx
    obtain ⟨g1, g2, g3, _⟩ := a.out b u (by rw [upd_ne b1, upd_ne b2]; exact h1) h2 h3 (fun ⟨i, t, k1, k2, k3⟩ => by
      cases i with
      | zero => cases k3; exact b1 rfl
      | succ i => simp at k1)
    exact ⟨g1, g2, g3, no_own⟩⟩
  cases e : g ds z.S with
  | stuck => rw [e] at l; exact l
  | err c d S' =>
    rw [e] at l
    intro φ' F' v H' da o' a' e' r'
    obtain ⟨o3, a3⟩ := o.back o' (base a')
    exact l _ _ _ _ da o3 a3 e' r'
  | ok fs S' =>
    rw [e] at l
    intro φ' F' σ' H' o' a'
    refine ⟨rfl, ?_⟩
    have h0 : ([Sl.ins x C fs] : List Sl)[(0 : Nat)]? = some (.ins x C fs) := rfl
    have hs : (0 : Nat) < σ'.length := by rw [← o'.len]; exact Nat.zero_lt_one
    obtain ⟨dx', fv, e1, e2, r2⟩ := o'.sl 0 _ _ h0 (List.getElem?_eq_getElem hs)
    have e3 : σ'[(0 : Nat)]? = some (some (.ref x)) := by rw [List.getElem?_eq_getElem hs, e1]
    have fx : F' x = none := (o'.fr x ⟨0, _, h0, rfl, e3⟩).1
    have rr : Rep p.K φ' (upd F' x (.ins C dx' fv)) (.ref x) (.obj C fs) := .obj upd_same (r2.mono (fun b u q => by rw [upd_ne (ne_of_none q fx)]; exact q) ⟨[], by simp⟩)
    obtain ⟨o3, a3⟩ := o'.freeze h0 rfl e3 e2 rr
    obtain ⟨o4, a4⟩ := o.back o3.drop (base (a'.trans a3))
    exact l _ _ _ _ o4 a4 rr
theorem de_makeK {C : Addr} {x : Str} {q pos : Pos} {e : Expr} {es : List Expr} {kws : List Keyword} {f : Addr} {fd : FuncData} {ps ks : List Str} {k n m : Nat} {g : FnI} {h h2 : Den (List FD.D)} (M : Mk X.K C f) (Fo : FnOk X.prog X.w X.K X.mg X.base (L2.CX X.prog X.w) k f fd ps (spI p C m g)) (hr : Room (k + 1) X.A) (hm : X.mg x = some (.ref C)) (hb : KB X.K fd ps (n + 1) ks)
    (tk : Takes X W) (ha : DA X p W (e :: es) h) (hkw : DK X p W kws h2) (hlen : LenA h n := by repeat first | exact lenA_nil | refine lenA_cons ?_) (hlen2 : LenA h2 ks.length := by repeat first | exact lenA_nil | refine lenA_cons ?_) (hnm : n + ks.length = m := by rfl) (hg : Gl X x := by rfl)
    (hall : (backToKw pos (keywordEach kws X.env)).all (·.1.isSome) = true := by rfl) (hks : (backToKw pos (keywordEach kws X.env)).filterMap (·.1) = ks := by rfl)
    (hdb : (x == ("__debug__" : Str)) = false := by decide) (he : starEach (e :: es) X.env = (false, eval e X.env) :: starEach es X.env := by rfl)
    (hpl : ((backTo pos (starEach (e :: es) X.env)).any (·.1) || (backToKw pos (keywordEach kws X.env)).any (·.1.isNone)) = false := by rfl) :
    DE X p W (.Call (.Name x q) (e :: es) kws pos) (makeF C g (appA h h2)) := by
  refine PE.imp (pe_makeKS M Fo hr hg hm hb (fun σ => passAt tk σ) ha hkw hall hks hdb he hpl) fun σ H Q hq => ?_
  refine LG.mono (two_imp hlen hlen2 hq) fun vs H1 q1 => LG.mono q1 fun zs H2 q2 => ?_
  obtain ⟨l1, l2, φ, F, z, ds, o, r, l⟩ := q2
  exact ⟨l1, l2, make_end o (by rw [List.length_append, l1, l2]; exact hnm) r l⟩
theorem de_make {C : Addr} {x : Str} {q pos : Pos} {e : Expr} {es : List Expr} {f : Addr} {fd : FuncData} {ps : List Str} {k m : Nat} {g : FnI} {h : Den (List FD.D)} (M : Mk X.K C f) (Fo : FnOk X.prog X.w X.K X.mg X.base (L2.CX X.prog X.w) k f fd ps (spI p C m g)) (hr : Room (k + 1) X.A) (hm : X.mg x = some (.ref C)) (hb : KB X.K fd ps (m + 1) [])
    (tk : Takes X W) (ha : DA X p W (e :: es) h) (hlen : LenA h m := by repeat first | exact lenA_nil | refine lenA_cons ?_) (hg : Gl X x := by rfl)
    (hdb : (x == ("__debug__" : Str)) = false := by decide) (he : starEach (e :: es) X.env = (false, eval e X.env) :: starEach es X.env := by rfl)
    (hpl : (backTo pos (starEach es X.env)).any (·.1) = false := by rfl) :
    DE X p W (.Call (.Name x q) (e :: es) [] pos) (makeF C g h) := by
  refine PE.imp (pe_makeS M Fo hr hg hm hb (fun σ => passAt tk σ) ha hdb he hpl) fun σ H Q hq => ?_
  obtain ⟨φ, F, z, o, l⟩ := hq
  have l' : LGat p W (rD p) φ F z ((h z).bind fun ds z1 => (g ds z1.S).den C z1) σ H Q := l
  refine ⟨φ, F, z, o, ?_⟩
  cases eh : h z with
  | stuck => rw [eh] at l'; exact l'
  | err c d z' => rw [eh] at l'; exact l'
  | ok ds z' =>
    rw [eh] at l'
    intro φ' F' vs H' o' a' r'
    have hl : vs.length = m := by rw [r'.length]; exact hlen _ _ _ eh
    exact ⟨hl, rfl, by
      rw [List.append_nil]
      exact make_end o' hl r' (LGat.shift l' a')⟩
/-! ### x in o, by o's own __contains__ -/
def inOwnD (C : Addr) (neg : Bool) (g : FnD) (f h : Den FD.D) : Den FD.D := fun z => (f z).bind fun d z1 => (h z1).bind fun e z2 => match e with
  | .obj c fs => if c = C then (match g [.obj c fs, d] z2.S with
    | .ok (.bl b) S => .ok (.bl (if neg then !b else b)) ⟨z2.ρ, S⟩
    | _ => .stuck) else .stuck
  | _ => .stuck
theorem inOwn_imp {C : Addr} {neg : Bool} {g : FnD} {f h : Den FD.D} (σ : L2.St) (H : Hp) (Q : VK) (hq : LG p W (rD p) (inOwnD C neg g f h) σ H Q) : tOp (rInOwn C (spF p 2 g) E0 neg) (LG p W (rD p) f) (LG p W (rD p) h) σ H Q := by
  obtain ⟨φ, F, z, o, l⟩ := hq
  refine LG.mono (LGat.bind (R := rD p) o l) ?_
  rintro x H1 ⟨φ1, F1, z1, d1, o1, f1, r1, l1⟩
  refine LG.mono (LGat.bind (R := rD p) o1 l1) ?_
  rintro y H2 ⟨φ2, F2, z2, d2, o2, f2, r2, l2⟩
  cases r2 with
  | obj h1 h2 =>
    rename_i a c dx fv fd
    simp only at l2
    split at l2
    · rename_i ec
      subst ec
      refine ⟨a, dx, fv, rfl, o2.sub _ _ h1, rfl, φ2, F2, z2.S, [.obj c fd, d1], o2.drop, .cons (.obj h1 h2) (.cons (f2.rep r1) .nil), ?_⟩
      split at l2
      · rename_i b S e
        rw [e]
        intro φ' F' v H' o' a' r'
        cases r'
        obtain ⟨o3, a3⟩ := o2.back o' a'
        exact ⟨b, rfl, l2 _ _ _ _ o3 a3 (.bl _)⟩
      · exact l2.elim
    · exact l2.elim
  | _ => exact l2.elim
theorem spF_mono {n : Nat} {g : FnD} {E : XK} (vs : List V) (H : Hp) (Q Q' : VK) (h : ∀ v H, Q v H → Q' v H) (s : spF p n g vs H Q E) : spF p n g vs H Q' E := by
  obtain ⟨hl, φ, F, S, ds, o, r, q⟩ := s
  refine ⟨hl, φ, F, S, ds, o, r, ?_⟩
  cases e : g ds S with
  | ok d S' => rw [e] at q; exact fun φ' F' v H' o' a' r' => h _ _ (q φ' F' v H' o' a' r')
  | err c d S' => rw [e] at q; exact q
  | stuck => rw [e] at q; exact q
theorem de_inOwn {C f : Addr} {fd : FuncData} {ps : List Str} {k : Nat} {g : FnD} {a b : Expr} {pos : Pos} {h1 h2 : Den FD.D} (Fo : FnOk X.prog X.w X.K X.mg X.base (L2.CX X.prog X.w) k f fd ps (spF p 2 g)) (hr : Room k X.A) (m : Meth X.K C "__contains__" f) (hb : Binds X.K fd ps [])
    (ha : DE X p W a h1) (hb2 : DE X p W b h2) (hm : behindInMarks .In b = false := by rfl) : DE X p W (.Compare a [.In] [b] pos) (inOwnD C false g h1 h2) :=
  PE.imp (pe_cmpR (op_inOwn Fo hr m.at_ m.fn hb passL fun vs H Q Q' => spF_mono vs H Q Q') ha hb2 hm) inOwn_imp
theorem de_notInOwn {C f : Addr} {fd : FuncData} {ps : List Str} {k : Nat} {g : FnD} {a b : Expr} {pos : Pos} {h1 h2 : Den FD.D} (Fo : FnOk X.prog X.w X.K X.mg X.base (L2.CX X.prog X.w) k f fd ps (spF p 2 g)) (hr : Room k X.A) (m : Meth X.K C "__contains__" f) (hb : Binds X.K fd ps [])
    (ha : DE X p W a h1) (hb2 : DE X p W b h2) (hm : behindInMarks .NotIn b = false := by rfl) : DE X p W (.Compare a [.NotIn] [b] pos) (inOwnD C true g h1 h2) :=
  PE.imp (pe_cmpR (op_notInOwn Fo hr m.at_ m.fn hb passL fun vs H Q Q' => spF_mono vs H Q Q') ha hb2 hm) inOwn_imp
end
end FD

set_option Elab.async false
set_option linter.all false
set_option maxRecDepth 100000
set_option maxHeartbeats 1000000
namespace FD
open PySem PySem.Spec PyProof.Rows L2 FDB
section
variable {p : Pm} {X : Cx} {W : WX} {φ φ1 φ2 : List Addr} {F F1 F2 : Hp} {z z1 z2 : Z} {σ σ1 σ2 : L2.St} {H H1 H2 : Hp}
/-! ### names forgotten -/
def forgetL (ρ : List Sl) : List Nat → List Sl
  | [] => ρ
  | v :: vs => (forgetL ρ vs).set v .un
def forget (vs : List Nat) (z : Z) : Z := ⟨forgetL z.ρ vs, z.S⟩
theorem forgetL_length (ρ : List Sl) : ∀ vs : List Nat, (forgetL ρ vs).length = ρ.length
  | [] => rfl
  | v :: vs => by unfold forgetL; rw [List.length_set, forgetL_length ρ vs]
theorem forgetL_get {ρ : List Sl} {i : Nat} {s : Sl} : ∀ {vs : List Nat}, (forgetL ρ vs)[i]? = some s → s = .un ∨ (ρ[i]? = some s ∧ i ∉ vs)
  | [], h => .inr ⟨h, by simp⟩
  | v :: vs, h => by
    unfold forgetL at h
    by_cases hi : v = i
    · subst hi
      by_cases hv : v < (forgetL ρ vs).length
      · rw [List.getElem?_set_self hv] at h; cases h; exact .inl rfl
      · rw [List.getElem?_eq_none (by simpa using hv)] at h; cases h
    · rw [List.getElem?_set_ne hi] at h
      rcases forgetL_get h with h | ⟨h1, h2⟩
      · exact .inl h
      · exact .inr ⟨h1, by simp only [List.mem_cons, not_or]; exact ⟨fun e => hi e.symm, h2⟩⟩
theorem wipe_out {σ : L2.St} {i : Nat} : ∀ {vs : List Nat}, i ∉ vs → (wipe σ vs)[i]? = σ[i]?
  | [], _ => rfl
  | v :: vs, h => by
    unfold wipe
    simp only [List.mem_cons, not_or] at h
    rw [List.getElem?_set_ne (fun e => h.1 e.symm)]
    exact wipe_out h.2
theorem wipe_in {σ : L2.St} {i : Nat} {v : Option V} : ∀ {vs : List Nat}, i ∈ vs → (wipe σ vs)[i]? = some v → v = none
  | a :: vs, h, e => by
    unfold wipe at e
    by_cases hi : a = i
    · subst hi
      by_cases hv : a < (wipe σ vs).length
      · rw [List.getElem?_set_self hv] at e; cases e; rfl
      · rw [List.getElem?_eq_none (by simpa using hv)] at e; cases e
    · rw [List.getElem?_set_ne hi] at e
      rcases List.mem_cons.mp h with h | h
      · exact absurd h.symm hi
      · exact wipe_in h e
theorem wipe_wipe {σ : L2.St} (vs : List Nat) : wipe (wipe σ vs) vs = wipe σ vs := by
  apply List.ext_getElem?
  intro i
  by_cases h : i ∈ vs
  · cases e : (wipe (wipe σ vs) vs)[i]? with
    | none =>
      have := List.getElem?_eq_none_iff.mp e
      rw [wipe_length, wipe_length] at this
      exact (List.getElem?_eq_none (by rw [wipe_length]; exact this)).symm
    | some v =>
      have e2 := wipe_in h e
      subst e2
      have hl := (List.getElem?_eq_some_iff.mp e).1
      rw [wipe_length] at hl
      rw [List.getElem?_eq_getElem hl]
      have := wipe_in h (List.getElem?_eq_getElem hl)
      rw [this]
  · rw [wipe_out h]
/-- fewer names -/
theorem Ok.less {ρ' : List Sl} {σ' : L2.St} (o : Ok p φ F z σ H) (hl : ρ'.length = σ'.length) (h : ∀ (i : Nat) (s : Sl) (v : Option V), ρ'[i]? = some s → σ'[i]? = some v → s = .un ∨ (z.ρ[i]? = some s ∧ σ[i]? = some v)) :
    Ok p φ F ⟨ρ', z.S⟩ σ' H ∧ ∀ a, ownAt ρ' σ' a → ownAt z.ρ σ a := by
  have own : ∀ (a : Addr) (i : Nat) (s : Sl), ρ'[i]? = some s → s.own = true → σ'[i]? = some (some (.ref a)) → z.ρ[i]? = some s ∧ σ[i]? = some (some (.ref a)) := fun a i s h1 h2 h3 => by
    rcases h i s _ h1 h3 with e | e
    · subst e; cases h2
    · exact e
  have own2 : ∀ a, ownAt ρ' σ' a → ownAt z.ρ σ a := fun a ⟨i, s, h1, h2, h3⟩ => ⟨i, s, (own a i s h1 h2 h3).1, h2, (own a i s h1 h2 h3).2⟩
  refine ⟨⟨o.sub, hl, fun i s v h1 h2 => ?_, fun a q => o.fr a (own2 a q), fun i j s t a h1 h2 o1 o2 h3 h4 => ?_, o.ph, o.phl, o.phn⟩, own2⟩
  · rcases h i s v h1 h2 with e | ⟨e1, e2⟩
    · subst e; trivial
    · exact o.sl i s v e1 e2
  · exact o.ap i j s t a (own a i s h1 o1 h3).1 (own a j t h2 o2 h4).1 o1 o2 (own a i s h1 o1 h3).2 (own a j t h2 o2 h4).2
def UnAt (ρ : List Sl) (vs : List Nat) : Prop := ∀ (i : Nat) (s : Sl), ρ[i]? = some s → i ∈ vs → s = .un
theorem unAt_forget (ρ : List Sl) (vs : List Nat) : UnAt (forgetL ρ vs) vs := fun i s h m => by
  rcases forgetL_get h with e | ⟨_, e⟩
  · exact e
  · exact absurd m e
/-- the state behind a turn, and the state that the turns begin with -/
theorem Ok.wiped {vs : List Nat} (o : Ok p φ F z σ2 H) (hw : wipe σ2 vs = wipe σ vs) : Ok p φ F (forget vs z) (wipe σ vs) H ∧ ∀ a, ownAt (forgetL z.ρ vs) (wipe σ vs) a → ownAt z.ρ σ2 a :=
  o.less (by rw [forgetL_length, wipe_length, o.len]; have := congrArg List.length hw; rw [wipe_length, wipe_length] at this; exact this) fun i s v h1 h2 => by
    rcases forgetL_get h1 with e | ⟨e1, e2⟩
    · exact .inl e
    · rw [← hw, wipe_out e2] at h2
      exact .inr ⟨e1, h2⟩
theorem Ok.unwipe {vs : List Nat} (o : Ok p φ F z (wipe σ vs) H) (u : UnAt z.ρ vs) : Ok p φ F z σ H ∧ ∀ a, ownAt z.ρ σ a → ownAt z.ρ (wipe σ vs) a :=
  o.less (z := z) (by rw [o.len, wipe_length]) fun i s v h1 h2 => by
    by_cases m : i ∈ vs
    · exact .inl (u i s h1 m)
    · exact .inr ⟨h1, by rw [wipe_out m]; exact h2⟩
theorem Ok.wipe {vs : List Nat} (o : Ok p φ F z σ H) (u : UnAt z.ρ vs) : ∀ a, ownAt z.ρ (wipe σ vs) a → ownAt z.ρ σ a := fun a ⟨i, s, h1, h2, h3⟩ => by
  by_cases m : i ∈ vs
  · rw [u i s h1 m] at h2; cases h2
  · exact ⟨i, s, h1, h2, by rw [← wipe_out m]; exact h3⟩
/-- an object that the layer doesn't know is changed -/
theorem Ok.poke {q : Addr} {u : HO} (o : Ok p φ F z σ H) (f : F q = none) (nph : q ∉ φ) (no : ¬ ownAt z.ρ σ q) : Ok p φ F z σ (upd H q u) :=
  ⟨fun b v e => by rw [upd_ne (ne_of_none e f)]; exact o.sub b v e, o.len, fun i s v h1 h2 => (o.sl i s v h1 h2).mono (Same.refl _) ⟨[], by simp⟩ fun ho a ea w hw => by
    subst ea
    have na : a ≠ q := fun e => by subst e; exact no ⟨i, s, h1, ho, h2⟩
    rw [upd_ne na]; exact hw, o.fr, o.ap, fun n a e => by
    obtain ⟨e0, ds, vs, e1, e2, r⟩ := o.ph n a e
    have na : a ≠ q := fun e' => by subst e'; exact nph (List.mem_of_getElem? e)
    exact ⟨e0, ds, vs, e1, by rw [upd_ne na]; exact e2, r⟩, o.phl, o.phn⟩
/-- an object that the layer doesn't know is taken in -/
theorem Ok.adopt {q : Addr} {u : HO} (o : Ok p φ F z σ H) (f : F q = none) (nph : q ∉ φ) (no : ¬ ownAt z.ρ σ q) (hq : H q = some u) : Ok p φ (upd F q u) z σ H := by
  have s1 : Same F (upd F q u) := fun b v e => by rw [upd_ne (ne_of_none e f)]; exact e
  refine o.step s1 (fun b v e => ?_) fun a v e m => ⟨e, ?_⟩
  · by_cases hb : b = q
    · subst hb; rw [upd_same] at e; cases e; exact hq
    · rw [upd_ne hb] at e; exact o.sub b v e
  · have na : a ≠ q := fun e' => by
      subst e'
      rcases m with m | m
      · exact nph m
      · exact no m
    rw [upd_ne na]
    rcases m with m | m
    · obtain ⟨i, hi, e'⟩ := List.getElem_of_mem m
      exact (o.ph i a (by rw [List.getElem?_eq_getElem hi, e'])).1
    · exact (o.fr a m).1
/-! ### [e for .. in .. if ..] -/
def Res.calm {α : Type} : Res α → Res α
  | .ok a z => .ok a z
  | _ => .stuck
def compL (vs : List Nat) (tg : FD.D → Z → Option Z) (t : Den Bool) (e : Den FD.D) : List FD.D → List FD.D → Z → Res (List FD.D)
  | acc, [], z => .ok acc z
  | acc, d :: r, z => match tg d z with
    | none => .stuck
    | some z1 => (t z1).calm.bind fun b z2 => if b then (e z2).calm.bind fun d' z3 => compL vs tg t e (acc ++ [d']) r (forget vs z3) else compL vs tg t e acc r (forget vs z2)
def compD (vs : List Nat) (tg : FD.D → Z → Option Z) (t : Den Bool) (e : Den FD.D) (f : Den (List FD.D)) : Den FD.D := fun z => (f z).bind fun ds z1 => if short ds.length then (compL vs tg t e [] ds (forget vs z1)).bind fun l z2 => .ok (.lst l) z2 else .stuck
def yesT : Den Bool := fun z => .ok true z
abbrev W0 : WX := fun _ _ _ _ => False
abbrev DTs (X : Cx) (p : Pm) (W : WX) (ifs : List Expr) (f : Den Bool) : Prop := PTs X ifs (LG p W rB f)
theorem dts_nil : DTs X p W [] yesT := ⟨fun pins s σ H Q I h => by
  obtain ⟨φ, F, z, o, l⟩ := h
  exact (pts_nil (X := X)).run pins s σ H Q I (LGat.here (b := true) (R := rB) l o rfl)⟩
theorem dts_one {c : Expr} {f : Den Bool} (h : DT X p W c f) : DTs X p W [c] f := pts_one h
theorem calm_ok {α γ : Type} {r : Res α} {k : α → Z → Res γ} {c : γ} {zc : Z} (h : r.calm.bind k = .ok c zc) : ∃ a z', r = .ok a z' ∧ k a z' = .ok c zc := by
  cases r with
  | ok a z' => exact ⟨a, z', rfl, h⟩
  | err _ _ _ => cases h
  | stuck => cases h
theorem LG.calm {α β γ : Type} {R : RR β α} {f : Den α} {k : α → Z → Res γ} {c : γ} {zc : Z} {Q : β → Hp → Prop} (o : Ok p φ F z σ H) (hs : (f z).calm.bind k = .ok c zc)
    (h : ∀ a z', k a z' = .ok c zc → ∀ φ' F' b H', Ok p φ' F' z' σ H' → Af φ F z σ H φ' F' z' σ H' → R φ' F' z' σ H' b a → Q b H') : LG p W0 R f σ H Q := by
  obtain ⟨a, z', e1, e2⟩ := calm_ok hs
  refine ⟨φ, F, z, o, ?_⟩
  rw [e1]
  exact fun φ' F' b H' o' a' r' => h a z' e2 φ' F' b H' o' a' r'
theorem compL_noerr {vs : List Nat} {tg : FD.D → Z → Option Z} {t : Den Bool} {e : Den FD.D} : ∀ (ds acc : List FD.D) (z : Z), compL vs tg t e acc ds z = .stuck ∨ ∃ L zL, compL vs tg t e acc ds z = .ok L zL
  | [], acc, z => .inr ⟨_, _, rfl⟩
  | d :: r, acc, z => by
    unfold compL
    cases tg d z with
    | none => exact .inl rfl
    | some z1 =>
      simp only
      cases t z1 with
      | err _ _ _ => exact .inl rfl
      | stuck => exact .inl rfl
      | ok b z2 =>
        cases b with
        | false => exact compL_noerr r acc _
        | true =>
          show ((e z2).calm.bind fun d' z3 => compL vs tg t e (acc ++ [d']) r (forget vs z3)) = .stuck ∨ ∃ L zL, ((e z2).calm.bind fun d' z3 => compL vs tg t e (acc ++ [d']) r (forget vs z3)) = .ok L zL
          cases e z2 with
          | err _ _ _ => exact .inl rfl
          | stuck => exact .inl rfl
          | ok d' z3 => exact compL_noerr r _ _
theorem comp_imp {g : TG} {tg : FD.D → Z → Option Z} {vs : List Nat} {f : Den (List FD.D)} {t : Den Bool} {e : Den FD.D} (σ : L2.St) (H : Hp) (Q : VK) (h : LG p W (rD p) (compD vs tg t e f) σ H Q) :
    tLc (LI p W g tg vs f) g (LG p W0 rB t) (LG p W0 (rD p) e) vs σ H Q := by
  obtain ⟨φ, F, z, o, l⟩ := h
  refine ⟨φ, F, z, o, ?_⟩
  unfold compD at l
  cases ef : f z with
  | stuck => rw [ef] at l; exact l
  | err c d z' => rw [ef] at l; exact fun φ' F' v H' da o f e r => l φ' F' v H' da o f e r
  | ok ds z1 =>
    rw [ef] at l
    intro φ1 F1 J H1 o1 a1 j1 D hD
    have l1 := LGat.shift l a1
    simp only [Res.bind] at l1
    cases hsh : short ds.length with
    | false => rw [hsh] at l1; exact l1.elim
    | true =>
    rw [hsh] at l1
    rw [if_pos rfl] at l1
    rcases compL_noerr (vs := vs) (tg := tg) (t := t) (e := e) ds [] (forget vs z1) with q | ⟨L, zL, q⟩
    · rw [q] at l1; exact l1.elim
    rw [q] at l1
    have u1 := unAt_forget z1.ρ vs
    obtain ⟨o1w, ow1⟩ := o1.wiped (σ := σ) (vs := vs) rfl
    obtain ⟨o1d, a1d⟩ := o1w.junk (o := .lst []) hD
    refine ⟨fun i m H => m = ds.length - i ∧ i ≤ ds.length ∧ ∃ φ F z acc accV, Ok p φ F z (wipe σ vs) H ∧ Af φ1 F1 z1 σ H1 φ F z σ H ∧ UnAt z.ρ vs ∧ H D = some (.lst accV) ∧ F D = none ∧ D ∉ φ ∧ ¬ ownAt z.ρ (wipe σ vs) D ∧ Reps p.K φ F accV acc ∧ acc.length ≤ i ∧ compL vs tg t e acc (ds.drop i) z = .ok L zL,
      ⟨ds.length, by simp, Nat.zero_le _, φ1, F1, forget vs z1, [], [], o1d, ⟨Same.refl _, ⟨[], by simp⟩, fun b w h1 h2 h3 h4 => ?_⟩, u1, upd_same, o1.fnone hD, o1.not_phi hD, fun hh => o1.not_own hD (ow1 D hh), .nil, Nat.le_refl _, q⟩, ?_⟩
    · refine ⟨by rw [upd_ne (ne_of_none h1 hD)]; exact h1, h2, h3, fun hh => h4 ?_⟩
      obtain ⟨i, s, k1, k2, k3⟩ := hh
      rcases forgetL_get k1 with e | ⟨e1, e2⟩
      · subst e; cases k2
      · exact ⟨i, s, e1, k2, k3⟩
    rintro i m H2 ⟨rfl, hi, φ2, F2, z2, acc, accV, o2, a2, u2, hD2, fD2, pD2, nD2, rA, hlen, hL⟩
    by_cases hlt : i < ds.length
    · refine .inr ⟨j1.go F2 i H2 a2.sF o2.sub hlt, fun H' => i + 1 ≤ ds.length ∧ ∃ φ F z acc accV, Ok p φ F z (wipe σ vs) H' ∧ Af φ1 F1 z1 σ H1 φ F z σ H' ∧ UnAt z.ρ vs ∧ H' D = some (.lst accV) ∧ F D = none ∧ D ∉ φ ∧ ¬ ownAt z.ρ (wipe σ vs) D ∧ Reps p.K φ F accV acc ∧ acc.length ≤ i + 1 ∧ compL vs tg t e acc (ds.drop (i + 1)) z = .ok L zL,
        fun H' q => ⟨ds.length - (i + 1), by omega, rfl, q.1, q.2⟩, fun x H' y => ?_⟩
      rw [List.drop_eq_getElem_cons hlt] at hL
      unfold compL at hL
      cases e2 : tg ds[i] z2 with
      | none => rw [e2] at hL; cases hL
      | some z3 =>
        rw [e2] at hL
        simp only at hL
        refine j1.step φ2 F2 z2 (wipe σ vs) H2 i ds[i] z3 a2.sF a2.pφ o2 (List.getElem?_eq_getElem hlt) e2 x H' y _ fun φ3 F3 σ3 H3 o3 a3 hw => ?_
        have hw' : wipe σ3 vs = wipe σ vs := by rw [hw, wipe_wipe]
        refine ⟨by rw [hw, wipe_wipe], ?_⟩
        obtain ⟨o2u, ow2⟩ := o2.unwipe u2
        have ow2' := o2u.wipe u2
        -- behind the turn
        have fin : ∀ {z5 : Z} {acc' : List FD.D} {φ5 F5 H5} {u : List V}, Ok p φ5 F5 z5 σ3 H5 → Af φ3 F3 z3 σ3 H3 φ5 F5 z5 σ3 H5 → compL vs tg t e acc' (ds.drop (i + 1)) (forget vs z5) = .ok L zL → Reps p.K φ5 F5 u acc' → acc'.length ≤ i + 1 →
            i + 1 ≤ ds.length ∧ ∃ φ F z acc accV, Ok p φ F z (wipe σ vs) (upd H5 D (.lst u)) ∧ Af φ1 F1 z1 σ H1 φ F z σ (upd H5 D (.lst u)) ∧ UnAt z.ρ vs ∧ (upd H5 D (.lst u)) D = some (.lst accV) ∧ F D = none ∧ D ∉ φ ∧ ¬ ownAt z.ρ (wipe σ vs) D ∧ Reps p.K φ F accV acc ∧ acc.length ≤ i + 1 ∧ compL vs tg t e acc (ds.drop (i + 1)) z = .ok L zL := by
          intro z5 acc' φ5 F5 H5 u o5 a5 hL5 r5 hl5
          have a35 := a3.trans a5
          obtain ⟨g1, g2, g3, g4⟩ := a35.out D _ hD2 fD2 pD2 nD2
          obtain ⟨o6, ow6⟩ := o5.wiped hw'
          have u6 := unAt_forget z5.ρ vs
          have n6 : ¬ ownAt (forgetL z5.ρ vs) (wipe σ vs) D := fun hh => g4 (ow6 D hh)
          refine ⟨hlt, φ5, F5, forget vs z5, acc', u, o6.poke g2 g3 n6, ⟨a2.sF.trans a35.sF, ?_, fun b w h1 h2 h3 h4 => ?_⟩, u6, upd_same, g2, g3, n6, r5, hl5, hL5⟩
          · obtain ⟨t1, e1⟩ := a2.pφ
            obtain ⟨t2, e2⟩ := a35.pφ
            exact ⟨t1 ++ t2, by rw [e2, e1, List.append_assoc]⟩
          · have bD : b ≠ D := ne_of_none h1 hD
            obtain ⟨k1, k2, k3, k4⟩ := a2.out b w h1 h2 h3 h4
            obtain ⟨m1, m2, m3, m4⟩ := a35.out b w k1 k2 k3 fun hh => k4 (ow2' b hh)
            refine ⟨by rw [upd_ne bD]; exact m1, m2, m3, fun hh => m4 (ow6 b ?_)⟩
            obtain ⟨j, s, q1, q2, q3⟩ := hh
            by_cases mj : j ∈ vs
            · rw [u6 j s q1 mj] at q2; cases q2
            · exact ⟨j, s, q1, q2, by rw [wipe_out mj]; exact q3⟩
        have same : ∀ {H5 : Hp} {u : List V}, H5 D = some (.lst u) → upd H5 D (.lst u) = H5 := fun {H5 u} hh => by
          funext b
          by_cases hb : b = D
          · subst hb; rw [upd_same, hh]
          · rw [upd_ne hb]
        refine LG.calm (R := rB) o3 hL fun b z4 hk φ4 F4 b' H4 o4 a4 r4 => ?_
        cases r4
        cases b with
        | false =>
          rw [if_neg Bool.false_ne_true]
          simp only [Bool.false_eq_true, if_false] at hk
          have a34 := a3.trans a4
          obtain ⟨g1, g2, g3, g4⟩ := a34.out D _ hD2 fD2 pD2 nD2
          have q := fin (u := accV) o4 a4 hk (a34.reps rA) (Nat.le_succ_of_le hlen)
          rw [same g1] at q
          exact q
        | true =>
          rw [if_pos rfl]
          simp only [if_true] at hk
          refine LG.calm (R := rD p) o4 hk fun d5 z5 hk5 φ5 F5 v H5 o5 a5 r5 => ?_
          have a35 := a3.trans (a4.trans a5)
          obtain ⟨g1, g2, g3, g4⟩ := a35.out D _ hD2 fD2 pD2 nD2
          refine ⟨accV, g1, ?_, fin (acc' := acc ++ [d5]) (u := accV ++ [v]) o5 (a4.trans a5) hk5 ((a35.reps rA).append (.cons r5 .nil)) (by rw [List.length_append, List.length_singleton]; omega)⟩
          rw [rA.length]
          have := short_line hsh
          omega
    · refine .inl ⟨j1.stop F2 i H2 a2.sF o2.sub (by omega), ?_⟩
      rw [List.drop_eq_nil_of_le (by omega)] at hL
      unfold compL at hL
      cases hL
      obtain ⟨o2u, ow2⟩ := o2.unwipe u2
      have nD : ¬ ownAt _ σ D := fun hh => nD2 (ow2 D hh)
      have oA := o2u.adopt fD2 pD2 nD hD2
      have s1 : Same F2 (upd F2 D (.lst accV)) := fun b v e => by rw [upd_ne (ne_of_none e fD2)]; exact e
      refine l1 φ2 _ (.ref D) H2 oA ⟨a2.sF.trans s1, a2.pφ, fun b w h1 h2 h3 h4 => ?_⟩ (.lst upd_same (rA.mono s1 ⟨[], by simp⟩))
      obtain ⟨k1, k2, k3, k4⟩ := a2.out b w h1 h2 h3 h4
      exact ⟨k1, by rw [upd_ne (ne_of_none h1 hD)]; exact k2, k3, k4⟩
/-- the names of a block -/
theorem de_lc {elt tge iter : Expr} {ifs : List Expr} {scope : Scope} {own : List (Str × Nat)} {pos : Pos} {g : TG} {tg : FD.D → Z → Option Z} {vs : List Nat} {f : Den (List FD.D)} {t : Den Bool} {e : Den FD.D} (hc : X.calm = true) (hN : X.N.Nodup) (hi : DI X p W tge iter g tg vs f) (ok : BlkOk X.N X.env.scope scope own) (hv : own.map (·.2) = vs)
    (hg : ∀ (s : Shared) (H : Hp) (C : Addr) (cl : List (Str × Addr)) (fp : List Addr), PG (X.blk s H scope (compEnvC scope cl C X.env) fp) tge g) (ht : ∀ (s : Shared) (H : Hp) (C : Addr) (cl : List (Str × Addr)) (fp : List Addr), DTs (X.blk s H scope (compEnvC scope cl C X.env) fp) p W0 ifs t)
    (he : ∀ (s : Shared) (H : Hp) (C : Addr) (cl : List (Str × Addr)) (fp : List Addr), DE (X.blk s H scope (compEnvC scope cl C X.env) fp) p W0 elt e) (hs : ∀ x, foldedSetIterable iter X.env x = pure x := by intro _; rfl) :
    DE X p W (.ListComp elt [⟨tge, iter, ifs, 0⟩] scope pos) (compD vs tg t e f) := by
  subst hv
  exact PE.imp (pe_lc hc hN hi ok hg ht he hs) comp_imp
end
end FD

set_option Elab.async false
set_option linter.all false
set_option maxRecDepth 100000
set_option maxHeartbeats 1000000
namespace FD
open PySem PySem.Spec PyProof.Rows L2 FDB
/-! ### sorted of pairs -/
def leP (a b : Int × Int) : Bool := decide (a.1 < b.1) || (decide (a.1 = b.1) && decide (a.2 ≤ b.2))
theorem leP_iff {a b : Int × Int} : leP a b = true ↔ a.1 < b.1 ∨ (a.1 = b.1 ∧ a.2 ≤ b.2) := by
  unfold leP
  simp
def insP (x : Int × Int) : List (Int × Int) → List (Int × Int)
  | [] => [x]
  | y :: r => if leP x y then x :: y :: r else y :: insP x r
def sortP : List (Int × Int) → List (Int × Int)
  | [] => []
  | x :: r => insP x (sortP r)
theorem insP_perm (x : Int × Int) : ∀ l : List (Int × Int), (insP x l).Perm (x :: l)
  | [] => List.Perm.refl _
  | y :: r => by
    unfold insP
    split
    · exact List.Perm.refl _
    · exact ((insP_perm x r).cons y).trans (List.Perm.swap x y r)
theorem sortP_perm : ∀ l : List (Int × Int), (sortP l).Perm l
  | [] => List.Perm.refl _
  | x :: r => (insP_perm x (sortP r)).trans ((sortP_perm r).cons x)
abbrev SortedP (l : List (Int × Int)) : Prop := l.Pairwise fun a b => leP a b = true
theorem leP_trans {a b c : Int × Int} (h : leP a b = true) (k : leP b c = true) : leP a c = true := by
  rw [leP_iff] at *
  omega
theorem insP_sorted (x : Int × Int) : ∀ l : List (Int × Int), SortedP l → SortedP (insP x l)
  | [], _ => List.pairwise_singleton _ _
  | y :: r, h => by
    unfold insP
    split
    · rename_i c
      refine List.pairwise_cons.mpr ⟨fun a ha => ?_, h⟩
      rcases List.mem_cons.mp ha with rfl | ha
      · exact c
      · exact leP_trans c ((List.pairwise_cons.mp h).1 a ha)
    · rename_i c
      refine List.pairwise_cons.mpr ⟨fun a ha => ?_, insP_sorted x r (List.pairwise_cons.mp h).2⟩
      rcases List.mem_cons.mp ((insP_perm x r).mem_iff.mp ha) with rfl | ha
      · rw [leP_iff] at *; omega
      · exact (List.pairwise_cons.mp h).1 a ha
theorem sortP_sorted : ∀ l : List (Int × Int), SortedP (sortP l)
  | [] => .nil
  | x :: r => insP_sorted x _ (sortP_sorted r)
theorem sortedP_unique {l m : List (Int × Int)} (h : l.Perm m) (a : SortedP l) (b : SortedP m) : l = m :=
  h.eq_of_pairwise (fun x y _ _ h1 h2 => by
    rw [leP_iff] at h1 h2
    exact Prod.ext (by omega) (by omega)) a b
def pairsOf : List FD.D → Option (List (Int × Int))
  | [] => some []
  | .tup [.int i, .int j] :: r => (pairsOf r).map ((i, j) :: ·)
  | _ => none
def dP (q : Int × Int) : FD.D := .tup [.int q.1, .int q.2]
theorem pairsOf_eq : ∀ {ds : List FD.D} {ns : List (Int × Int)}, pairsOf ds = some ns → ds = ns.map dP := by
  intro ds
  induction ds with
  | nil => intro ns h; cases h; rfl
  | cons d r ih =>
    intro ns h
    unfold pairsOf at h
    split at h
    · rename_i e0; cases e0
    · rename_i i j r' e
      cases e
      simp only [Option.map_eq_some_iff] at h
      obtain ⟨ms, h1, h2⟩ := h
      subst h2
      rw [List.map_cons, ih h1]
      rfl
    · cases h
theorem pairsOf_map : ∀ ns : List (Int × Int), pairsOf (ns.map dP) = some ns
  | [] => rfl
  | n :: r => by
    show (pairsOf (r.map dP)).map ((n.1, n.2) :: ·) = _
    rw [pairsOf_map r]
    rfl
section
variable {p : Pm} {X : Cx} {W : WX}
/-- sorted(xs), xs a list of pairs: k says which -/
def rSortedPT (K : PySem.W.Frag) : List V → Hp → VK → Prop := fun vs H Q => ∃ (a : Addr) (xs : List V) (k : V → Int × Int), vs = [V.ref a] ∧ SqL K H a xs ∧ (∀ x ∈ xs, ∃ t, x = V.ref t ∧ SqT K H t [.int (k x).1, .int (k x).2]) ∧
  ∀ ys q, SrtO.Srtd (ltP k) ys → ys.Perm xs → H q = none → Q (.ref q) (upd H q (.lst ys))
theorem cr_sortedPT : CallR X (.builtin "sorted") (rSortedPT X.K) := by
  intro pins s σ H vs us Q I r h
  obtain ⟨a, xs, k, rfl, hs, hx, q⟩ := h
  obtain ⟨its, rv, hl, hz⟩ := I.list hs
  obtain ⟨u, rfl, ru⟩ := vals1 r
  obtain rfl : u = Value.ref a := ru
  obtain ⟨e1, e2⟩ := refs_back rv fun x m => by
    obtain ⟨t, e, _⟩ := hx x m
    exact ⟨t, e⟩
  refine SrtO.sorted_pairsO (k := fun u => k (backV u)) hl.isList (by rw [← rv.length]; exact hz) (fun v hv => ?_) fun h' d out h1 h2 kp hd hn => ?_
  · obtain ⟨t, rfl⟩ := e2 v hv
    have hm : V.ref t ∈ xs := by rw [e1]; exact List.mem_map.mpr ⟨_, hv, rfl⟩
    obtain ⟨t', e, ht⟩ := hx _ hm
    cases e
    obtain ⟨its2, r2, ⟨o, ho, hc, n, hd⟩, _⟩ := I.tuple ht
    obtain ⟨u1, u2, rfl, ri, rj⟩ := vals2 r2
    obtain ⟨t1, rfl⟩ := ri
    obtain ⟨t2, rfl⟩ := rj
    exact ⟨t, o, t1, t2, n, rfl, ho, hc, hd⟩
  · have h3 : ∀ u ∈ out, ∃ a, u = Value.ref a := fun u hu => e2 u (h2.perm.mem_iff.mp hu)
    obtain ⟨n, hn⟩ := hn
    have hb : (out.map backV).Perm xs := by
      rw [e1]
      exact h2.perm.map backV
    refine ⟨.ref d, upd H d (.lst (out.map backV)), I.laid (t' := s.toks) kp hd ⟨?_, out, n, vals_back h3, hn⟩, rfl, q _ d (SrtO.srtd_map h1) hb (I.hok.fresh hd)⟩
    rw [hb.length_eq]
    exact hz
def sortedPB : List FD.D → Option FD.D
  | [.lst ds] => (pairsOf ds).map fun ns => .lst ((sortP ns).map dP)
  | _ => none
theorem Reps.perm {φ : List Addr} {F : Hp} {k : V → Int × Int} : ∀ {xs ys : List V}, ys.Perm xs → (∀ x ∈ xs, Rep p.K φ F x (dP (k x))) → Reps p.K φ F ys (ys.map fun y => dP (k y)) := by
  intro xs ys h hx
  have hy : ∀ y ∈ ys, Rep p.K φ F y (dP (k y)) := fun y hy => hx y (h.mem_iff.mp hy)
  clear h hx
  induction ys with
  | nil => exact .nil
  | cons y r ih => exact .cons (hy y List.mem_cons_self) (ih fun z hz => hy z (List.mem_cons_of_mem _ hz))
theorem rep_pair {φ : List Addr} {F : Hp} {v : V} {q r : Int × Int} (h : Rep p.K φ F v (dP q)) (k : Rep p.K φ F v (dP r)) : q = r := by
  cases h with
  | tup t1 r1 =>
    cases k with
    | tup t2 r2 =>
      obtain ⟨o1, e1, _⟩ := t1
      obtain ⟨o2, e2, _⟩ := t2
      rw [e1] at e2
      cases e2
      cases r1 with
      | cons a1 b1 => cases b1 with
        | cons c1 d1 => cases r2 with
          | cons a2 b2 => cases b2 with
            | cons c2 d2 =>
              cases a1; cases c1; cases d1
              generalize hq : q.1 = q1 at *
              generalize hq2 : q.2 = q2 at *
              generalize hr : r.1 = r1 at *
              generalize hr2 : r.2 = r2 at *
              cases a2; cases c2
              exact Prod.ext (hq.trans hr.symm) (hq2.trans hr2.symm)
open Classical in
noncomputable def keyOf (K : PySem.W.Frag) (φ : List Addr) (F : Hp) (v : V) : Int × Int := if h : ∃ q, Rep K φ F v (dP q) then choose h else (0, 0)
theorem keyOf_eq {φ : List Addr} {F : Hp} {v : V} {q : Int × Int} (h : Rep p.K φ F v (dP q)) : keyOf p.K φ F v = q := by
  unfold keyOf
  have hh : ∃ q, Rep p.K φ F v (dP q) := ⟨q, h⟩
  rw [dif_pos hh]
  exact rep_pair (Classical.choose_spec hh) h
theorem Reps.keys {φ : List Addr} {F : Hp} : ∀ {vs : List V} {qs : List (Int × Int)}, Reps p.K φ F vs (qs.map dP) → vs.map (keyOf p.K φ F) = qs
  | _, [], .nil => rfl
  | _, q :: qs, .cons h r => by rw [List.map_cons, keyOf_eq h, Reps.keys r]
theorem Reps.each {φ : List Addr} {F : Hp} : ∀ {vs : List V} {qs : List (Int × Int)}, Reps p.K φ F vs (qs.map dP) → ∀ v ∈ vs, Rep p.K φ F v (dP (keyOf p.K φ F v))
  | _, [], .nil, _, m => by cases m
  | _, q :: qs, .cons h r, v, m => by
    rcases List.mem_cons.mp m with rfl | m
    · rw [keyOf_eq h]; exact h
    · exact Reps.each r v m
theorem rep_int {φ : List Addr} {F : Hp} {v : V} {i : Int} (h : Rep p.K φ F v (.int i)) : v = .int i := by cases h; rfl
theorem sem_sortedP : CallSem p (rSortedPT p.K) sortedPB := by
  intro φ F z σ H xs ds d Q o r e k
  match ds, r, e with
  | [.lst es], .cons (.lst s q) .nil, e =>
    unfold sortedPB at e
    simp only [Option.map_eq_some_iff] at e
    obtain ⟨ns, e1, e2⟩ := e
    subst e2
    cases pairsOf_eq e1
    refine ⟨_, _, keyOf p.K φ F, rfl, .of (o.sub _ _ s), fun x hx => ?_, fun ys t h1 h2 ht => ?_⟩
    · have hr := q.each x hx
      generalize hq : dP (keyOf p.K φ F x) = dd at hr
      cases hr with
      | tup tf rr =>
        unfold dP at hq
        cases hq
        cases rr with
        | cons a b => cases b with
          | cons c d =>
            cases d
            have a1 := rep_int a
            have c1 := rep_int c
            subst a1 c1
            exact ⟨_, rfl, sqT_mono o.sub tf.sq⟩
      | _ => cases hq
    · obtain ⟨o2, f2⟩ := o.alloc (o := .lst ys) ht
      have hp : (ys.map (keyOf p.K φ F)).Perm ns := by
        have := h2.map (keyOf p.K φ F)
        rw [q.keys] at this
        exact this
      have hs : SortedP (ys.map (keyOf p.K φ F)) := by
        refine List.pairwise_map.mpr (List.Pairwise.imp (fun {a b} hab => ?_) h1)
        have hab' : SrtO.lexB (keyOf p.K φ F b) (keyOf p.K φ F a) = false := hab
        rw [SrtO.lexB_no] at hab'
        rw [leP_iff]
        omega
      have e5 := sortedP_unique (hp.trans (sortP_perm ns).symm) hs (sortP_sorted ns)
      have rr := Reps.perm h2 q.each
      have e6 : (ys.map fun y => dP (keyOf p.K φ F y)) = (sortP ns).map dP := by
        rw [← e5, List.map_map]
        rfl
      rw [e6] at rr
      exact k _ _ _ _ o2 f2 (.lst upd_same (f2.reps rr))
end
end FD

set_option Elab.async false
set_option linter.all false
set_option maxRecDepth 100000
set_option maxHeartbeats 1000000
namespace FD
open PySem PySem.Spec PyProof.Rows L2 FDB
section
variable {p : Pm} {X : Cx} {W : WX}
/-! ### tests of comparisons -/
theorem test_imp {h : Den FD.D} {t : TE} (i : ∀ σ H Q, LG p W (rD p) h σ H Q → t σ H Q) (σ : L2.St) (H : Hp) (Q : Bool → Hp → Prop) (hq : LG p W rB (testD h) σ H Q) : tTest t σ H Q := by
  refine i σ H _ ?_
  obtain ⟨φ, F, z, o, l⟩ := hq
  refine LG.mono (LGat.bind (R := rD p) o l) ?_
  rintro x H1 ⟨φ1, F1, z1, d1, o1, f1, r1, l1⟩
  cases d1 with
  | bl b => cases r1; exact ⟨b, rfl, LGat.here (R := rB) l1 o1 rfl⟩
  | _ => exact l1.elim
theorem dt_cmp {op : CmpOp} {r : R2} {opd : FD.D → FD.D → Option FD.D} {a b : Expr} {pos : Pos} {f g : Den FD.D} (ho : OpR X (compareOp op) r) (hop : OpSem p r opd) (hm : behindInMarks op b = false) (ha : DE X p W a f) (hb : DE X p W b g) : DT X p W (.Compare a [op] [b] pos) (testD (binD opd f g)) :=
  PT.imp (pt_cmpR ho ha hb hm) (test_imp (op_imp hop))
theorem de_lt {a b : Expr} {pos : Pos} {f g : Den FD.D} (ha : DE X p W a f) (hb : DE X p W b g) : DE X p W (.Compare a [.Lt] [b] pos) (binD ltI f g) := de_cmp op_lt sem_cmpI (nomark _) ha hb
theorem de_le {a b : Expr} {pos : Pos} {f g : Den FD.D} (ha : DE X p W a f) (hb : DE X p W b g) : DE X p W (.Compare a [.LtE] [b] pos) (binD leI f g) := de_cmp op_le sem_cmpI (nomark _) ha hb
theorem de_gt {a b : Expr} {pos : Pos} {f g : Den FD.D} (ha : DE X p W a f) (hb : DE X p W b g) : DE X p W (.Compare a [.Gt] [b] pos) (binD gtI f g) := de_cmp op_gt sem_cmpI (nomark _) ha hb
theorem de_ge {a b : Expr} {pos : Pos} {f g : Den FD.D} (ha : DE X p W a f) (hb : DE X p W b g) : DE X p W (.Compare a [.GtE] [b] pos) (binD geI f g) := de_cmp op_ge sem_cmpI (nomark _) ha hb
theorem dt_lt {a b : Expr} {pos : Pos} {f g : Den FD.D} (ha : DE X p W a f) (hb : DE X p W b g) : DT X p W (.Compare a [.Lt] [b] pos) (testD (binD ltI f g)) := dt_cmp op_lt sem_cmpI (nomark _) ha hb
theorem dt_le {a b : Expr} {pos : Pos} {f g : Den FD.D} (ha : DE X p W a f) (hb : DE X p W b g) : DT X p W (.Compare a [.LtE] [b] pos) (testD (binD leI f g)) := dt_cmp op_le sem_cmpI (nomark _) ha hb
theorem dt_gt {a b : Expr} {pos : Pos} {f g : Den FD.D} (ha : DE X p W a f) (hb : DE X p W b g) : DT X p W (.Compare a [.Gt] [b] pos) (testD (binD gtI f g)) := dt_cmp op_gt sem_cmpI (nomark _) ha hb
theorem dt_ge {a b : Expr} {pos : Pos} {f g : Den FD.D} (ha : DE X p W a f) (hb : DE X p W b g) : DT X p W (.Compare a [.GtE] [b] pos) (testD (binD geI f g)) := dt_cmp op_ge sem_cmpI (nomark _) ha hb
theorem dt_eq {a b : Expr} {pos : Pos} {f g : Den FD.D} (hK : X.K = p.K) (hu : X.A.units + 64 < cLine) (ha : DE X p W a f) (hb : DE X p W b g) : DT X p W (.Compare a [.Eq] [b] pos) (testD (binD (eqD false) f g)) :=
  dt_cmp (op_eqD hu) (by rw [hK]; exact sem_eq) (nomark _) ha hb
theorem dt_ne {a b : Expr} {pos : Pos} {f g : Den FD.D} (hK : X.K = p.K) (hu : X.A.units + 64 < cLine) (ha : DE X p W a f) (hb : DE X p W b g) : DT X p W (.Compare a [.NotEq] [b] pos) (testD (binD (eqD true) f g)) :=
  dt_cmp (op_neD hu) (by rw [hK]; exact sem_ne) (nomark _) ha hb
theorem dt_in {a b : Expr} {pos : Pos} {f g : Den FD.D} (hK : X.K = p.K) (ha : DE X p W a f) (hb : DE X p W b g) (hm : behindInMarks .In b = false := by rfl) : DT X p W (.Compare a [.In] [b] pos) (testD (binD (inD false) f g)) :=
  dt_cmp op_in_seq (by rw [hK]; exact sem_in false) hm ha hb
theorem dt_notIn {a b : Expr} {pos : Pos} {f g : Den FD.D} (hK : X.K = p.K) (ha : DE X p W a f) (hb : DE X p W b g) (hm : behindInMarks .NotIn b = false := by rfl) : DT X p W (.Compare a [.NotIn] [b] pos) (testD (binD (inD true) f g)) :=
  dt_cmp op_notIn_seq (by rw [hK]; exact sem_in true) hm ha hb
theorem dt_inOwn {C f : Addr} {fd : FuncData} {ps : List Str} {k : Nat} {g : FnD} {a b : Expr} {pos : Pos} {h1 h2 : Den FD.D} (Fo : FnOk X.prog X.w X.K X.mg X.base (L2.CX X.prog X.w) k f fd ps (spF p 2 g)) (hr : Room k X.A) (m : Meth X.K C "__contains__" f) (hb : Binds X.K fd ps [])
    (ha : DE X p W a h1) (hb2 : DE X p W b h2) (hm : behindInMarks .In b = false := by rfl) : DT X p W (.Compare a [.In] [b] pos) (testD (inOwnD C false g h1 h2)) :=
  PT.imp (pt_cmpR (op_inOwn Fo hr m.at_ m.fn hb passL fun vs H Q Q' => spF_mono vs H Q Q') ha hb2 hm) (test_imp inOwn_imp)
theorem dt_notInOwn {C f : Addr} {fd : FuncData} {ps : List Str} {k : Nat} {g : FnD} {a b : Expr} {pos : Pos} {h1 h2 : Den FD.D} (Fo : FnOk X.prog X.w X.K X.mg X.base (L2.CX X.prog X.w) k f fd ps (spF p 2 g)) (hr : Room k X.A) (m : Meth X.K C "__contains__" f) (hb : Binds X.K fd ps [])
    (ha : DE X p W a h1) (hb2 : DE X p W b h2) (hm : behindInMarks .NotIn b = false := by rfl) : DT X p W (.Compare a [.NotIn] [b] pos) (testD (inOwnD C true g h1 h2)) :=
  PT.imp (pt_cmpR (op_notInOwn Fo hr m.at_ m.fn hb passL fun vs H Q Q' => spF_mono vs H Q Q') ha hb2 hm) (test_imp inOwn_imp)
theorem chain_imp {r r' : R2} {opd opd' : FD.D → FD.D → Option FD.D} {f g k : Den FD.D} (hop : OpSem p r opd) (hop' : OpSem p r' opd') (σ : L2.St) (H : Hp) (Q : VK) (h : LG p W (rD p) (chainD opd opd' f g k) σ H Q) : tChain r r' (LG p W (rD p) f) (LG p W (rD p) g) (LG p W (rD p) k) σ H Q := by
  obtain ⟨φ, F, z, o, l⟩ := h
  refine LG.mono (LGat.bind (R := rD p) o l) ?_
  rintro x H1 ⟨φ1, F1, z1, d1, o1, f1, r1, l1⟩
  refine LG.mono (LGat.bind (R := rD p) o1 l1) ?_
  rintro y H2 ⟨φ2, F2, z2, d2, o2, f2, r2, l2⟩
  cases e : opd d1 d2 with
  | none => rw [e] at l2; exact l2.elim
  | some d =>
    rw [e] at l2
    refine hop φ2 F2 z2 σ H2 x y d1 d2 d _ o2 (f2.rep r1) r2 e fun φ3 F3 v H3 o3 f3 r3 => ?_
    cases r3 with
    | bl t =>
      refine ⟨t, rfl, ?_⟩
      cases t with
      | false =>
        rw [if_neg Bool.false_ne_true]
        exact l2 φ3 F3 _ H3 o3 f3 (.bl false)
      | true =>
        rw [if_pos rfl]
        refine LG.mono (LGat.bind (R := rD p) o3 (LGat.shift l2 f3)) ?_
        rintro w H4 ⟨φ4, F4, z4, d3, o4, f4, r4, l4⟩
        cases e' : opd' d2 d3 with
        | none => rw [e'] at l4; exact l4.elim
        | some d' =>
          rw [e'] at l4
          exact hop' φ4 F4 z4 σ H4 y w d2 d3 d' Q o4 (f4.rep (f3.rep r2)) r4 e' fun φ' F' v H' o' f' r' => l4 φ' F' v H' o' f' r'
    | _ => exact l2.elim
theorem dt_chain {op op' : CmpOp} {r r' : R2} {opd opd' : FD.D → FD.D → Option FD.D} {a b c : Expr} {pos : Pos} {f g k : Den FD.D} (ho : OpR X (compareOp op) r) (ho' : OpR X (compareOp op') r') (hop : OpSem p r opd) (hop' : OpSem p r' opd')
    (ha : DE X p W a f) (hb : DE X p W b g) (hc : DE X p W c k) (hm : lastMarks [op, op'] [b, c] = false := by with_unfolding_all rfl) : DT X p W (.Compare a [op, op'] [b, c] pos) (testD (chainD opd opd' f g k)) :=
  PT.imp (pt_chain ho ho' ha hb hc hm) (test_imp (chain_imp hop hop'))
theorem dt_isN {a : Expr} {j pos pos'} {f : Den FD.D} (h : DE X p W a f) : DT X p W (.Compare a [.Is] [.Constant .none j pos'] pos) (testD (unD (isNonD false) f)) := by
  refine PT.imp (pt_cmp (pc_isN h) rfl) (test_imp fun σ H Q h => ?_)
  obtain ⟨φ, F, z, o, l⟩ := h
  refine LG.mono (LGat.bind (R := rD p) o l) ?_
  rintro x H1 ⟨φ1, F1, z1, d1, o1, f1, r1, l1⟩
  cases r1 <;> exact LGat.here l1 o1 (Rep.bl _)
theorem dt_notN {a : Expr} {j pos pos'} {f : Den FD.D} (h : DE X p W a f) : DT X p W (.Compare a [.IsNot] [.Constant .none j pos'] pos) (testD (unD (isNonD true) f)) := by
  refine PT.imp (pt_cmp (pc_notN h) rfl) (test_imp fun σ H Q h => ?_)
  obtain ⟨φ, F, z, o, l⟩ := h
  refine LG.mono (LGat.bind (R := rD p) o l) ?_
  rintro x H1 ⟨φ1, F1, z1, d1, o1, f1, r1, l1⟩
  cases r1 <;> exact LGat.here l1 o1 (Rep.bl _)
theorem dt_set {i : Nat} {x : Str} {e : Expr} {px pos : Pos} {f : Den FD.D} (hW : X.w = p.w) (he : DE X p W e f) (hN : X.N[i]? = some x := by rfl) (hv : Vis X.env.scope x := by first | exact Or.inl rfl | exact Or.inr (Or.inl rfl) | exact Or.inr (Or.inr rfl)) (hd : (x == ("__debug__" : Str)) = false := by decide)
    (hcd : (x == ("__classdict__" : Str)) = false := by decide) (hm : behindInMarks .In (.Name x px) = false := by rfl) : DT X p W (.Compare e [.In] [.Name x px] pos) (testD (inSet i f)) := by
  refine PT.imp (pt_cmpR or_sin he (pe_var hN hv hd hcd) hm) (test_imp fun σ H Q h => ?_)
  obtain ⟨φ, F, z, o, l⟩ := h
  refine LG.mono (LGat.bind (R := rD p) o l) ?_
  rintro y H1 ⟨φ1, F1, z1, d, o1, f1, r1, l1⟩
  try simp only at l1
  split at l1
  · rename_i ns n e
    obtain ⟨a, e1, e2, nd⟩ := o1.ownSet e
    cases r1
    exact ⟨.ref a, e1, n, a, _, _, rfl, rfl, by rw [hW]; exact e2, LGat.here (R := rD p) (b := V.bl (decide (n ∈ ns))) l1 o1 (show Rep p.K φ1 F1 (V.bl (decide (n ∈ ns))) (D.bl (decide (n ∈ ns))) from Rep.bl _)⟩
  · exact l1.elim
theorem dt_pw {e : Expr} {f : Den Bool} (h : DW X p W e f) : DT X p W e f := h.pt
/-- a if c else b, as a test -/
def ifT (c f g : Den Bool) : Den Bool := fun z => (c z).bind fun b z1 => if b then f z1 else g z1
theorem dt_ifE {c a b : Expr} {pos : Pos} {k f g : Den Bool} (hc : DT X p W c k) (ha : DT X p W a f) (hb : DT X p W b g) : DT X p W (.IfExp c a b pos) (ifT k f g) := by
  refine ⟨fun pins s σ H Q I h => ?_⟩
  obtain ⟨φ, F, z, o, l⟩ := h
  refine PyProof.Rows.isTrue_IfExp (thn (hc.run pins s σ H _ I (LGat.bind (R := rB) o l)) fun t s1 hh => ?_)
  obtain ⟨H1, I1, φ1, F1, z1, b', o1, f1, e, l1⟩ := hh
  cases e
  cases t with
  | true => exact ha.run pins s1 σ H1 Q I1 ⟨φ1, F1, z1, o1, l1⟩
  | false => exact hb.run pins s1 σ H1 Q I1 ⟨φ1, F1, z1, o1, l1⟩
/-- truth of numbers, sequences -/
def truD : FD.D → Option Bool
  | .non => some false
  | .bl b => some b
  | .int i => some (i != 0)
  | .tup ds => some !ds.isEmpty
  | .lst ds => some !ds.isEmpty
  | .scr ns => some !ns.isEmpty
  | _ => none
def truT (f : Den FD.D) : Den Bool := fun z => (f z).bind fun d z1 => optR (truD d) z1
theorem isEmpty_reps {φ : List Addr} {F : Hp} {vs : List V} {ds : List FD.D} (r : Reps p.K φ F vs ds) : vs.isEmpty = ds.isEmpty := by cases r <;> rfl
theorem dt_tru {e : Expr} {f : Den FD.D} (hK : X.K = p.K) (h : DE X p W e f) (he : ∀ whole, isTrue e X.env whole = (do let v ← whole; standAt e.pos; holding [v] (truthy v)) := by intro _; rfl) : DT X p W e (truT f) := by
  refine PT.imp (pt_truth h he) fun σ H Q h => ?_
  obtain ⟨φ, F, z, o, l⟩ := h
  refine LG.mono (LGat.bind (R := rD p) o l) ?_
  rintro x H1 ⟨φ1, F1, z1, d1, o1, f1, r1, l1⟩
  rw [hK]
  cases r1 with
  | non => exact ⟨false, rfl, LGat.here (R := rB) l1 o1 rfl⟩
  | bl b => exact ⟨b, rfl, LGat.here (R := rB) l1 o1 rfl⟩
  | int i => exact ⟨i != 0, rfl, LGat.here (R := rB) l1 o1 rfl⟩
  | str s => exact l1.elim
  | tup tf r => exact ⟨_, .inr (.inl ⟨_, sqT_mono o1.sub tf.sq, rfl⟩), LGat.here (R := rB) l1 o1 (by rw [isEmpty_reps r]; rfl)⟩
  | lst e r => exact ⟨_, .inl ⟨_, .of (o1.sub _ _ e), rfl⟩, LGat.here (R := rB) l1 o1 (by rw [isEmpty_reps r]; rfl)⟩
  | obj _ _ => exact l1.elim
  | loc _ => exact l1.elim
  | scr s => exact ⟨_, .inl ⟨_, o1.sub.seq s, rfl⟩, LGat.here (R := rB) l1 o1 (by rw [List.isEmpty_map]; rfl)⟩
/-! ### built-ins by name -/
theorem de_len {q pos : Pos} {e : Expr} {f : Den (List FD.D)} (hK : X.K = p.K) (hm : X.mg "len" = none) (ha : DA X p W [e] f) (hg : Gl X "len" := by rfl)
    (he : starEach (e :: []) X.env = (false, eval e X.env) :: starEach [] X.env := by rfl) (hpl : (backTo pos (starEach [] X.env)).any (·.1) = false := by rfl) : DE X p W (.Call (.Name "len" q) [e] [] pos) (appD lenB f) :=
  de_callB call_len_seq (by rw [hK]; exact sem_len) hg hm PySem.boot_len ha (by decide) (by decide) he hpl
theorem de_abs {q pos : Pos} {e : Expr} {f : Den (List FD.D)} (hm : X.mg "abs" = none) (ha : DA X p W [e] f) (hg : Gl X "abs" := by rfl)
    (he : starEach (e :: []) X.env = (false, eval e X.env) :: starEach [] X.env := by rfl) (hpl : (backTo pos (starEach [] X.env)).any (·.1) = false := by rfl) : DE X p W (.Call (.Name "abs" q) [e] [] pos) (appD absB f) :=
  de_callB call_abs sem_abs hg hm (by decide +kernel) ha (by decide) (by decide) he hpl
theorem de_intB {q pos : Pos} {e : Expr} {f : Den (List FD.D)} (hm : X.mg "int" = none) (ha : DA X p W [e] f) (hg : Gl X "int" := by rfl)
    (he : starEach (e :: []) X.env = (false, eval e X.env) :: starEach [] X.env := by rfl) (hpl : (backTo pos (starEach [] X.env)).any (·.1) = false := by rfl) : DE X p W (.Call (.Name "int" q) [e] [] pos) (appD intB f) :=
  de_callTy call_int1 sem_intB hg hm (by decide +kernel) ha (by decide) (by decide) he hpl
theorem de_max {q pos : Pos} {e : Expr} {es : List Expr} {f : Den (List FD.D)} (hc : X.calm = true) (hu : X.A.units + 64 < cLine) (hK : X.K = p.K) (hm : X.mg "max" = none) (ha : DA X p W (e :: es) f) (hg : Gl X "max" := by rfl)
    (he : starEach (e :: es) X.env = (false, eval e X.env) :: starEach es X.env := by rfl) (hpl : (backTo pos (starEach es X.env)).any (·.1) = false := by rfl) : DE X p W (.Call (.Name "max" q) (e :: es) [] pos) (appD maxB f) :=
  de_callB ((call_max2 hc).or ((cr_maxT hc hu).or (cr_max hc))) (by rw [hK]; exact sem_max) hg hm (by decide +kernel) ha (by decide) (by decide) he hpl
theorem de_min {q pos : Pos} {e : Expr} {es : List Expr} {f : Den (List FD.D)} (hc : X.calm = true) (hu : X.A.units + 64 < cLine) (hK : X.K = p.K) (hm : X.mg "min" = none) (ha : DA X p W (e :: es) f) (hg : Gl X "min" := by rfl)
    (he : starEach (e :: es) X.env = (false, eval e X.env) :: starEach es X.env := by rfl) (hpl : (backTo pos (starEach es X.env)).any (·.1) = false := by rfl) : DE X p W (.Call (.Name "min" q) (e :: es) [] pos) (appD minB f) :=
  de_callB ((call_min2 hc).or ((cr_minT hc hu).or (cr_min hc))) (by rw [hK]; exact sem_min) hg hm (by decide +kernel) ha (by decide) (by decide) he hpl
theorem de_sorted {q pos : Pos} {e : Expr} {f : Den (List FD.D)} (hK : X.K = p.K) (hm : X.mg "sorted" = none) (ha : DA X p W [e] f) (hg : Gl X "sorted" := by rfl)
    (he : starEach (e :: []) X.env = (false, eval e X.env) :: starEach [] X.env := by rfl) (hpl : (backTo pos (starEach [] X.env)).any (·.1) = false := by rfl) : DE X p W (.Call (.Name "sorted" q) [e] [] pos) (appD sortedB f) :=
  de_callB (r := fun xs H Q => rSortedT1 p.K xs H Q ∨ rSortedI p.K xs H Q) (by rw [← hK]; exact cr_sortedT1.or cr_sortedI) sem_sorted hg hm (by decide +kernel) ha (by decide) (by decide) he hpl
theorem de_sortedP {q pos : Pos} {e : Expr} {f : Den (List FD.D)} (hK : X.K = p.K) (hm : X.mg "sorted" = none) (ha : DA X p W [e] f) (hg : Gl X "sorted" := by rfl)
    (he : starEach (e :: []) X.env = (false, eval e X.env) :: starEach [] X.env := by rfl) (hpl : (backTo pos (starEach [] X.env)).any (·.1) = false := by rfl) : DE X p W (.Call (.Name "sorted" q) [e] [] pos) (appD sortedPB f) :=
  de_callB (r := rSortedPT p.K) (by rw [← hK]; exact cr_sortedPT) sem_sortedP hg hm (by decide +kernel) ha (by decide) (by decide) he hpl
theorem de_tuple {q pos : Pos} {e : Expr} {f : Den (List FD.D)} (hK : X.K = p.K) (hm : X.mg "tuple" = none) (ha : DA X p W [e] f) (hg : Gl X "tuple" := by rfl)
    (he : starEach (e :: []) X.env = (false, eval e X.env) :: starEach [] X.env := by rfl) (hpl : (backTo pos (starEach [] X.env)).any (·.1) = false := by rfl) : DE X p W (.Call (.Name "tuple" q) [e] [] pos) (appD tupleB f) :=
  de_callTy call_tuple_ofF (by rw [hK]; exact sem_tuple) hg hm (by decide +kernel) ha (by decide) (by decide) he hpl
theorem de_list {q pos : Pos} {e : Expr} {f : Den (List FD.D)} (hK : X.K = p.K) (hm : X.mg "list" = none) (ha : DA X p W [e] f) (hg : Gl X "list" := by rfl)
    (he : starEach (e :: []) X.env = (false, eval e X.env) :: starEach [] X.env := by rfl) (hpl : (backTo pos (starEach [] X.env)).any (·.1) = false := by rfl) : DE X p W (.Call (.Name "list" q) [e] [] pos) (appD listB f) :=
  de_callTy call_list_of (by rw [hK]; exact sem_list) hg hm (by decide +kernel) ha (by decide) (by decide) he hpl
end
end FD

set_option Elab.async false
set_option linter.all false
set_option maxRecDepth 100000
namespace FD
open PySem PySem.Spec L2
/-! evaluation: each denotation at a state -/
@[simp] theorem bind_ok {α β : Type} (a : α) (z : Z) (g : α → Z → Res β) : (Res.ok a z).bind g = g a z := rfl
@[simp] theorem bind_err {α β : Type} (c : Str) (d : FD.D) (z : Z) (g : α → Z → Res β) : (Res.err c d z : Res α).bind g = .err c d z := rfl
@[simp] theorem then_ok {α : Type} (a : α) (z : Z) (g : α → Z → Fl) : (Res.ok a z).then g = g a z := rfl
@[simp] theorem then_err {α : Type} (c : Str) (d : FD.D) (z : Z) (g : α → Z → Fl) : (Res.err c d z : Res α).then g = .err c d z := rfl
@[simp] theorem seq_nx (z : Z) (g : Prog) : (Fl.nx z).seq g = g z := rfl
@[simp] theorem seq_rt (d : FD.D) (z : Z) (g : Prog) : (Fl.rt d z).seq g = .rt d z := rfl
@[simp] theorem seq_err (c : Str) (d : FD.D) (z : Z) (g : Prog) : (Fl.err c d z).seq g = .err c d z := rfl
@[simp] theorem seq_bk (z : Z) (g : Prog) : (Fl.bk z).seq g = .bk z := rfl
@[simp] theorem seq_ct (z : Z) (g : Prog) : (Fl.ct z).seq g = .ct z := rfl
@[simp] theorem fr_rt (d : FD.D) (z : Z) : (Fl.rt d z).fr = .ok d z.S := rfl
@[simp] theorem fr_nx (z : Z) : (Fl.nx z).fr = .ok .non z.S := rfl
@[simp] theorem fr_err (c : Str) (d : FD.D) (z : Z) : (Fl.err c d z).fr = .err c d z.S := rfl
@[simp] theorem den_ok (d : FD.D) (S : List (List FD.D)) (z : Z) : (FR.ok d S).den z = .ok d ⟨z.ρ, S⟩ := rfl
@[simp] theorem den_err (c : Str) (d : FD.D) (S : List (List FD.D)) (z : Z) : (FR.err c d S).den z = .err c d ⟨z.ρ, S⟩ := rfl
@[simp] theorem iden_ok (C : Addr) (d : List (Str × FD.D)) (S : List (List FD.D)) (z : Z) : (FI.ok d S).den C z = .ok (.obj C d) ⟨z.ρ, S⟩ := rfl
@[simp] theorem iden_err (C : Addr) (c : Str) (d : FD.D) (S : List (List FD.D)) (z : Z) : (FI.err c d S).den C z = .err c d ⟨z.ρ, S⟩ := rfl
@[simp] theorem calm_ok' {α : Type} (a : α) (z : Z) : (Res.ok a z).calm = .ok a z := rfl
@[simp] theorem optR_some {α : Type} (a : α) (z : Z) : optR (some a) z = .ok a z := rfl
@[simp] theorem ev_fn (n : Nat) (b : Prog) (ds : List FD.D) (S : List (List FD.D)) : fnD n b ds S = (b ⟨ds.map Sl.val ++ List.replicate (n - ds.length) Sl.un, S⟩).fr := rfl
@[simp] theorem ev_var (i : Nat) (z : Z) : varD i z = match z.ρ[i]? with
  | some (.val d) => .ok d z
  | _ => .stuck := rfl
@[simp] theorem ev_con (d : FD.D) (z : Z) : conD d z = .ok d z := rfl
@[simp] theorem ev_bin (op : FD.D → FD.D → Option FD.D) (f g : Den FD.D) (z : Z) : binD op f g z = (f z).bind fun d1 z1 => (g z1).bind fun d2 z2 => optR (op d1 d2) z2 := rfl
@[simp] theorem ev_un (op : FD.D → Option FD.D) (f : Den FD.D) (z : Z) : unD op f z = (f z).bind fun d z1 => optR (op d) z1 := rfl
@[simp] theorem ev_test (f : Den FD.D) (z : Z) : testD f z = (f z).bind fun d z1 => match d with
  | .bl b => .ok b z1
  | _ => .stuck := rfl
@[simp] theorem ev_not (f : Den Bool) (z : Z) : notT f z = (f z).bind fun b z1 => .ok (!b) z1 := rfl
@[simp] theorem ev_and (f g : Den Bool) (z : Z) : andT f g z = (f z).bind fun b z1 => if b then g z1 else .ok false z1 := rfl
@[simp] theorem ev_or (f g : Den Bool) (z : Z) : orT f g z = (f z).bind fun b z1 => if b then .ok true z1 else g z1 := rfl
@[simp] theorem ev_andD (f g : Den FD.D) (z : Z) : andD f g z = (f z).bind fun d z1 => match d with
  | .bl true => g z1
  | .bl false => .ok (.bl false) z1
  | _ => .stuck := rfl
@[simp] theorem ev_orD (f g : Den FD.D) (z : Z) : orD f g z = (f z).bind fun d z1 => match d with
  | .bl true => .ok (.bl true) z1
  | .bl false => g z1
  | _ => .stuck := rfl
@[simp] theorem ev_ifD (c : Den Bool) (f g : Den FD.D) (z : Z) : ifD c f g z = (c z).bind fun b z1 => if b then f z1 else g z1 := rfl
@[simp] theorem ev_ifT (c f g : Den Bool) (z : Z) : ifT c f g z = (c z).bind fun b z1 => if b then f z1 else g z1 := rfl
@[simp] theorem ev_tru (f : Den FD.D) (z : Z) : truT f z = (f z).bind fun d z1 => optR (truD d) z1 := rfl
@[simp] theorem ev_nil (z : Z) : nilA z = .ok [] z := rfl
@[simp] theorem ev_cons (f : Den FD.D) (g : Den (List FD.D)) (z : Z) : consA f g z = (f z).bind fun d z1 => (g z1).bind fun ds z2 => .ok (d :: ds) z2 := rfl
@[simp] theorem ev_appA (f g : Den (List FD.D)) (z : Z) : appA f g z = (f z).bind fun ds z1 => (g z1).bind fun es z2 => .ok (ds ++ es) z2 := rfl
@[simp] theorem ev_tup (f : Den (List FD.D)) (z : Z) : tupD f z = (f z).bind fun ds z1 => if short ds.length then .ok (.tup ds) z1 else .stuck := rfl
@[simp] theorem ev_lst (f : Den (List FD.D)) (z : Z) : lstD f z = (f z).bind fun ds z1 => if short ds.length then .ok (.lst ds) z1 else .stuck := rfl
@[simp] theorem ev_loc (f : Den (List FD.D)) (z : Z) : locD f z = (f z).bind fun ds z1 => if short ds.length then .ok (.loc z1.S.length) ⟨z1.ρ, z1.S ++ [ds]⟩ else .stuck := rfl
@[simp] theorem ev_app (op : List FD.D → Option FD.D) (f : Den (List FD.D)) (z : Z) : appD op f z = (f z).bind fun ds z1 => optR (op ds) z1 := rfl
@[simp] theorem ev_methT (op : List FD.D → List FD.D → Option FD.D) (f : Den FD.D) (g : Den (List FD.D)) (z : Z) : methT op f g z = (f z).bind fun d z1 => match d with
  | .tup es => (g z1).bind fun ds z2 => optR (op es ds) z2
  | _ => .stuck := rfl
@[simp] theorem ev_noPart (z : Z) : noPart z = .ok none z := rfl
@[simp] theorem ev_part (f : Den FD.D) (z : Z) : partD f z = (f z).bind fun d z1 => match d with
  | .int i => .ok (some i) z1
  | _ => .stuck := rfl
@[simp] theorem ev_slice (op : FD.D → Option Int → Option Int → Option FD.D) (f : Den FD.D) (g k : Den (Option Int)) (z : Z) : sliceD op f g k z = (f z).bind fun d z1 => (g z1).bind fun a z2 => (k z2).bind fun b z3 => optR (op d a b) z3 := rfl
@[simp] theorem ev_chain (op op' : FD.D → FD.D → Option FD.D) (f g k : Den FD.D) (z : Z) : chainD op op' f g k z = (f z).bind fun d1 z1 => (g z1).bind fun d2 z2 => match op d1 d2 with
  | some (.bl true) => (k z2).bind fun d3 z3 => optR (op' d2 d3) z3
  | some (.bl false) => .ok (.bl false) z2
  | _ => .stuck := rfl
@[simp] theorem ev_call (fd : FnD) (f : Den (List FD.D)) (z : Z) : callF fd f z = (f z).bind fun ds z1 => (fd ds z1.S).den z1 := rfl
@[simp] theorem ev_make (C : Addr) (g : FnI) (h : Den (List FD.D)) (z : Z) : makeF C g h z = (h z).bind fun ds z1 => (g ds z1.S).den C z1 := rfl
@[simp] theorem ev_locIx (f g : Den FD.D) (z : Z) : locIx f g z = (f z).bind fun o z1 => (g z1).bind fun i z2 => match o, i with
  | .loc n, .int j => match z2.S[n]? with
    | some ds => optR (L2.atI ds j) z2
    | none => .stuck
  | _, _ => .stuck := rfl
@[simp] theorem ev_inOwn (C : Addr) (neg : Bool) (g : FnD) (f h : Den FD.D) (z : Z) : inOwnD C neg g f h z = (f z).bind fun d z1 => (h z1).bind fun e z2 => match e with
  | .obj c fs => if c = C then (match g [.obj c fs, d] z2.S with
    | .ok (.bl b) S => .ok (.bl (if neg then !b else b)) ⟨z2.ρ, S⟩
    | _ => .stuck) else .stuck
  | _ => .stuck := rfl
@[simp] theorem ev_varF (i : Nat) (z : Z) : varF i z = match z.ρ[i]? with
  | some (.lst ds) => .ok (.lst ds) ⟨z.ρ.set i (.val (.lst ds)), z.S⟩
  | _ => .stuck := rfl
@[simp] theorem ev_pop (i : Nat) (f : Den FD.D) (z : Z) : popO i f z = match z.ρ[i]? with
  | some (.lst _) => (f z).bind fun d z1 => match z1.ρ[i]?, d with
    | some (.lst ds), .int k => if 0 ≤ k ∧ k < ds.length ∧ short ds.length then (match ds[k.toNat]? with
      | some e => .ok e ⟨z1.ρ.set i (.lst (ds.eraseIdx k.toNat)), z1.S⟩
      | none => .stuck) else .stuck
    | _, _ => .stuck
  | _ => .stuck := rfl
@[simp] theorem ev_lenO (i : Nat) (z : Z) : lenO i z = match z.ρ[i]? with
  | some (.lst ds) => .ok (.int ds.length) z
  | _ => .stuck := rfl
@[simp] theorem ev_sortDct (i : Nat) (z : Z) : sortDct i z = match z.ρ[i]? with
  | some (.dct kvs) => match keysI kvs with
    | some ns => if ns.length < 64 then .ok (.lst ((sortI ns).map .int)) z else .stuck
    | none => .stuck
  | _ => .stuck := rfl
@[simp] theorem ev_inSet (i : Nat) (f : Den FD.D) (z : Z) : inSet i f z = (f z).bind fun d z1 => match z1.ρ[i]?, d with
  | some (.set ns), .int n => .ok (.bl (decide (n ∈ ns))) z1
  | _, _ => .stuck := rfl
@[simp] theorem ev_comp (vs : List Nat) (tg : FD.D → Z → Option Z) (t : Den Bool) (e : Den FD.D) (f : Den (List FD.D)) (z : Z) : compD vs tg t e f z = (f z).bind fun ds z1 => if short ds.length then (compL vs tg t e [] ds (forget vs z1)).bind fun l z2 => .ok (.lst l) z2 else .stuck := rfl
@[simp] theorem ev_yes (z : Z) : yesT z = .ok true z := rfl
@[simp] theorem ev_itL (f : Den FD.D) (z : Z) : itL f z = (f z).bind fun d z1 => optR (asL d) z1 := rfl
@[simp] theorem ev_itT (f : Den FD.D) (z : Z) : itT f z = (f z).bind fun d z1 => optR (asT d) z1 := rfl
@[simp] theorem ev_asL (ds : List FD.D) : asL (.lst ds) = some ds := rfl
@[simp] theorem ev_asT (ds : List FD.D) : asT (.tup ds) = some ds := rfl
@[simp] theorem ev_rng1 (f : Den (List FD.D)) (z : Z) : rng1 f z = (f z).bind fun ds z1 => match ds with
  | [.int j] => if -(2 ^ 62) ≤ j ∧ j < 2 ^ 62 then .ok (rangeL 0 j.toNat) z1 else .stuck
  | _ => .stuck := rfl
@[simp] theorem ev_rng2 (f : Den (List FD.D)) (z : Z) : rng2 f z = (f z).bind fun ds z1 => match ds with
  | [.int i, .int j] => if -(2 ^ 62) ≤ i ∧ i < 2 ^ 62 ∧ -(2 ^ 62) ≤ j ∧ j < 2 ^ 62 then .ok (rangeL i (j - i).toNat) z1 else .stuck
  | _ => .stuck := rfl
@[simp] theorem ev_enumT (f : Den (List FD.D)) (z : Z) : enumT f z = (f z).bind fun ds z1 => match ds with
  | [.tup es] => .ok (enumL es) z1
  | _ => .stuck := rfl
/-! statements -/
@[simp] theorem ev_nilS (z : Z) : nilS z = .nx z := rfl
@[simp] theorem ev_seq (f g : Prog) (z : Z) : seqS f g z = (f z).seq g := rfl
@[simp] theorem ev_expr (f : Den FD.D) (z : Z) : exprS f z = (f z).then fun _ z1 => .nx z1 := rfl
@[simp] theorem ev_ret (f : Den FD.D) (z : Z) : retS f z = (f z).then fun d z1 => .rt d z1 := rfl
@[simp] theorem ev_if (c : Den Bool) (f g : Prog) (z : Z) : ifS c f g z = (c z).then fun b z1 => if b then f z1 else g z1 := rfl
@[simp] theorem ev_put (i : Nat) (d : FD.D) (z : Z) : put i d z = ⟨z.ρ.set i (.val d), z.S⟩ := rfl
@[simp] theorem ev_set (i : Nat) (f : Den FD.D) (z : Z) : setS i f z = (f z).then fun d z1 => .nx (put i d z1) := rfl
@[simp] theorem ev_par (i j : Nat) (f : Den (List FD.D)) (z : Z) : par2S i j f z = (f z).then fun ds z1 => match ds with
  | [d, e] => .nx (put j e (put i d z1))
  | _ => .stuck := rfl
@[simp] theorem ev_unpack (is : List Nat) (f : Den FD.D) (z : Z) : unpackS is f z = (f z).then fun d z1 => match d with
  | .tup ds => match puts is ds z1 with
    | some z2 => .nx z2
    | none => .stuck
  | _ => .stuck := rfl
@[simp] theorem ev_setIx (f g k : Den FD.D) (z : Z) : setIxS f g k z = (f z).then fun d z1 => (g z1).then fun o z2 => (k z2).then fun i z3 => match o, i with
  | .loc n, .int j => match z3.S[n]? with
    | some ds => match ixN ds.length j with
      | some m => .nx ⟨z3.ρ, z3.S.set n (ds.set m d)⟩
      | none => .stuck
    | none => .stuck
  | _, _ => .stuck := rfl
@[simp] theorem ev_aug (i : Nat) (op : FD.D → FD.D → Option FD.D) (f : Den FD.D) (z : Z) : augS i op f z = match z.ρ[i]? with
  | some (.val d) => (f z).then fun e z1 => match op d e with
    | some t => .nx (put i t z1)
    | none => .stuck
  | _ => .stuck := rfl
@[simp] theorem ev_own (i : Nat) (f : Den (List FD.D)) (z : Z) : ownS i f z = (f z).then fun ds z1 => if short ds.length then .nx ⟨z1.ρ.set i (.lst ds), z1.S⟩ else .stuck := rfl
@[simp] theorem ev_own2 (i j : Nat) (z : Z) : own2S i j z = .nx ⟨(z.ρ.set i (.lst [])).set j (.lst []), z.S⟩ := rfl
@[simp] theorem ev_append (i : Nat) (f : Den FD.D) (z : Z) : appendS i f z = match z.ρ[i]? with
  | some (.lst _) => (f z).then fun d z1 => match z1.ρ[i]? with
    | some (.lst ds) => if short (ds.length + 1) then .nx ⟨z1.ρ.set i (.lst (ds ++ [d])), z1.S⟩ else .stuck
    | _ => .stuck
  | _ => .stuck := rfl
@[simp] theorem ev_dct (i : Nat) (z : Z) : dctS i z = .nx ⟨z.ρ.set i (.dct []), z.S⟩ := rfl
@[simp] theorem ev_dput (i : Nat) (f g : Den FD.D) (z : Z) : dputS i f g z = (f z).then fun d z1 => match z1.ρ[i]? with
  | some (.dct _) => (g z1).then fun k z2 => match z2.ρ[i]?, k with
    | some (.dct kvs), .int n => if short (kvs.length + 1) then .nx ⟨z2.ρ.set i (.dct (putD kvs (.inl n) d)), z2.S⟩ else .stuck
    | _, _ => .stuck
  | _ => .stuck := rfl
@[simp] theorem ev_setNew (i : Nat) (z : Z) : setNewS i z = .nx ⟨z.ρ.set i (.set []), z.S⟩ := rfl
@[simp] theorem ev_addSet (i : Nat) (f : Den FD.D) (z : Z) : addSetS i f z = match z.ρ[i]? with
  | some (.set _) => (f z).then fun d z1 => match z1.ρ[i]?, d with
    | some (.set ns), .int n => if ns.length < 1000 then .nx ⟨z1.ρ.set i (.set (if n ∈ ns then ns else ns ++ [n])), z1.S⟩ else .stuck
    | _, _ => .stuck
  | _ => .stuck := rfl
@[simp] theorem ev_for (tg : FD.D → Z → Option Z) (f : Den (List FD.D)) (b : Prog) (z : Z) : forS tg f b z = (f z).then fun ds z1 => forL tg b ds z1 := rfl
@[simp] theorem ev_tgName (i : Nat) (d : FD.D) (z : Z) : tgName i d z = some (put i d z) := rfl
@[simp] theorem ev_tgNames (is : List Nat) (ds : List FD.D) (z : Z) : tgNames is (.tup ds) z = puts is ds z := rfl
@[simp] theorem ev_puts0 (z : Z) : puts [] [] z = some z := rfl
@[simp] theorem ev_puts1 (i : Nat) (is : List Nat) (d : FD.D) (ds : List FD.D) (z : Z) : puts (i :: is) (d :: ds) z = puts is ds (put i d z) := rfl
@[simp] theorem ev_addInt (a b : Int) : addD (.int a) (.int b) = some (.int (a + b)) := rfl
@[simp] theorem ev_addLst (a b : List FD.D) : addD (.lst a) (.lst b) = if short (a.length + b.length) then some (.lst (a ++ b)) else none := rfl
@[simp] theorem ev_subI (a b : Int) : subI (.int a) (.int b) = some (.int (a - b)) := rfl
@[simp] theorem ev_addI (a b : Int) : addI (.int a) (.int b) = some (.int (a + b)) := rfl
@[simp] theorem ev_negI (a : Int) : negI (.int a) = some (.int (-a)) := rfl
@[simp] theorem ev_ltI (a b : Int) : ltI (.int a) (.int b) = some (.bl (decide (a < b))) := rfl
@[simp] theorem ev_leI (a b : Int) : leI (.int a) (.int b) = some (.bl (decide (a ≤ b))) := rfl
@[simp] theorem ev_gtI (a b : Int) : gtI (.int a) (.int b) = some (.bl (decide (b < a))) := rfl
@[simp] theorem ev_geI (a b : Int) : geI (.int a) (.int b) = some (.bl (decide (b ≤ a))) := rfl
@[simp] theorem ev_lenT (ds : List FD.D) : lenB [.tup ds] = some (.int ds.length) := rfl
@[simp] theorem ev_lenL (ds : List FD.D) : lenB [.lst ds] = some (.int ds.length) := rfl
@[simp] theorem ev_lenS (ds : List Int) : lenB [.scr ds] = some (.int ds.length) := rfl
@[simp] theorem ev_intI (i : Int) : intB [.int i] = some (.int i) := rfl
@[simp] theorem ev_intBl (b : Bool) : intB [.bl b] = some (.int (if b then 1 else 0)) := rfl
@[simp] theorem ev_absB (i : Int) : absB [.int i] = some (.int (if i < 0 then -i else i)) := rfl
@[simp] theorem ev_max2 (i j : Int) : maxB [.int i, .int j] = some (.int (if j > i then j else i)) := rfl
@[simp] theorem ev_min2 (i j : Int) : minB [.int i, .int j] = some (.int (if j < i then j else i)) := rfl
@[simp] theorem ev_tupleT (ds : List FD.D) : tupleB [.tup ds] = some (.tup ds) := rfl
@[simp] theorem ev_tupleL (ds : List FD.D) : tupleB [.lst ds] = some (.tup ds) := rfl
@[simp] theorem ev_isNon (neg : Bool) : isNonD neg .non = some (.bl (!neg)) := rfl
@[simp] theorem ev_isNonT (neg : Bool) (ds : List FD.D) : isNonD neg (.tup ds) = some (.bl neg) := rfl
@[simp] theorem ev_isNonI (neg : Bool) (i : Int) : isNonD neg (.int i) = some (.bl neg) := rfl
@[simp] theorem ev_field (C : Addr) (x : Str) (fs : List (Str × FD.D)) : fieldD C x (.obj C fs) = fs.lookup x := by
  unfold fieldD
  simp
theorem forL_nx {tg : FD.D → Z → Option Z} {b : Prog} {d : FD.D} {r : List FD.D} {z z1 z2 : Z} (h1 : tg d z = some z1) (h2 : b z1 = .nx z2) : forL tg b (d :: r) z = forL tg b r z2 := by
  rw [forL, h1]
  simp only [h2]
theorem forL_ct {tg : FD.D → Z → Option Z} {b : Prog} {d : FD.D} {r : List FD.D} {z z1 z2 : Z} (h1 : tg d z = some z1) (h2 : b z1 = .ct z2) : forL tg b (d :: r) z = forL tg b r z2 := by
  rw [forL, h1]
  simp only [h2]
theorem short_of {n : Nat} (h : n ≤ 100000) : short n = true := by
  unfold short
  rw [decide_eq_true_eq]
  exact h
end FD

set_option Elab.async false
set_option linter.all false
set_option maxRecDepth 100000
set_option maxHeartbeats 4000000
namespace K06
open PySem PySem.Spec PyProof.Rows L2 FDB FD
/-! ### the text -/
def topS (i : Nat) : Stmt := PySem.Challenge.pw_turnedvalleys_k06_stretches_that_may_be.main.body.getD i (.Pass ⟨0, 0, 0, 0⟩)
theorem HandSPX_passes_of {X : Cx} {K : Value → Shared → Prop} {E₁ : Value → Shared → Prop} (hx : X.xe = fun e s' => wpAny (model X.prog X.w) X.A (leaving X.env e) (fun _ s'' => K e s'') E₁ s') : PassesOwn (model X.prog X.w) X.A X.env X.xe := by
  rw [hx]
  exact PassesOwn.leaving
abbrev s_Llaw_take : Stmt := topS 30
abbrev N_Llaw_take : List Str := ["_law_source", "_law_top", "_law_drawn"]
abbrev P_Llaw_take : List Str := ["_law_source", "_law_top"]
theorem sc_Llaw_take : FnScope N_Llaw_take P_Llaw_take (defScope s_Llaw_take) := ⟨rfl, rfl, rfl, by decide +kernel, rfl, by decide +kernel, by decide +kernel⟩
abbrev s_Llaw_one : Stmt := topS 31
abbrev N_Llaw_one : List Str := ["_law_source", "_law_things"]
abbrev P_Llaw_one : List Str := ["_law_source", "_law_things"]
theorem sc_Llaw_one : FnScope N_Llaw_one P_Llaw_one (defScope s_Llaw_one) := ⟨rfl, rfl, rfl, by decide +kernel, rfl, by decide +kernel, by decide +kernel⟩
abbrev s_Llaw_stones : Stmt := topS 35
abbrev N_Llaw_stones : List Str := ["_law_source", "_law_menu", "_law_n", "_law_x", "_law_left", "_law_found", "_law_turn"]
abbrev P_Llaw_stones : List Str := ["_law_source", "_law_menu"]
theorem sc_Llaw_stones : FnScope N_Llaw_stones P_Llaw_stones (defScope s_Llaw_stones) := ⟨rfl, rfl, rfl, by decide +kernel, rfl, by decide +kernel, by decide +kernel⟩
abbrev s_Llaw_ends : Stmt := topS 36
abbrev N_Llaw_ends : List Str := ["_law_source"]
abbrev P_Llaw_ends : List Str := ["_law_source"]
theorem sc_Llaw_ends : FnScope N_Llaw_ends P_Llaw_ends (defScope s_Llaw_ends) := ⟨rfl, rfl, rfl, by decide +kernel, rfl, by decide +kernel, by decide +kernel⟩
abbrev s_Llaw_span : Stmt := topS 32
abbrev N_Llaw_span : List Str := ["_law_stones_here", "_law_x", "_law_first", "_law_last"]
abbrev P_Llaw_span : List Str := ["_law_stones_here", "_law_x"]
theorem sc_Llaw_span : FnScope N_Llaw_span P_Llaw_span (defScope s_Llaw_span) := ⟨rfl, rfl, rfl, by decide +kernel, rfl, by decide +kernel, by decide +kernel⟩
abbrev s_Llaw_closers : Stmt := topS 33
abbrev N_Llaw_closers : List Str := ["_law_stones_here", "_law_ends_here", "_law_x", "_law_first", "_law_last", "_law_ahead", "_law_behind"]
abbrev P_Llaw_closers : List Str := ["_law_stones_here", "_law_ends_here", "_law_x"]
theorem sc_Llaw_closers : FnScope N_Llaw_closers P_Llaw_closers (defScope s_Llaw_closers) := ⟨rfl, rfl, rfl, by decide +kernel, rfl, by decide +kernel, by decide +kernel⟩
abbrev s_Llaw_heads : Stmt := topS 34
abbrev N_Llaw_heads : List Str := ["_law_stones_here", "_law_ends_here", "_law_found", "_law_x", "_law_first", "_law_last"]
abbrev P_Llaw_heads : List Str := ["_law_stones_here", "_law_ends_here"]
theorem sc_Llaw_heads : FnScope N_Llaw_heads P_Llaw_heads (defScope s_Llaw_heads) := ⟨rfl, rfl, rfl, by decide +kernel, rfl, by decide +kernel, by decide +kernel⟩
abbrev s_Llaw_rule : Stmt := topS 37
abbrev N_Llaw_rule : List Str := ["_law_source", "_law_stones_here", "_law_ends_here", "_law_found", "_law_x", "_law_first", "_law_last"]
abbrev P_Llaw_rule : List Str := ["_law_source", "_law_stones_here", "_law_ends_here"]
theorem sc_Llaw_rule : FnScope N_Llaw_rule P_Llaw_rule (defScope s_Llaw_rule) := ⟨rfl, rfl, rfl, by decide +kernel, rfl, by decide +kernel, by decide +kernel⟩
abbrev s_Llaw_row : Stmt := topS 38
abbrev N_Llaw_row : List Str := ["_law_source", "_law_stones_here", "_law_ends_here"]
abbrev P_Llaw_row : List Str := ["_law_source"]
theorem sc_Llaw_row : FnScope N_Llaw_row P_Llaw_row (defScope s_Llaw_row) := ⟨rfl, rfl, rfl, by decide +kernel, rfl, by decide +kernel, by decide +kernel⟩
abbrev s_Llaw_may : Stmt := topS 39
abbrev N_Llaw_may : List Str := ["_law_stones_here", "_law_ends_here", "_law_rule_here", "_law_i", "_law_j", "_law_inside"]
abbrev P_Llaw_may : List Str := ["_law_stones_here", "_law_ends_here", "_law_rule_here", "_law_i", "_law_j"]
theorem sc_Llaw_may : FnScope N_Llaw_may P_Llaw_may (defScope s_Llaw_may) := ⟨rfl, rfl, rfl, by decide +kernel, rfl, by decide +kernel, by decide +kernel⟩
abbrev s_Row___contains__ : Stmt := inClass (topS 15) 1
abbrev N_Row___contains__ : List Str := ["self", "x"]
abbrev P_Row___contains__ : List Str := ["self", "x"]
theorem sc_Row___contains__ : FnScope N_Row___contains__ P_Row___contains__ (defScope s_Row___contains__) := ⟨rfl, rfl, rfl, by decide +kernel, rfl, by decide +kernel, by decide +kernel⟩
abbrev s_span : Stmt := topS 17
abbrev N_span : List Str := ["stones", "x", "first", "last"]
abbrev P_span : List Str := ["stones", "x"]
theorem sc_span : FnScope N_span P_span (defScope s_span) := ⟨rfl, rfl, rfl, by decide +kernel, rfl, by decide +kernel, by decide +kernel⟩
abbrev s_span_of : Stmt := topS 18
abbrev N_span_of : List Str := ["row", "x"]
abbrev P_span_of : List Str := ["row", "x"]
theorem sc_span_of : FnScope N_span_of P_span_of (defScope s_span_of) := ⟨rfl, rfl, rfl, by decide +kernel, rfl, by decide +kernel, by decide +kernel⟩
abbrev s_lot : Stmt := topS 19
abbrev N_lot : List Str := ["row", "x", "first", "last"]
abbrev P_lot : List Str := ["row", "x"]
theorem sc_lot : FnScope N_lot P_lot (defScope s_lot) := ⟨rfl, rfl, rfl, by decide +kernel, rfl, by decide +kernel, by decide +kernel⟩
abbrev s_open_ahead : Stmt := topS 12
abbrev N_open_ahead : List Str := ["ends"]
abbrev P_open_ahead : List Str := ["ends"]
theorem sc_open_ahead : FnScope N_open_ahead P_open_ahead (defScope s_open_ahead) := ⟨rfl, rfl, rfl, by decide +kernel, rfl, by decide +kernel, by decide +kernel⟩
abbrev s_open_behind : Stmt := topS 13
abbrev N_open_behind : List Str := ["ends"]
abbrev P_open_behind : List Str := ["ends"]
theorem sc_open_behind : FnScope N_open_behind P_open_behind (defScope s_open_behind) := ⟨rfl, rfl, rfl, by decide +kernel, rfl, by decide +kernel, by decide +kernel⟩
abbrev s_closers : Stmt := topS 20
abbrev N_closers : List Str := ["row", "x", "first", "last", "before", "after"]
abbrev P_closers : List Str := ["row", "x"]
theorem sc_closers : FnScope N_closers P_closers (defScope s_closers) := ⟨rfl, rfl, rfl, by decide +kernel, rfl, by decide +kernel, by decide +kernel⟩
abbrev s_is_record : Stmt := topS 22
abbrev N_is_record : List Str := ["row", "x"]
abbrev P_is_record : List Str := ["row", "x"]
theorem sc_is_record : FnScope N_is_record P_is_record (defScope s_is_record) := ⟨rfl, rfl, rfl, by decide +kernel, rfl, by decide +kernel, by decide +kernel⟩
abbrev s_heads : Stmt := topS 23
abbrev N_heads : List Str := ["row", "x"]
abbrev P_heads : List Str := ["row"]
theorem sc_heads : FnScope N_heads P_heads (defScope s_heads) := ⟨rfl, rfl, rfl, by decide +kernel, rfl, by decide +kernel, by decide +kernel⟩
abbrev s_lets : Stmt := topS 14
abbrev N_lets : List Str := ["rule", "length"]
abbrev P_lets : List Str := ["rule", "length"]
theorem sc_lets : FnScope N_lets P_lets (defScope s_lets) := ⟨rfl, rfl, rfl, by decide +kernel, rfl, by decide +kernel, by decide +kernel⟩
abbrev s_is_let : Stmt := topS 24
abbrev N_is_let : List Str := ["row", "x"]
abbrev P_is_let : List Str := ["row", "x"]
theorem sc_is_let : FnScope N_is_let P_is_let (defScope s_is_let) := ⟨rfl, rfl, rfl, by decide +kernel, rfl, by decide +kernel, by decide +kernel⟩
abbrev s_free_heads : Stmt := topS 25
abbrev N_free_heads : List Str := ["row", "x"]
abbrev P_free_heads : List Str := ["row"]
theorem sc_free_heads : FnScope N_free_heads P_free_heads (defScope s_free_heads) := ⟨rfl, rfl, rfl, by decide +kernel, rfl, by decide +kernel, by decide +kernel⟩
abbrev s_stretches : Stmt := topS 27
abbrev N_stretches : List Str := ["row", "x"]
abbrev P_stretches : List Str := ["row"]
theorem sc_stretches : FnScope N_stretches P_stretches (defScope s_stretches) := ⟨rfl, rfl, rfl, by decide +kernel, rfl, by decide +kernel, by decide +kernel⟩
abbrev s_fits : Stmt := topS 7
abbrev N_fits : List Str := ["number"]
abbrev P_fits : List Str := ["number"]
theorem sc_fits : FnScope N_fits P_fits (defScope s_fits) := ⟨rfl, rfl, rfl, by decide +kernel, rfl, by decide +kernel, by decide +kernel⟩
abbrev s_check_stones : Stmt := topS 9
abbrev N_check_stones : List Str := ["stones", "fewest", "seen", "i", "x"]
abbrev P_check_stones : List Str := ["stones", "fewest"]
theorem sc_check_stones : FnScope N_check_stones P_check_stones (defScope s_check_stones) := ⟨rfl, rfl, rfl, by decide +kernel, rfl, by decide +kernel, by decide +kernel⟩
abbrev s_check_ends : Stmt := topS 10
abbrev N_check_ends : List Str := ["ends"]
abbrev P_check_ends : List Str := ["ends"]
theorem sc_check_ends : FnScope N_check_ends P_check_ends (defScope s_check_ends) := ⟨rfl, rfl, rfl, by decide +kernel, rfl, by decide +kernel, by decide +kernel⟩
abbrev s_check_rule : Stmt := topS 11
abbrev N_check_rule : List Str := ["rule", "before", "i", "length"]
abbrev P_check_rule : List Str := ["rule"]
theorem sc_check_rule : FnScope N_check_rule P_check_rule (defScope s_check_rule) := ⟨rfl, rfl, rfl, by decide +kernel, rfl, by decide +kernel, by decide +kernel⟩
abbrev s_Row___init__ : Stmt := inClass (topS 15) 0
abbrev N_Row___init__ : List Str := ["self", "stones", "ends", "rule"]
abbrev P_Row___init__ : List Str := ["self", "stones", "ends", "rule"]
theorem sc_Row___init__ : FnScope N_Row___init__ P_Row___init__ (defScope s_Row___init__) := ⟨rfl, rfl, rfl, by decide +kernel, rfl, by decide +kernel, by decide +kernel⟩
abbrev s_Llaw_right : Stmt := topS 40
abbrev N_Llaw_right : List Str := ["_law_source", "_law_stones_here", "_law_ends_here", "_law_rule_here", "_law_shuts", "_law_some", "_law_due", "_law_i", "_law_j"]
abbrev P_Llaw_right : List Str := ["_law_source"]
theorem sc_Llaw_right : FnScope N_Llaw_right P_Llaw_right (defScope s_Llaw_right) := ⟨rfl, rfl, rfl, by decide +kernel, rfl, by decide +kernel, by decide +kernel⟩
abbrev s_Llaw_pool : Stmt := topS 29
abbrev N_Llaw_pool : List Str := ["_law_script", "_law_k", "_law_cell", "_law_big", "_law_mixed"]
abbrev P_Llaw_pool : List Str := ["_law_script", "_law_k"]
theorem sc_Llaw_pool : FnScope N_Llaw_pool P_Llaw_pool (defScope s_Llaw_pool) := ⟨rfl, rfl, rfl, by decide +kernel, rfl, by decide +kernel, by decide +kernel⟩
abbrev s_law : Stmt := topS 41
abbrev N_law : List Str := ["_law_script", "_law_k"]
abbrev P_law : List Str := ["_law_script"]
theorem sc_law : FnScope N_law P_law (defScope s_law) := ⟨rfl, rfl, rfl, by decide +kernel, rfl, by decide +kernel, by decide +kernel⟩
abbrev exNames : List Str := []
/-! ### what the text computes -/
def b_Llaw_take : Prog :=
 (seqS (ifS (testD (binD gtI (locIx (varD 0) (conD (.int 0))) (conD (.int 0))))
 (seqS (setS 2 (binD modI (appD intB (consA (locIx (varD 0) (conD (.int 0))) nilA)) (varD 1)))
 (seqS (setIxS (binD divI (locIx (varD 0) (conD (.int 0))) (varD 1)) (varD 0) (conD (.int 0)))
 (retS (varD 2))))
 nilS)
 (seqS (setIxS (binD modI (appD intB (consA (binD addD (binD mulI (locIx (varD 0) (conD (.int 1))) (conD (.int 39373))) (conD (.int 7))) nilA)) (conD (.int 2147483647))) (varD 0) (conD (.int 1)))
 (retS (binD modI (appD intB (consA (binD divI (binD modI (appD intB (consA (binD mulI (locIx (varD 0) (conD (.int 1))) (locIx (varD 0) (conD (.int 1)))) nilA)) (conD (.int 2147483629))) (conD (.int 32))) nilA)) (varD 1)))))
def d_Llaw_take : FnD := fnD 3 (b_Llaw_take)
def b_Llaw_one : Prog :=
 (retS (binD ixD (varD 1) (callF d_Llaw_take (consA (varD 0) (consA (appD lenB (consA (varD 1) nilA)) nilA)))))
def d_Llaw_one : FnD := fnD 2 (b_Llaw_one)
def b_Llaw_stones : Prog :=
 (seqS (par2S 2 3 (consA (callF d_Llaw_one (consA (varD 0) (consA (varD 1) nilA))) (consA (callF d_Llaw_one (consA (varD 0) (consA (lstD (consA (conD (.int 1)) (consA (conD (.int 0)) (consA (unD negI (conD (.int 3))) (consA (conD (.int 7)) (consA (unD negI (binD powI (conD (.int 10)) (conD (.int 6)))) (consA (binD powI (conD (.int 10)) (conD (.int 9))) nilA))))))) nilA))) nilA)))
 (seqS (own2S 4 5)
 (seqS (forS (tgName 6) (rng1 (consA (varD 2) nilA))
 (seqS (appendS 4 (varD 3))
 (setS 3 (binD addD (varD 3) (callF d_Llaw_one (consA (varD 0) (consA (lstD (consA (conD (.int 1)) (consA (conD (.int 1)) (consA (conD (.int 1)) (consA (conD (.int 2)) (consA (conD (.int 5)) (consA (conD (.int 1000)) nilA))))))) nilA)))))))
 (seqS (forS (tgName 6) (rng1 (consA (varD 2) nilA))
 (appendS 5 (popO 4 (callF d_Llaw_take (consA (varD 0) (consA (lenO 4) nilA))))))
 (retS (appD tupleB (consA (varF 5) nilA)))))))
def d_Llaw_stones : FnD := fnD 7 (b_Llaw_stones)
def b_Llaw_ends : Prog :=
 (retS (callF d_Llaw_one (consA (varD 0) (consA (lstD (consA (conD (.int 3)) (consA (conD (.int 3)) (consA (conD (.int 0)) (consA (conD (.int 1)) (consA (conD (.int 2)) (consA (conD (.int 3)) (consA (conD (.int 0)) (consA (conD (.int 3)) nilA))))))))) nilA))))
def d_Llaw_ends : FnD := fnD 1 (b_Llaw_ends)
def b_Llaw_span : Prog :=
 (seqS (setS 2 (methT indexM (varD 0) (consA (varD 1) nilA)))
 (seqS (setS 3 (varD 2))
 (seqS (whileD (andT (testD (binD gtI (varD 2) (conD (.int 0)))) (testD (binD ltI (binD ixD (varD 0) (binD subI (varD 2) (conD (.int 1)))) (varD 1))))
 (setS 2 (binD subI (varD 2) (conD (.int 1)))) 64)
 (seqS (whileD (andT (testD (binD ltI (binD addD (varD 3) (conD (.int 1))) (appD lenB (consA (varD 0) nilA)))) (testD (binD ltI (binD ixD (varD 0) (binD addD (varD 3) (conD (.int 1)))) (varD 1))))
 (setS 3 (binD addD (varD 3) (conD (.int 1)))) 64)
 (retS (tupD (consA (varD 2) (consA (varD 3) nilA))))))))
def d_Llaw_span : FnD := fnD 4 (b_Llaw_span)
def b_Llaw_closers : Prog :=
 (seqS (unpackS [3, 4] (callF d_Llaw_span (consA (varD 0) (consA (varD 2) nilA))))
 (seqS (setS 5 (ifD (testD (binD gtI (varD 3) (conD (.int 0)))) (binD ixD (varD 0) (binD subI (varD 3) (conD (.int 1)))) (ifD (testD (binD (inD false) (varD 1) (tupD (consA (conD (.int 1)) (consA (conD (.int 3)) nilA))))) (conD (.str "wall")) (conD (.str "open")))))
 (seqS (setS 6 (ifD (testD (binD ltI (binD addD (varD 4) (conD (.int 1))) (appD lenB (consA (varD 0) nilA)))) (binD ixD (varD 0) (binD addD (varD 4) (conD (.int 1)))) (ifD (testD (binD (inD false) (varD 1) (tupD (consA (conD (.int 2)) (consA (conD (.int 3)) nilA))))) (conD (.str "wall")) (conD (.str "open")))))
 (retS (tupD (consA (varD 5) (consA (varD 6) nilA)))))))
def d_Llaw_closers : FnD := fnD 7 (b_Llaw_closers)
def b_Llaw_heads : Prog :=
 (seqS (ownS 2 nilA)
 (seqS (forS (tgName 3) (itL (appD sortedB (consA (varD 0) nilA)))
 (seqS (unpackS [4, 5] (callF d_Llaw_span (consA (varD 0) (consA (varD 3) nilA))))
 (ifS (andT (testD (binD gtI (varD 5) (varD 4))) (testD (binD (inD true) (conD (.str "open")) (callF d_Llaw_closers (consA (varD 0) (consA (varD 1) (consA (varD 3) nilA)))))))
 (appendS 2 (varD 3))
 nilS)))
 (retS (varF 2))))
def d_Llaw_heads : FnD := fnD 6 (b_Llaw_heads)
def b_Llaw_rule : Prog :=
 (seqS (ifS (testD (binD (eqD false) (callF d_Llaw_take (consA (varD 0) (consA (conD (.int 2)) nilA))) (conD (.int 0))))
 (retS (conD .non))
 nilS)
 (seqS (dctS 3)
 (seqS (forS (tgName 4) (itL (callF d_Llaw_heads (consA (varD 1) (consA (varD 2) nilA))))
 (seqS (unpackS [5, 6] (callF d_Llaw_span (consA (varD 1) (consA (varD 4) nilA))))
 (ifS (testD (binD gtI (callF d_Llaw_take (consA (varD 0) (consA (conD (.int 3)) nilA))) (conD (.int 0))))
 (dputS 3 (conD (.bl true)) (binD addD (binD subI (varD 6) (varD 5)) (conD (.int 1))))
 nilS)))
 (seqS (ifS (testD (binD (eqD false) (callF d_Llaw_take (consA (varD 0) (consA (conD (.int 4)) nilA))) (conD (.int 0))))
 (dputS 3 (conD (.bl true)) (binD addD (conD (.int 2)) (callF d_Llaw_take (consA (varD 0) (consA (conD (.int 39)) nilA)))))
 nilS)
 (retS (appD tupleB (consA (sortDct 3) nilA)))))))
def d_Llaw_rule : FnD := fnD 7 (b_Llaw_rule)
def b_Llaw_row : Prog :=
 (seqS (setS 1 (callF d_Llaw_stones (consA (varD 0) (consA (ifD (testD (binD ltI (callF d_Llaw_take (consA (varD 0) (consA (conD (.int 20)) nilA))) (conD (.int 19)))) (lstD (consA (conD (.int 5)) (consA (conD (.int 4)) (consA (conD (.int 3)) (consA (conD (.int 6)) (consA (conD (.int 7)) (consA (conD (.int 8)) (consA (conD (.int 2)) (consA (conD (.int 1)) nilA))))))))) (lstD (consA (conD (.int 40)) (consA (conD (.int 39)) (consA (conD (.int 20)) nilA))))) nilA))))
 (seqS (setS 2 (callF d_Llaw_ends (consA (varD 0) nilA)))
 (retS (tupD (consA (varD 1) (consA (varD 2) (consA (callF d_Llaw_rule (consA (varD 0) (consA (varD 1) (consA (varD 2) nilA)))) nilA)))))))
def d_Llaw_row : FnD := fnD 3 (b_Llaw_row)
def b_Llaw_may : Prog :=
 (seqS (setS 5 (appD maxB (consA (sliceD slD (varD 0) (partD (varD 3)) (partD (binD addD (varD 4) (conD (.int 1))))) nilA)))
 (seqS (ifS (ifT (testD (binD gtI (varD 3) (conD (.int 0)))) (testD (binD ltI (binD ixD (varD 0) (binD subI (varD 3) (conD (.int 1)))) (varD 5))) (testD (binD (inD false) (varD 1) (lstD (consA (conD (.int 0)) (consA (conD (.int 2)) nilA))))))
 (retS (conD (.bl false)))
 nilS)
 (seqS (ifS (ifT (testD (binD ltI (binD addD (varD 4) (conD (.int 1))) (appD lenB (consA (varD 0) nilA)))) (testD (binD ltI (binD ixD (varD 0) (binD addD (varD 4) (conD (.int 1)))) (varD 5))) (testD (binD (inD false) (varD 1) (lstD (consA (conD (.int 0)) (consA (conD (.int 1)) nilA))))))
 (retS (conD (.bl false)))
 nilS)
 (retS (orD (unD (isNonD false) (varD 2)) (binD (inD false) (binD addD (binD subI (varD 4) (varD 3)) (conD (.int 1))) (varD 2)))))))
def d_Llaw_may : FnD := fnD 6 (b_Llaw_may)
def b_Row___contains__ (C : Addr) : Prog :=
 (retS (binD (inD false) (varD 1) (unD (fieldD C "stones") (varD 0))))
def d_Row___contains__ (C : Addr) : FnD := fnD 2 (b_Row___contains__ C)
def b_span : Prog :=
 (seqS (setS 2 (methT indexM (varD 0) (consA (varD 1) nilA)))
 (seqS (setS 3 (varD 2))
 (seqS (whileD (andT (testD (binD gtI (varD 2) (conD (.int 0)))) (testD (binD ltI (binD ixD (varD 0) (binD subI (varD 2) (conD (.int 1)))) (varD 1))))
 (augS 2 subI (conD (.int 1))) 64)
 (seqS (whileD (andT (testD (binD ltI (binD addD (varD 3) (conD (.int 1))) (appD lenB (consA (varD 0) nilA)))) (testD (binD ltI (binD ixD (varD 0) (binD addD (varD 3) (conD (.int 1)))) (varD 1))))
 (augS 3 addI (conD (.int 1))) 64)
 (retS (tupD (consA (varD 2) (consA (varD 3) nilA))))))))
def d_span : FnD := fnD 4 (b_span)
def b_span_of (C : Addr) : Prog :=
 (seqS (ifS (testD (inOwnD C true (d_Row___contains__ C) (varD 1) (varD 0)))
 (fun _ => .stuck)
 nilS)
 (retS (callF d_span (consA (unD (fieldD C "stones") (varD 0)) (consA (varD 1) nilA)))))
def d_span_of (C : Addr) : FnD := fnD 2 (b_span_of C)
def b_lot (C : Addr) : Prog :=
 (seqS (unpackS [2, 3] (callF (d_span_of C) (consA (varD 0) (consA (varD 1) nilA))))
 (retS (sliceD slD (unD (fieldD C "stones") (varD 0)) (partD (varD 2)) (partD (binD addD (varD 3) (conD (.int 1)))))))
def d_lot (C : Addr) : FnD := fnD 4 (b_lot C)
def b_open_ahead : Prog :=
 (retS (binD (inD false) (varD 0) (tupD (consA (conD (.int 0)) (consA (conD (.int 2)) nilA)))))
def d_open_ahead : FnD := fnD 1 (b_open_ahead)
def b_open_behind : Prog :=
 (retS (binD (inD false) (varD 0) (tupD (consA (conD (.int 0)) (consA (conD (.int 1)) nilA)))))
def d_open_behind : FnD := fnD 1 (b_open_behind)
def b_closers (C : Addr) : Prog :=
 (seqS (unpackS [2, 3] (callF (d_span_of C) (consA (varD 0) (consA (varD 1) nilA))))
 (seqS (setS 4 (ifD (testD (callF d_open_ahead (consA (unD (fieldD C "ends") (varD 0)) nilA))) (conD (.str "open")) (conD (.str "wall"))))
 (seqS (ifS (testD (binD gtI (varD 2) (conD (.int 0))))
 (setS 4 (binD ixD (unD (fieldD C "stones") (varD 0)) (binD subI (varD 2) (conD (.int 1)))))
 nilS)
 (seqS (setS 5 (ifD (testD (callF d_open_behind (consA (unD (fieldD C "ends") (varD 0)) nilA))) (conD (.str "open")) (conD (.str "wall"))))
 (seqS (ifS (testD (binD ltI (binD addD (varD 3) (conD (.int 1))) (appD lenB (consA (unD (fieldD C "stones") (varD 0)) nilA))))
 (setS 5 (binD ixD (unD (fieldD C "stones") (varD 0)) (binD addD (varD 3) (conD (.int 1)))))
 nilS)
 (retS (tupD (consA (varD 4) (consA (varD 5) nilA)))))))))
def d_closers (C : Addr) : FnD := fnD 6 (b_closers C)
def b_is_record (C : Addr) : Prog :=
 (retS (binD (inD false) (conD (.str "open")) (callF (d_closers C) (consA (varD 0) (consA (varD 1) nilA)))))
def d_is_record (C : Addr) : FnD := fnD 2 (b_is_record C)
def b_heads (C : Addr) : Prog :=
 (retS (appD tupleB (consA (compD [1] (tgName 1) (andT (testD (binD gtI (appD lenB (consA (callF (d_lot C) (consA (varD 0) (consA (varD 1) nilA))) nilA)) (conD (.int 1)))) (notT (testD (callF (d_is_record C) (consA (varD 0) (consA (varD 1) nilA)))))) (varD 1) (itL (appD sortedB (consA (unD (fieldD C "stones") (varD 0)) nilA)))) nilA)))
def d_heads (C : Addr) : FnD := fnD 2 (b_heads C)
def b_lets : Prog :=
 (retS (orD (unD (isNonD false) (varD 0)) (binD (inD false) (varD 1) (varD 0))))
def d_lets : FnD := fnD 2 (b_lets)
def b_is_let (C : Addr) : Prog :=
 (retS (callF d_lets (consA (unD (fieldD C "rule") (varD 0)) (consA (appD lenB (consA (callF (d_lot C) (consA (varD 0) (consA (varD 1) nilA))) nilA)) nilA))))
def d_is_let (C : Addr) : FnD := fnD 2 (b_is_let C)
def b_free_heads (C : Addr) : Prog :=
 (retS (appD tupleB (consA (compD [1] (tgName 1) (testD (callF (d_is_let C) (consA (varD 0) (consA (varD 1) nilA)))) (varD 1) (itT (callF (d_heads C) (consA (varD 0) nilA)))) nilA)))
def d_free_heads (C : Addr) : FnD := fnD 2 (b_free_heads C)
def b_stretches (C : Addr) : Prog :=
 (retS (appD tupleB (consA (appD sortedPB (consA (compD [1] (tgName 1) yesT (callF (d_span_of C) (consA (varD 0) (consA (varD 1) nilA))) (itT (callF (d_free_heads C) (consA (varD 0) nilA)))) nilA)) nilA)))
def d_stretches (C : Addr) : FnD := fnD 2 (b_stretches C)
def b_fits : Prog :=
 (retS (binD ltI (appD absB (consA (varD 0) nilA)) (binD powI (conD (.int 10)) (conD (.int 15)))))
def d_fits : FnD := fnD 1 (b_fits)
def b_check_stones : Prog :=
 (seqS (ifS (notT (testD (chainD leI leI (varD 1) (appD lenB (consA (varD 0) nilA)) (conD (.int 40)))))
 (fun _ => .stuck)
 nilS)
 (seqS (setNewS 2)
 (forS (tgNames [3, 4]) (enumT (consA (varD 0) nilA))
 (seqS (ifS (orT (notT (testD (callF d_fits (consA (varD 4) nilA)))) (testD (inSet 2 (varD 4))))
 (fun _ => .stuck)
 nilS)
 (addSetS 2 (varD 4))))))
def d_check_stones : FnD := fnD 5 (b_check_stones)
def b_check_ends : Prog :=
 (ifS (testD (binD (inD true) (varD 0) (tupD (consA (conD (.int 0)) (consA (conD (.int 1)) (consA (conD (.int 2)) (consA (conD (.int 3)) nilA)))))))
 (fun _ => .stuck)
 nilS)
def d_check_ends : FnD := fnD 1 (b_check_ends)
def b_check_rule : Prog :=
 (seqS (ifS (testD (unD (isNonD false) (varD 0)))
 (fun z => .rt .non z)
 nilS)
 (seqS (setS 1 (conD (.int 1)))
 (forS (tgNames [2, 3]) (enumT (consA (varD 0) nilA))
 (seqS (ifS (notT (testD (chainD ltI leI (varD 1) (varD 3) (conD (.int 40)))))
 (fun _ => .stuck)
 nilS)
 (setS 1 (varD 3))))))
def d_check_rule : FnD := fnD 4 (b_check_rule)
def b_Row___init__ (C : Addr) : Prog :=
 (seqS (exprS (callF d_check_stones (consA (varD 1) (consA (conD (.int 1)) nilA))))
 (seqS (exprS (callF d_check_ends (consA (varD 2) nilA)))
 (seqS (exprS (callF d_check_rule (consA (varD 3) nilA)))
 (seqS (fldS C 0 "stones" (varD 1))
 (seqS (fldS C 0 "ends" (varD 2))
 (fldS C 0 "rule" (varD 3)))))))
def i_Row___init__ : FnI := fun ds S => match ds with
  | [s, e, r] => match d_check_stones [s, .int 1] S with
    | .ok _ S1 => match d_check_ends [e] S1 with
      | .ok _ S2 => match d_check_rule [r] S2 with
        | .ok _ S3 => .ok [("stones", s), ("ends", e), ("rule", r)] S3
        | .err c d S => .err c d S
        | .stuck => .stuck
      | .err c d S => .err c d S
      | .stuck => .stuck
    | .err c d S => .err c d S
    | .stuck => .stuck
  | _ => .stuck
theorem i_Row___init___eq (C x : Addr) (ds : List FD.D) (S : List (List FD.D)) (hl : ds.length = 3) (hs : i_Row___init__ ds S ≠ .stuck) : fnI C 4 (b_Row___init__ C) x ds S = i_Row___init__ ds S := by
  match ds, hl with
  | [s, e, r], _ =>
    unfold fnI b_Row___init__ i_Row___init__
    cases h1 : d_check_stones [s, .int 1] S with
    | stuck => simp [seqS, exprS, callF, consA, nilA, varD, conD, Res.bind, Res.then, FR.den, Fl.seq, Fl.fi, h1]
    | err c d S1 => simp [seqS, exprS, callF, consA, nilA, varD, conD, Res.bind, Res.then, FR.den, Fl.seq, Fl.fi, h1]
    | ok _ S1 =>
      cases h2 : d_check_ends [e] S1 with
      | stuck => simp [seqS, exprS, callF, consA, nilA, varD, conD, Res.bind, Res.then, FR.den, Fl.seq, Fl.fi, h1, h2]
      | err c d S2 => simp [seqS, exprS, callF, consA, nilA, varD, conD, Res.bind, Res.then, FR.den, Fl.seq, Fl.fi, h1, h2]
      | ok _ S2 =>
        cases h3 : d_check_rule [r] S2 with
        | stuck => simp [seqS, exprS, callF, consA, nilA, varD, conD, Res.bind, Res.then, FR.den, Fl.seq, Fl.fi, h1, h2, h3]
        | err c d S3 => simp [seqS, exprS, callF, consA, nilA, varD, conD, Res.bind, Res.then, FR.den, Fl.seq, Fl.fi, h1, h2, h3]
        | ok _ S3 =>
          simp [seqS, exprS, callF, consA, nilA, varD, conD, Res.bind, Res.then, FR.den, Fl.seq, Fl.fi, h1, h2, h3, fldS, doneI, putD', show ¬ (("stones" : Str) = "ends") by decide, show ¬ (("stones" : Str) = "rule") by decide, show ¬ (("ends" : Str) = "rule") by decide]
def b_Llaw_right (C : Addr) : Prog :=
 (seqS (unpackS [1, 2, 3] (callF d_Llaw_row (consA (varD 0) nilA)))
 (seqS (forS (tgName 4) (itL (lstD (consA (varD 2) (consA (conD (.int 3)) (consA (conD (.int 0)) (consA (conD (.int 1)) (consA (conD (.int 2)) nilA)))))))
 (forS (tgName 5) (itL (lstD (consA (varD 3) (consA (conD .non) (consA (callF d_Llaw_rule (consA (varD 0) (consA (varD 1) (consA (varD 4) nilA)))) (consA (tupD nilA) nilA))))))
 (seqS (setS 6 (lstD nilA))
 (seqS (forS (tgName 7) (rng1 (consA (appD lenB (consA (varD 1) nilA)) nilA))
 (setS 6 (binD addD (varD 6) (compD [8] (tgName 8) (testD (callF d_Llaw_may (consA (varD 1) (consA (varD 4) (consA (varD 5) (consA (varD 7) (consA (varD 8) nilA))))))) (tupD (consA (varD 7) (consA (varD 8) nilA))) (rng2 (consA (binD addD (varD 7) (conD (.int 1))) (consA (appD lenB (consA (varD 1) nilA)) nilA)))))))
 (ifS (testD (binD (eqD true) (callF (d_stretches C) (consA (makeF C i_Row___init__ (appA (consA (varD 1) nilA) (consA (varD 4) (consA (varD 5) nilA)))) nilA)) (appD tupleB (consA (varD 6) nilA))))
 (retS (conD (.bl false)))
 nilS)))))
 (retS (conD (.bl true)))))
def d_Llaw_right (C : Addr) : FnD := fnD 9 (b_Llaw_right C)
def b_Llaw_pool : Prog :=
 (seqS (setS 2 (conD (.int 0)))
 (seqS (ifS (testD (binD ltI (varD 1) (appD lenB (consA (varD 0) nilA))))
 (setS 2 (binD ixD (varD 0) (varD 1)))
 (ifS (truT (varD 0))
 (setS 2 (binD ixD (varD 0) (conD (.int 0))))
 nilS))
 (seqS (setS 3 (appD maxB (consA (appD intB (consA (varD 2) nilA)) (consA (appD intB (consA (binD subI (unD negI (conD (.int 1))) (varD 2)) nilA)) nilA))))
 (seqS (setS 4 (binD modI (appD intB (consA (binD mulI (binD addD (binD addD (binD addD (binD modI (appD intB (consA (varD 3) nilA)) (conD (.int 2147483629))) (binD mulI (binD mulI (conD (.int 7919)) (varD 1)) (varD 1))) (binD mulI (conD (.int 31)) (varD 1))) (conD (.int 17))) (conD (.int 48271))) nilA)) (conD (.int 2147483647))))
 (retS (locD (consA (binD mulI (varD 3) (appD intB (consA (binD geI (varD 3) (binD powI (conD (.int 10)) (conD (.int 18)))) nilA))) (consA (varD 4) nilA))))))))
def d_Llaw_pool : FnD := fnD 5 (b_Llaw_pool)
def b_law (C : Addr) : Prog :=
 (seqS (forS (tgName 1) (rng1 (consA (appD maxB (consA (conD (.int 1)) (consA (appD minB (consA (appD lenB (consA (varD 0) nilA)) (consA (conD (.int 3)) nilA))) nilA))) nilA))
 (ifS (notT (testD (callF (d_Llaw_right C) (consA (callF d_Llaw_pool (consA (varD 0) (consA (varD 1) nilA))) nilA))))
 (retS (conD (.bl false)))
 nilS))
 (retS (conD (.bl true))))
def d_law (C : Addr) : FnD := fnD 2 (b_law C)
/-! ### what stands behind the top -/
structure Txt (K : PySem.W.Frag) (mg : Str → Option Value) (C : Addr) (cls : Str → Addr) where
  m_C : mg "Row" = some (.ref C)
  cl : Cls K C
  na_stones : NoAttr K C "stones"
  na_ends : NoAttr K C "ends"
  na_rule : NoAttr K C "rule"
  z_abs : mg "abs" = none
  z_enumerate : mg "enumerate" = none
  z_int : mg "int" = none
  z_len : mg "len" = none
  z_max : mg "max" = none
  z_min : mg "min" = none
  z_range : mg "range" = none
  z_set : mg "set" = none
  z_sorted : mg "sorted" = none
  z_tuple : mg "tuple" = none
  f_Llaw_take : Addr
  fd_Llaw_take : FuncData
  F_Llaw_take : Fun K "_law_take" "_law_take" s_Llaw_take f_Llaw_take fd_Llaw_take
  m_Llaw_take : mg "_law_take" = some (.ref f_Llaw_take)
  b_Llaw_take : Binds K fd_Llaw_take P_Llaw_take []
  f_Llaw_one : Addr
  fd_Llaw_one : FuncData
  F_Llaw_one : Fun K "_law_one" "_law_one" s_Llaw_one f_Llaw_one fd_Llaw_one
  m_Llaw_one : mg "_law_one" = some (.ref f_Llaw_one)
  b_Llaw_one : Binds K fd_Llaw_one P_Llaw_one []
  f_Llaw_stones : Addr
  fd_Llaw_stones : FuncData
  F_Llaw_stones : Fun K "_law_stones" "_law_stones" s_Llaw_stones f_Llaw_stones fd_Llaw_stones
  m_Llaw_stones : mg "_law_stones" = some (.ref f_Llaw_stones)
  b_Llaw_stones : Binds K fd_Llaw_stones P_Llaw_stones []
  f_Llaw_ends : Addr
  fd_Llaw_ends : FuncData
  F_Llaw_ends : Fun K "_law_ends" "_law_ends" s_Llaw_ends f_Llaw_ends fd_Llaw_ends
  m_Llaw_ends : mg "_law_ends" = some (.ref f_Llaw_ends)
  b_Llaw_ends : Binds K fd_Llaw_ends P_Llaw_ends []
  f_Llaw_span : Addr
  fd_Llaw_span : FuncData
  F_Llaw_span : Fun K "_law_span" "_law_span" s_Llaw_span f_Llaw_span fd_Llaw_span
  m_Llaw_span : mg "_law_span" = some (.ref f_Llaw_span)
  b_Llaw_span : Binds K fd_Llaw_span P_Llaw_span []
  f_Llaw_closers : Addr
  fd_Llaw_closers : FuncData
  F_Llaw_closers : Fun K "_law_closers" "_law_closers" s_Llaw_closers f_Llaw_closers fd_Llaw_closers
  m_Llaw_closers : mg "_law_closers" = some (.ref f_Llaw_closers)
  b_Llaw_closers : Binds K fd_Llaw_closers P_Llaw_closers []
  f_Llaw_heads : Addr
  fd_Llaw_heads : FuncData
  F_Llaw_heads : Fun K "_law_heads" "_law_heads" s_Llaw_heads f_Llaw_heads fd_Llaw_heads
  m_Llaw_heads : mg "_law_heads" = some (.ref f_Llaw_heads)
  b_Llaw_heads : Binds K fd_Llaw_heads P_Llaw_heads []
  f_Llaw_rule : Addr
  fd_Llaw_rule : FuncData
  F_Llaw_rule : Fun K "_law_rule" "_law_rule" s_Llaw_rule f_Llaw_rule fd_Llaw_rule
  m_Llaw_rule : mg "_law_rule" = some (.ref f_Llaw_rule)
  b_Llaw_rule : Binds K fd_Llaw_rule P_Llaw_rule []
  f_Llaw_row : Addr
  fd_Llaw_row : FuncData
  F_Llaw_row : Fun K "_law_row" "_law_row" s_Llaw_row f_Llaw_row fd_Llaw_row
  m_Llaw_row : mg "_law_row" = some (.ref f_Llaw_row)
  b_Llaw_row : Binds K fd_Llaw_row P_Llaw_row []
  f_Llaw_may : Addr
  fd_Llaw_may : FuncData
  F_Llaw_may : Fun K "_law_may" "_law_may" s_Llaw_may f_Llaw_may fd_Llaw_may
  m_Llaw_may : mg "_law_may" = some (.ref f_Llaw_may)
  b_Llaw_may : Binds K fd_Llaw_may P_Llaw_may []
  f_Row___contains__ : Addr
  fd_Row___contains__ : FuncData
  F_Row___contains__ : Fun K "__contains__" "Row.__contains__" s_Row___contains__ f_Row___contains__ fd_Row___contains__
  b_Row___contains__ : Binds K fd_Row___contains__ P_Row___contains__ []
  f_span : Addr
  fd_span : FuncData
  F_span : Fun K "span" "span" s_span f_span fd_span
  m_span : mg "span" = some (.ref f_span)
  b_span : Binds K fd_span P_span []
  f_span_of : Addr
  fd_span_of : FuncData
  F_span_of : Fun K "span_of" "span_of" s_span_of f_span_of fd_span_of
  m_span_of : mg "span_of" = some (.ref f_span_of)
  b_span_of : Binds K fd_span_of P_span_of []
  f_lot : Addr
  fd_lot : FuncData
  F_lot : Fun K "lot" "lot" s_lot f_lot fd_lot
  m_lot : mg "lot" = some (.ref f_lot)
  b_lot : Binds K fd_lot P_lot []
  f_open_ahead : Addr
  fd_open_ahead : FuncData
  F_open_ahead : Fun K "open_ahead" "open_ahead" s_open_ahead f_open_ahead fd_open_ahead
  m_open_ahead : mg "open_ahead" = some (.ref f_open_ahead)
  b_open_ahead : Binds K fd_open_ahead P_open_ahead []
  f_open_behind : Addr
  fd_open_behind : FuncData
  F_open_behind : Fun K "open_behind" "open_behind" s_open_behind f_open_behind fd_open_behind
  m_open_behind : mg "open_behind" = some (.ref f_open_behind)
  b_open_behind : Binds K fd_open_behind P_open_behind []
  f_closers : Addr
  fd_closers : FuncData
  F_closers : Fun K "closers" "closers" s_closers f_closers fd_closers
  m_closers : mg "closers" = some (.ref f_closers)
  b_closers : Binds K fd_closers P_closers []
  f_is_record : Addr
  fd_is_record : FuncData
  F_is_record : Fun K "is_record" "is_record" s_is_record f_is_record fd_is_record
  m_is_record : mg "is_record" = some (.ref f_is_record)
  b_is_record : Binds K fd_is_record P_is_record []
  f_heads : Addr
  fd_heads : FuncData
  F_heads : Fun K "heads" "heads" s_heads f_heads fd_heads
  m_heads : mg "heads" = some (.ref f_heads)
  b_heads : Binds K fd_heads P_heads []
  f_lets : Addr
  fd_lets : FuncData
  F_lets : Fun K "lets" "lets" s_lets f_lets fd_lets
  m_lets : mg "lets" = some (.ref f_lets)
  b_lets : Binds K fd_lets P_lets []
  f_is_let : Addr
  fd_is_let : FuncData
  F_is_let : Fun K "is_let" "is_let" s_is_let f_is_let fd_is_let
  m_is_let : mg "is_let" = some (.ref f_is_let)
  b_is_let : Binds K fd_is_let P_is_let []
  f_free_heads : Addr
  fd_free_heads : FuncData
  F_free_heads : Fun K "free_heads" "free_heads" s_free_heads f_free_heads fd_free_heads
  m_free_heads : mg "free_heads" = some (.ref f_free_heads)
  b_free_heads : Binds K fd_free_heads P_free_heads []
  f_stretches : Addr
  fd_stretches : FuncData
  F_stretches : Fun K "stretches" "stretches" s_stretches f_stretches fd_stretches
  m_stretches : mg "stretches" = some (.ref f_stretches)
  b_stretches : Binds K fd_stretches P_stretches []
  kb_stretches : KB K fd_stretches P_stretches 0 ["row"]
  f_fits : Addr
  fd_fits : FuncData
  F_fits : Fun K "fits" "fits" s_fits f_fits fd_fits
  m_fits : mg "fits" = some (.ref f_fits)
  b_fits : Binds K fd_fits P_fits []
  f_check_stones : Addr
  fd_check_stones : FuncData
  F_check_stones : Fun K "check_stones" "check_stones" s_check_stones f_check_stones fd_check_stones
  m_check_stones : mg "check_stones" = some (.ref f_check_stones)
  b_check_stones : Binds K fd_check_stones P_check_stones []
  f_check_ends : Addr
  fd_check_ends : FuncData
  F_check_ends : Fun K "check_ends" "check_ends" s_check_ends f_check_ends fd_check_ends
  m_check_ends : mg "check_ends" = some (.ref f_check_ends)
  b_check_ends : Binds K fd_check_ends P_check_ends []
  f_check_rule : Addr
  fd_check_rule : FuncData
  F_check_rule : Fun K "check_rule" "check_rule" s_check_rule f_check_rule fd_check_rule
  m_check_rule : mg "check_rule" = some (.ref f_check_rule)
  b_check_rule : Binds K fd_check_rule P_check_rule []
  f_Row___init__ : Addr
  fd_Row___init__ : FuncData
  F_Row___init__ : Fun K "__init__" "Row.__init__" s_Row___init__ f_Row___init__ fd_Row___init__
  kb_Row___init__ : KB K fd_Row___init__ P_Row___init__ 2 ["ends", "rule"]
  f_Llaw_right : Addr
  fd_Llaw_right : FuncData
  F_Llaw_right : Fun K "_law_right" "_law_right" s_Llaw_right f_Llaw_right fd_Llaw_right
  m_Llaw_right : mg "_law_right" = some (.ref f_Llaw_right)
  b_Llaw_right : Binds K fd_Llaw_right P_Llaw_right []
  f_Llaw_pool : Addr
  fd_Llaw_pool : FuncData
  F_Llaw_pool : Fun K "_law_pool" "_law_pool" s_Llaw_pool f_Llaw_pool fd_Llaw_pool
  m_Llaw_pool : mg "_law_pool" = some (.ref f_Llaw_pool)
  b_Llaw_pool : Binds K fd_Llaw_pool P_Llaw_pool []
  f_law : Addr
  fd_law : FuncData
  F_law : Fun K "law" "law" s_law f_law fd_law
  m_law : mg "law" = some (.ref f_law)
  b_law : Binds K fd_law P_law []
  bA : ∀ (s : Shared) (v : Value), BindsTo s fd_law ⟨[v], []⟩ [("_law_script", v)]
  me_contains : Meth K C "__contains__" f_Row___contains__
  mkC : Mk K C f_Row___init__
end K06

set_option Elab.async false
set_option linter.all false
set_option maxRecDepth 100000
set_option maxHeartbeats 1000000
namespace K06
open PySem PySem.Spec L2 FD
theorem fmod_b (x : Int) {m : Int} (h : 0 < m) : 0 ≤ x.fmod m ∧ x.fmod m < m := ⟨Int.fmod_nonneg_of_pos x h, Int.fmod_lt_of_pos x h⟩
/-- a source stands at n -/
def Src (S : List (List FD.D)) (n : Nat) : Prop := ∃ a b : Int, S[n]? = some [.int a, .int b] ∧ 0 ≤ a ∧ 0 ≤ b ∧ b < 2147483647
theorem Src.lt {S : List (List FD.D)} {n : Nat} (h : Src S n) : n < S.length := by
  obtain ⟨a, b, e, _⟩ := h
  exact (List.getElem?_eq_some_iff.mp e).1
theorem take_ok {S : List (List FD.D)} {n : Nat} {top : Int} (h : Src S n) (h1 : 1 ≤ top) (h2 : top ≤ 1000) :
    ∃ (t : Int) (S' : List (List FD.D)), d_Llaw_take [.loc n, .int top] S = .ok (.int t) S' ∧ 0 ≤ t ∧ t < top ∧ Src S' n := by
  have hl := h.lt
  obtain ⟨a, b, e, ha, hb, hb2⟩ := h
  have ht : top ≠ 0 := by omega
  have ht2 : top.natAbs < 1073741824 := by omega
  unfold d_Llaw_take b_Llaw_take
  by_cases c : 0 < a
  · refine ⟨a.fmod top, S.set n [.int (a.fdiv top), .int b], ?_, (fmod_b a (by omega)).1, (fmod_b a (by omega)).2, a.fdiv top, b, ?_, Int.fdiv_nonneg ha (by omega), hb, hb2⟩
    · simp [modI, divI, int2, e, atI, ixN, c, ht, ht2]
    · rw [List.getElem?_set_self hl]
  · have e1 := fmod_b (b * 39373 + 7) (m := 2147483647) (by omega)
    generalize hb' : (b * 39373 + 7).fmod 2147483647 = b' at e1
    have m1 : -18446744073709551616 < b' ∧ b' < 18446744073709551616 := by omega
    refine ⟨(((b' * b').fmod 2147483629).fdiv 32).fmod top, S.set n [.int a, .int b'], ?_, (fmod_b _ (by omega)).1, (fmod_b _ (by omega)).2, a, b', by rw [List.getElem?_set_self hl], ha, e1.1, e1.2⟩
    simp [modI, divI, mulI, int2, e, atI, ixN, c, ht, ht2, List.getElem?_set_self hl, hb', m1]
theorem one_ok {S : List (List FD.D)} {n : Nat} {ds : List FD.D} (h : Src S n) (hn : 0 < ds.length) (hl : ds.length ≤ 1000) : ∃ d S', d_Llaw_one [.loc n, .lst ds] S = .ok d S' ∧ d ∈ ds ∧ Src S' n := by
  obtain ⟨t, S', e, h1, h2, h3⟩ := take_ok h (top := ds.length) (by omega) (by omega)
  have hi : t.toNat < ds.length := by omega
  refine ⟨ds[t.toNat], S', ?_, List.getElem_mem hi, h3⟩
  have e1 : L2.atI ds t = some ds[t.toNat] := by
    unfold L2.atI ixN
    rw [if_pos h1, if_pos h2]
    exact List.getElem?_eq_getElem hi
  unfold d_Llaw_one b_Llaw_one
  simp [ixD, e, e1]
theorem map_erase {α β : Type} (f : α → β) : ∀ (l : List α) (i : Nat), (l.eraseIdx i).map f = (l.map f).eraseIdx i
  | [], _ => rfl
  | _ :: _, 0 => rfl
  | a :: l, i + 1 => congrArg (f a :: ·) (map_erase f l i)
theorem erase_perm {α : Type} : ∀ {l : List α} (i : Nat) (h : i < l.length), ([l[i]] ++ l.eraseIdx i).Perm l
  | a :: l, 0, _ => List.Perm.refl _
  | a :: l, i + 1, h => by
    have h' : i < l.length := by simpa using h
    show (l[i] :: a :: l.eraseIdx i).Perm (a :: l)
    exact (List.Perm.swap _ _ _).trans ((erase_perm i h').cons a)
/-! ### stones -/
abbrev stZ (n : Nat) (menu : FD.D) (m x : Int) (left found : List FD.D) (s : Sl) (S : List (List FD.D)) : Z := ⟨[.val (.loc n), .val menu, .val (.int m), .val (.int x), .lst left, .lst found, s], S⟩
abbrev body1 : Prog := (seqS (appendS 4 (varD 3))
 (setS 3 (binD addD (varD 3) (callF d_Llaw_one (consA (varD 0) (consA (lstD (consA (conD (.int 1)) (consA (conD (.int 1)) (consA (conD (.int 1)) (consA (conD (.int 2)) (consA (conD (.int 5)) (consA (conD (.int 1000)) nilA))))))) nilA))))))
abbrev body2 : Prog := (appendS 5 (popO 4 (callF d_Llaw_take (consA (varD 0) (consA (lenO 4) nilA)))))
theorem loop1 {n : Nat} {menu : FD.D} {m : Int} : ∀ (ds : List FD.D) (x : Int) (left : List Int) (s : Sl) (S : List (List FD.D)), Src S n → left.length + ds.length ≤ 40 → left.Pairwise (· < ·) → (∀ y ∈ left, -1000000 ≤ y ∧ y < x) → -1000000 ≤ x → x ≤ 1000000000 + 1000 * left.length →
    ∃ (x' : Int) (left' : List Int) (s' : Sl) (S' : List (List FD.D)), forL (tgName 6) body1 ds (stZ n menu m x (left.map .int) [] s S) = .nx (stZ n menu m x' (left'.map .int) [] s' S') ∧ Src S' n ∧ left'.length = left.length + ds.length ∧ left'.Pairwise (· < ·) ∧ ∀ y ∈ left', -1000000 ≤ y ∧ y < 10000000000
  | [], x, left, s, S, h, hl, hp, hb, h1, h2 => ⟨x, left, s, S, rfl, h, rfl, hp, fun y hy => ⟨(hb y hy).1, by have := (hb y hy).2; omega⟩⟩
  | d :: ds, x, left, s, S, h, hl, hp, hb, h1, h2 => by
    obtain ⟨e, S1, e1, e2, e3⟩ := one_ok (ds := [.int 1, .int 1, .int 1, .int 2, .int 5, .int 1000]) h (by decide) (by decide)
    obtain ⟨k, rfl, k1, k2⟩ : ∃ k : Int, e = .int k ∧ 1 ≤ k ∧ k ≤ 1000 := by
      simp at e2
      rcases e2 with rfl | rfl | rfl | rfl <;> exact ⟨_, rfl, by omega, by omega⟩
    rw [List.length_cons] at hl
    obtain ⟨x', left', s', S', q1, q2, q3, q4, q5⟩ := loop1 (menu := menu) (m := m) ds (x + k) (left ++ [x]) (.val d) S1 e3 (by rw [List.length_append, List.length_singleton]; omega)
      (List.pairwise_append.mpr ⟨hp, List.pairwise_singleton _ _, fun a ha b hb' => by rw [List.mem_singleton] at hb'; subst hb'; exact (hb a ha).2⟩)
      (fun y hy => by
        rcases List.mem_append.mp hy with hy | hy
        · have := hb y hy; omega
        · rw [List.mem_singleton] at hy; omega) (by omega) (by rw [List.length_append, List.length_singleton]; omega)
    refine ⟨x', left', s', S', ?_, q2, by rw [q3, List.length_append, List.length_singleton, List.length_cons]; omega, q4, q5⟩
    have hsh : short (left.length + 1) = true := short_of (by omega)
    have hs6 : short 6 = true := by decide
    refine (forL_nx rfl ?_).trans q1
    simp [hsh, hs6, e1]
theorem loop2 {n : Nat} {menu : FD.D} {m x : Int} : ∀ (ds : List FD.D) (left found : List Int) (s : Sl) (S : List (List FD.D)), Src S n → left.length = ds.length → found.length + ds.length ≤ 40 →
    ∃ (found' : List Int) (s' : Sl) (S' : List (List FD.D)), forL (tgName 6) body2 ds (stZ n menu m x (left.map .int) (found.map .int) s S) = .nx (stZ n menu m x [] (found'.map .int) s' S') ∧ Src S' n ∧ found'.Perm (found ++ left)
  | [], left, found, s, S, h, hl, _ => by
    have : left = [] := List.length_eq_zero_iff.mp hl
    subst this
    exact ⟨found, s, S, rfl, h, by simp⟩
  | d :: ds, left, found, s, S, h, hl, hf => by
    rw [List.length_cons] at hl hf
    obtain ⟨t, S1, e1, t1, t2, e3⟩ := take_ok h (top := left.length) (by omega) (by omega)
    have hi : t.toNat < left.length := by omega
    obtain ⟨found', s', S', q1, q2, q3⟩ := loop2 (menu := menu) (m := m) (x := x) ds (left.eraseIdx t.toNat) (found ++ [left[t.toNat]]) (.val d) S1 e3 (by rw [List.length_eraseIdx_of_lt hi]; omega) (by rw [List.length_append, List.length_singleton]; omega)
    refine ⟨found', s', S', ?_, q2, q3.trans ?_⟩
    · have hsh : short (found.length + 1) = true := short_of (by omega)
      have hsl : short left.length = true := short_of (by omega)
      have ht : t < left.length := by omega
      have hm : (left.eraseIdx t.toNat).map FD.D.int = (left.map FD.D.int).eraseIdx t.toNat := map_erase _ _ _
      refine (forL_nx rfl ?_).trans q1
      simp [e1, hsh, hsl, t1, ht, hi, hm]
    · rw [List.append_assoc]
      refine List.Perm.append_left found ?_
      exact erase_perm _ hi
theorem nodup_of_lt {l : List Int} (h : l.Pairwise (· < ·)) : l.Nodup := List.Pairwise.imp (fun {a b} h e => by omega) h
theorem rangeL_length (lo : Int) (n : Nat) : (rangeL lo n).length = n := by
  unfold rangeL
  rw [List.length_map, List.length_range]
theorem stones_ok {S : List (List FD.D)} {n : Nat} (menu : List Int) (h : Src S n) (hm : 0 < menu.length) (hm2 : menu.length ≤ 1000) (hb : ∀ m ∈ menu, 1 ≤ m ∧ m ≤ 40) :
    ∃ (xs : List Int) (S' : List (List FD.D)), d_Llaw_stones [.loc n, .lst (menu.map .int)] S = .ok (.tup (xs.map .int)) S' ∧ Src S' n ∧ 1 ≤ xs.length ∧ xs.length ≤ 40 ∧ xs.Nodup ∧ ∀ x ∈ xs, -1000000 ≤ x ∧ x < 10000000000 := by
  obtain ⟨d, S1, e1, e2, h1⟩ := one_ok (ds := menu.map .int) h (by simpa using hm) (by simpa using hm2)
  obtain ⟨m, hmm, rfl⟩ := List.mem_map.mp e2
  obtain ⟨hm3, hm4⟩ := hb m hmm
  obtain ⟨d2, S2, f1, f2, h2⟩ := one_ok (ds := [.int 1, .int 0, .int (-3), .int 7, .int (-1000000), .int 1000000000]) h1 (by decide) (by decide)
  obtain ⟨x, rfl, hx1, hx2⟩ : ∃ x : Int, d2 = .int x ∧ -1000000 ≤ x ∧ x ≤ 1000000000 := by
    simp at f2
    rcases f2 with rfl | rfl | rfl | rfl | rfl | rfl <;> exact ⟨_, rfl, by omega, by omega⟩
  have hr : (rangeL 0 m.toNat).length ≤ 40 := by rw [rangeL_length]; omega
  obtain ⟨x', left, s', S3, q1, q2, q3, q4, q5⟩ := loop1 (menu := .lst (menu.map .int)) (m := m) (rangeL 0 m.toNat) x [] .un S2 h2 (by simpa using hr) .nil (by simp) hx1 (by simpa using hx2)
  obtain ⟨found, s2, S4, r1, r2, r3⟩ := loop2 (menu := .lst (menu.map .int)) (m := m) (x := x') (rangeL 0 m.toNat) left [] s' S3 q2 (by simpa using q3) (by simpa using hr)
  rw [List.nil_append] at r3
  refine ⟨found, S4, ?_, r2, ?_, ?_, r3.nodup_iff.mpr (nodup_of_lt q4), fun y hy => q5 y (r3.mem_iff.mp hy)⟩
  · have hs6 : short 6 = true := by decide
    have hm5 : -4611686018427387904 ≤ m ∧ m < 4611686018427387904 := by omega
    have p1 : powI (.int 10) (.int 6) = some (.int 1000000) := by simp [powI, int2]
    have p2 : powI (.int 10) (.int 9) = some (.int 1000000000) := by simp [powI, int2]
    have q1' := q1
    have r1' := r1
    simp only [List.map_nil] at q1' r1'
    unfold d_Llaw_stones b_Llaw_stones
    simp [e1, f1, hs6, p1, p2, hm5, q1', r1']
  · rw [r3.length_eq, q3, rangeL_length]; simp; omega
  · rw [r3.length_eq, q3, rangeL_length]; simp; omega
end K06

set_option Elab.async false
set_option linter.all false
set_option maxRecDepth 100000
set_option maxHeartbeats 1000000
namespace K06
open PySem PySem.Spec L2 FD
theorem ends_ok {S : List (List FD.D)} {n : Nat} (h : Src S n) : ∃ (e : Int) (S' : List (List FD.D)), d_Llaw_ends [.loc n] S = .ok (.int e) S' ∧ 0 ≤ e ∧ e ≤ 3 ∧ Src S' n := by
  obtain ⟨d, S1, e1, e2, h1⟩ := one_ok (ds := [.int 3, .int 3, .int 0, .int 1, .int 2, .int 3, .int 0, .int 3]) h (by decide) (by decide)
  obtain ⟨x, rfl, hx1, hx2⟩ : ∃ x : Int, d = .int x ∧ 0 ≤ x ∧ x ≤ 3 := by
    simp at e2
    rcases e2 with rfl | rfl | rfl | rfl | rfl | rfl | rfl <;> exact ⟨_, rfl, by omega, by omega⟩
  refine ⟨x, S1, ?_, hx1, hx2, h1⟩
  have hs : short 8 = true := by decide
  unfold d_Llaw_ends b_Llaw_ends
  simp [e1, hs]
/-! ### spans -/
def lo (xs : List Int) (x : Int) : Nat → Nat
  | 0 => 0
  | i + 1 => match xs[i]? with
    | some y => if y < x then lo xs x i else i + 1
    | none => i + 1
def hi (xs : List Int) (x : Int) : Nat → Nat → Nat
  | 0, j => j
  | f + 1, j => match xs[j + 1]? with
    | some y => if y < x then hi xs x f (j + 1) else j
    | none => j
theorem ix_int {xs : List Int} {i : Nat} (h : i < xs.length) : ixD (.tup (xs.map .int)) (.int (i : Int)) = some (.int xs[i]) := by
  show L2.atI (xs.map FD.D.int) (i : Int) = _
  rw [L2.atI_nat (j := i) (v := FD.D.int xs[i]) (by rw [List.getElem?_map, List.getElem?_eq_getElem h]; rfl)]
abbrev cLo : Den Bool := (andT (testD (binD gtI (varD 2) (conD (.int 0)))) (testD (binD ltI (binD ixD (varD 0) (binD subI (varD 2) (conD (.int 1)))) (varD 1))))
abbrev cHi : Den Bool := (andT (testD (binD ltI (binD addD (varD 3) (conD (.int 1))) (appD lenB (consA (varD 0) nilA)))) (testD (binD ltI (binD ixD (varD 0) (binD addD (varD 3) (conD (.int 1)))) (varD 1))))
abbrev spZ (xs : List Int) (x a b : Int) (S : List (List FD.D)) : Z := ⟨[.val (.tup (xs.map .int)), .val (.int x), .val (.int a), .val (.int b)], S⟩
theorem while_step {c : Den Bool} {b : Prog} {n : Nat} {z z1 z2 : Z} (h : c z = .ok true z1) (h2 : b z1 = .nx z2) : whileD c b (n + 1) z = whileD c b n z2 := by
  rw [whileD, h]
  simp [h2]
theorem while_end {c : Den Bool} {b : Prog} {n : Nat} {z z1 : Z} (h : c z = .ok false z1) : whileD c b (n + 1) z = .nx z1 := by
  rw [whileD, h]
  simp
theorem while_lo {xs : List Int} {x b : Int} {S : List (List FD.D)} {body : Prog} (hb : ∀ i : Int, body (spZ xs x i b S) = .nx (spZ xs x (i - 1) b S)) : ∀ (i f : Nat), i < f → i ≤ xs.length → whileD cLo body f (spZ xs x i b S) = .nx (spZ xs x (lo xs x i) b S)
  | 0, f + 1, _, _ => while_end (by simp [lo])
  | i + 1, f + 1, h, hl => by
    have hi : i < xs.length := by omega
    have e := ix_int hi
    have e1 : ((i + 1 : Nat) : Int) - 1 = (i : Int) := by omega
    unfold lo
    rw [List.getElem?_eq_getElem hi]
    simp only
    by_cases c : xs[i] < x
    · rw [if_pos c, ← while_lo hb i f (by omega) (by omega), ← e1]
      refine while_step (z1 := spZ xs x ((i + 1 : Nat) : Int) b S) ?_ (hb _)
      simp only [ev_and, ev_test, ev_bin, ev_var, ev_con, ev_gtI, ev_subI, bind_ok, optR_some, List.getElem?_cons_succ, List.getElem?_cons_zero, e1, e, ev_ltI]
      have c0 : (0 : Int) < ((i + 1 : Nat) : Int) := by omega
      simp [c, c0]
    · rw [if_neg c]
      refine while_end ?_
      simp only [ev_and, ev_test, ev_bin, ev_var, ev_con, ev_gtI, ev_subI, bind_ok, optR_some, List.getElem?_cons_succ, List.getElem?_cons_zero, e1, e, ev_ltI]
      have c0 : (0 : Int) < ((i + 1 : Nat) : Int) := by omega
      simp [c, c0]
  | 0, 0, h, _ => absurd h (by omega)
  | i + 1, 0, h, _ => absurd h (by omega)
theorem while_hi {xs : List Int} {x a : Int} {S : List (List FD.D)} {body : Prog} (hb : ∀ i : Int, body (spZ xs x a i S) = .nx (spZ xs x a (i + 1) S)) : ∀ (g j f : Nat), g < f → xs.length ≤ j + 1 + g → whileD cHi body f (spZ xs x a j S) = .nx (spZ xs x a (hi xs x g j) S)
  | 0, j, f + 1, h, hl => by
    refine while_end ?_
    have c0 : ¬ ((j : Int) + 1 < (xs.length : Int)) := by omega
    simp [c0, hi]
  | g + 1, j, f + 1, h, hl => by
    unfold hi
    by_cases hj : j + 1 < xs.length
    · have e := ix_int hj
      have e1 : ((j + 1 : Nat) : Int) = (j : Int) + 1 := by omega
      have c0 : ((j : Int) + 1 < (xs.length : Int)) := by omega
      rw [e1] at e
      rw [List.getElem?_eq_getElem hj]
      simp only
      by_cases c : xs[j + 1] < x
      · rw [if_pos c, ← while_hi hb g (j + 1) f (by omega) (by omega), e1]
        refine while_step (z1 := spZ xs x a j S) ?_ (hb _)
        simp [e, c, c0]
      · rw [if_neg c]
        refine while_end ?_
        simp [e, c, c0]
    · rw [List.getElem?_eq_none (by omega)]
      refine while_end ?_
      have c0 : ¬ ((j : Int) + 1 < (xs.length : Int)) := by omega
      simp [c0]
  | 0, j, 0, h, _ => absurd h (by omega)
  | g + 1, j, 0, h, _ => absurd h (by omega)
/-- the first and the last place -/
def sLo (xs : List Int) (x : Int) : Nat := lo xs x (xs.idxOf x)
def sHi (xs : List Int) (x : Int) : Nat := hi xs x xs.length (xs.idxOf x)
def spanD (xs : List Int) (x : Int) : FD.D := .tup [.int (sLo xs x), .int (sHi xs x)]
theorem index_int {xs : List Int} {x : Int} (hx : x ∈ xs) : indexM (xs.map .int) [.int x] = some (.int (xs.idxOf x : Nat)) := by
  show ofInts _ (xs.map FD.D.int) = _
  unfold ofInts
  rw [intsOf_map]
  simp [hx]
theorem span_ok {xs : List Int} {x : Int} {S : List (List FD.D)} (hx : x ∈ xs) (hl : xs.length ≤ 40) : d_span [.tup (xs.map .int), .int x] S = .ok (spanD xs x) S := by
  have hi : xs.idxOf x < xs.length := List.idxOf_lt_length_of_mem hx
  have w1 := while_lo (xs := xs) (x := x) (b := (xs.idxOf x : Nat)) (S := S) (body := augS 2 subI (conD (.int 1))) (fun i => by simp) (xs.idxOf x) 64 (by omega) (by omega)
  have w2 := while_hi (xs := xs) (x := x) (a := (sLo xs x : Nat)) (S := S) (body := augS 3 addI (conD (.int 1))) (fun i => by simp) xs.length (xs.idxOf x) 64 (by omega) (by omega)
  have hs : short 2 = true := by decide
  have e0 : lo xs x (xs.idxOf x) = sLo xs x := rfl
  rw [e0] at w1
  unfold d_span b_span
  simp [index_int hx, w1, w2, hs, spanD, sHi]
theorem Lspan_ok {xs : List Int} {x : Int} {S : List (List FD.D)} (hx : x ∈ xs) (hl : xs.length ≤ 40) : d_Llaw_span [.tup (xs.map .int), .int x] S = .ok (spanD xs x) S := by
  have hi : xs.idxOf x < xs.length := List.idxOf_lt_length_of_mem hx
  have w1 := while_lo (xs := xs) (x := x) (b := (xs.idxOf x : Nat)) (S := S) (body := setS 2 (binD subI (varD 2) (conD (.int 1)))) (fun i => by simp) (xs.idxOf x) 64 (by omega) (by omega)
  have w2 := while_hi (xs := xs) (x := x) (a := (sLo xs x : Nat)) (S := S) (body := setS 3 (binD addD (varD 3) (conD (.int 1)))) (fun i => by simp) xs.length (xs.idxOf x) 64 (by omega) (by omega)
  have hs : short 2 = true := by decide
  have e0 : lo xs x (xs.idxOf x) = sLo xs x := rfl
  rw [e0] at w1
  unfold d_Llaw_span b_Llaw_span
  simp [index_int hx, w1, w2, hs, spanD, sHi]
end K06

set_option Elab.async false
set_option linter.all false
set_option maxRecDepth 100000
set_option maxHeartbeats 1000000
namespace K06
open PySem PySem.Spec L2 FD
theorem lo_le (xs : List Int) (x : Int) : ∀ i, lo xs x i ≤ i
  | 0 => Nat.le_refl _
  | i + 1 => by
    unfold lo
    split
    · split
      · exact Nat.le_succ_of_le (lo_le xs x i)
      · exact Nat.le_refl _
    · exact Nat.le_refl _
theorem hi_lt (xs : List Int) (x : Int) : ∀ f j, j < xs.length → hi xs x f j < xs.length
  | 0, j, h => h
  | f + 1, j, h => by
    unfold hi
    split
    · rename_i y e
      split
      · exact hi_lt xs x f (j + 1) (List.getElem?_eq_some_iff.mp e).1
      · exact h
    · exact h
theorem le_hi (xs : List Int) (x : Int) : ∀ f j, j ≤ hi xs x f j
  | 0, j => Nat.le_refl _
  | f + 1, j => by
    unfold hi
    split
    · split
      · exact Nat.le_of_succ_le (le_hi xs x f (j + 1))
      · exact Nat.le_refl _
    · exact Nat.le_refl _
theorem sLo_lt {xs : List Int} {x : Int} (hx : x ∈ xs) : sLo xs x < xs.length := Nat.lt_of_le_of_lt (lo_le _ _ _) (List.idxOf_lt_length_of_mem hx)
theorem sHi_lt {xs : List Int} {x : Int} (hx : x ∈ xs) : sHi xs x < xs.length := hi_lt _ _ _ _ (List.idxOf_lt_length_of_mem hx)
theorem sLo_le_sHi {xs : List Int} {x : Int} : sLo xs x ≤ sHi xs x := Nat.le_trans (lo_le _ _ _) (le_hi _ _ _ _)
theorem ix_getD {xs : List Int} {i : Nat} {k : Int} (h : i < xs.length) (e : k = (i : Int)) : ixD (.tup (xs.map .int)) (.int k) = some (.int (xs.getD i 0)) := by
  subst e
  rw [ix_int h, List.getD_eq_getElem?_getD, List.getElem?_eq_getElem h]
  rfl
def aL (xs : List Int) (e x : Int) : FD.D := if 0 < sLo xs x then .int (xs.getD (sLo xs x - 1) 0) else if e = 1 ∨ e = 3 then .str "wall" else .str "open"
def bL (xs : List Int) (e x : Int) : FD.D := if sHi xs x + 1 < xs.length then .int (xs.getD (sHi xs x + 1) 0) else if e = 2 ∨ e = 3 then .str "wall" else .str "open"
theorem in2 (e a b : Int) : inD false (.int e) (.tup [.int a, .int b]) = some (.bl (decide (e = a ∨ e = b))) := by
  have h : ((a == e) || (b == e)) = decide (e = a ∨ e = b) := by
    by_cases h1 : e = a
    · subst h1; simp
    · by_cases h2 : e = b
      · subst h2; simp
      · have h3 : ¬ a = e := fun h => h1 h.symm
        have h4 : ¬ b = e := fun h => h2 h.symm
        simp [h1, h2, h3, h4]
  simp [inD, flatD, eqF, h]
theorem Lclosers_ok {xs : List Int} {x e : Int} {S : List (List FD.D)} (hx : x ∈ xs) (hl : xs.length ≤ 40) : d_Llaw_closers [.tup (xs.map .int), .int e, .int x] S = .ok (.tup [aL xs e x, bL xs e x]) S := by
  have hs : short 2 = true := by decide
  have h1 := sLo_lt hx
  have h2 := sHi_lt hx
  unfold d_Llaw_closers b_Llaw_closers aL bL
  by_cases c1 : 0 < sLo xs x
  · have i1 := ix_getD (xs := xs) (i := sLo xs x - 1) (k := (sLo xs x : Int) - 1) (by omega) (by omega)
    by_cases c2 : sHi xs x + 1 < xs.length
    · have i2 := ix_getD (xs := xs) (i := sHi xs x + 1) (k := (sHi xs x : Int) + 1) c2 (by omega)
      have c2' : (sHi xs x : Int) + 1 < (xs.length : Int) := by omega
      simp [Lspan_ok hx hl, spanD, hs, c1, c2, c2', i1, i2, in2]
    · have c2' : ¬ (sHi xs x : Int) + 1 < (xs.length : Int) := by omega
      by_cases c3 : e = 2 ∨ e = 3 <;> simp [Lspan_ok hx hl, spanD, hs, c1, c2, c2', i1, in2, c3]
  · by_cases c2 : sHi xs x + 1 < xs.length
    · have i2 := ix_getD (xs := xs) (i := sHi xs x + 1) (k := (sHi xs x : Int) + 1) c2 (by omega)
      have c2' : (sHi xs x : Int) + 1 < (xs.length : Int) := by omega
      by_cases c3 : e = 1 ∨ e = 3 <;> simp [Lspan_ok hx hl, spanD, hs, c1, c2, c2', i2, in2, c3]
    · have c2' : ¬ (sHi xs x : Int) + 1 < (xs.length : Int) := by omega
      by_cases c3 : e = 1 ∨ e = 3 <;> by_cases c4 : e = 2 ∨ e = 3 <;> simp [Lspan_ok hx hl, spanD, hs, c1, c2, c2', in2, c3, c4]
theorem flat_aL (xs : List Int) (e x : Int) : flatD (aL xs e x) = true := by by_cases c : 0 < sLo xs x <;> by_cases c2 : e = 1 ∨ e = 3 <;> simp [aL, c, c2, flatD]
theorem flat_bL (xs : List Int) (e x : Int) : flatD (bL xs e x) = true := by by_cases c : sHi xs x + 1 < xs.length <;> by_cases c2 : e = 2 ∨ e = 3 <;> simp [bL, c, c2, flatD]
/-! ### the law's heads -/
abbrev bodyH : Prog := (seqS (unpackS [4, 5] (callF d_Llaw_span (consA (varD 0) (consA (varD 3) nilA))))
 (ifS (andT (testD (binD gtI (varD 5) (varD 4))) (testD (binD (inD true) (conD (.str "open")) (callF d_Llaw_closers (consA (varD 0) (consA (varD 1) (consA (varD 3) nilA)))))))
 (appendS 2 (varD 3))
 nilS))
theorem loopH {xs : List Int} {e : Int} {S : List (List FD.D)} (hl : xs.length ≤ 40) : ∀ (ds found : List Int) (s3 s4 s5 : Sl), (∀ d ∈ ds, d ∈ xs) → (∀ h ∈ found, h ∈ xs ∧ sLo xs h < sHi xs h) → found.length + ds.length ≤ 40 →
    ∃ (found' : List Int) (s3' s4' s5' : Sl), forL (tgName 3) bodyH (ds.map .int) ⟨[.val (.tup (xs.map .int)), .val (.int e), .lst (found.map .int), s3, s4, s5], S⟩ = .nx ⟨[.val (.tup (xs.map .int)), .val (.int e), .lst (found'.map .int), s3', s4', s5'], S⟩ ∧ (∀ h ∈ found', h ∈ xs ∧ sLo xs h < sHi xs h) ∧ found'.length ≤ 40
  | [], found, s3, s4, s5, _, hf, hn => ⟨found, s3, s4, s5, rfl, hf, by simpa using hn⟩
  | d :: ds, found, s3, s4, s5, hd, hf, hn => by
    have hdx := hd d List.mem_cons_self
    rw [List.length_cons] at hn
    have hsh : short (found.length + 1) = true := short_of (by omega)
    have hfl : flatD (.str "open") = true := rfl
    by_cases c : sLo xs d < sHi xs d
    · cases hin : ((eqF (aL xs e d) (.str "open") || eqF (bL xs e d) (.str "open"))) with
      | true =>
        obtain ⟨f', a, b, cc, q1, q2, q3⟩ := loopH hl ds found (.val (.int d)) (.val (.int (sLo xs d))) (.val (.int (sHi xs d))) (fun y hy => hd y (List.mem_cons_of_mem _ hy)) hf (by omega)
        refine ⟨f', a, b, cc, ?_, q2, q3⟩
        refine (forL_nx rfl ?_).trans q1
        simp [Lspan_ok hdx hl, Lclosers_ok hdx hl, spanD, c, inD, hfl, flat_aL, flat_bL, hin]
      | false =>
        have hin' := hin
        rw [Bool.or_eq_false_iff] at hin
        obtain ⟨f', a, b, cc, q1, q2, q3⟩ := loopH hl ds (found ++ [d]) (.val (.int d)) (.val (.int (sLo xs d))) (.val (.int (sHi xs d))) (fun y hy => hd y (List.mem_cons_of_mem _ hy)) (fun y hy => by
          rcases List.mem_append.mp hy with hy | hy
          · exact hf y hy
          · rw [List.mem_singleton] at hy; subst hy; exact ⟨hdx, c⟩) (by rw [List.length_append, List.length_singleton]; omega)
        refine ⟨f', a, b, cc, ?_, q2, q3⟩
        refine (forL_nx rfl ?_).trans q1
        simp [Lspan_ok hdx hl, Lclosers_ok hdx hl, spanD, c, inD, hfl, flat_aL, flat_bL, hin.1, hin.2, hsh]
    · obtain ⟨f', a, b, cc, q1, q2, q3⟩ := loopH hl ds found (.val (.int d)) (.val (.int (sLo xs d))) (.val (.int (sHi xs d))) (fun y hy => hd y (List.mem_cons_of_mem _ hy)) hf (by omega)
      refine ⟨f', a, b, cc, ?_, q2, q3⟩
      refine (forL_nx rfl ?_).trans q1
      simp [Lspan_ok hdx hl, spanD, c]
theorem sorted_int (ns : List Int) : sortedB [.tup (ns.map .int)] = some (.lst ((sortI ns).map .int)) := by
  show ofInts srtF (ns.map FD.D.int) = _
  unfold ofInts
  rw [intsOf_map]
  rfl
theorem Lheads_ok {xs : List Int} {e : Int} {S : List (List FD.D)} (hl : xs.length ≤ 40) : ∃ hs : List Int, d_Llaw_heads [.tup (xs.map .int), .int e] S = .ok (.lst (hs.map .int)) S ∧ (∀ h ∈ hs, h ∈ xs ∧ sLo xs h < sHi xs h) ∧ hs.length ≤ 40 := by
  obtain ⟨f', a, b, c, q1, q2, q3⟩ := loopH (e := e) (S := S) hl (sortI xs) [] .un .un .un (fun y hy => (sortI_perm xs).mem_iff.mp hy) (by simp) (by rw [(sortI_perm xs).length_eq]; simpa using hl)
  refine ⟨f', ?_, q2, q3⟩
  have h0 : short 0 = true := by decide
  simp only [List.map_nil] at q1
  unfold d_Llaw_heads b_Llaw_heads
  simp [h0, sorted_int, q1]
end K06

set_option Elab.async false
set_option linter.all false
set_option maxRecDepth 100000
set_option maxHeartbeats 1000000
namespace K06
open PySem PySem.Spec L2 FD
def RuleOk (r : FD.D) : Prop := r = .non ∨ ∃ ls : List Int, r = .tup (ls.map .int) ∧ ls.Pairwise (· < ·) ∧ ∀ l ∈ ls, 2 ≤ l ∧ l ≤ 40
theorem keysI_of : ∀ {kvs : List (Key × FD.D)} {ks : List Int}, kvs.map (·.1) = ks.map Sum.inl → keysI kvs = some ks
  | [], [], _ => rfl
  | [], _ :: _, h => by simp at h
  | _ :: _, [], h => by simp at h
  | (q, d) :: r, k :: ks, h => by
    rw [List.map_cons, List.map_cons] at h
    injection h with h1 h2
    have h1' : q = Sum.inl k := h1
    subst h1'
    show (keysI r).map (k :: ·) = some (k :: ks)
    rw [keysI_of h2]
    rfl
theorem keysI_put {kvs : List (Key × FD.D)} {ks : List Int} {k : Int} {d : FD.D} (h : keysI kvs = some ks) : keysI (putD kvs (.inl k) d) = some (if k ∈ ks then ks else ks ++ [k]) := by
  have e := keysI_eq h
  have ea : (kvs.any fun kv => decide (kv.1 = Sum.inl k)) = decide (k ∈ ks) := by
    have e1 : (kvs.any fun kv => decide (kv.1 = Sum.inl k)) = (kvs.map (·.1)).any fun q => decide (q = Sum.inl k) := by rw [List.any_map]; rfl
    rw [e1, e, List.any_map]
    rw [Bool.eq_iff_iff, List.any_eq_true, decide_eq_true_eq]
    constructor
    · rintro ⟨x, hx, hq⟩
      have := of_decide_eq_true hq
      injection this with this
      subst this; exact hx
    · intro hk
      exact ⟨k, hk, decide_eq_true rfl⟩
  unfold putD
  rw [ea]
  by_cases c : k ∈ ks
  · rw [if_pos (decide_eq_true c), if_pos c]
    apply keysI_of
    rw [← e, List.map_map]
    apply List.map_congr_left
    intro a _
    show (if a.1 = Sum.inl k then (a.1, d) else a).1 = a.1
    split <;> rfl
  · rw [if_neg (by simpa using c), if_neg c]
    apply keysI_of
    rw [List.map_append, e, List.map_append]
    rfl
theorem keysI_len {kvs : List (Key × FD.D)} {ks : List Int} (h : keysI kvs = some ks) : kvs.length = ks.length := by
  have := congrArg List.length (keysI_eq h)
  simpa using this
def KeysOk (m : Nat) (kvs : List (Key × FD.D)) : Prop := ∃ ks : List Int, keysI kvs = some ks ∧ ks.Nodup ∧ (∀ k ∈ ks, 2 ≤ k ∧ k ≤ 40) ∧ ks.length ≤ m
theorem KeysOk.put {m : Nat} {kvs : List (Key × FD.D)} {k : Int} {d : FD.D} (h : KeysOk m kvs) (h1 : 2 ≤ k) (h2 : k ≤ 40) : KeysOk (m + 1) (putD kvs (.inl k) d) := by
  obtain ⟨ks, e, nd, hb, hl⟩ := h
  refine ⟨_, keysI_put e, ?_, ?_, ?_⟩
  · by_cases c : k ∈ ks
    · rw [if_pos c]; exact nd
    · rw [if_neg c, List.nodup_append]
      exact ⟨nd, by simp, fun a ha b hb' => by rw [List.mem_singleton] at hb'; subst hb'; exact fun e => c (e ▸ ha)⟩
  · intro y hy
    by_cases c : k ∈ ks
    · rw [if_pos c] at hy; exact hb y hy
    · rw [if_neg c] at hy
      rcases List.mem_append.mp hy with hy | hy
      · exact hb y hy
      · rw [List.mem_singleton] at hy; subst hy; exact ⟨h1, h2⟩
  · by_cases c : k ∈ ks
    · rw [if_pos c]; omega
    · rw [if_neg c, List.length_append, List.length_singleton]; omega
theorem KeysOk.mono {m m' : Nat} {kvs : List (Key × FD.D)} (h : KeysOk m kvs) (hm : m ≤ m') : KeysOk m' kvs := by
  obtain ⟨ks, e, nd, hb, hl⟩ := h
  exact ⟨ks, e, nd, hb, by omega⟩
theorem KeysOk.len {m : Nat} {kvs : List (Key × FD.D)} (h : KeysOk m kvs) : kvs.length ≤ m := by
  obtain ⟨ks, e, nd, hb, hl⟩ := h
  rw [keysI_len e]; exact hl
abbrev bodyR : Prog := (seqS (unpackS [5, 6] (callF d_Llaw_span (consA (varD 1) (consA (varD 4) nilA))))
 (ifS (testD (binD gtI (callF d_Llaw_take (consA (varD 0) (consA (conD (.int 3)) nilA))) (conD (.int 0))))
 (dputS 3 (conD (.bl true)) (binD addD (binD subI (varD 6) (varD 5)) (conD (.int 1))))
 nilS))
theorem loopR {n : Nat} {xs : List Int} {e : Int} (hl : xs.length ≤ 40) : ∀ (ds : List Int) (kvs : List (Key × FD.D)) (m : Nat) (s4 s5 s6 : Sl) (S : List (List FD.D)), Src S n → (∀ d ∈ ds, d ∈ xs ∧ sLo xs d < sHi xs d) → KeysOk m kvs → m + ds.length ≤ 40 →
    ∃ (kvs' : List (Key × FD.D)) (s4' s5' s6' : Sl) (S' : List (List FD.D)), forL (tgName 4) bodyR (ds.map .int) ⟨[.val (.loc n), .val (.tup (xs.map .int)), .val (.int e), .dct kvs, s4, s5, s6], S⟩ = .nx ⟨[.val (.loc n), .val (.tup (xs.map .int)), .val (.int e), .dct kvs', s4', s5', s6'], S'⟩ ∧ KeysOk 40 kvs' ∧ Src S' n
  | [], kvs, m, s4, s5, s6, S, h, _, hk, hm => ⟨kvs, s4, s5, s6, S, rfl, hk.mono (by simpa using hm), h⟩
  | d :: ds, kvs, m, s4, s5, s6, S, h, hd, hk, hm => by
    obtain ⟨hdx, c⟩ := hd d List.mem_cons_self
    rw [List.length_cons] at hm
    obtain ⟨t, S1, e1, t1, t2, h1⟩ := take_ok h (top := 3) (by omega) (by omega)
    have hh := sHi_lt hdx
    have hsh : short (kvs.length + 1) = true := short_of (by have := hk.len; omega)
    by_cases ct : 0 < t
    · obtain ⟨kvs', a, b, cc, S', q1, q2, q3⟩ := loopR (e := e) hl ds (putD kvs (.inl ((sHi xs d : Int) - sLo xs d + 1)) (.bl true)) (m + 1) (.val (.int d)) (.val (.int (sLo xs d))) (.val (.int (sHi xs d))) S1 h1 (fun y hy => hd y (List.mem_cons_of_mem _ hy)) (hk.put (by omega) (by omega)) (by omega)
      refine ⟨kvs', a, b, cc, S', ?_, q2, q3⟩
      refine (forL_nx rfl ?_).trans q1
      simp [Lspan_ok hdx hl, spanD, e1, ct, hsh]
    · obtain ⟨kvs', a, b, cc, S', q1, q2, q3⟩ := loopR (e := e) hl ds kvs m (.val (.int d)) (.val (.int (sLo xs d))) (.val (.int (sHi xs d))) S1 h1 (fun y hy => hd y (List.mem_cons_of_mem _ hy)) hk (by omega)
      refine ⟨kvs', a, b, cc, S', ?_, q2, q3⟩
      refine (forL_nx rfl ?_).trans q1
      simp [Lspan_ok hdx hl, spanD, e1, ct]
theorem sortI_lt {ks : List Int} (nd : ks.Nodup) : (sortI ks).Pairwise (· < ·) := by
  have h1 := sortI_sorted ks
  have h2 : (sortI ks).Nodup := (sortI_perm ks).nodup_iff.mpr nd
  exact (h1.and h2).imp fun {a b} h => by
    have := h.1; have := h.2; omega
theorem eq_int (a b : Int) : eqD false (.int a) (.int b) = some (.bl (decide (a = b))) := by
  have e : PyData.eqv (.int a) (.int b) = decide (a = b) := by
    by_cases c : a = b <;> simp [PyData.eqv, c]
  unfold eqD
  simp [toPy, SeqAt.shaped, PyData.canLay0, PyData.depth, e]
theorem rule_ok {S : List (List FD.D)} {n : Nat} {xs : List Int} {e : Int} (h : Src S n) (hl : xs.length ≤ 40) : ∃ (r : FD.D) (S' : List (List FD.D)), d_Llaw_rule [.loc n, .tup (xs.map .int), .int e] S = .ok r S' ∧ RuleOk r ∧ Src S' n := by
  obtain ⟨t, S1, e1, t1, t2, h1⟩ := take_ok h (top := 2) (by omega) (by omega)
  by_cases c : t = 0
  · refine ⟨.non, S1, ?_, .inl rfl, h1⟩
    unfold d_Llaw_rule b_Llaw_rule
    simp [e1, eq_int, c]
  · obtain ⟨hs, e2, hh, hhl⟩ := Lheads_ok (xs := xs) (e := e) (S := S1) hl
    obtain ⟨kvs, a, b, cc, S2, q1, q2, q3⟩ := loopR (e := e) hl hs [] 0 .un .un .un S1 h1 hh ⟨[], rfl, .nil, by simp, Nat.le_refl _⟩ (by omega)
    obtain ⟨t', S3, e3, t3, t4, h3⟩ := take_ok q3 (top := 4) (by omega) (by omega)
    have fin : ∀ {kvs : List (Key × FD.D)}, KeysOk 41 kvs → ∃ ks : List Int, keysI kvs = some ks ∧ ks.length < 64 ∧ RuleOk (.tup ((sortI ks).map .int)) := fun {kvs} hk => by
      obtain ⟨ks, k1, k2, k3, k4⟩ := hk
      exact ⟨ks, k1, by omega, .inr ⟨_, rfl, sortI_lt k2, fun l hl => k3 l ((sortI_perm ks).mem_iff.mp hl)⟩⟩
    by_cases c2 : t' = 0
    · obtain ⟨t5, S4, e5, t6, t7, h5⟩ := take_ok h3 (top := 39) (by omega) (by omega)
      obtain ⟨ks, k1, k2, k3⟩ := fin (q2.put (k := 2 + t5) (d := .bl true) (by omega) (by omega))
      have hsh : short (kvs.length + 1) = true := short_of (by have := q2.len; omega)
      refine ⟨_, S4, ?_, k3, h5⟩
      unfold d_Llaw_rule b_Llaw_rule
      simp [e1, eq_int, c, e2, q1, e3, c2, e5, hsh, k1, k2]
    · obtain ⟨ks, k1, k2, k3⟩ := fin (q2.mono (m' := 41) (by omega))
      refine ⟨_, S3, ?_, k3, h3⟩
      unfold d_Llaw_rule b_Llaw_rule
      simp [e1, eq_int, c, e2, q1, e3, c2, k1, k2]
theorem row_ok {S : List (List FD.D)} {n : Nat} (h : Src S n) : ∃ (xs : List Int) (e : Int) (r : FD.D) (S' : List (List FD.D)), d_Llaw_row [.loc n] S = .ok (.tup [.tup (xs.map .int), .int e, r]) S' ∧ Src S' n ∧ 1 ≤ xs.length ∧ xs.length ≤ 40 ∧ xs.Nodup ∧ (∀ x ∈ xs, -1000000 ≤ x ∧ x < 10000000000) ∧ 0 ≤ e ∧ e ≤ 3 ∧ RuleOk r := by
  obtain ⟨t, S1, e1, t1, t2, h1⟩ := take_ok h (top := 20) (by omega) (by omega)
  have hs8 : short 8 = true := by decide
  have hs3 : short 3 = true := by decide
  by_cases c : t < 19
  · obtain ⟨xs, S2, e2, h2, x1, x2, x3, x4⟩ := stones_ok [5, 4, 3, 6, 7, 8, 2, 1] h1 (by decide) (by decide) (by decide)
    obtain ⟨e, S3, e3, he1, he2, h3⟩ := ends_ok h2
    obtain ⟨r, S4, e4, r1, h4⟩ := rule_ok (e := e) h3 x2
    refine ⟨xs, e, r, S4, ?_, h4, x1, x2, x3, x4, he1, he2, r1⟩
    simp only [List.map_cons, List.map_nil] at e2
    unfold d_Llaw_row b_Llaw_row
    simp [e1, c, hs8, hs3, e2, e3, e4]
  · obtain ⟨xs, S2, e2, h2, x1, x2, x3, x4⟩ := stones_ok [40, 39, 20] h1 (by decide) (by decide) (by decide)
    obtain ⟨e, S3, e3, he1, he2, h3⟩ := ends_ok h2
    obtain ⟨r, S4, e4, r1, h4⟩ := rule_ok (e := e) h3 x2
    refine ⟨xs, e, r, S4, ?_, h4, x1, x2, x3, x4, he1, he2, r1⟩
    simp only [List.map_cons, List.map_nil] at e2
    unfold d_Llaw_row b_Llaw_row
    simp [e1, c, hs8, hs3, e2, e3, e4]
end K06

set_option Elab.async false
set_option linter.all false
set_option maxRecDepth 100000
set_option maxHeartbeats 1000000
namespace K06
open PySem PySem.Spec L2 FD
theorem pow15 : powI (.int 10) (.int 15) = some (.int 1000000000000000) := by simp [powI, int2]
theorem fits_ok {x : Int} {S : List (List FD.D)} (h1 : -1000000 ≤ x) (h2 : x < 10000000000) : d_fits [.int x] S = .ok (.bl true) S := by
  have h : (if x < 0 then -x else x) < 1000000000000000 := by split <;> omega
  unfold d_fits b_fits
  simp [pow15, h]
abbrev bodyC : Prog := (seqS (ifS (orT (notT (testD (callF d_fits (consA (varD 4) nilA)))) (testD (inSet 2 (varD 4))))
 (fun _ => .stuck)
 nilS)
 (addSetS 2 (varD 4)))
theorem loopC {t : FD.D} {S : List (List FD.D)} : ∀ (ys : List Int) (k : Nat) (seen : List Int) (s2 s3 : Sl), (∀ y ∈ ys, (-1000000 ≤ y ∧ y < 10000000000) ∧ y ∉ seen) → ys.Nodup → seen.length + ys.length ≤ 40 →
    ∃ s1 s2' s3', forL (tgNames [3, 4]) bodyC (((ys.map FD.D.int).zipIdx k).map fun q => .tup [.int (q.2 : Nat), q.1]) ⟨[.val t, .val (.int 1), .set seen, s2, s3], S⟩ = .nx ⟨[.val t, .val (.int 1), s1, s2', s3'], S⟩
  | [], k, seen, s2, s3, _, _, _ => ⟨_, _, _, rfl⟩
  | y :: ys, k, seen, s2, s3, h, nd, hl => by
    obtain ⟨⟨h1, h2⟩, h3⟩ := h y List.mem_cons_self
    rw [List.nodup_cons] at nd
    rw [List.length_cons] at hl
    obtain ⟨a, b, c, q⟩ := loopC (t := t) (S := S) ys (k + 1) (seen ++ [y]) (.val (.int (k : Nat))) (.val (.int y)) (fun z hz => ⟨(h z (List.mem_cons_of_mem _ hz)).1, fun hm => by
      rcases List.mem_append.mp hm with hm | hm
      · exact (h z (List.mem_cons_of_mem _ hz)).2 hm
      · rw [List.mem_singleton] at hm; subst hm; exact nd.1 hz⟩) nd.2 (by rw [List.length_append, List.length_singleton]; omega)
    refine ⟨a, b, c, ?_⟩
    have hs : seen.length < 1000 := by omega
    rw [List.map_cons, List.zipIdx_cons, List.map_cons]
    refine (forL_nx rfl ?_).trans q
    simp [fits_ok h1 h2, h3, hs]
theorem check_stones_ok {xs : List Int} {S : List (List FD.D)} (h1 : 1 ≤ xs.length) (h2 : xs.length ≤ 40) (nd : xs.Nodup) (hb : ∀ x ∈ xs, -1000000 ≤ x ∧ x < 10000000000) : d_check_stones [.tup (xs.map .int), .int 1] S = .ok .non S := by
  obtain ⟨a, b, c, q⟩ := loopC (t := .tup (xs.map .int)) (S := S) xs 0 [] .un .un (fun y hy => ⟨hb y hy, by simp⟩) nd (by simpa using h2)
  have c1 : (1 : Int) ≤ (xs.length : Int) := by omega
  have c2 : (xs.length : Int) ≤ 40 := by omega
  unfold d_check_stones b_check_stones
  simp [c1, c2, enumL, q]
theorem check_ends_ok {e : Int} {S : List (List FD.D)} (h1 : 0 ≤ e) (h2 : e ≤ 3) : d_check_ends [.int e] S = .ok .non S := by
  have hs : short 4 = true := by decide
  have hc : e = 0 ∨ e = 1 ∨ e = 2 ∨ e = 3 := by omega
  unfold d_check_ends b_check_ends
  rcases hc with rfl | rfl | rfl | rfl <;> simp [hs, inD, flatD, eqF]
abbrev bodyQ : Prog := (seqS (ifS (notT (testD (chainD ltI leI (varD 1) (varD 3) (conD (.int 40)))))
 (fun _ => .stuck)
 nilS)
 (setS 1 (varD 3)))
theorem loopQ {t : FD.D} {S : List (List FD.D)} : ∀ (ys : List Int) (k : Nat) (b : Int) (s2 s3 : Sl), (∀ y ∈ ys, b < y ∧ y ≤ 40) → ys.Pairwise (· < ·) →
    ∃ s1 s2' s3', forL (tgNames [2, 3]) bodyQ (((ys.map FD.D.int).zipIdx k).map fun q => .tup [.int (q.2 : Nat), q.1]) ⟨[.val t, .val (.int b), s2, s3], S⟩ = .nx ⟨[.val t, s1, s2', s3'], S⟩
  | [], k, b, s2, s3, _, _ => ⟨_, _, _, rfl⟩
  | y :: ys, k, b, s2, s3, h, hp => by
    obtain ⟨h1, h2⟩ := h y List.mem_cons_self
    rw [List.pairwise_cons] at hp
    obtain ⟨a, c, d, q⟩ := loopQ (t := t) (S := S) ys (k + 1) y (.val (.int (k : Nat))) (.val (.int y)) (fun z hz => ⟨hp.1 z hz, (h z (List.mem_cons_of_mem _ hz)).2⟩) hp.2
    refine ⟨a, c, d, ?_⟩
    rw [List.map_cons, List.zipIdx_cons, List.map_cons]
    refine (forL_nx rfl ?_).trans q
    simp [h1, h2]
theorem check_rule_ok {r : FD.D} {S : List (List FD.D)} (h : RuleOk r) : d_check_rule [r] S = .ok .non S := by
  rcases h with rfl | ⟨ls, rfl, hp, hb⟩
  · unfold d_check_rule b_check_rule
    simp
  · obtain ⟨a, b, c, q⟩ := loopQ (t := .tup (ls.map .int)) (S := S) ls 0 1 .un .un (fun y hy => by have := hb y hy; omega) hp
    unfold d_check_rule b_check_rule
    simp [enumL, q]
theorem init_ok {xs : List Int} {e : Int} {r : FD.D} {S : List (List FD.D)} (h1 : 1 ≤ xs.length) (h2 : xs.length ≤ 40) (nd : xs.Nodup) (hb : ∀ x ∈ xs, -1000000 ≤ x ∧ x < 10000000000) (he1 : 0 ≤ e) (he2 : e ≤ 3) (hr : RuleOk r) :
    i_Row___init__ [.tup (xs.map .int), .int e, r] S = .ok [("stones", .tup (xs.map .int)), ("ends", .int e), ("rule", r)] S := by
  unfold i_Row___init__
  simp only [check_stones_ok h1 h2 nd hb, check_ends_ok he1 he2, check_rule_ok hr]
/-! ### the program's own functions at a row -/
def rowD (C : Addr) (xs : List Int) (e : Int) (r : FD.D) : FD.D := .obj C [("stones", .tup (xs.map .int)), ("ends", .int e), ("rule", r)]
theorem fs (C : Addr) (xs : List Int) (e : Int) (r : FD.D) : fieldD C "stones" (rowD C xs e r) = some (.tup (xs.map .int)) := by unfold rowD; rw [ev_field]; rfl
theorem fe (C : Addr) (xs : List Int) (e : Int) (r : FD.D) : fieldD C "ends" (rowD C xs e r) = some (.int e) := by unfold rowD; rw [ev_field]; rfl
theorem fr (C : Addr) (xs : List Int) (e : Int) (r : FD.D) : fieldD C "rule" (rowD C xs e r) = some r := by unfold rowD; rw [ev_field]; rfl
theorem all_flat (xs : List Int) : (xs.map FD.D.int).all flatD = true := by
  rw [List.all_map, List.all_eq_true]
  intro x _
  rfl
theorem any_int (xs : List Int) (x : Int) : ((xs.map FD.D.int).any fun y => eqF y (.int x)) = decide (x ∈ xs) := by
  rw [List.any_map, Bool.eq_iff_iff, List.any_eq_true, decide_eq_true_eq]
  constructor
  · rintro ⟨y, hy, h⟩
    have : (y == x) = true := h
    have := eq_of_beq this
    subst this; exact hy
  · intro h
    exact ⟨x, h, by show (x == x) = true; simp⟩
theorem in_ints (neg : Bool) (xs : List Int) (x : Int) : inD neg (.int x) (.tup (xs.map .int)) = some (.bl (if neg then !decide (x ∈ xs) else decide (x ∈ xs))) := by
  show (if (flatD (.int x) && (xs.map FD.D.int).all flatD) = true then _ else _) = _
  rw [all_flat, any_int]
  rfl
variable {C : Addr} {xs : List Int} {e : Int} {r : FD.D} {S : List (List FD.D)} {x : Int}
theorem contains_ok : d_Row___contains__ C [rowD C xs e r, .int x] S = .ok (.bl (decide (x ∈ xs))) S := by
  unfold d_Row___contains__ b_Row___contains__
  simp [fs, in_ints]
theorem span_of_ok (hx : x ∈ xs) (hl : xs.length ≤ 40) : d_span_of C [rowD C xs e r, .int x] S = .ok (spanD xs x) S := by
  have hc := contains_ok (C := C) (xs := xs) (e := e) (r := r) (S := S) (x := x)
  have hf := fs C xs e r
  unfold d_span_of b_span_of
  unfold rowD at hc hf ⊢
  simp [hc, hx, hf, span_ok hx hl]
theorem cut_len {i j : Nat} (h1 : i ≤ j) (h2 : j < xs.length) : (cutD (xs.map FD.D.int) (some (i : Int)) (some ((j : Int) + 1))).length = j + 1 - i := by
  have e1 : ((j : Int) + 1) = ((j + 1 : Nat) : Int) := by omega
  unfold cutD
  rw [e1, HT.sIx_nat, HT.sIx_nat, List.length_take, List.length_drop, List.length_map]
  omega
def lotLen (xs : List Int) (x : Int) : Nat := sHi xs x + 1 - sLo xs x
theorem lot_ok (hx : x ∈ xs) (hl : xs.length ≤ 40) : ∃ ds : List FD.D, d_lot C [rowD C xs e r, .int x] S = .ok (.tup ds) S ∧ ds.length = lotLen xs x := by
  refine ⟨cutD (xs.map FD.D.int) (some (sLo xs x : Int)) (some ((sHi xs x : Int) + 1)), ?_, cut_len sLo_le_sHi (sHi_lt hx)⟩
  have hf := fs C xs e r
  have h1 := span_of_ok (C := C) (e := e) (r := r) (S := S) hx hl
  unfold d_lot b_lot
  simp [h1, spanD, hf, slD]
theorem open_ahead_ok : d_open_ahead [.int e] S = .ok (.bl (decide (e = 0 ∨ e = 2))) S := by
  have hs : short 2 = true := by decide
  unfold d_open_ahead b_open_ahead
  simp [hs, in2]
theorem open_behind_ok : d_open_behind [.int e] S = .ok (.bl (decide (e = 0 ∨ e = 1))) S := by
  have hs : short 2 = true := by decide
  unfold d_open_behind b_open_behind
  simp [hs, in2]
def aP (xs : List Int) (e x : Int) : FD.D := if 0 < sLo xs x then .int (xs.getD (sLo xs x - 1) 0) else if e = 0 ∨ e = 2 then .str "open" else .str "wall"
def bP (xs : List Int) (e x : Int) : FD.D := if sHi xs x + 1 < xs.length then .int (xs.getD (sHi xs x + 1) 0) else if e = 0 ∨ e = 1 then .str "open" else .str "wall"
theorem closers_ok (hx : x ∈ xs) (hl : xs.length ≤ 40) : d_closers C [rowD C xs e r, .int x] S = .ok (.tup [aP xs e x, bP xs e x]) S := by
  have hs : short 2 = true := by decide
  have h1 := sLo_lt hx
  have h2 := sHi_lt hx
  have hf := fs C xs e r
  have hg := fe C xs e r
  have h3 := span_of_ok (C := C) (e := e) (r := r) (S := S) hx hl
  unfold d_closers b_closers aP bP
  by_cases c1 : 0 < sLo xs x
  · have i1 := ix_getD (xs := xs) (i := sLo xs x - 1) (k := (sLo xs x : Int) - 1) (by omega) (by omega)
    by_cases c2 : sHi xs x + 1 < xs.length
    · have i2 := ix_getD (xs := xs) (i := sHi xs x + 1) (k := (sHi xs x : Int) + 1) c2 (by omega)
      have c2' : (sHi xs x : Int) + 1 < (xs.length : Int) := by omega
      by_cases c3 : e = 0 ∨ e = 2 <;> by_cases c4 : e = 0 ∨ e = 1 <;> simp [h3, spanD, hf, hg, hs, c1, c2, c2', i1, i2, open_ahead_ok, open_behind_ok, c3, c4]
    · have c2' : ¬ (sHi xs x : Int) + 1 < (xs.length : Int) := by omega
      by_cases c3 : e = 0 ∨ e = 2 <;> by_cases c4 : e = 0 ∨ e = 1 <;> simp [h3, spanD, hf, hg, hs, c1, c2, c2', i1, open_ahead_ok, open_behind_ok, c3, c4]
  · by_cases c2 : sHi xs x + 1 < xs.length
    · have i2 := ix_getD (xs := xs) (i := sHi xs x + 1) (k := (sHi xs x : Int) + 1) c2 (by omega)
      have c2' : (sHi xs x : Int) + 1 < (xs.length : Int) := by omega
      by_cases c3 : e = 0 ∨ e = 2 <;> by_cases c4 : e = 0 ∨ e = 1 <;> simp [h3, spanD, hf, hg, hs, c1, c2, c2', i2, open_ahead_ok, open_behind_ok, c3, c4]
    · have c2' : ¬ (sHi xs x : Int) + 1 < (xs.length : Int) := by omega
      by_cases c3 : e = 0 ∨ e = 2 <;> by_cases c4 : e = 0 ∨ e = 1 <;> simp [h3, spanD, hf, hg, hs, c1, c2, c2', open_ahead_ok, open_behind_ok, c3, c4]
/-- an open end is met -/
def recB (xs : List Int) (e x : Int) : Bool := decide ((sLo xs x = 0 ∧ (e = 0 ∨ e = 2)) ∨ (sHi xs x + 1 = xs.length ∧ (e = 0 ∨ e = 1)))
theorem is_record_ok (hx : x ∈ xs) (hl : xs.length ≤ 40) : d_is_record C [rowD C xs e r, .int x] S = .ok (.bl (recB xs e x)) S := by
  have h2 := sHi_lt hx
  have h3 := closers_ok (C := C) (e := e) (r := r) (S := S) hx hl
  have ho : ((("open" : Str) == ("open" : Str))) = true := by decide
  have hw : ((("wall" : Str) == ("open" : Str))) = false := by decide
  unfold d_is_record b_is_record recB
  unfold aP bP at h3
  by_cases c1 : 0 < sLo xs x
  · have c1' : ¬ sLo xs x = 0 := by omega
    by_cases c2 : sHi xs x + 1 < xs.length
    · have c2' : ¬ sHi xs x + 1 = xs.length := by omega
      simp only [c1, c2, if_true] at h3
      simp [h3, inD, flatD, eqF, c1', c2']
    · have c2' : sHi xs x + 1 = xs.length := by omega
      by_cases c4 : e = 0 ∨ e = 1
      · simp only [c1, c2, if_true, if_false, c4] at h3
        simp [h3, inD, flatD, eqF, c1', c2', c4, ho]
      · simp only [c1, c2, if_true, if_false, c4] at h3
        simp [h3, inD, flatD, eqF, c1', c2', c4, hw]
  · have c1' : sLo xs x = 0 := by omega
    by_cases c2 : sHi xs x + 1 < xs.length
    · have c2' : ¬ sHi xs x + 1 = xs.length := by omega
      by_cases c3 : e = 0 ∨ e = 2
      · simp only [c1, c2, if_true, if_false, c3] at h3
        simp [h3, inD, flatD, eqF, c1', c2', c3, ho]
      · simp only [c1, c2, if_true, if_false, c3] at h3
        simp [h3, inD, flatD, eqF, c1', c2', c3, hw]
    · have c2' : sHi xs x + 1 = xs.length := by omega
      by_cases c3 : e = 0 ∨ e = 2 <;> by_cases c4 : e = 0 ∨ e = 1
      all_goals
        simp only [c1, c2, if_true, if_false, c3, c4] at h3
        simp [h3, inD, flatD, eqF, c1', c2', c3, c4, ho, hw]
end K06

set_option Elab.async false
set_option linter.all false
set_option maxRecDepth 100000
set_option maxHeartbeats 1000000
namespace K06
open PySem PySem.Spec L2 FD
theorem compL_pure {α : Type} {vs : List Nat} {tg : FD.D → Z → Option Z} {t : Den Bool} {e : Den FD.D} {P : α → Bool} {E : α → FD.D} {f : α → FD.D} {z0 : Z} : ∀ (ds : List α) (acc : List FD.D),
    (∀ d ∈ ds, ∃ z1, tg (f d) z0 = some z1 ∧ ∃ z2, t z1 = .ok (P d) z2 ∧ forget vs z2 = z0 ∧ (P d = true → ∃ z3, e z2 = .ok (E d) z3 ∧ forget vs z3 = z0)) → compL vs tg t e acc (ds.map f) z0 = .ok (acc ++ (ds.filter P).map E) z0
  | [], acc, _ => by simp [compL]
  | d :: ds, acc, h => by
    obtain ⟨z1, h1, z2, h2, h3, h4⟩ := h d List.mem_cons_self
    have ih := fun acc => compL_pure (P := P) (E := E) ds acc fun d hd => h d (List.mem_cons_of_mem _ hd)
    rw [List.map_cons, compL, h1]
    simp only [h2, calm_ok', bind_ok]
    cases c : P d with
    | false =>
      simp only [c, Bool.false_eq_true, if_false]
      rw [h3, ih, List.filter_cons_of_neg (by simp [c])]
    | true =>
      obtain ⟨z3, h5, h6⟩ := h4 c
      simp only [c, if_true, h5, calm_ok', bind_ok]
      rw [h6, ih, List.filter_cons_of_pos c, List.map_cons, List.append_assoc]
      rfl
section
variable {C : Addr} {xs : List Int} {e : Int} {r : FD.D} {S : List (List FD.D)} {x : Int}
def headB (xs : List Int) (e x : Int) : Bool := decide (1 < lotLen xs x) && !recB xs e x
def headsL (xs : List Int) (e : Int) : List Int := (sortI xs).filter (headB xs e)
theorem heads_ok (hl : xs.length ≤ 40) : d_heads C [rowD C xs e r] S = .ok (.tup ((headsL xs e).map .int)) S := by
  have hf := fs C xs e r
  have key := compL_pure (vs := [1]) (tg := tgName 1) (t := (andT (testD (binD gtI (appD lenB (consA (callF (d_lot C) (consA (varD 0) (consA (varD 1) nilA))) nilA)) (conD (.int 1)))) (notT (testD (callF (d_is_record C) (consA (varD 0) (consA (varD 1) nilA)))))))
    (e := varD 1) (P := headB xs e) (E := FD.D.int) (f := FD.D.int) (z0 := ⟨[.val (rowD C xs e r), .un], S⟩) (sortI xs) [] (fun d hd => by
      have hdx : d ∈ xs := (sortI_perm xs).mem_iff.mp hd
      obtain ⟨ds, l1, l2⟩ := lot_ok (C := C) (e := e) (r := r) (S := S) hdx hl
      have l3 := is_record_ok (C := C) (e := e) (r := r) (S := S) hdx hl
      refine ⟨_, rfl, ⟨[.val (rowD C xs e r), .val (.int d)], S⟩, ?_, rfl, fun _ => ⟨⟨[.val (rowD C xs e r), .val (.int d)], S⟩, by simp, rfl⟩⟩
      unfold headB
      by_cases c : 1 < lotLen xs d
      · have c' : (1 : Int) < (ds.length : Int) := by omega
        simp [l1, l3, c, c']
      · have c' : ¬ (1 : Int) < (ds.length : Int) := by omega
        simp [l1, l3, c, c'])
  have hsh : short (sortI xs).length = true := short_of (by rw [(sortI_perm xs).length_eq]; omega)
  unfold d_heads b_heads
  simp only [List.nil_append] at key
  have hz : forget [1] ⟨[.val (rowD C xs e r), .un], S⟩ = ⟨[.val (rowD C xs e r), .un], S⟩ := rfl
  simp [hf, sorted_int, hsh, hz, key, headsL]
def letB (r : FD.D) (k : Int) : Bool := match r with
  | .non => true
  | .tup ds => ds.any fun y => eqF y (.int k)
  | _ => false
theorem lets_ok {k : Int} (hr : RuleOk r) : d_lets [r, .int k] S = .ok (.bl (letB r k)) S := by
  unfold d_lets b_lets
  rcases hr with rfl | ⟨ls, rfl, _, _⟩
  · simp [letB]
  · have h := any_int ls k
    rw [List.any_map] at h
    simp [letB, in_ints, h]
theorem is_let_ok (hx : x ∈ xs) (hl : xs.length ≤ 40) (hr : RuleOk r) : d_is_let C [rowD C xs e r, .int x] S = .ok (.bl (letB r (lotLen xs x))) S := by
  obtain ⟨ds, l1, l2⟩ := lot_ok (C := C) (e := e) (r := r) (S := S) hx hl
  have hf := fr C xs e r
  have h1 := lets_ok (S := S) (k := (ds.length : Int)) hr
  rw [l2] at h1
  unfold d_is_let b_is_let
  simp [hf, l1, l2, h1]
theorem headsL_mem {y : Int} (h : y ∈ headsL xs e) : y ∈ xs := (sortI_perm xs).mem_iff.mp (List.mem_filter.mp h).1
def freeL (xs : List Int) (e : Int) (r : FD.D) : List Int := (headsL xs e).filter fun x => letB r (lotLen xs x)
theorem headsL_len : (headsL xs e).length ≤ xs.length := by
  refine Nat.le_trans (List.length_filter_le _ _) ?_
  rw [(sortI_perm xs).length_eq]
  exact Nat.le_refl _
theorem free_heads_ok (hl : xs.length ≤ 40) (hr : RuleOk r) : d_free_heads C [rowD C xs e r] S = .ok (.tup ((freeL xs e r).map .int)) S := by
  have key := compL_pure (vs := [1]) (tg := tgName 1) (t := (testD (callF (d_is_let C) (consA (varD 0) (consA (varD 1) nilA)))))
    (e := varD 1) (P := fun x => letB r (lotLen xs x)) (E := FD.D.int) (f := FD.D.int) (z0 := ⟨[.val (rowD C xs e r), .un], S⟩) (headsL xs e) [] (fun d hd => by
      have hdx : d ∈ xs := headsL_mem hd
      have l1 := is_let_ok (C := C) (e := e) (S := S) hdx hl hr
      refine ⟨_, rfl, ⟨[.val (rowD C xs e r), .val (.int d)], S⟩, ?_, rfl, fun _ => ⟨⟨[.val (rowD C xs e r), .val (.int d)], S⟩, by simp, rfl⟩⟩
      simp [l1])
  have h1 := heads_ok (C := C) (e := e) (r := r) (S := S) hl
  have hsh : short (headsL xs e).length = true := short_of (by have := headsL_len (xs := xs) (e := e); omega)
  simp only [List.nil_append] at key
  have hz : forget [1] ⟨[.val (rowD C xs e r), .un], S⟩ = ⟨[.val (rowD C xs e r), .un], S⟩ := rfl
  unfold d_free_heads b_free_heads
  simp [h1, hsh, hz, key, freeL]
def spanI (xs : List Int) (x : Int) : Int × Int := (sLo xs x, sHi xs x)
theorem stretches_ok (hl : xs.length ≤ 40) (hr : RuleOk r) : d_stretches C [rowD C xs e r] S = .ok (.tup ((sortP ((freeL xs e r).map (spanI xs))).map dP)) S := by
  have key := compL_pure (vs := [1]) (tg := tgName 1) (t := yesT) (e := (callF (d_span_of C) (consA (varD 0) (consA (varD 1) nilA)))) (P := fun _ => true) (E := fun x => dP (spanI xs x)) (f := FD.D.int) (z0 := ⟨[.val (rowD C xs e r), .un], S⟩) (freeL xs e r) [] (fun d hd => by
      have hdx : d ∈ xs := headsL_mem (List.mem_filter.mp hd).1
      have l1 := span_of_ok (C := C) (e := e) (r := r) (S := S) hdx hl
      refine ⟨_, rfl, ⟨[.val (rowD C xs e r), .val (.int d)], S⟩, rfl, rfl, fun _ => ⟨⟨[.val (rowD C xs e r), .val (.int d)], S⟩, ?_, rfl⟩⟩
      simp [l1]
      rfl)
  have h1 := free_heads_ok (C := C) (e := e) (S := S) hl hr
  have hsh : short (freeL xs e r).length = true := short_of (by
    have := headsL_len (xs := xs) (e := e)
    have := List.length_filter_le (fun x => letB r (lotLen xs x)) (headsL xs e)
    unfold freeL
    omega)
  have hz : forget [1] ⟨[.val (rowD C xs e r), .un], S⟩ = ⟨[.val (rowD C xs e r), .un], S⟩ := rfl
  have e1 : (freeL xs e r).map (fun x => dP (spanI xs x)) = ((freeL xs e r).map (spanI xs)).map dP := by rw [List.map_map]; rfl
  have e2 : (freeL xs e r).filter (fun _ => true) = freeL xs e r := List.filter_eq_self.mpr fun _ _ => rfl
  have e3 : sortedPB [.lst (((freeL xs e r).map (spanI xs)).map dP)] = some (.lst ((sortP ((freeL xs e r).map (spanI xs))).map dP)) := by
    show (pairsOf _).map _ = _
    rw [pairsOf_map]
    rfl
  rw [e2, e1, List.nil_append] at key
  unfold d_stretches b_stretches
  simp only [ev_fn, ev_ret, ev_app, ev_cons, ev_comp, ev_itT, ev_call, ev_var, ev_nil, bind_ok, List.map_cons, List.map_nil, List.length_cons, List.length_nil, List.replicate, List.cons_append, List.nil_append, List.getElem?_cons_zero, h1, den_ok, ev_asT, optR_some, List.length_map, hsh, if_true, hz, key, e3, ev_tupleL, then_ok, fr_rt]
end
end K06

set_option Elab.async false
set_option linter.all false
set_option maxRecDepth 100000
set_option maxHeartbeats 1000000
namespace K06
open PySem PySem.Spec L2 FD FDB
/-! ### the mathematics -/
def seg (xs : List Int) (i j : Nat) : List Int := (xs.drop i).take (j + 1 - i)
def mx (xs : List Int) (i j : Nat) : Int := match seg xs i j with
  | [] => 0
  | n :: r => maxI n r
def mayB (xs : List Int) (e : Int) (r : FD.D) (i j : Nat) : Bool :=
  (if 0 < i then !decide (xs.getD (i - 1) 0 < mx xs i j) else !decide (e = 0 ∨ e = 2)) &&
  ((if j + 1 < xs.length then !decide (xs.getD (j + 1) 0 < mx xs i j) else !decide (e = 0 ∨ e = 1)) && letB r ((j : Int) - i + 1))
def rowL (xs : List Int) (e : Int) (r : FD.D) (i : Nat) : List (Int × Int) := ((List.range (xs.length - (i + 1))).filter fun k => mayB xs e r i (i + 1 + k)).map fun k => ((i : Int), ((i + 1 + k : Nat) : Int))
def dueL (xs : List Int) (e : Int) (r : FD.D) : List (Int × Int) := (List.range xs.length).flatMap (rowL xs e r)
section
variable {xs : List Int} {x : Int}
theorem get_d {t : Nat} (h : t < xs.length) : xs[t]? = some (xs.getD t 0) := by
  rw [List.getD_eq_getElem?_getD, List.getElem?_eq_getElem h]
  rfl
theorem lo_spec (xs : List Int) (x : Int) : ∀ i, i ≤ xs.length → (∀ t, lo xs x i ≤ t → t < i → xs.getD t 0 < x) ∧ (lo xs x i = 0 ∨ ¬ xs.getD (lo xs x i - 1) 0 < x)
  | 0, _ => ⟨fun t _ h => absurd h (by omega), .inl rfl⟩
  | i + 1, h => by
    have hi : i < xs.length := by omega
    obtain ⟨a, b⟩ := lo_spec xs x i (by omega)
    unfold lo
    rw [get_d hi]
    simp only
    by_cases c : xs.getD i 0 < x
    · rw [if_pos c]
      refine ⟨fun t h1 h2 => ?_, b⟩
      by_cases ht : t = i
      · subst ht; exact c
      · exact a t h1 (by omega)
    · rw [if_neg c]
      exact ⟨fun t h1 h2 => absurd h2 (by omega), .inr c⟩
theorem hi_spec (xs : List Int) (x : Int) : ∀ f j, j < xs.length → xs.length ≤ j + 1 + f → (∀ t, j < t → t ≤ hi xs x f j → xs.getD t 0 < x) ∧ (hi xs x f j + 1 = xs.length ∨ ¬ xs.getD (hi xs x f j + 1) 0 < x)
  | 0, j, h, hf => ⟨fun t h1 h2 => by unfold hi at h2; omega, .inl (by unfold hi; omega)⟩
  | f + 1, j, h, hf => by
    unfold hi
    by_cases hj : j + 1 < xs.length
    · rw [get_d hj]
      simp only
      by_cases c : xs.getD (j + 1) 0 < x
      · rw [if_pos c]
        obtain ⟨a, b⟩ := hi_spec xs x f (j + 1) hj (by omega)
        refine ⟨fun t h1 h2 => ?_, b⟩
        by_cases ht : t = j + 1
        · subst ht; exact c
        · exact a t (by omega) h2
      · rw [if_neg c]
        exact ⟨fun t h1 h2 => absurd h2 (by omega), .inr c⟩
    · rw [List.getElem?_eq_none (by omega)]
      simp only
      exact ⟨fun t h1 h2 => absurd h2 (by omega), .inl (by omega)⟩
theorem lo_uniq {i p : Nat} (hp : p ≤ xs.length) (h1 : i ≤ p) (h2 : ∀ t, i ≤ t → t < p → xs.getD t 0 < x) (h3 : i = 0 ∨ ¬ xs.getD (i - 1) 0 < x) : lo xs x p = i := by
  obtain ⟨a, b⟩ := lo_spec xs x p hp
  have hl := lo_le xs x p
  rcases Nat.lt_trichotomy (lo xs x p) i with h | h | h
  · rcases h3 with h3 | h3
    · omega
    · exact absurd (a (i - 1) (by omega) (by omega)) h3
  · exact h
  · rcases b with b | b
    · omega
    · exact absurd (h2 (lo xs x p - 1) (by omega) (by omega)) b
theorem hi_uniq {j p : Nat} (hp : p < xs.length) (hj : j < xs.length) (h1 : p ≤ j) (h2 : ∀ t, p < t → t ≤ j → xs.getD t 0 < x) (h3 : j + 1 = xs.length ∨ ¬ xs.getD (j + 1) 0 < x) : hi xs x xs.length p = j := by
  obtain ⟨a, b⟩ := hi_spec xs x xs.length p hp (by omega)
  have hl := le_hi xs x xs.length p
  have hl2 := hi_lt xs x xs.length p hp
  rcases Nat.lt_trichotomy (hi xs x xs.length p) j with h | h | h
  · rcases b with b | b
    · omega
    · exact absurd (h2 (hi xs x xs.length p + 1) (by omega) (by omega)) b
  · exact h
  · rcases h3 with h3 | h3
    · omega
    · exact absurd (a (j + 1) (by omega) (by omega)) h3
theorem idx_get (nd : xs.Nodup) {p : Nat} (h : p < xs.length) : xs.idxOf (xs.getD p 0) = p := by
  have e : xs.getD p 0 = xs[p] := by
    have := get_d h
    rw [List.getElem?_eq_getElem h] at this
    exact (Option.some.inj this).symm
  rw [e]
  exact nd.idxOf_getElem p h
theorem get_idx (h : x ∈ xs) : xs.getD (xs.idxOf x) 0 = x := by
  have hl := List.idxOf_lt_length_of_mem h
  have := get_d hl
  rw [List.getElem?_eq_getElem hl, List.getElem_idxOf] at this
  exact (Option.some.inj this).symm
theorem get_mem {p : Nat} (h : p < xs.length) : xs.getD p 0 ∈ xs := List.mem_of_getElem? (get_d h)
theorem get_inj (nd : xs.Nodup) {p q : Nat} (hp : p < xs.length) (hq : q < xs.length) (e : xs.getD p 0 = xs.getD q 0) : p = q := by
  rw [← idx_get nd hp, e, idx_get nd hq]
theorem mem_seg {i j : Nat} {y : Int} (hj : j < xs.length) : y ∈ seg xs i j ↔ ∃ t, i ≤ t ∧ t ≤ j ∧ xs.getD t 0 = y := by
  unfold seg
  rw [List.mem_iff_getElem?]
  constructor
  · rintro ⟨t, h⟩
    rw [List.getElem?_take] at h
    split at h
    · rw [List.getElem?_drop] at h
      have hl := (List.getElem?_eq_some_iff.mp h).1
      rw [get_d hl] at h
      exact ⟨i + t, by omega, by omega, Option.some.inj h⟩
    · cases h
  · rintro ⟨t, h1, h2, h3⟩
    refine ⟨t - i, ?_⟩
    rw [List.getElem?_take, if_pos (by omega), List.getElem?_drop, show i + (t - i) = t by omega, get_d (by omega), h3]
theorem mx_spec {i j : Nat} (h : i ≤ j) (hj : j < xs.length) : (∃ p, i ≤ p ∧ p ≤ j ∧ xs.getD p 0 = mx xs i j) ∧ ∀ t, i ≤ t → t ≤ j → xs.getD t 0 ≤ mx xs i j := by
  unfold mx
  cases e : seg xs i j with
  | nil =>
    have : xs.getD i 0 ∈ seg xs i j := (mem_seg hj).mpr ⟨i, Nat.le_refl _, h, rfl⟩
    rw [e] at this; cases this
  | cons n r =>
    obtain ⟨h1, h2⟩ := maxI_spec r n
    refine ⟨?_, fun t a b => ?_⟩
    · rw [← e] at h1
      exact (mem_seg hj).mp h1
    · apply h2
      rw [← e]
      exact (mem_seg hj).mpr ⟨t, a, b, rfl⟩
/-- the greatest stone of x's span is x -/
theorem mx_span (nd : xs.Nodup) (h : x ∈ xs) : mx xs (sLo xs x) (sHi xs x) = x := by
  have hp := List.idxOf_lt_length_of_mem h
  obtain ⟨a, _⟩ := lo_spec xs x (xs.idxOf x) (by omega)
  obtain ⟨c, _⟩ := hi_spec xs x xs.length (xs.idxOf x) hp (by omega)
  have l1 : sLo xs x ≤ xs.idxOf x := lo_le xs x _
  have l2 : xs.idxOf x ≤ sHi xs x := le_hi xs x _ _
  obtain ⟨⟨p, p1, p2, p3⟩, q⟩ := mx_spec (xs := xs) (i := sLo xs x) (j := sHi xs x) (Nat.le_trans l1 l2) (sHi_lt h)
  have hx : x ≤ mx xs (sLo xs x) (sHi xs x) := by
    have := q (xs.idxOf x) l1 l2
    rw [get_idx h] at this
    exact this
  rcases Nat.lt_trichotomy p (xs.idxOf x) with hh | hh | hh
  · have := a p p1 hh; omega
  · subst hh
    rw [get_idx h] at p3
    exact p3.symm
  · have := c p hh p2; omega
end
section
variable {xs : List Int} {e : Int} {r : FD.D}
theorem mem_free {x : Int} : x ∈ freeL xs e r ↔ x ∈ xs ∧ 1 < lotLen xs x ∧ recB xs e x = false ∧ letB r (lotLen xs x) = true := by
  unfold freeL headsL headB
  rw [List.mem_filter, List.mem_filter, (sortI_perm xs).mem_iff]
  simp only [Bool.and_eq_true, decide_eq_true_eq, Bool.not_eq_true']
  constructor
  · rintro ⟨⟨a, b, c⟩, d⟩; exact ⟨a, b, c, d⟩
  · rintro ⟨a, b, c, d⟩; exact ⟨⟨a, b, c⟩, d⟩
theorem mem_due {q : Int × Int} : q ∈ dueL xs e r ↔ ∃ i j : Nat, i < j ∧ j < xs.length ∧ mayB xs e r i j = true ∧ q = ((i : Int), (j : Int)) := by
  unfold dueL rowL
  rw [List.mem_flatMap]
  constructor
  · rintro ⟨i, hi, h⟩
    rw [List.mem_map] at h
    obtain ⟨k, hk, e⟩ := h
    rw [List.mem_filter, List.mem_range] at hk
    exact ⟨i, i + 1 + k, by omega, by omega, hk.2, e.symm⟩
  · rintro ⟨i, j, h1, h2, h3, rfl⟩
    refine ⟨i, List.mem_range.mpr (by omega), List.mem_map.mpr ⟨j - (i + 1), List.mem_filter.mpr ⟨List.mem_range.mpr (by omega), ?_⟩, ?_⟩⟩
    · rw [show i + 1 + (j - (i + 1)) = j by omega]; exact h3
    · rw [show i + 1 + (j - (i + 1)) = j by omega]
theorem span_may (nd : xs.Nodup) (q : Int × Int) : q ∈ (freeL xs e r).map (spanI xs) ↔ q ∈ dueL xs e r := by
  rw [List.mem_map, mem_due]
  constructor
  · rintro ⟨x, hx, rfl⟩
    obtain ⟨h1, h2, h3, h4⟩ := mem_free.mp hx
    have hm := mx_span nd h1
    have hlo := sLo_lt h1
    have hhi := sHi_lt h1
    have hp := List.idxOf_lt_length_of_mem h1
    obtain ⟨_, b⟩ := lo_spec xs x (xs.idxOf x) (by omega)
    obtain ⟨_, d⟩ := hi_spec xs x xs.length (xs.idxOf x) hp (by omega)
    have b' : sLo xs x = 0 ∨ ¬ xs.getD (sLo xs x - 1) 0 < x := b
    have d' : sHi xs x + 1 = xs.length ∨ ¬ xs.getD (sHi xs x + 1) 0 < x := d
    have hll : (lotLen xs x : Int) = (sHi xs x : Int) - sLo xs x + 1 := by unfold lotLen; have := sLo_le_sHi (xs := xs) (x := x); omega
    refine ⟨sLo xs x, sHi xs x, ?_, hhi, ?_, rfl⟩
    · unfold lotLen at h2; omega
    · unfold mayB
      rw [hm, ← hll, h4]
      unfold recB at h3
      rw [decide_eq_false_iff_not] at h3
      by_cases c1 : 0 < sLo xs x
      · have b2 : ¬ xs.getD (sLo xs x - 1) 0 < x := by rcases b' with b' | b'; (· omega); exact b'
        by_cases c2 : sHi xs x + 1 < xs.length
        · have d2 : ¬ xs.getD (sHi xs x + 1) 0 < x := by rcases d' with d' | d'; (· omega); exact d'
          rw [if_pos c1, if_pos c2, decide_eq_false b2, decide_eq_false d2]; rfl
        · have c3 : ¬ (e = 0 ∨ e = 1) := fun h => h3 (.inr ⟨by omega, h⟩)
          rw [if_pos c1, if_neg c2, decide_eq_false b2, decide_eq_false c3]; rfl
      · have c3 : ¬ (e = 0 ∨ e = 2) := fun h => h3 (.inl ⟨by omega, h⟩)
        by_cases c2 : sHi xs x + 1 < xs.length
        · have d2 : ¬ xs.getD (sHi xs x + 1) 0 < x := by rcases d' with d' | d'; (· omega); exact d'
          rw [if_neg c1, if_pos c2, decide_eq_false c3, decide_eq_false d2]; rfl
        · have c4 : ¬ (e = 0 ∨ e = 1) := fun h => h3 (.inr ⟨by omega, h⟩)
          rw [if_neg c1, if_neg c2, decide_eq_false c3, decide_eq_false c4]; rfl
  · rintro ⟨i, j, h1, h2, h3, rfl⟩
    obtain ⟨⟨p, p1, p2, p3⟩, hmax⟩ := mx_spec (xs := xs) (i := i) (j := j) (by omega) h2
    have hpl : p < xs.length := by omega
    have hm : mx xs i j ∈ xs := by rw [← p3]; exact get_mem hpl
    have hidx : xs.idxOf (mx xs i j) = p := by rw [← p3]; exact idx_get nd hpl
    have strict : ∀ t, i ≤ t → t ≤ j → t ≠ p → xs.getD t 0 < mx xs i j := fun t a b c => by
      have h := hmax t a b
      have h' : xs.getD t 0 ≠ mx xs i j := fun e => c (get_inj nd (by omega) hpl (e.trans p3.symm))
      omega
    unfold mayB at h3
    rw [Bool.and_eq_true, Bool.and_eq_true] at h3
    obtain ⟨m1, m2, m3⟩ := h3
    have c1 : i = 0 ∨ ¬ xs.getD (i - 1) 0 < mx xs i j := by
      by_cases c : 0 < i
      · rw [if_pos c] at m1
        exact .inr (by simpa using m1)
      · exact .inl (by omega)
    have c2 : j + 1 = xs.length ∨ ¬ xs.getD (j + 1) 0 < mx xs i j := by
      by_cases c : j + 1 < xs.length
      · rw [if_pos c] at m2
        exact .inr (by simpa using m2)
      · exact .inl (by omega)
    have s1 : sLo xs (mx xs i j) = i := by
      unfold sLo
      rw [hidx]
      exact lo_uniq (by omega) p1 (fun t a b => strict t a (by omega) (by omega)) c1
    have s2 : sHi xs (mx xs i j) = j := by
      unfold sHi
      rw [hidx]
      exact hi_uniq hpl h2 p2 (fun t a b => strict t (by omega) b (by omega)) c2
    have hll : (lotLen xs (mx xs i j) : Int) = (j : Int) - i + 1 := by unfold lotLen; rw [s1, s2]; omega
    refine ⟨mx xs i j, mem_free.mpr ⟨hm, by unfold lotLen; rw [s1, s2]; omega, ?_, by rw [hll]; exact m3⟩, by unfold spanI; rw [s1, s2]⟩
    unfold recB
    rw [s1, s2, decide_eq_false_iff_not]
    rintro (⟨a, b⟩ | ⟨a, b⟩)
    · rw [if_neg (by omega), decide_eq_true b] at m1
      cases m1
    · rw [if_neg (by omega), decide_eq_true b] at m2
      cases m2
theorem due_strict : (dueL xs e r).Pairwise fun a b => a.1 < b.1 ∨ (a.1 = b.1 ∧ a.2 < b.2) := by
  unfold dueL
  rw [List.pairwise_flatMap]
  refine ⟨fun i _ => ?_, ?_⟩
  · unfold rowL
    refine List.Pairwise.map (R := fun a b : Nat => a < b) _ (fun a b h => .inr ⟨rfl, by show ((i + 1 + a : Nat) : Int) < ((i + 1 + b : Nat) : Int); omega⟩) ?_
    exact List.Pairwise.filter _ List.pairwise_lt_range
  · refine List.Pairwise.imp (fun {a b} h x hx y hy => ?_) (List.pairwise_lt_range (n := xs.length))
    unfold rowL at hx hy
    obtain ⟨k, _, rfl⟩ := List.mem_map.mp hx
    obtain ⟨l, _, rfl⟩ := List.mem_map.mp hy
    exact .inl (by show (a : Int) < (b : Int); omega)
theorem stretches_due (nd : xs.Nodup) : sortP ((freeL xs e r).map (spanI xs)) = dueL xs e r := by
  have n1 : (dueL xs e r).Nodup := due_strict.imp fun {a b} h e => by subst e; omega
  have s1 : SortedP (dueL xs e r) := due_strict.imp fun {a b} h => by rw [leP_iff]; omega
  have nf : (freeL xs e r).Nodup := by
    unfold freeL headsL
    exact List.Pairwise.filter _ (List.Pairwise.filter _ ((sortI_perm xs).nodup_iff.mpr nd))
  have n2 : ((freeL xs e r).map (spanI xs)).Nodup := by
    have hm : ∀ x ∈ freeL xs e r, mx xs (sLo xs x) (sHi xs x) = x := fun x hx => mx_span nd (mem_free.mp hx).1
    have gen : ∀ l : List Int, l.Nodup → (∀ x ∈ l, mx xs (sLo xs x) (sHi xs x) = x) → (l.map (spanI xs)).Nodup := by
      intro l
      induction l with
      | nil => intro _ _; exact .nil
      | cons a l ih =>
        intro h1 h2
        rw [List.nodup_cons] at h1
        rw [List.map_cons, List.nodup_cons]
        refine ⟨fun hmem => ?_, ih h1.2 fun x hx => h2 x (List.mem_cons_of_mem _ hx)⟩
        obtain ⟨b, hb, eb⟩ := List.mem_map.mp hmem
        have e1 : sLo xs b = sLo xs a := by have := congrArg Prod.fst eb; exact Int.ofNat.inj this
        have e2 : sHi xs b = sHi xs a := by have := congrArg Prod.snd eb; exact Int.ofNat.inj this
        have q1 := h2 a List.mem_cons_self
        have q2 := h2 b (List.mem_cons_of_mem _ hb)
        rw [e1, e2, q1] at q2
        subst q2
        exact h1.1 hb
    exact gen _ nf hm
  have hp := (List.perm_ext_iff_of_nodup n2 n1).mpr (span_may nd)
  exact sortedP_unique ((sortP_perm _).trans hp) (sortP_sorted _) s1
end
end K06

set_option Elab.async false
set_option linter.all false
set_option maxRecDepth 100000
set_option maxHeartbeats 1000000
namespace K06
open PySem PySem.Spec L2 FD FDB
section
variable {C : Addr} {xs : List Int} {e : Int} {r : FD.D} {S : List (List FD.D)} {x : Int}
theorem cut_ints {i j : Nat} (h1 : i ≤ j) (h2 : j < xs.length) : cutD (xs.map FD.D.int) (some (i : Int)) (some ((j : Int) + 1)) = (seg xs i j).map .int := by
  have e1 : ((j : Int) + 1) = ((j + 1 : Nat) : Int) := by omega
  unfold cutD seg
  rw [e1, HT.sIx_nat, HT.sIx_nat, List.length_map, show min i xs.length = i by omega, show min (j + 1) xs.length = j + 1 by omega, List.map_take, List.map_drop]
theorem max_cut {i j : Nat} (h1 : i ≤ j) (h2 : j < xs.length) : maxB [.tup (cutD (xs.map FD.D.int) (some (i : Int)) (some ((j : Int) + 1)))] = some (.int (mx xs i j)) := by
  rw [cut_ints h1 h2]
  show ofInts maxF ((seg xs i j).map FD.D.int) = _
  unfold ofInts mx
  rw [intsOf_map]
  cases e : seg xs i j with
  | nil =>
    have : xs.getD i 0 ∈ seg xs i j := (mem_seg h2).mpr ⟨i, Nat.le_refl _, h1, rfl⟩
    rw [e] at this; cases this
  | cons n t => rfl
theorem in2L (e a b : Int) : inD false (.int e) (.lst [.int a, .int b]) = some (.bl (decide (e = a ∨ e = b))) := in2 e a b
theorem may_ok {i j : Nat} (h1 : i < j) (h2 : j < xs.length) (hr : RuleOk r) : d_Llaw_may [.tup (xs.map .int), .int e, r, .int (i : Int), .int (j : Int)] S = .ok (.bl (mayB xs e r i j)) S := by
  have hs : short 2 = true := by decide
  have hm := max_cut (xs := xs) (i := i) (j := j) (by omega) h2
  have hlet : (d_lets [r, .int ((j : Int) - i + 1)] S) = .ok (.bl (letB r ((j : Int) - i + 1))) S := lets_ok hr
  unfold d_lets b_lets at hlet
  unfold d_Llaw_may b_Llaw_may mayB
  have fin : ∀ {ρ5 : FD.D}, (orD (unD (isNonD false) (varD 2)) (binD (inD false) (binD addD (binD subI (varD 4) (varD 3)) (conD (.int 1))) (varD 2))) ⟨[.val (.tup (xs.map .int)), .val (.int e), .val r, .val (.int (i : Int)), .val (.int (j : Int)), .val ρ5], S⟩ = .ok (.bl (letB r ((j : Int) - i + 1))) ⟨[.val (.tup (xs.map .int)), .val (.int e), .val r, .val (.int (i : Int)), .val (.int (j : Int)), .val ρ5], S⟩ := by
    intro ρ5
    rcases hr with rfl | ⟨ls, rfl, _, _⟩
    · simp [letB]
    · simp [letB, in_ints]
      have h := any_int ls ((j : Int) - i + 1)
      rw [List.any_map] at h
      exact h.symm
  have i1 : 0 < i → ixD (.tup (xs.map .int)) (.int ((i : Int) - 1)) = some (.int (xs.getD (i - 1) 0)) := fun c => ix_getD (xs := xs) (i := i - 1) (k := (i : Int) - 1) (by omega) (by omega)
  have i2 : j + 1 < xs.length → ixD (.tup (xs.map .int)) (.int ((j : Int) + 1)) = some (.int (xs.getD (j + 1) 0)) := fun c => ix_getD (xs := xs) (i := j + 1) (k := (j : Int) + 1) c (by omega)
  generalize xs.getD (i - 1) 0 = u at i1 ⊢
  generalize xs.getD (j + 1) 0 = v at i2 ⊢
  generalize mx xs i j = M at hm ⊢
  simp only [ev_fn, ev_seq, ev_ret, List.map_cons, List.map_nil, List.length_cons, List.length_nil, List.replicate, List.cons_append, List.nil_append]
  by_cases c1 : 0 < i
  · have i1 := i1 c1
    by_cases d1 : u < M
    · simp [hm, slD, c1, i1, d1]
    · by_cases c2 : j + 1 < xs.length
      · have i2 := i2 c2
        have c2' : (j : Int) + 1 < (xs.length : Int) := by omega
        by_cases d2 : v < M
        · simp [hm, slD, c1, i1, d1, c2, c2', i2, d2]
        · simp [hm, slD, c1, i1, d1, c2, c2', i2, d2, -ev_orD, fin]
      · have c2' : ¬ (j : Int) + 1 < (xs.length : Int) := by omega
        by_cases d2 : e = 0 ∨ e = 1
        · simp [hm, slD, c1, i1, d1, c2, c2', d2, hs, in2L]
        · simp [hm, slD, c1, i1, d1, c2, c2', d2, hs, in2L, -ev_orD, fin]
  · by_cases d1 : e = 0 ∨ e = 2
    · simp [hm, slD, c1, d1, hs, in2L]
    · by_cases c2 : j + 1 < xs.length
      · have i2 := i2 c2
        have c2' : (j : Int) + 1 < (xs.length : Int) := by omega
        by_cases d2 : v < M
        · simp [hm, slD, c1, d1, hs, in2L, c2, c2', i2, d2]
        · simp [hm, slD, c1, d1, hs, in2L, c2, c2', i2, d2, -ev_orD, fin]
      · have c2' : ¬ (j : Int) + 1 < (xs.length : Int) := by omega
        by_cases d2 : e = 0 ∨ e = 1
        · simp [hm, slD, c1, d1, c2, c2', d2, hs, in2L]
        · simp [hm, slD, c1, d1, c2, c2', d2, hs, in2L, -ev_orD, fin]
/-! ### equal pairs -/
def tP (q : Int × Int) : PyData := .tuple [.int q.1, .int q.2]
theorem toPys_pairs : ∀ l : List (Int × Int), toPys (l.map dP) = some (l.map tP)
  | [] => rfl
  | q :: l => by
    rw [List.map_cons, toPys, toPys_pairs l]
    rfl
theorem lay_pairs : ∀ l : List (Int × Int), PyData.canLayAll0 (l.map tP) = true
  | [] => by simp [PyData.canLayAll0]
  | q :: l => by
    rw [List.map_cons]
    simp [PyData.canLayAll0, tP, PyData.canLay0]
    exact lay_pairs l
theorem depth_pairs : ∀ l : List (Int × Int), PyData.depthAll (l.map tP) ≤ 10
  | [] => by simp [PyData.depthAll]
  | q :: l => by
    rw [List.map_cons]
    have := depth_pairs l
    simp [PyData.depthAll, tP, PyData.depth]
    omega
theorem ne_self (l : List (Int × Int)) : eqD true (.tup (l.map dP)) (.tup (l.map dP)) = some (.bl false) := by
  have e1 : toPy (.tup (l.map dP)) = some (.tuple (l.map tP)) := by
    show (toPys (l.map dP)).map PyData.tuple = _
    rw [toPys_pairs]
    rfl
  have hc : (PyData.tuple (l.map tP)).canLay0 = true := by
    simp [PyData.canLay0]
    exact lay_pairs l
  have hd : (PyData.tuple (l.map tP)).depth ≤ 64 := by
    have := depth_pairs l
    simp [PyData.depth]
    omega
  have hs : SeqAt.shaped (PyData.tuple (l.map tP)) = true := by
    unfold SeqAt.shaped
    rw [hc, decide_eq_true hd]
    rfl
  unfold eqD
  rw [e1]
  simp only [hs, Bool.and_self, if_true, SeqAt.eqv_refl _ hc, Bool.not_true]
/-! ### the due pairs -/
abbrev rZ (n : Nat) (xs : List Int) (e0 : Int) (r0 : FD.D) (sh : Int) (r : FD.D) (acc : FD.D) (s7 s8 : Sl) (S : List (List FD.D)) : Z := ⟨[.val (.loc n), .val (.tup (xs.map .int)), .val (.int e0), .val r0, .val (.int sh), .val r, .val acc, s7, s8], S⟩
abbrev bodyD : Prog := (setS 6 (binD addD (varD 6) (compD [8] (tgName 8) (testD (callF d_Llaw_may (consA (varD 1) (consA (varD 4) (consA (varD 5) (consA (varD 7) (consA (varD 8) nilA))))))) (tupD (consA (varD 7) (consA (varD 8) nilA))) (rng2 (consA (binD addD (varD 7) (conD (.int 1))) (consA (appD lenB (consA (varD 1) nilA)) nilA))))))
theorem rowL_len (i : Nat) : (rowL xs e r i).length ≤ xs.length := by
  unfold rowL
  rw [List.length_map]
  refine Nat.le_trans (List.length_filter_le _ _) ?_
  rw [List.length_range]
  omega
end
end K06

set_option Elab.async false
set_option linter.all false
set_option maxRecDepth 100000
set_option maxHeartbeats 1000000
namespace K06
open PySem PySem.Spec L2 FD FDB
section
variable {C : Addr} {xs : List Int} {e : Int} {r : FD.D} {S : List (List FD.D)} {x : Int}
theorem stepD {n : Nat} {e0 : Int} {r0 : FD.D} (hl : xs.length ≤ 40) (hr : RuleOk r) (i : Nat) (acc : List (Int × Int)) (s8 : Sl) (hix : i < xs.length) (hn : acc.length ≤ 2000) :
    bodyD (rZ n xs e0 r0 e r (.lst (acc.map dP)) (.val (.int (i : Int))) s8 S) = .nx (rZ n xs e0 r0 e r (.lst ((acc ++ rowL xs e r i).map dP)) (.val (.int (i : Int))) .un S) := by
  have hrow := rowL_len (xs := xs) (e := e) (r := r) i
  have key := compL_pure (vs := [8]) (tg := tgName 8) (t := (testD (callF d_Llaw_may (consA (varD 1) (consA (varD 4) (consA (varD 5) (consA (varD 7) (consA (varD 8) nilA))))))))
    (e := (tupD (consA (varD 7) (consA (varD 8) nilA)))) (P := fun k : Nat => mayB xs e r i (i + 1 + k)) (E := fun k : Nat => dP ((i : Int), ((i + 1 + k : Nat) : Int))) (f := fun k : Nat => FD.D.int ((i : Int) + 1 + (k : Int)))
    (z0 := rZ n xs e0 r0 e r (.lst (acc.map dP)) (.val (.int (i : Int))) .un S) (List.range (xs.length - (i + 1))) [] (fun k hk => by
      rw [List.mem_range] at hk
      have em : ((i : Int) + 1 + (k : Int)) = ((i + 1 + k : Nat) : Int) := by omega
      have l1 := may_ok (xs := xs) (e := e) (r := r) (S := S) (i := i) (j := i + 1 + k) (by omega) (by omega) hr
      have hs : short 2 = true := by decide
      rw [em]
      refine ⟨_, rfl, rZ n xs e0 r0 e r (.lst (acc.map dP)) (.val (.int (i : Int))) (.val (.int ((i + 1 + k : Nat) : Int))) S, ?_, rfl, fun _ => ⟨rZ n xs e0 r0 e r (.lst (acc.map dP)) (.val (.int (i : Int))) (.val (.int ((i + 1 + k : Nat) : Int))) S, ?_, rfl⟩⟩
      · simp only [ev_test, ev_call, ev_cons, ev_nil, ev_var, bind_ok, List.getElem?_cons_succ, List.getElem?_cons_zero, ev_put, List.set_cons_succ, List.set_cons_zero, l1, den_ok]
      · simp only [ev_tup, ev_cons, ev_nil, ev_var, bind_ok, List.getElem?_cons_succ, List.getElem?_cons_zero, List.length_cons, List.length_nil, Nat.zero_add, hs, if_true]
        rfl)
  have hcnt : (((xs.length : Int) - ((i : Int) + 1)).toNat) = xs.length - (i + 1) := by omega
  have hrange : rangeL ((i : Int) + 1) (xs.length - (i + 1)) = (List.range (xs.length - (i + 1))).map fun k : Nat => FD.D.int ((i : Int) + 1 + (k : Int)) := rfl
  have hb : -(2 ^ 62) ≤ (i : Int) + 1 ∧ (i : Int) + 1 < 2 ^ 62 ∧ -(2 ^ 62) ≤ (xs.length : Int) ∧ (xs.length : Int) < 2 ^ 62 := by omega
  have hsh : short (xs.length - (i + 1)) = true := short_of (by omega)
  have hfg : forget [8] (rZ n xs e0 r0 e r (.lst (acc.map dP)) (.val (.int (i : Int))) s8 S) = rZ n xs e0 r0 e r (.lst (acc.map dP)) (.val (.int (i : Int))) .un S := rfl
  have hE : ((List.range (xs.length - (i + 1))).filter fun k => mayB xs e r i (i + 1 + k)).map (fun k : Nat => dP ((i : Int), ((i + 1 + k : Nat) : Int))) = (rowL xs e r i).map dP := by
    unfold rowL
    rw [List.map_map]
    rfl
  have hlen : ((rowL xs e r i).map dP).length = (rowL xs e r i).length := List.length_map ..
  have hsh2 : short ((acc.map dP).length + ((rowL xs e r i).map dP).length) = true := short_of (by rw [List.length_map, List.length_map]; omega)
  rw [hE, List.nil_append] at key
  simp -implicitDefEqProofs only [ev_put, List.set_cons_succ, List.set_cons_zero, Int.zero_add, ev_set, ev_bin, ev_var, List.getElem?_cons_succ, List.getElem?_cons_zero, bind_ok, ev_comp, ev_rng2, ev_cons, ev_con, ev_nil, ev_addInt, optR_some, ev_app, ev_lenT, List.length_map]
  rw [if_pos hb]
  simp -implicitDefEqProofs only [bind_ok, hcnt, hrange, List.length_map, List.length_range, hsh, if_true, hfg, key, ev_addLst]
  rw [if_pos (by simpa using hsh2)]
  simp -implicitDefEqProofs only [optR_some, bind_ok, then_ok, ev_put, List.set_cons_succ, List.set_cons_zero, List.map_append]
theorem loopD {n : Nat} {e0 : Int} {r0 : FD.D} (hl : xs.length ≤ 40) (hr : RuleOk r) : ∀ (is : List Nat) (acc : List (Int × Int)) (s7 s8 : Sl), (∀ i ∈ is, i < xs.length) → acc.length + 40 * is.length ≤ 2000 →
    ∃ s7' s8', forL (tgName 7) bodyD (is.map fun k : Nat => FD.D.int (0 + (k : Int))) (rZ n xs e0 r0 e r (.lst (acc.map dP)) s7 s8 S) = .nx (rZ n xs e0 r0 e r (.lst ((acc ++ is.flatMap (rowL xs e r)).map dP)) s7' s8' S) := by
  intro is
  induction is with
  | nil => intro acc s7 s8 _ _; exact ⟨s7, s8, by simp [forL]⟩
  | cons i is ih =>
    intro acc s7 s8 hi hn
    have hix := hi i List.mem_cons_self
    rw [List.length_cons] at hn
    have hrow := rowL_len (xs := xs) (e := e) (r := r) i
    obtain ⟨a, b, q⟩ := ih (acc ++ rowL xs e r i) (.val (.int (i : Int))) .un (fun y hy => hi y (List.mem_cons_of_mem _ hy)) (by rw [List.length_append]; omega)
    refine ⟨a, b, ?_⟩
    rw [List.flatMap_cons, ← List.append_assoc, List.map_cons, Int.zero_add]
    exact (forL_nx rfl (stepD hl hr i acc s8 hix (by omega))).trans q
end
end K06

set_option Elab.async false
set_option linter.all false
set_option maxRecDepth 100000
set_option maxHeartbeats 1000000
namespace K06
open PySem PySem.Spec L2 FD FDB
section
variable {C : Addr} {xs : List Int} {e : Int} {r : FD.D} {S : List (List FD.D)} {x : Int}
abbrev bodyS (C : Addr) : Prog := (seqS (setS 6 (lstD nilA))
 (seqS (forS (tgName 7) (rng1 (consA (appD lenB (consA (varD 1) nilA)) nilA))
 bodyD)
 (ifS (testD (binD (eqD true) (callF (d_stretches C) (consA (makeF C i_Row___init__ (appA (consA (varD 1) nilA) (consA (varD 4) (consA (varD 5) nilA)))) nilA)) (appD tupleB (consA (varD 6) nilA))))
 (retS (conD (.bl false)))
 nilS)))
/-- what a row is, to be made -/
structure RowOk (xs : List Int) : Prop where
  l1 : 1 ≤ xs.length
  l2 : xs.length ≤ 40
  nd : xs.Nodup
  bd : ∀ x ∈ xs, -1000000 ≤ x ∧ x < 10000000000
theorem stepS {n : Nat} {e0 : Int} {r0 : FD.D} (ho : RowOk xs) (he1 : 0 ≤ e) (he2 : e ≤ 3) (hr : RuleOk r) (s6 s7 s8 : Sl) :
    ∃ a s7' s8', bodyS C ⟨[.val (.loc n), .val (.tup (xs.map .int)), .val (.int e0), .val r0, .val (.int e), .val r, s6, s7, s8], S⟩ = .nx (rZ n xs e0 r0 e r a s7' s8' S) := by
  obtain ⟨a, b, q⟩ := loopD (S := S) (n := n) (e0 := e0) (r0 := r0) (e := e) ho.l2 hr (List.range xs.length) [] s7 s8 (fun i hi => List.mem_range.mp hi) (by have := ho.l2; rw [List.length_range]; simp; omega)
  have h0 : short 0 = true := by decide
  have hini := init_ok (S := S) ho.l1 ho.l2 ho.nd ho.bd he1 he2 hr
  have hst := stretches_ok (C := C) (e := e) (S := S) ho.l2 hr
  rw [stretches_due ho.nd] at hst
  have hne := ne_self (dueL xs e r)
  have hd : (List.range xs.length).flatMap (rowL xs e r) = dueL xs e r := rfl
  rw [hd, List.nil_append] at q
  have hrange : rangeL 0 (xs.length : Int).toNat = (List.range xs.length).map fun k : Nat => FD.D.int (0 + (k : Int)) := rfl
  have hb : -(2 ^ 62) ≤ (xs.length : Int) ∧ (xs.length : Int) < 2 ^ 62 := by have := ho.l2; omega
  unfold rowD at hst
  refine ⟨.lst ((dueL xs e r).map dP), a, b, ?_⟩
  simp -implicitDefEqProofs only [ev_seq, ev_set, ev_lst, ev_nil, bind_ok, List.length_nil, h0, if_true, then_ok, ev_put, List.set_cons_succ, List.set_cons_zero, seq_nx, ev_for, ev_rng1, ev_cons, ev_app, ev_var, List.getElem?_cons_succ, List.getElem?_cons_zero, ev_lenT, optR_some, List.length_map]
  rw [if_pos hb]
  simp only [List.map_nil] at q
  simp -implicitDefEqProofs only [then_ok, hrange, q, seq_nx, ev_if, ev_test, ev_bin, ev_call, ev_cons, ev_make, ev_appA, ev_var, ev_nil, bind_ok, List.getElem?_cons_succ, List.getElem?_cons_zero, List.cons_append, List.nil_append, hini, iden_ok, hst, den_ok, ev_app, ev_tupleL, optR_some, hne, if_false, Bool.false_eq_true, ev_nilS]
theorem loopS {n : Nat} {e0 : Int} {r0 : FD.D} (ho : RowOk xs) (he1 : 0 ≤ e) (he2 : e ≤ 3) : ∀ (rs : List FD.D) (s5 s6 s7 s8 : Sl), (∀ r ∈ rs, RuleOk r) →
    ∃ s5' s6' s7' s8', forL (tgName 5) (bodyS C) rs ⟨[.val (.loc n), .val (.tup (xs.map .int)), .val (.int e0), .val r0, .val (.int e), s5, s6, s7, s8], S⟩ = .nx ⟨[.val (.loc n), .val (.tup (xs.map .int)), .val (.int e0), .val r0, .val (.int e), s5', s6', s7', s8'], S⟩ := by
  intro rs
  induction rs with
  | nil => intro s5 s6 s7 s8 _; exact ⟨s5, s6, s7, s8, rfl⟩
  | cons r rs ih =>
    intro s5 s6 s7 s8 h
    obtain ⟨a, b, c, q⟩ := stepS (C := C) (S := S) (n := n) (e0 := e0) (r0 := r0) ho he1 he2 (h r List.mem_cons_self) s6 s7 s8
    obtain ⟨t5, t6, t7, t8, q2⟩ := ih (.val r) (.val a) b c fun y hy => h y (List.mem_cons_of_mem _ hy)
    exact ⟨t5, t6, t7, t8, (forL_nx rfl q).trans q2⟩
abbrev bodyO (C : Addr) : Prog := (forS (tgName 5) (itL (lstD (consA (varD 3) (consA (conD .non) (consA (callF d_Llaw_rule (consA (varD 0) (consA (varD 1) (consA (varD 4) nilA)))) (consA (tupD nilA) nilA))))))
 (bodyS C))
theorem ruleOk_nil : RuleOk (.tup []) := .inr ⟨[], rfl, .nil, by simp⟩
theorem stepO {n : Nat} {e0 : Int} {r0 : FD.D} (ho : RowOk xs) (he1 : 0 ≤ e) (he2 : e ≤ 3) (hr0 : RuleOk r0) (hS : Src S n) (s5 s6 s7 s8 : Sl) :
    ∃ s5' s6' s7' s8' S', bodyO C ⟨[.val (.loc n), .val (.tup (xs.map .int)), .val (.int e0), .val r0, .val (.int e), s5, s6, s7, s8], S⟩ = .nx ⟨[.val (.loc n), .val (.tup (xs.map .int)), .val (.int e0), .val r0, .val (.int e), s5', s6', s7', s8'], S'⟩ ∧ Src S' n := by
  obtain ⟨r1, S1, e1, h1, h2⟩ := rule_ok (e := e) hS ho.l2
  obtain ⟨t5, t6, t7, t8, q⟩ := loopS (C := C) (S := S1) (n := n) (e0 := e0) (r0 := r0) ho he1 he2 [r0, .non, r1, .tup []] s5 s6 s7 s8 (fun r hr => by
    simp at hr
    rcases hr with rfl | rfl | rfl | rfl
    · exact hr0
    · exact .inl rfl
    · exact h1
    · exact ruleOk_nil)
  have h0 : short 0 = true := by decide
  have h4 : short 4 = true := by decide
  refine ⟨t5, t6, t7, t8, S1, ?_, h2⟩
  simp -implicitDefEqProofs only [ev_for, ev_itL, ev_lst, ev_cons, ev_var, ev_con, ev_call, ev_tup, ev_nil, bind_ok, then_ok, List.getElem?_cons_succ, List.getElem?_cons_zero, List.length_cons, List.length_nil, Nat.zero_add, e1, den_ok, h0, h4, if_true, ev_asL, optR_some, q]
theorem loopO {n : Nat} {e0 : Int} {r0 : FD.D} (ho : RowOk xs) (hr0 : RuleOk r0) : ∀ (es : List Int) (S : List (List FD.D)) (s4 s5 s6 s7 s8 : Sl), Src S n → (∀ e ∈ es, 0 ≤ e ∧ e ≤ 3) →
    ∃ s4' s5' s6' s7' s8' S', forL (tgName 4) (bodyO C) (es.map .int) ⟨[.val (.loc n), .val (.tup (xs.map .int)), .val (.int e0), .val r0, s4, s5, s6, s7, s8], S⟩ = .nx ⟨[.val (.loc n), .val (.tup (xs.map .int)), .val (.int e0), .val r0, s4', s5', s6', s7', s8'], S'⟩ ∧ Src S' n := by
  intro es
  induction es with
  | nil => intro S s4 s5 s6 s7 s8 h _; exact ⟨s4, s5, s6, s7, s8, S, rfl, h⟩
  | cons e es ih =>
    intro S s4 s5 s6 s7 s8 h he
    obtain ⟨t5, t6, t7, t8, S1, q, h1⟩ := stepO (C := C) (n := n) (e0 := e0) (r0 := r0) ho (he e List.mem_cons_self).1 (he e List.mem_cons_self).2 hr0 h s5 s6 s7 s8
    obtain ⟨u4, u5, u6, u7, u8, S2, q2, h2⟩ := ih S1 (.val (.int e)) t5 t6 t7 t8 h1 fun y hy => he y (List.mem_cons_of_mem _ hy)
    exact ⟨u4, u5, u6, u7, u8, S2, (forL_nx rfl q).trans q2, h2⟩
theorem right_ok {n : Nat} (h : Src S n) : ∃ S', d_Llaw_right C [.loc n] S = .ok (.bl true) S' ∧ Src S' n := by
  obtain ⟨xs, e, r, S1, e1, h1, x1, x2, x3, x4, he1, he2, hr⟩ := row_ok h
  obtain ⟨t4, t5, t6, t7, t8, S2, q, h2⟩ := loopO (C := C) (n := n) (e0 := e) ⟨x1, x2, x3, x4⟩ hr [e, 3, 0, 1, 2] S1 .un .un .un .un .un h1 (fun y hy => by
    simp at hy
    omega)
  refine ⟨S2, ?_, h2⟩
  have h5 : short 5 = true := by decide
  simp only [List.map_cons, List.map_nil] at q
  unfold d_Llaw_right b_Llaw_right
  simp -implicitDefEqProofs only [ev_fn, ev_seq, ev_unpack, ev_call, ev_cons, ev_var, ev_nil, bind_ok, then_ok, List.map_cons, List.map_nil, List.length_cons, List.length_nil, List.replicate, List.cons_append, List.nil_append, List.getElem?_cons_succ, List.getElem?_cons_zero, e1, den_ok, ev_puts1, ev_puts0, ev_put, List.set_cons_succ, List.set_cons_zero, seq_nx, ev_for, ev_itL, ev_lst, ev_con, Nat.zero_add, h5, if_true, ev_asL, optR_some, q, ev_ret, fr_rt]
theorem mul_small {a b : Int} (h : (-(2 ^ 64) < a ∧ a < 2 ^ 64) ∨ (-(2 ^ 64) < b ∧ b < 2 ^ 64)) : mulI (.int a) (.int b) = some (.int (a * b)) := by
  show (if _ then _ else _) = _
  rw [if_pos h]
theorem mod_ok {a b : Int} (h : b ≠ 0) : modI (.int a) (.int b) = some (.int (a.fmod b)) := by
  show (if _ then _ else _) = _
  rw [if_pos h]
theorem pool_ok {ns : List Int} {k : Nat} (hk : k ≤ 3) : ∃ a b : Int, d_Llaw_pool [.scr ns, .int (k : Int)] S = .ok (.loc S.length) (S ++ [[.int a, .int b]]) ∧ 0 ≤ a ∧ 0 ≤ b ∧ b < 2147483647 := by
  have cell : ∃ c : Int, ∀ z0 : Sl, (ifS (testD (binD ltI (varD 1) (appD lenB (consA (varD 0) nilA))))
 (setS 2 (binD ixD (varD 0) (varD 1)))
 (ifS (truT (varD 0))
 (setS 2 (binD ixD (varD 0) (conD (.int 0))))
 nilS)) ⟨[.val (.scr ns), .val (.int (k : Int)), .val (.int 0), .un, .un], S⟩ = .nx ⟨[.val (.scr ns), .val (.int (k : Int)), .val (.int c), .un, .un], S⟩ := by
    by_cases c1 : k < ns.length
    · have c1' : (k : Int) < (ns.length : Int) := by omega
      have i1 : ixD (.scr ns) (.int (k : Int)) = some (.int ns[k]) := by
        show (L2.atI ns (k : Int)).map FD.D.int = _
        rw [L2.atI_nat (j := k) (v := ns[k]) (List.getElem?_eq_getElem c1)]
        rfl
      exact ⟨ns[k], fun _ => by simp [c1', i1]⟩
    · have c1' : ¬ (k : Int) < (ns.length : Int) := by omega
      cases ns with
      | nil =>
        have c3 : ¬ (k : Int) < 0 := by omega
        exact ⟨0, fun _ => by simp [c3, truD]⟩
      | cons n t =>
        have i1 : ixD (.scr (n :: t)) (.int 0) = some (.int n) := by
          show (L2.atI (n :: t) ((0 : Nat) : Int)).map FD.D.int = _
          rw [L2.atI_nat (j := 0) (v := n) rfl]
          rfl
        have c2 : ¬ (k : Int) < (t.length : Int) + 1 := by simpa using c1'
        exact ⟨n, fun _ => by simp [c2, truD, i1]⟩
  obtain ⟨c, hc⟩ := cell
  have hc := hc .un
  have hbig : ∃ b0 : Int, 0 ≤ b0 ∧ (if -1 - c > c then -1 - c else c) = b0 := ⟨_, by split <;> omega, rfl⟩
  obtain ⟨b0, hb0, eb0⟩ := hbig
  have f0 := fmod_b b0 (m := 2147483629) (by omega)
  generalize hg : b0.fmod 2147483629 = g at f0
  have k3 : (k : Int) ≤ 3 := by omega
  have p18 : powI (.int 10) (.int 18) = some (.int 1000000000000000000) := by simp [powI, int2]
  have m1 : mulI (.int 7919) (.int (k : Int)) = some (.int (7919 * k)) := mul_small (.inl (by omega))
  have m2 : mulI (.int (7919 * k)) (.int (k : Int)) = some (.int (7919 * k * k)) := mul_small (.inr (by omega))
  have m3 : mulI (.int 31) (.int (k : Int)) = some (.int (31 * k)) := mul_small (.inl (by omega))
  have m4 : ∀ y : Int, mulI (.int y) (.int 48271) = some (.int (y * 48271)) := fun y => mul_small (.inr (by omega))
  have m5 : ∀ (y : Int) (b : Bool), mulI (.int y) (.int (if b then 1 else 0)) = some (.int (y * (if b then 1 else 0))) := fun y b => mul_small (.inr (by cases b <;> simp))
  have q1 : modI (.int b0) (.int 2147483629) = some (.int g) := by
    rw [mod_ok (by omega), hg]
  have q2 : ∀ y : Int, modI (.int y) (.int 2147483647) = some (.int (y.fmod 2147483647)) := fun y => mod_ok (by omega)
  have f2 := fmod_b ((g + 7919 * k * k + 31 * k + 17) * 48271) (m := 2147483647) (by omega)
  have h2 : short 2 = true := by decide
  refine ⟨b0 * (if decide (1000000000000000000 ≤ b0) then 1 else 0), ((g + 7919 * k * k + 31 * k + 17) * 48271).fmod 2147483647, ?_, ?_, f2.1, f2.2⟩
  · unfold d_Llaw_pool b_Llaw_pool
    simp -implicitDefEqProofs only [ev_fn, ev_seq, List.map_cons, List.map_nil, List.length_cons, List.length_nil, List.replicate, List.cons_append, List.nil_append]
    rw [ev_set, ev_con, then_ok, ev_put]
    simp -implicitDefEqProofs only [List.set_cons_succ, List.set_cons_zero, seq_nx]
    rw [ev_seq, hc]
    simp -implicitDefEqProofs only [ev_seq, seq_nx, ev_set, ev_app, ev_cons, ev_nil, ev_var, ev_bin, ev_un, ev_con, bind_ok, then_ok, List.getElem?_cons_succ, List.getElem?_cons_zero, ev_intI, optR_some, ev_negI, ev_subI, ev_max2, ev_put, List.set_cons_succ, List.set_cons_zero, eb0, q1, m1, m2, m3, m4, q2, ev_addInt, ev_ret, ev_loc, ev_geI, ev_intBl, m5, p18, Nat.zero_add, List.length_cons, List.length_nil, h2, if_true, fr_rt]
  · cases decide (1000000000000000000 ≤ b0) <;> simp <;> omega
theorem src_pool {a b : Int} (h1 : 0 ≤ a) (h2 : 0 ≤ b) (h3 : b < 2147483647) : Src (S ++ [[.int a, .int b]]) S.length := ⟨a, b, by rw [List.getElem?_append_right (Nat.le_refl _), Nat.sub_self]; rfl, h1, h2, h3⟩
abbrev bodyL (C : Addr) : Prog := (ifS (notT (testD (callF (d_Llaw_right C) (consA (callF d_Llaw_pool (consA (varD 0) (consA (varD 1) nilA))) nilA))))
 (retS (conD (.bl false)))
 nilS)
theorem loopL {ns : List Int} : ∀ (ks : List Nat) (S : List (List FD.D)) (s1 : Sl), (∀ k ∈ ks, k ≤ 3) →
    ∃ s1' S', forL (tgName 1) (bodyL C) (ks.map fun k : Nat => FD.D.int (0 + (k : Int))) ⟨[.val (.scr ns), s1], S⟩ = .nx ⟨[.val (.scr ns), s1'], S'⟩ := by
  intro ks
  induction ks with
  | nil => intro S s1 _; exact ⟨s1, S, rfl⟩
  | cons k ks ih =>
    intro S s1 h
    obtain ⟨a, b, e1, h1, h2, h3⟩ := pool_ok (S := S) (ns := ns) (h k List.mem_cons_self)
    obtain ⟨S2, e2, _⟩ := right_ok (C := C) (src_pool (S := S) h1 h2 h3)
    obtain ⟨s1', S', q⟩ := ih S2 (.val (.int (k : Int))) fun y hy => h y (List.mem_cons_of_mem _ hy)
    refine ⟨s1', S', ?_⟩
    rw [List.map_cons, Int.zero_add]
    refine (forL_nx rfl ?_).trans q
    simp -implicitDefEqProofs only [ev_if, ev_not, ev_test, ev_call, ev_cons, ev_nil, ev_var, ev_put, List.set_cons_succ, List.set_cons_zero, bind_ok, then_ok, List.getElem?_cons_succ, List.getElem?_cons_zero, e1, den_ok, e2, Bool.not_true, Bool.false_eq_true, if_false, ev_nilS]
end
theorem law_true (C : Addr) (ns : List Int) (h : ns.length ≤ 63) : ∃ S, d_law C [.scr ns] [] = .ok (.bl true) S := by
  have hm : ∃ m : Nat, m ≤ 3 ∧ (if (if (3 : Int) < (ns.length : Int) then 3 else (ns.length : Int)) > 1 then (if (3 : Int) < (ns.length : Int) then 3 else (ns.length : Int)) else 1) = (m : Int) := by
    by_cases c : (3 : Int) < (ns.length : Int)
    · exact ⟨3, by omega, by simp [c]⟩
    · by_cases c2 : (ns.length : Int) > 1
      · exact ⟨ns.length, by omega, by simp only [c, if_false, c2, if_true]⟩
      · exact ⟨1, by omega, by simp only [c, if_false, c2]; rfl⟩
  obtain ⟨m, hm3, em⟩ := hm
  obtain ⟨s1, S, q⟩ := loopL (C := C) (ns := ns) (List.range m) [] .un (fun k hk => by have := List.mem_range.mp hk; omega)
  have hb : -(2 ^ 62) ≤ (m : Int) ∧ (m : Int) < 2 ^ 62 := by omega
  have hrange : rangeL 0 (m : Int).toNat = (List.range m).map fun k : Nat => FD.D.int (0 + (k : Int)) := rfl
  refine ⟨S, ?_⟩
  unfold d_law b_law
  simp -implicitDefEqProofs only [ev_fn, ev_seq, ev_for, ev_rng1, ev_cons, ev_app, ev_con, ev_nil, ev_var, bind_ok, then_ok, List.map_cons, List.map_nil, List.length_cons, List.length_nil, List.replicate, List.cons_append, List.nil_append, List.getElem?_cons_succ, List.getElem?_cons_zero, ev_lenS, optR_some, ev_min2, ev_max2, em]
  rw [if_pos hb]
  simp -implicitDefEqProofs only [then_ok, hrange, q, seq_nx, ev_ret, ev_con, fr_rt]
end K06

set_option Elab.async false
set_option linter.all false
set_option maxRecDepth 100000
set_option maxHeartbeats 4000000
namespace K06
open PySem PySem.Spec PyProof.Rows L2 FDB FD
section
variable {P : Program} {w : World} {K : PySem.W.Frag} {mg : Str → Option Value} {base : Heap} {C : Addr} {cls : Str → Addr}
abbrev pm (P : Program) (w : World) (K : PySem.W.Frag) (cls : Str → Addr) : Pm := { K := K, w := w, P := P, cls := cls }
--@ _law_take
theorem ok_Llaw_take (T : Txt K mg C cls) : FnOk P w K mg base (L2.CX P w) 1 T.f_Llaw_take T.fd_Llaw_take P_Llaw_take (spF (pm P w K cls) 2 d_Llaw_take) := by
  have sc := sc_Llaw_take
  refine fn_okX (b := b_Llaw_take) T.F_Llaw_take sc rfl rfl (fun cdv A outer s H E hr => ?_)
  have tk : Takes (cxOf (L2.CX P w) P w K mg base N_Llaw_take "_law_take" (defScope s_Llaw_take) T.f_Llaw_take cdv A outer s H E) (WB E) := takes_of rfl rfl rfl rfl
  exact (ds_cons (ds_if (dt_gt (de_locIx (de_var (i := 0)) de_int) de_int)
 (ds_cons (ds_set (i := 2) (de_mod (de_intB T.z_int (da_cons (de_locIx (de_var (i := 0)) de_int) da_nil)) (de_var (i := 1))) sc.nd)
 (ds_cons (ds_setIx (de_div (de_locIx (de_var (i := 0)) de_int) (de_var (i := 1))) (de_var (i := 0)) de_int)
 (ds_one (ds_ret (de_var (i := 2))))))
 ds_nil)
 (ds_cons (ds_setIx (de_mod (de_intB T.z_int (da_cons (de_add rfl (de_mul (de_locIx (de_var (i := 0)) de_int) de_int) de_int) da_nil)) de_int) (de_var (i := 0)) de_int)
 (ds_one (ds_ret (de_mod (de_intB T.z_int (da_cons (de_div (de_mod (de_intB T.z_int (da_cons (de_mul (de_locIx (de_var (i := 0)) de_int) (de_locIx (de_var (i := 0)) de_int)) da_nil)) de_int) de_int) da_nil)) (de_var (i := 1)))))))
--@ _law_one
theorem ok_Llaw_one (T : Txt K mg C cls) : FnOk P w K mg base (L2.CX P w) 2 T.f_Llaw_one T.fd_Llaw_one P_Llaw_one (spF (pm P w K cls) 2 d_Llaw_one) := by
  have sc := sc_Llaw_one
  refine fn_okX (b := b_Llaw_one) T.F_Llaw_one sc rfl rfl (fun cdv A outer s H E hr => ?_)
  have tk : Takes (cxOf (L2.CX P w) P w K mg base N_Llaw_one "_law_one" (defScope s_Llaw_one) T.f_Llaw_one cdv A outer s H E) (WB E) := takes_of rfl rfl rfl rfl
  exact (ds_one (ds_ret (de_item rfl (de_var (i := 1)) (de_call (ok_Llaw_take T) (hr.mono (by decide)) T.m_Llaw_take T.F_Llaw_take.kp T.b_Llaw_take tk (da_cons (de_var (i := 0)) (da_cons (de_len rfl T.z_len (da_cons (de_var (i := 1)) da_nil)) da_nil))))))
--@ _law_stones
theorem ok_Llaw_stones (T : Txt K mg C cls) : FnOk P w K mg base (L2.CX P w) 3 T.f_Llaw_stones T.fd_Llaw_stones P_Llaw_stones (spF (pm P w K cls) 2 d_Llaw_stones) := by
  have sc := sc_Llaw_stones
  refine fn_okX (b := b_Llaw_stones) T.F_Llaw_stones sc rfl rfl (fun cdv A outer s H E hr => ?_)
  have tk : Takes (cxOf (L2.CX P w) P w K mg base N_Llaw_stones "_law_stones" (defScope s_Llaw_stones) T.f_Llaw_stones cdv A outer s H E) (WB E) := takes_of rfl rfl rfl rfl
  exact (ds_cons (ds_par (i := 2) (j := 3) rfl sc.nd (da_cons (de_call (ok_Llaw_one T) (hr.mono (by decide)) T.m_Llaw_one T.F_Llaw_one.kp T.b_Llaw_one tk (da_cons (de_var (i := 0)) (da_cons (de_var (i := 1)) da_nil))) (da_cons (de_call (ok_Llaw_one T) (hr.mono (by decide)) T.m_Llaw_one T.F_Llaw_one.kp T.b_Llaw_one tk (da_cons (de_var (i := 0)) (da_cons (de_lst (da_cons de_int (da_cons de_int (da_cons (de_neg de_int) (da_cons de_int (da_cons (de_neg (de_pow de_int de_int)) (da_cons (de_pow de_int de_int) da_nil))))))) da_nil))) da_nil)))
 (ds_cons (ds_own2 (i := 4) (j := 5) rfl sc.nd)
 (ds_cons (ds_for (HandSPX_passes_of rfl) rfl (di_range1 rfl T.z_range (da_cons (de_var (i := 2)) da_nil) (tg_name 6)) (pg_name (i := 6) sc.nd rfl (Or.inl rfl))
 (ds_cons (ds_append (i := 4) (de_var (i := 3)))
 (ds_one (ds_set (i := 3) (de_add rfl (de_var (i := 3)) (de_call (ok_Llaw_one T) (hr.mono (by decide)) T.m_Llaw_one T.F_Llaw_one.kp T.b_Llaw_one tk (da_cons (de_var (i := 0)) (da_cons (de_lst (da_cons de_int (da_cons de_int (da_cons de_int (da_cons de_int (da_cons de_int (da_cons de_int da_nil))))))) da_nil)))) sc.nd))))
 (ds_cons (ds_for (HandSPX_passes_of rfl) rfl (di_range1 rfl T.z_range (da_cons (de_var (i := 2)) da_nil) (tg_name 6)) (pg_name (i := 6) sc.nd rfl (Or.inl rfl))
 (ds_one (ds_append (i := 5) (de_pop (i := 4) (de_call (ok_Llaw_take T) (hr.mono (by decide)) T.m_Llaw_take T.F_Llaw_take.kp T.b_Llaw_take tk (da_cons (de_var (i := 0)) (da_cons (de_lenO (i := 4) rfl T.z_len) da_nil)))))))
 (ds_one (ds_ret (de_tuple rfl T.z_tuple (da_cons (de_varF (i := 5)) da_nil))))))))
--@ _law_ends
theorem ok_Llaw_ends (T : Txt K mg C cls) : FnOk P w K mg base (L2.CX P w) 3 T.f_Llaw_ends T.fd_Llaw_ends P_Llaw_ends (spF (pm P w K cls) 1 d_Llaw_ends) := by
  have sc := sc_Llaw_ends
  refine fn_okX (b := b_Llaw_ends) T.F_Llaw_ends sc rfl rfl (fun cdv A outer s H E hr => ?_)
  have tk : Takes (cxOf (L2.CX P w) P w K mg base N_Llaw_ends "_law_ends" (defScope s_Llaw_ends) T.f_Llaw_ends cdv A outer s H E) (WB E) := takes_of rfl rfl rfl rfl
  exact (ds_one (ds_ret (de_call (ok_Llaw_one T) (hr.mono (by decide)) T.m_Llaw_one T.F_Llaw_one.kp T.b_Llaw_one tk (da_cons (de_var (i := 0)) (da_cons (de_lst (da_cons de_int (da_cons de_int (da_cons de_int (da_cons de_int (da_cons de_int (da_cons de_int (da_cons de_int (da_cons de_int da_nil))))))))) da_nil)))))
--@ _law_span
theorem ok_Llaw_span (T : Txt K mg C cls) : FnOk P w K mg base (L2.CX P w) 1 T.f_Llaw_span T.fd_Llaw_span P_Llaw_span (spF (pm P w K cls) 2 d_Llaw_span) := by
  have sc := sc_Llaw_span
  refine fn_okX (b := b_Llaw_span) T.F_Llaw_span sc rfl rfl (fun cdv A outer s H E hr => ?_)
  have tk : Takes (cxOf (L2.CX P w) P w K mg base N_Llaw_span "_law_span" (defScope s_Llaw_span) T.f_Llaw_span cdv A outer s H E) (WB E) := takes_of rfl rfl rfl rfl
  exact (ds_cons (ds_set (i := 2) (de_index rfl (de_var (i := 0)) (da_cons (de_var (i := 1)) da_nil)) sc.nd)
 (ds_cons (ds_set (i := 3) (de_var (i := 2)) sc.nd)
 (ds_cons (ds_while 64 (HandSPX_passes_of rfl) (dt_pw (dw_and (dt_gt (de_var (i := 2)) de_int) (dw_and1 (dt_lt (de_item rfl (de_var (i := 0)) (de_sub (de_var (i := 2)) de_int)) (de_var (i := 1))))))
 (ds_one (ds_set (i := 2) (de_sub (de_var (i := 2)) de_int) sc.nd)))
 (ds_cons (ds_while 64 (HandSPX_passes_of rfl) (dt_pw (dw_and (dt_lt (de_add rfl (de_var (i := 3)) de_int) (de_len rfl T.z_len (da_cons (de_var (i := 0)) da_nil))) (dw_and1 (dt_lt (de_item rfl (de_var (i := 0)) (de_add rfl (de_var (i := 3)) de_int)) (de_var (i := 1))))))
 (ds_one (ds_set (i := 3) (de_add rfl (de_var (i := 3)) de_int) sc.nd)))
 (ds_one (ds_ret (de_tup (da_cons (de_var (i := 2)) (da_cons (de_var (i := 3)) da_nil)))))))))
--@ _law_closers
theorem ok_Llaw_closers (T : Txt K mg C cls) : FnOk P w K mg base (L2.CX P w) 2 T.f_Llaw_closers T.fd_Llaw_closers P_Llaw_closers (spF (pm P w K cls) 3 d_Llaw_closers) := by
  have sc := sc_Llaw_closers
  refine fn_okX (b := b_Llaw_closers) T.F_Llaw_closers sc rfl rfl (fun cdv A outer s H E hr => ?_)
  have tk : Takes (cxOf (L2.CX P w) P w K mg base N_Llaw_closers "_law_closers" (defScope s_Llaw_closers) T.f_Llaw_closers cdv A outer s H E) (WB E) := takes_of rfl rfl rfl rfl
  exact (ds_cons (ds_unpack (is := [3, 4]) rfl rfl (de_call (ok_Llaw_span T) (hr.mono (by decide)) T.m_Llaw_span T.F_Llaw_span.kp T.b_Llaw_span tk (da_cons (de_var (i := 0)) (da_cons (de_var (i := 2)) da_nil))) (pgs_cons (pg_name (i := 3) sc.nd rfl (Or.inl rfl)) (pgs_cons (pg_name (i := 4) sc.nd rfl (Or.inl rfl)) pgs_nil)))
 (ds_cons (ds_set (i := 5) (de_if (dt_gt (de_var (i := 3)) de_int) (de_item rfl (de_var (i := 0)) (de_sub (de_var (i := 3)) de_int)) (de_if (dt_in rfl (de_var (i := 1)) (de_tup (da_cons de_int (da_cons de_int da_nil)))) de_str de_str)) sc.nd)
 (ds_cons (ds_set (i := 6) (de_if (dt_lt (de_add rfl (de_var (i := 4)) de_int) (de_len rfl T.z_len (da_cons (de_var (i := 0)) da_nil))) (de_item rfl (de_var (i := 0)) (de_add rfl (de_var (i := 4)) de_int)) (de_if (dt_in rfl (de_var (i := 1)) (de_tup (da_cons de_int (da_cons de_int da_nil)))) de_str de_str)) sc.nd)
 (ds_one (ds_ret (de_tup (da_cons (de_var (i := 5)) (da_cons (de_var (i := 6)) da_nil))))))))
--@ _law_heads
theorem ok_Llaw_heads (T : Txt K mg C cls) : FnOk P w K mg base (L2.CX P w) 3 T.f_Llaw_heads T.fd_Llaw_heads P_Llaw_heads (spF (pm P w K cls) 2 d_Llaw_heads) := by
  have sc := sc_Llaw_heads
  refine fn_okX (b := b_Llaw_heads) T.F_Llaw_heads sc rfl rfl (fun cdv A outer s H E hr => ?_)
  have tk : Takes (cxOf (L2.CX P w) P w K mg base N_Llaw_heads "_law_heads" (defScope s_Llaw_heads) T.f_Llaw_heads cdv A outer s H E) (WB E) := takes_of rfl rfl rfl rfl
  exact (ds_cons (ds_own (i := 2) sc.nd da_nil)
 (ds_cons (ds_for (HandSPX_passes_of rfl) rfl (di_list rfl (de_sorted rfl T.z_sorted (da_cons (de_var (i := 0)) da_nil)) (tg_name 3)) (pg_name (i := 3) sc.nd rfl (Or.inl rfl))
 (ds_cons (ds_unpack (is := [4, 5]) rfl rfl (de_call (ok_Llaw_span T) (hr.mono (by decide)) T.m_Llaw_span T.F_Llaw_span.kp T.b_Llaw_span tk (da_cons (de_var (i := 0)) (da_cons (de_var (i := 3)) da_nil))) (pgs_cons (pg_name (i := 4) sc.nd rfl (Or.inl rfl)) (pgs_cons (pg_name (i := 5) sc.nd rfl (Or.inl rfl)) pgs_nil)))
 (ds_one (ds_if (dt_pw (dw_and (dt_gt (de_var (i := 5)) (de_var (i := 4))) (dw_and1 (dt_notIn rfl de_str (de_call (ok_Llaw_closers T) (hr.mono (by decide)) T.m_Llaw_closers T.F_Llaw_closers.kp T.b_Llaw_closers tk (da_cons (de_var (i := 0)) (da_cons (de_var (i := 1)) (da_cons (de_var (i := 3)) da_nil))))))))
 (ds_one (ds_append (i := 2) (de_var (i := 3))))
 ds_nil))))
 (ds_one (ds_ret (de_varF (i := 2))))))
--@ _law_rule
theorem ok_Llaw_rule (T : Txt K mg C cls) : FnOk P w K mg base (L2.CX P w) 4 T.f_Llaw_rule T.fd_Llaw_rule P_Llaw_rule (spF (pm P w K cls) 3 d_Llaw_rule) := by
  have sc := sc_Llaw_rule
  refine fn_okX (b := b_Llaw_rule) T.F_Llaw_rule sc rfl rfl (fun cdv A outer s H E hr => ?_)
  have tk : Takes (cxOf (L2.CX P w) P w K mg base N_Llaw_rule "_law_rule" (defScope s_Llaw_rule) T.f_Llaw_rule cdv A outer s H E) (WB E) := takes_of rfl rfl rfl rfl
  exact (ds_cons (ds_if (dt_eq rfl hr.units (de_call (ok_Llaw_take T) (hr.mono (by decide)) T.m_Llaw_take T.F_Llaw_take.kp T.b_Llaw_take tk (da_cons (de_var (i := 0)) (da_cons de_int da_nil))) de_int)
 (ds_one (ds_ret de_non))
 ds_nil)
 (ds_cons (ds_dct (i := 3) sc.nd)
 (ds_cons (ds_for (HandSPX_passes_of rfl) rfl (di_list rfl (de_call (ok_Llaw_heads T) (hr.mono (by decide)) T.m_Llaw_heads T.F_Llaw_heads.kp T.b_Llaw_heads tk (da_cons (de_var (i := 1)) (da_cons (de_var (i := 2)) da_nil))) (tg_name 4)) (pg_name (i := 4) sc.nd rfl (Or.inl rfl))
 (ds_cons (ds_unpack (is := [5, 6]) rfl rfl (de_call (ok_Llaw_span T) (hr.mono (by decide)) T.m_Llaw_span T.F_Llaw_span.kp T.b_Llaw_span tk (da_cons (de_var (i := 1)) (da_cons (de_var (i := 4)) da_nil))) (pgs_cons (pg_name (i := 5) sc.nd rfl (Or.inl rfl)) (pgs_cons (pg_name (i := 6) sc.nd rfl (Or.inl rfl)) pgs_nil)))
 (ds_one (ds_if (dt_gt (de_call (ok_Llaw_take T) (hr.mono (by decide)) T.m_Llaw_take T.F_Llaw_take.kp T.b_Llaw_take tk (da_cons (de_var (i := 0)) (da_cons de_int da_nil))) de_int)
 (ds_one (ds_dput (i := 3) (hu_of hr) de_bl (de_add rfl (de_sub (de_var (i := 6)) (de_var (i := 5))) de_int)))
 ds_nil))))
 (ds_cons (ds_if (dt_eq rfl hr.units (de_call (ok_Llaw_take T) (hr.mono (by decide)) T.m_Llaw_take T.F_Llaw_take.kp T.b_Llaw_take tk (da_cons (de_var (i := 0)) (da_cons de_int da_nil))) de_int)
 (ds_one (ds_dput (i := 3) (hu_of hr) de_bl (de_add rfl de_int (de_call (ok_Llaw_take T) (hr.mono (by decide)) T.m_Llaw_take T.F_Llaw_take.kp T.b_Llaw_take tk (da_cons (de_var (i := 0)) (da_cons de_int da_nil))))))
 ds_nil)
 (ds_one (ds_ret (de_tuple rfl T.z_tuple (da_cons (de_sortDct (i := 3) rfl rfl T.z_sorted) da_nil))))))))
--@ _law_row
theorem ok_Llaw_row (T : Txt K mg C cls) : FnOk P w K mg base (L2.CX P w) 5 T.f_Llaw_row T.fd_Llaw_row P_Llaw_row (spF (pm P w K cls) 1 d_Llaw_row) := by
  have sc := sc_Llaw_row
  refine fn_okX (b := b_Llaw_row) T.F_Llaw_row sc rfl rfl (fun cdv A outer s H E hr => ?_)
  have tk : Takes (cxOf (L2.CX P w) P w K mg base N_Llaw_row "_law_row" (defScope s_Llaw_row) T.f_Llaw_row cdv A outer s H E) (WB E) := takes_of rfl rfl rfl rfl
  exact (ds_cons (ds_set (i := 1) (de_call (ok_Llaw_stones T) (hr.mono (by decide)) T.m_Llaw_stones T.F_Llaw_stones.kp T.b_Llaw_stones tk (da_cons (de_var (i := 0)) (da_cons (de_if (dt_lt (de_call (ok_Llaw_take T) (hr.mono (by decide)) T.m_Llaw_take T.F_Llaw_take.kp T.b_Llaw_take tk (da_cons (de_var (i := 0)) (da_cons de_int da_nil))) de_int) (de_lst (da_cons de_int (da_cons de_int (da_cons de_int (da_cons de_int (da_cons de_int (da_cons de_int (da_cons de_int (da_cons de_int da_nil))))))))) (de_lst (da_cons de_int (da_cons de_int (da_cons de_int da_nil))))) da_nil))) sc.nd)
 (ds_cons (ds_set (i := 2) (de_call (ok_Llaw_ends T) (hr.mono (by decide)) T.m_Llaw_ends T.F_Llaw_ends.kp T.b_Llaw_ends tk (da_cons (de_var (i := 0)) da_nil)) sc.nd)
 (ds_one (ds_ret (de_tup (da_cons (de_var (i := 1)) (da_cons (de_var (i := 2)) (da_cons (de_call (ok_Llaw_rule T) (hr.mono (by decide)) T.m_Llaw_rule T.F_Llaw_rule.kp T.b_Llaw_rule tk (da_cons (de_var (i := 0)) (da_cons (de_var (i := 1)) (da_cons (de_var (i := 2)) da_nil)))) da_nil))))))))
--@ _law_may
theorem ok_Llaw_may (T : Txt K mg C cls) : FnOk P w K mg base (L2.CX P w) 1 T.f_Llaw_may T.fd_Llaw_may P_Llaw_may (spF (pm P w K cls) 5 d_Llaw_may) := by
  have sc := sc_Llaw_may
  refine fn_okX (b := b_Llaw_may) T.F_Llaw_may sc rfl rfl (fun cdv A outer s H E hr => ?_)
  have tk : Takes (cxOf (L2.CX P w) P w K mg base N_Llaw_may "_law_may" (defScope s_Llaw_may) T.f_Llaw_may cdv A outer s H E) (WB E) := takes_of rfl rfl rfl rfl
  exact (ds_cons (ds_set (i := 5) (de_max rfl hr.units rfl T.z_max (da_cons (de_cut rfl (de_var (i := 0)) (do_some (de_var (i := 3))) (do_some (de_add rfl (de_var (i := 4)) de_int))) da_nil)) sc.nd)
 (ds_cons (ds_if (dt_ifE (dt_gt (de_var (i := 3)) de_int) (dt_lt (de_item rfl (de_var (i := 0)) (de_sub (de_var (i := 3)) de_int)) (de_var (i := 5))) (dt_in rfl (de_var (i := 1)) (de_lst (da_cons de_int (da_cons de_int da_nil)))))
 (ds_one (ds_ret de_bl))
 ds_nil)
 (ds_cons (ds_if (dt_ifE (dt_lt (de_add rfl (de_var (i := 4)) de_int) (de_len rfl T.z_len (da_cons (de_var (i := 0)) da_nil))) (dt_lt (de_item rfl (de_var (i := 0)) (de_add rfl (de_var (i := 4)) de_int)) (de_var (i := 5))) (dt_in rfl (de_var (i := 1)) (de_lst (da_cons de_int (da_cons de_int da_nil)))))
 (ds_one (ds_ret de_bl))
 ds_nil)
 (ds_one (ds_ret (de_or (de_isN (de_var (i := 2))) (de_one (de_in rfl (de_add rfl (de_sub (de_var (i := 4)) (de_var (i := 3))) de_int) (de_var (i := 2))))))))))
--@ Row.__contains__
theorem ok_Row___contains__ (T : Txt K mg C cls) : FnOk P w K mg base (L2.CX P w) 1 T.f_Row___contains__ T.fd_Row___contains__ P_Row___contains__ (spF (pm P w K cls) 2 (d_Row___contains__ C)) := by
  have sc := sc_Row___contains__
  refine fn_okX (b := b_Row___contains__ C) T.F_Row___contains__ sc rfl rfl (fun cdv A outer s H E hr => ?_)
  have tk : Takes (cxOf (L2.CX P w) P w K mg base N_Row___contains__ "Row.__contains__" (defScope s_Row___contains__) T.f_Row___contains__ cdv A outer s H E) (WB E) := takes_of rfl rfl rfl rfl
  exact (ds_one (ds_ret (de_in rfl (de_var (i := 1)) (de_fld (de_var (i := 0)) rfl T.cl T.na_stones))))
--@ span
theorem ok_span (T : Txt K mg C cls) : FnOk P w K mg base (L2.CX P w) 1 T.f_span T.fd_span P_span (spF (pm P w K cls) 2 d_span) := by
  have sc := sc_span
  refine fn_okX (b := b_span) T.F_span sc rfl rfl (fun cdv A outer s H E hr => ?_)
  have tk : Takes (cxOf (L2.CX P w) P w K mg base N_span "span" (defScope s_span) T.f_span cdv A outer s H E) (WB E) := takes_of rfl rfl rfl rfl
  exact (ds_cons (ds_set (i := 2) (de_index rfl (de_var (i := 0)) (da_cons (de_var (i := 1)) da_nil)) sc.nd)
 (ds_cons (ds_set (i := 3) (de_var (i := 2)) sc.nd)
 (ds_cons (ds_while 64 (HandSPX_passes_of rfl) (dt_pw (dw_and (dt_gt (de_var (i := 2)) de_int) (dw_and1 (dt_lt (de_item rfl (de_var (i := 0)) (de_sub (de_var (i := 2)) de_int)) (de_var (i := 1))))))
 (ds_one (ds_augSub (i := 2) sc.nd de_int)))
 (ds_cons (ds_while 64 (HandSPX_passes_of rfl) (dt_pw (dw_and (dt_lt (de_add rfl (de_var (i := 3)) de_int) (de_len rfl T.z_len (da_cons (de_var (i := 0)) da_nil))) (dw_and1 (dt_lt (de_item rfl (de_var (i := 0)) (de_add rfl (de_var (i := 3)) de_int)) (de_var (i := 1))))))
 (ds_one (ds_augAdd (i := 3) sc.nd de_int)))
 (ds_one (ds_ret (de_tup (da_cons (de_var (i := 2)) (da_cons (de_var (i := 3)) da_nil)))))))))
--@ span_of
theorem ok_span_of (T : Txt K mg C cls) : FnOk P w K mg base (L2.CX P w) 2 T.f_span_of T.fd_span_of P_span_of (spF (pm P w K cls) 2 (d_span_of C)) := by
  have sc := sc_span_of
  refine fn_okX (b := b_span_of C) T.F_span_of sc rfl rfl (fun cdv A outer s H E hr => ?_)
  have tk : Takes (cxOf (L2.CX P w) P w K mg base N_span_of "span_of" (defScope s_span_of) T.f_span_of cdv A outer s H E) (WB E) := takes_of rfl rfl rfl rfl
  exact (ds_cons (ds_if (dt_notInOwn (ok_Row___contains__ T) (hr.mono (by decide)) T.me_contains T.b_Row___contains__ (de_var (i := 1)) (de_var (i := 0)))
 (ds_one ds_stuck)
 ds_nil)
 (ds_one (ds_ret (de_call (ok_span T) (hr.mono (by decide)) T.m_span T.F_span.kp T.b_span tk (da_cons (de_fld (de_var (i := 0)) rfl T.cl T.na_stones) (da_cons (de_var (i := 1)) da_nil))))))
--@ lot
theorem ok_lot (T : Txt K mg C cls) : FnOk P w K mg base (L2.CX P w) 3 T.f_lot T.fd_lot P_lot (spF (pm P w K cls) 2 (d_lot C)) := by
  have sc := sc_lot
  refine fn_okX (b := b_lot C) T.F_lot sc rfl rfl (fun cdv A outer s H E hr => ?_)
  have tk : Takes (cxOf (L2.CX P w) P w K mg base N_lot "lot" (defScope s_lot) T.f_lot cdv A outer s H E) (WB E) := takes_of rfl rfl rfl rfl
  exact (ds_cons (ds_unpack (is := [2, 3]) rfl rfl (de_call (ok_span_of T) (hr.mono (by decide)) T.m_span_of T.F_span_of.kp T.b_span_of tk (da_cons (de_var (i := 0)) (da_cons (de_var (i := 1)) da_nil))) (pgs_cons (pg_name (i := 2) sc.nd rfl (Or.inl rfl)) (pgs_cons (pg_name (i := 3) sc.nd rfl (Or.inl rfl)) pgs_nil)))
 (ds_one (ds_ret (de_cut rfl (de_fld (de_var (i := 0)) rfl T.cl T.na_stones) (do_some (de_var (i := 2))) (do_some (de_add rfl (de_var (i := 3)) de_int))))))
--@ open_ahead
theorem ok_open_ahead (T : Txt K mg C cls) : FnOk P w K mg base (L2.CX P w) 1 T.f_open_ahead T.fd_open_ahead P_open_ahead (spF (pm P w K cls) 1 d_open_ahead) := by
  have sc := sc_open_ahead
  refine fn_okX (b := b_open_ahead) T.F_open_ahead sc rfl rfl (fun cdv A outer s H E hr => ?_)
  have tk : Takes (cxOf (L2.CX P w) P w K mg base N_open_ahead "open_ahead" (defScope s_open_ahead) T.f_open_ahead cdv A outer s H E) (WB E) := takes_of rfl rfl rfl rfl
  exact (ds_one (ds_ret (de_in rfl (de_var (i := 0)) (de_tup (da_cons de_int (da_cons de_int da_nil))))))
--@ open_behind
theorem ok_open_behind (T : Txt K mg C cls) : FnOk P w K mg base (L2.CX P w) 1 T.f_open_behind T.fd_open_behind P_open_behind (spF (pm P w K cls) 1 d_open_behind) := by
  have sc := sc_open_behind
  refine fn_okX (b := b_open_behind) T.F_open_behind sc rfl rfl (fun cdv A outer s H E hr => ?_)
  have tk : Takes (cxOf (L2.CX P w) P w K mg base N_open_behind "open_behind" (defScope s_open_behind) T.f_open_behind cdv A outer s H E) (WB E) := takes_of rfl rfl rfl rfl
  exact (ds_one (ds_ret (de_in rfl (de_var (i := 0)) (de_tup (da_cons de_int (da_cons de_int da_nil))))))
--@ closers
theorem ok_closers (T : Txt K mg C cls) : FnOk P w K mg base (L2.CX P w) 3 T.f_closers T.fd_closers P_closers (spF (pm P w K cls) 2 (d_closers C)) := by
  have sc := sc_closers
  refine fn_okX (b := b_closers C) T.F_closers sc rfl rfl (fun cdv A outer s H E hr => ?_)
  have tk : Takes (cxOf (L2.CX P w) P w K mg base N_closers "closers" (defScope s_closers) T.f_closers cdv A outer s H E) (WB E) := takes_of rfl rfl rfl rfl
  exact (ds_cons (ds_unpack (is := [2, 3]) rfl rfl (de_call (ok_span_of T) (hr.mono (by decide)) T.m_span_of T.F_span_of.kp T.b_span_of tk (da_cons (de_var (i := 0)) (da_cons (de_var (i := 1)) da_nil))) (pgs_cons (pg_name (i := 2) sc.nd rfl (Or.inl rfl)) (pgs_cons (pg_name (i := 3) sc.nd rfl (Or.inl rfl)) pgs_nil)))
 (ds_cons (ds_set (i := 4) (de_if (dt_val (de_call (ok_open_ahead T) (hr.mono (by decide)) T.m_open_ahead T.F_open_ahead.kp T.b_open_ahead tk (da_cons (de_fld (de_var (i := 0)) rfl T.cl T.na_ends) da_nil))) de_str de_str) sc.nd)
 (ds_cons (ds_if (dt_gt (de_var (i := 2)) de_int)
 (ds_one (ds_set (i := 4) (de_item rfl (de_fld (de_var (i := 0)) rfl T.cl T.na_stones) (de_sub (de_var (i := 2)) de_int)) sc.nd))
 ds_nil)
 (ds_cons (ds_set (i := 5) (de_if (dt_val (de_call (ok_open_behind T) (hr.mono (by decide)) T.m_open_behind T.F_open_behind.kp T.b_open_behind tk (da_cons (de_fld (de_var (i := 0)) rfl T.cl T.na_ends) da_nil))) de_str de_str) sc.nd)
 (ds_cons (ds_if (dt_lt (de_add rfl (de_var (i := 3)) de_int) (de_len rfl T.z_len (da_cons (de_fld (de_var (i := 0)) rfl T.cl T.na_stones) da_nil)))
 (ds_one (ds_set (i := 5) (de_item rfl (de_fld (de_var (i := 0)) rfl T.cl T.na_stones) (de_add rfl (de_var (i := 3)) de_int)) sc.nd))
 ds_nil)
 (ds_one (ds_ret (de_tup (da_cons (de_var (i := 4)) (da_cons (de_var (i := 5)) da_nil))))))))))
--@ is_record
theorem ok_is_record (T : Txt K mg C cls) : FnOk P w K mg base (L2.CX P w) 4 T.f_is_record T.fd_is_record P_is_record (spF (pm P w K cls) 2 (d_is_record C)) := by
  have sc := sc_is_record
  refine fn_okX (b := b_is_record C) T.F_is_record sc rfl rfl (fun cdv A outer s H E hr => ?_)
  have tk : Takes (cxOf (L2.CX P w) P w K mg base N_is_record "is_record" (defScope s_is_record) T.f_is_record cdv A outer s H E) (WB E) := takes_of rfl rfl rfl rfl
  exact (ds_one (ds_ret (de_in rfl de_str (de_call (ok_closers T) (hr.mono (by decide)) T.m_closers T.F_closers.kp T.b_closers tk (da_cons (de_var (i := 0)) (da_cons (de_var (i := 1)) da_nil))))))
--@ heads
theorem ok_heads (T : Txt K mg C cls) : FnOk P w K mg base (L2.CX P w) 5 T.f_heads T.fd_heads P_heads (spF (pm P w K cls) 1 (d_heads C)) := by
  have sc := sc_heads
  refine fn_okX (b := b_heads C) T.F_heads sc rfl rfl (fun cdv A outer s H E hr => ?_)
  have tk : Takes (cxOf (L2.CX P w) P w K mg base N_heads "heads" (defScope s_heads) T.f_heads cdv A outer s H E) (WB E) := takes_of rfl rfl rfl rfl
  exact (ds_one (ds_ret (de_tuple rfl T.z_tuple (da_cons (de_lc (own := [("x", 1)]) (g := gName 1) rfl sc.nd (di_list rfl (de_sorted rfl T.z_sorted (da_cons (de_fld (de_var (i := 0)) rfl T.cl T.na_stones) da_nil)) (tg_name 1)) (blkOk_by (own := [("x", 1)]) (N := N_heads) (sc := defScope s_heads) (by decide +kernel)) rfl (fun _ _ _ _ _ => pg_name (i := 1) sc.nd rfl (Or.inl rfl)) (fun _ _ _ _ _ => (dts_one (dt_pw (dw_and (dt_gt (de_len rfl T.z_len (da_cons (de_call (ok_lot T) (hr.mono (by decide)) T.m_lot T.F_lot.kp T.b_lot takes0 (da_cons (de_var (i := 0)) (da_cons (de_var (i := 1)) da_nil))) da_nil)) de_int) (dw_and1 (dt_not (dt_val (de_call (ok_is_record T) (hr.mono (by decide)) T.m_is_record T.F_is_record.kp T.b_is_record takes0 (da_cons (de_var (i := 0)) (da_cons (de_var (i := 1)) da_nil)))))))))) (fun _ _ _ _ _ => (de_var (i := 1)))) da_nil))))
--@ lets
theorem ok_lets (T : Txt K mg C cls) : FnOk P w K mg base (L2.CX P w) 1 T.f_lets T.fd_lets P_lets (spF (pm P w K cls) 2 d_lets) := by
  have sc := sc_lets
  refine fn_okX (b := b_lets) T.F_lets sc rfl rfl (fun cdv A outer s H E hr => ?_)
  have tk : Takes (cxOf (L2.CX P w) P w K mg base N_lets "lets" (defScope s_lets) T.f_lets cdv A outer s H E) (WB E) := takes_of rfl rfl rfl rfl
  exact (ds_one (ds_ret (de_or (de_isN (de_var (i := 0))) (de_one (de_in rfl (de_var (i := 1)) (de_var (i := 0)))))))
--@ is_let
theorem ok_is_let (T : Txt K mg C cls) : FnOk P w K mg base (L2.CX P w) 4 T.f_is_let T.fd_is_let P_is_let (spF (pm P w K cls) 2 (d_is_let C)) := by
  have sc := sc_is_let
  refine fn_okX (b := b_is_let C) T.F_is_let sc rfl rfl (fun cdv A outer s H E hr => ?_)
  have tk : Takes (cxOf (L2.CX P w) P w K mg base N_is_let "is_let" (defScope s_is_let) T.f_is_let cdv A outer s H E) (WB E) := takes_of rfl rfl rfl rfl
  exact (ds_one (ds_ret (de_call (ok_lets T) (hr.mono (by decide)) T.m_lets T.F_lets.kp T.b_lets tk (da_cons (de_fld (de_var (i := 0)) rfl T.cl T.na_rule) (da_cons (de_len rfl T.z_len (da_cons (de_call (ok_lot T) (hr.mono (by decide)) T.m_lot T.F_lot.kp T.b_lot tk (da_cons (de_var (i := 0)) (da_cons (de_var (i := 1)) da_nil))) da_nil)) da_nil)))))
--@ free_heads
theorem ok_free_heads (T : Txt K mg C cls) : FnOk P w K mg base (L2.CX P w) 6 T.f_free_heads T.fd_free_heads P_free_heads (spF (pm P w K cls) 1 (d_free_heads C)) := by
  have sc := sc_free_heads
  refine fn_okX (b := b_free_heads C) T.F_free_heads sc rfl rfl (fun cdv A outer s H E hr => ?_)
  have tk : Takes (cxOf (L2.CX P w) P w K mg base N_free_heads "free_heads" (defScope s_free_heads) T.f_free_heads cdv A outer s H E) (WB E) := takes_of rfl rfl rfl rfl
  exact (ds_one (ds_ret (de_tuple rfl T.z_tuple (da_cons (de_lc (own := [("x", 1)]) (g := gName 1) rfl sc.nd (di_tup rfl (de_call (ok_heads T) (hr.mono (by decide)) T.m_heads T.F_heads.kp T.b_heads tk (da_cons (de_var (i := 0)) da_nil)) (tg_name 1)) (blkOk_by (own := [("x", 1)]) (N := N_free_heads) (sc := defScope s_free_heads) (by decide +kernel)) rfl (fun _ _ _ _ _ => pg_name (i := 1) sc.nd rfl (Or.inl rfl)) (fun _ _ _ _ _ => (dts_one (dt_val (de_call (ok_is_let T) (hr.mono (by decide)) T.m_is_let T.F_is_let.kp T.b_is_let takes0 (da_cons (de_var (i := 0)) (da_cons (de_var (i := 1)) da_nil)))))) (fun _ _ _ _ _ => (de_var (i := 1)))) da_nil))))
--@ stretches
theorem ok_stretches (T : Txt K mg C cls) : FnOk P w K mg base (L2.CX P w) 7 T.f_stretches T.fd_stretches P_stretches (spF (pm P w K cls) 1 (d_stretches C)) := by
  have sc := sc_stretches
  refine fn_okX (b := b_stretches C) T.F_stretches sc rfl rfl (fun cdv A outer s H E hr => ?_)
  have tk : Takes (cxOf (L2.CX P w) P w K mg base N_stretches "stretches" (defScope s_stretches) T.f_stretches cdv A outer s H E) (WB E) := takes_of rfl rfl rfl rfl
  exact (ds_one (ds_ret (de_tuple rfl T.z_tuple (da_cons (de_sortedP rfl T.z_sorted (da_cons (de_lc (own := [("x", 1)]) (g := gName 1) rfl sc.nd (di_tup rfl (de_call (ok_free_heads T) (hr.mono (by decide)) T.m_free_heads T.F_free_heads.kp T.b_free_heads tk (da_cons (de_var (i := 0)) da_nil)) (tg_name 1)) (blkOk_by (own := [("x", 1)]) (N := N_stretches) (sc := defScope s_stretches) (by decide +kernel)) rfl (fun _ _ _ _ _ => pg_name (i := 1) sc.nd rfl (Or.inl rfl)) (fun _ _ _ _ _ => dts_nil) (fun _ _ _ _ _ => (de_call (ok_span_of T) (hr.mono (by decide)) T.m_span_of T.F_span_of.kp T.b_span_of takes0 (da_cons (de_var (i := 0)) (da_cons (de_var (i := 1)) da_nil))))) da_nil)) da_nil))))
--@ fits
theorem ok_fits (T : Txt K mg C cls) : FnOk P w K mg base (L2.CX P w) 1 T.f_fits T.fd_fits P_fits (spF (pm P w K cls) 1 d_fits) := by
  have sc := sc_fits
  refine fn_okX (b := b_fits) T.F_fits sc rfl rfl (fun cdv A outer s H E hr => ?_)
  have tk : Takes (cxOf (L2.CX P w) P w K mg base N_fits "fits" (defScope s_fits) T.f_fits cdv A outer s H E) (WB E) := takes_of rfl rfl rfl rfl
  exact (ds_one (ds_ret (de_lt (de_abs T.z_abs (da_cons (de_var (i := 0)) da_nil)) (de_pow de_int de_int))))
--@ check_stones
theorem ok_check_stones (T : Txt K mg C cls) : FnOk P w K mg base (L2.CX P w) 2 T.f_check_stones T.fd_check_stones P_check_stones (spF (pm P w K cls) 2 d_check_stones) := by
  have sc := sc_check_stones
  refine fn_okX (b := b_check_stones) T.F_check_stones sc rfl rfl (fun cdv A outer s H E hr => ?_)
  have tk : Takes (cxOf (L2.CX P w) P w K mg base N_check_stones "check_stones" (defScope s_check_stones) T.f_check_stones cdv A outer s H E) (WB E) := takes_of rfl rfl rfl rfl
  exact (ds_cons (ds_if (dt_not (dt_chain op_le op_le sem_cmpI sem_cmpI (de_var (i := 1)) (de_len rfl T.z_len (da_cons (de_var (i := 0)) da_nil)) de_int))
 (ds_one ds_stuck)
 ds_nil)
 (ds_cons (ds_setNew (i := 2) rfl sc.nd rfl T.z_set)
 (ds_one (ds_for (HandSPX_passes_of rfl) rfl (di_enumT (i := 3) (j := 4) rfl rfl T.z_enumerate (da_cons (de_var (i := 0)) da_nil)) (pg_tup rfl (pgs_cons (pg_name (i := 3) sc.nd rfl (Or.inl rfl)) (pgs_cons (pg_name (i := 4) sc.nd rfl (Or.inl rfl)) pgs_nil)))
 (ds_cons (ds_if (dt_pw (dw_or (dt_not (dt_val (de_call (ok_fits T) (hr.mono (by decide)) T.m_fits T.F_fits.kp T.b_fits tk (da_cons (de_var (i := 4)) da_nil)))) (dw_or1 (dt_set (i := 2) rfl (de_var (i := 4))))))
 (ds_one ds_stuck)
 ds_nil)
 (ds_one (ds_addSet (i := 2) rfl (de_var (i := 4)))))))))
--@ check_ends
theorem ok_check_ends (T : Txt K mg C cls) : FnOk P w K mg base (L2.CX P w) 1 T.f_check_ends T.fd_check_ends P_check_ends (spF (pm P w K cls) 1 d_check_ends) := by
  have sc := sc_check_ends
  refine fn_okX (b := b_check_ends) T.F_check_ends sc rfl rfl (fun cdv A outer s H E hr => ?_)
  have tk : Takes (cxOf (L2.CX P w) P w K mg base N_check_ends "check_ends" (defScope s_check_ends) T.f_check_ends cdv A outer s H E) (WB E) := takes_of rfl rfl rfl rfl
  exact (ds_one (ds_if (dt_notIn rfl (de_var (i := 0)) (de_tup (da_cons de_int (da_cons de_int (da_cons de_int (da_cons de_int da_nil))))))
 (ds_one ds_stuck)
 ds_nil))
--@ check_rule
theorem ok_check_rule (T : Txt K mg C cls) : FnOk P w K mg base (L2.CX P w) 1 T.f_check_rule T.fd_check_rule P_check_rule (spF (pm P w K cls) 1 d_check_rule) := by
  have sc := sc_check_rule
  refine fn_okX (b := b_check_rule) T.F_check_rule sc rfl rfl (fun cdv A outer s H E hr => ?_)
  have tk : Takes (cxOf (L2.CX P w) P w K mg base N_check_rule "check_rule" (defScope s_check_rule) T.f_check_rule cdv A outer s H E) (WB E) := takes_of rfl rfl rfl rfl
  exact (ds_cons (ds_if (dt_isN (de_var (i := 0)))
 (ds_one ds_retN)
 ds_nil)
 (ds_cons (ds_set (i := 1) de_int sc.nd)
 (ds_one (ds_for (HandSPX_passes_of rfl) rfl (di_enumT (i := 2) (j := 3) rfl rfl T.z_enumerate (da_cons (de_var (i := 0)) da_nil)) (pg_tup rfl (pgs_cons (pg_name (i := 2) sc.nd rfl (Or.inl rfl)) (pgs_cons (pg_name (i := 3) sc.nd rfl (Or.inl rfl)) pgs_nil)))
 (ds_cons (ds_if (dt_not (dt_chain op_lt op_le sem_cmpI sem_cmpI (de_var (i := 1)) (de_var (i := 3)) de_int))
 (ds_one ds_stuck)
 ds_nil)
 (ds_one (ds_set (i := 1) (de_var (i := 3)) sc.nd)))))))
--@ Row.__init__
theorem ok_Row___init__ (T : Txt K mg C cls) : FnOk P w K mg base (L2.CX P w) 3 T.f_Row___init__ T.fd_Row___init__ P_Row___init__ (spI (pm P w K cls) C 3 i_Row___init__) := by
  have sc := sc_Row___init__
  refine init_okX (b := b_Row___init__ C) T.F_Row___init__ sc rfl rfl (fun x ds S hl hs => i_Row___init___eq C x ds S hl hs) (fun cdv A outer s H E hr => ?_)
  have tk : Takes (cxOf (L2.CX P w) P w K mg base N_Row___init__ "Row.__init__" (defScope s_Row___init__) T.f_Row___init__ cdv A outer s H E) (WB E) := takes_of rfl rfl rfl rfl
  exact (ds_cons (ds_expr (de_call (ok_check_stones T) (hr.mono (by decide)) T.m_check_stones T.F_check_stones.kp T.b_check_stones tk (da_cons (de_var (i := 1)) (da_cons de_int da_nil))))
 (ds_cons (ds_expr (de_call (ok_check_ends T) (hr.mono (by decide)) T.m_check_ends T.F_check_ends.kp T.b_check_ends tk (da_cons (de_var (i := 2)) da_nil)))
 (ds_cons (ds_expr (de_call (ok_check_rule T) (hr.mono (by decide)) T.m_check_rule T.F_check_rule.kp T.b_check_rule tk (da_cons (de_var (i := 3)) da_nil)))
 (ds_cons (ds_fld (i := 0) rfl T.cl T.na_stones (de_var (i := 1)))
 (ds_cons (ds_fld (i := 0) rfl T.cl T.na_ends (de_var (i := 2)))
 (ds_one (ds_fld (i := 0) rfl T.cl T.na_rule (de_var (i := 3)))))))))
--@ _law_right
theorem ok_Llaw_right (T : Txt K mg C cls) : FnOk P w K mg base (L2.CX P w) 8 T.f_Llaw_right T.fd_Llaw_right P_Llaw_right (spF (pm P w K cls) 1 (d_Llaw_right C)) := by
  have sc := sc_Llaw_right
  refine fn_okX (b := b_Llaw_right C) T.F_Llaw_right sc rfl rfl (fun cdv A outer s H E hr => ?_)
  have tk : Takes (cxOf (L2.CX P w) P w K mg base N_Llaw_right "_law_right" (defScope s_Llaw_right) T.f_Llaw_right cdv A outer s H E) (WB E) := takes_of rfl rfl rfl rfl
  exact (ds_cons (ds_unpack (is := [1, 2, 3]) rfl rfl (de_call (ok_Llaw_row T) (hr.mono (by decide)) T.m_Llaw_row T.F_Llaw_row.kp T.b_Llaw_row tk (da_cons (de_var (i := 0)) da_nil)) (pgs_cons (pg_name (i := 1) sc.nd rfl (Or.inr rfl)) (pgs_cons (pg_name (i := 2) sc.nd rfl (Or.inl rfl)) (pgs_cons (pg_name (i := 3) sc.nd rfl (Or.inl rfl)) pgs_nil))))
 (ds_cons (ds_for (HandSPX_passes_of rfl) rfl (di_list rfl (de_lst (da_cons (de_var (i := 2)) (da_cons de_int (da_cons de_int (da_cons de_int (da_cons de_int da_nil)))))) (tg_name 4)) (pg_name (i := 4) sc.nd rfl (Or.inr rfl))
 (ds_one (ds_for (HandSPX_passes_of rfl) rfl (di_list rfl (de_lst (da_cons (de_var (i := 3)) (da_cons de_non (da_cons (de_call (ok_Llaw_rule T) (hr.mono (by decide)) T.m_Llaw_rule T.F_Llaw_rule.kp T.b_Llaw_rule tk (da_cons (de_var (i := 0)) (da_cons (de_var (i := 1)) (da_cons (de_var (i := 4)) da_nil)))) (da_cons (de_tup da_nil) da_nil))))) (tg_name 5)) (pg_name (i := 5) sc.nd rfl (Or.inr rfl))
 (ds_cons (ds_set (i := 6) (de_lst da_nil) sc.nd)
 (ds_cons (ds_for (HandSPX_passes_of rfl) rfl (di_range1 rfl T.z_range (da_cons (de_len rfl T.z_len (da_cons (de_var (i := 1)) da_nil)) da_nil) (tg_name 7)) (pg_name (i := 7) sc.nd rfl (Or.inr rfl))
 (ds_one (ds_set (i := 6) (de_add rfl (de_var (i := 6)) (de_lc (own := [("_law_j", 8)]) (g := gName 8) rfl sc.nd (di_range2 rfl T.z_range (da_cons (de_add rfl (de_var (i := 7)) de_int) (da_cons (de_len rfl T.z_len (da_cons (de_var (i := 1)) da_nil)) da_nil)) (tg_name 8)) (blkOk_by (own := [("_law_j", 8)]) (N := N_Llaw_right) (sc := defScope s_Llaw_right) (by decide +kernel)) rfl (fun _ _ _ _ _ => pg_name (i := 8) sc.nd rfl (Or.inl rfl)) (fun _ _ _ _ _ => (dts_one (dt_val (de_call (ok_Llaw_may T) (hr.mono (by decide)) T.m_Llaw_may T.F_Llaw_may.kp T.b_Llaw_may takes0 (da_cons (de_var (i := 1)) (da_cons (de_var (i := 4)) (da_cons (de_var (i := 5)) (da_cons (de_var (i := 7)) (da_cons (de_var (i := 8)) da_nil))))))))) (fun _ _ _ _ _ => (de_tup (da_cons (de_var (i := 7)) (da_cons (de_var (i := 8)) da_nil)))))) sc.nd)))
 (ds_one (ds_if (dt_ne rfl hr.units (de_callK0 (ok_stretches T) (hr.mono (by decide)) T.m_stretches T.F_stretches.kp T.kb_stretches tk (dk_cons (de_makeK T.mkC (ok_Row___init__ T) (hr.mono (by decide)) T.m_C T.kb_Row___init__ tk (da_cons (de_var (i := 1)) da_nil) (dk_cons (de_var (i := 4)) (dk_cons (de_var (i := 5)) dk_nil))) dk_nil)) (de_tuple rfl T.z_tuple (da_cons (de_var (i := 6)) da_nil)))
 (ds_one (ds_ret de_bl))
 ds_nil)))))))
 (ds_one (ds_ret de_bl))))
--@ _law_pool
theorem ok_Llaw_pool (T : Txt K mg C cls) : FnOk P w K mg base (L2.CX P w) 1 T.f_Llaw_pool T.fd_Llaw_pool P_Llaw_pool (spF (pm P w K cls) 2 d_Llaw_pool) := by
  have sc := sc_Llaw_pool
  refine fn_okX (b := b_Llaw_pool) T.F_Llaw_pool sc rfl rfl (fun cdv A outer s H E hr => ?_)
  have tk : Takes (cxOf (L2.CX P w) P w K mg base N_Llaw_pool "_law_pool" (defScope s_Llaw_pool) T.f_Llaw_pool cdv A outer s H E) (WB E) := takes_of rfl rfl rfl rfl
  exact (ds_cons (ds_set (i := 2) de_int sc.nd)
 (ds_cons (ds_if (dt_lt (de_var (i := 1)) (de_len rfl T.z_len (da_cons (de_var (i := 0)) da_nil)))
 (ds_one (ds_set (i := 2) (de_item rfl (de_var (i := 0)) (de_var (i := 1))) sc.nd))
 (ds_one (ds_if (dt_tru rfl (de_var (i := 0)))
 (ds_one (ds_set (i := 2) (de_item rfl (de_var (i := 0)) de_int) sc.nd))
 ds_nil)))
 (ds_cons (ds_set (i := 3) (de_max rfl hr.units rfl T.z_max (da_cons (de_intB T.z_int (da_cons (de_var (i := 2)) da_nil)) (da_cons (de_intB T.z_int (da_cons (de_sub (de_neg de_int) (de_var (i := 2))) da_nil)) da_nil))) sc.nd)
 (ds_cons (ds_set (i := 4) (de_mod (de_intB T.z_int (da_cons (de_mul (de_add rfl (de_add rfl (de_add rfl (de_mod (de_intB T.z_int (da_cons (de_var (i := 3)) da_nil)) de_int) (de_mul (de_mul de_int (de_var (i := 1))) (de_var (i := 1)))) (de_mul de_int (de_var (i := 1)))) de_int) de_int) da_nil)) de_int) sc.nd)
 (ds_one (ds_ret (de_lstLoc (da_cons (de_mul (de_var (i := 3)) (de_intB T.z_int (da_cons (de_ge (de_var (i := 3)) (de_pow de_int de_int)) da_nil))) (da_cons (de_var (i := 4)) da_nil)))))))))
--@ law
theorem ok_law (T : Txt K mg C cls) : FnOk P w K mg base (L2.CX P w) 9 T.f_law T.fd_law P_law (spF (pm P w K cls) 1 (d_law C)) := by
  have sc := sc_law
  refine fn_okX (b := b_law C) T.F_law sc rfl rfl (fun cdv A outer s H E hr => ?_)
  have tk : Takes (cxOf (L2.CX P w) P w K mg base N_law "law" (defScope s_law) T.f_law cdv A outer s H E) (WB E) := takes_of rfl rfl rfl rfl
  exact (ds_cons (ds_for (HandSPX_passes_of rfl) rfl (di_range1 rfl T.z_range (da_cons (de_max rfl hr.units rfl T.z_max (da_cons de_int (da_cons (de_min rfl hr.units rfl T.z_min (da_cons (de_len rfl T.z_len (da_cons (de_var (i := 0)) da_nil)) (da_cons de_int da_nil))) da_nil))) da_nil) (tg_name 1)) (pg_name (i := 1) sc.nd rfl (Or.inl rfl))
 (ds_one (ds_if (dt_not (dt_val (de_call (ok_Llaw_right T) (hr.mono (by decide)) T.m_Llaw_right T.F_Llaw_right.kp T.b_Llaw_right tk (da_cons (de_call (ok_Llaw_pool T) (hr.mono (by decide)) T.m_Llaw_pool T.F_Llaw_pool.kp T.b_Llaw_pool tk (da_cons (de_var (i := 0)) (da_cons (de_var (i := 1)) da_nil))) da_nil))))
 (ds_one (ds_ret de_bl))
 ds_nil)))
 (ds_one (ds_ret de_bl)))
end
end K06

set_option Elab.async false
set_option linter.all false
set_option maxRecDepth 100000
set_option maxHeartbeats 4000000
namespace K06
open PySem PySem.Spec PyProof.Rows L2 FDB FD
section
variable {P : Program} {w : World} {K : PySem.W.Frag} {mg : Str → Option Value} {h : Heap}
def txt_mk (X : K.In h) (G : h.Ns mainGlobals mg) {C : Addr} {f0 : Addr} {od0 an0 : Option Addr} {sl0 : Array (Option Value)} {oc0 kV0 dc0 pm0 cd0 ct0 : Value} {f1 : Addr} {od1 an1 : Option Addr} {sl1 : Array (Option Value)} {oc1 kV1 dc1 pm1 cd1 ct1 : Value} {f2 : Addr} {od2 an2 : Option Addr} {sl2 : Array (Option Value)} {oc2 kV2 dc2 pm2 cd2 ct2 : Value} {f3 : Addr} {od3 an3 : Option Addr} {sl3 : Array (Option Value)} {oc3 kV3 dc3 pm3 cd3 ct3 : Value} {f4 : Addr} {od4 an4 : Option Addr} {sl4 : Array (Option Value)} {oc4 kV4 dc4 pm4 cd4 ct4 : Value} {f5 : Addr} {od5 an5 : Option Addr} {sl5 : Array (Option Value)} {oc5 kV5 dc5 pm5 cd5 ct5 : Value} {f6 : Addr} {od6 an6 : Option Addr} {sl6 : Array (Option Value)} {oc6 kV6 dc6 pm6 cd6 ct6 : Value} {f7 : Addr} {od7 an7 : Option Addr} {sl7 : Array (Option Value)} {oc7 kV7 dc7 pm7 cd7 ct7 : Value} {f8 : Addr} {od8 an8 : Option Addr} {sl8 : Array (Option Value)} {oc8 kV8 dc8 pm8 cd8 ct8 : Value} {f9 : Addr} {od9 an9 : Option Addr} {sl9 : Array (Option Value)} {oc9 kV9 dc9 pm9 cd9 ct9 : Value} {f10 : Addr} {od10 an10 : Option Addr} {sl10 : Array (Option Value)} {oc10 kV10 dc10 pm10 cd10 ct10 : Value} {f11 : Addr} {od11 an11 : Option Addr} {sl11 : Array (Option Value)} {oc11 kV11 dc11 pm11 cd11 ct11 : Value} {f12 : Addr} {od12 an12 : Option Addr} {sl12 : Array (Option Value)} {oc12 kV12 dc12 pm12 cd12 ct12 : Value} {f13 : Addr} {od13 an13 : Option Addr} {sl13 : Array (Option Value)} {oc13 kV13 dc13 pm13 cd13 ct13 : Value} {f14 : Addr} {od14 an14 : Option Addr} {sl14 : Array (Option Value)} {oc14 kV14 dc14 pm14 cd14 ct14 : Value} {f15 : Addr} {od15 an15 : Option Addr} {sl15 : Array (Option Value)} {oc15 kV15 dc15 pm15 cd15 ct15 : Value} {f16 : Addr} {od16 an16 : Option Addr} {sl16 : Array (Option Value)} {oc16 kV16 dc16 pm16 cd16 ct16 : Value} {f17 : Addr} {od17 an17 : Option Addr} {sl17 : Array (Option Value)} {oc17 kV17 dc17 pm17 cd17 ct17 : Value} {f18 : Addr} {od18 an18 : Option Addr} {sl18 : Array (Option Value)} {oc18 kV18 dc18 pm18 cd18 ct18 : Value} {f19 : Addr} {od19 an19 : Option Addr} {sl19 : Array (Option Value)} {oc19 kV19 dc19 pm19 cd19 ct19 : Value} {f20 : Addr} {od20 an20 : Option Addr} {sl20 : Array (Option Value)} {oc20 kV20 dc20 pm20 cd20 ct20 : Value} {f21 : Addr} {od21 an21 : Option Addr} {sl21 : Array (Option Value)} {oc21 kV21 dc21 pm21 cd21 ct21 : Value} {f22 : Addr} {od22 an22 : Option Addr} {sl22 : Array (Option Value)} {oc22 kV22 dc22 pm22 cd22 ct22 : Value} {f23 : Addr} {od23 an23 : Option Addr} {sl23 : Array (Option Value)} {oc23 kV23 dc23 pm23 cd23 ct23 : Value} {f24 : Addr} {od24 an24 : Option Addr} {sl24 : Array (Option Value)} {oc24 kV24 dc24 pm24 cd24 ct24 : Value} {f25 : Addr} {od25 an25 : Option Addr} {sl25 : Array (Option Value)} {oc25 kV25 dc25 pm25 cd25 ct25 : Value} {f26 : Addr} {od26 an26 : Option Addr} {sl26 : Array (Option Value)} {oc26 kV26 dc26 pm26 cd26 ct26 : Value} {f27 : Addr} {od27 an27 : Option Addr} {sl27 : Array (Option Value)} {oc27 kV27 dc27 pm27 cd27 ct27 : Value} {f28 : Addr} {od28 an28 : Option Addr} {sl28 : Array (Option Value)} {oc28 kV28 dc28 pm28 cd28 ct28 : Value} {f29 : Addr} {od29 an29 : Option Addr} {sl29 : Array (Option Value)} {oc29 kV29 dc29 pm29 cd29 ct29 : Value} {f30 : Addr} {od30 an30 : Option Addr} {sl30 : Array (Option Value)} {oc30 kV30 dc30 pm30 cd30 ct30 : Value}
    (aC : PySem.W.nsIn K mainGlobals "Row" = some (some (.ref C)))
    (pg : PySem.W.plainGet K C Str.empty = true)
    (hd : PySem.W.hasDictIn K C = true)
    (po : PySem.W.plainOver K C = true)
    (sa : PySem.W.findIn K (.ref C) "__setattr__" = some (some (.builtin "object.__setattr__")))
    (mk : PySem.W.makesIn K C = true)
    (kc : PySem.W.keepIn K (.ref C) = true)
    (na_stones : PySem.W.findIn K (.ref C) "stones" = some none)
    (na_ends : PySem.W.findIn K (.ref C) "ends" = some none)
    (na_rule : PySem.W.findIn K (.ref C) "rule" = some none)
    (z_abs : PySem.W.nsIn K mainGlobals "abs" = some none)
    (z_enumerate : PySem.W.nsIn K mainGlobals "enumerate" = some none)
    (z_int : PySem.W.nsIn K mainGlobals "int" = some none)
    (z_len : PySem.W.nsIn K mainGlobals "len" = some none)
    (z_max : PySem.W.nsIn K mainGlobals "max" = some none)
    (z_min : PySem.W.nsIn K mainGlobals "min" = some none)
    (z_range : PySem.W.nsIn K mainGlobals "range" = some none)
    (z_set : PySem.W.nsIn K mainGlobals "set" = some none)
    (z_sorted : PySem.W.nsIn K mainGlobals "sorted" = some none)
    (z_tuple : PySem.W.nsIn K mainGlobals "tuple" = some none)
    (a0 : PySem.W.nsIn K mainGlobals "_law_take" = some (some (.ref f0)))
    (l0 : K.lookup f0 = some ⟨oc0, od0, .func (PySem.W.fnOf "_law_take" "_law_take" (defArgs s_Llaw_take) (defBody s_Llaw_take) (defScope s_Llaw_take) .none kV0 dc0 pm0 an0 cd0 ct0), sl0⟩) (c0 : PySem.W.codeIn K cd0 "_law_take" = true) (k0 : PySem.W.keepIn K (.ref f0) = true)
    (a1 : PySem.W.nsIn K mainGlobals "_law_one" = some (some (.ref f1)))
    (l1 : K.lookup f1 = some ⟨oc1, od1, .func (PySem.W.fnOf "_law_one" "_law_one" (defArgs s_Llaw_one) (defBody s_Llaw_one) (defScope s_Llaw_one) .none kV1 dc1 pm1 an1 cd1 ct1), sl1⟩) (c1 : PySem.W.codeIn K cd1 "_law_one" = true) (k1 : PySem.W.keepIn K (.ref f1) = true)
    (a2 : PySem.W.nsIn K mainGlobals "_law_stones" = some (some (.ref f2)))
    (l2 : K.lookup f2 = some ⟨oc2, od2, .func (PySem.W.fnOf "_law_stones" "_law_stones" (defArgs s_Llaw_stones) (defBody s_Llaw_stones) (defScope s_Llaw_stones) .none kV2 dc2 pm2 an2 cd2 ct2), sl2⟩) (c2 : PySem.W.codeIn K cd2 "_law_stones" = true) (k2 : PySem.W.keepIn K (.ref f2) = true)
    (a3 : PySem.W.nsIn K mainGlobals "_law_ends" = some (some (.ref f3)))
    (l3 : K.lookup f3 = some ⟨oc3, od3, .func (PySem.W.fnOf "_law_ends" "_law_ends" (defArgs s_Llaw_ends) (defBody s_Llaw_ends) (defScope s_Llaw_ends) .none kV3 dc3 pm3 an3 cd3 ct3), sl3⟩) (c3 : PySem.W.codeIn K cd3 "_law_ends" = true) (k3 : PySem.W.keepIn K (.ref f3) = true)
    (a4 : PySem.W.nsIn K mainGlobals "_law_span" = some (some (.ref f4)))
    (l4 : K.lookup f4 = some ⟨oc4, od4, .func (PySem.W.fnOf "_law_span" "_law_span" (defArgs s_Llaw_span) (defBody s_Llaw_span) (defScope s_Llaw_span) .none kV4 dc4 pm4 an4 cd4 ct4), sl4⟩) (c4 : PySem.W.codeIn K cd4 "_law_span" = true) (k4 : PySem.W.keepIn K (.ref f4) = true)
    (a5 : PySem.W.nsIn K mainGlobals "_law_closers" = some (some (.ref f5)))
    (l5 : K.lookup f5 = some ⟨oc5, od5, .func (PySem.W.fnOf "_law_closers" "_law_closers" (defArgs s_Llaw_closers) (defBody s_Llaw_closers) (defScope s_Llaw_closers) .none kV5 dc5 pm5 an5 cd5 ct5), sl5⟩) (c5 : PySem.W.codeIn K cd5 "_law_closers" = true) (k5 : PySem.W.keepIn K (.ref f5) = true)
    (a6 : PySem.W.nsIn K mainGlobals "_law_heads" = some (some (.ref f6)))
    (l6 : K.lookup f6 = some ⟨oc6, od6, .func (PySem.W.fnOf "_law_heads" "_law_heads" (defArgs s_Llaw_heads) (defBody s_Llaw_heads) (defScope s_Llaw_heads) .none kV6 dc6 pm6 an6 cd6 ct6), sl6⟩) (c6 : PySem.W.codeIn K cd6 "_law_heads" = true) (k6 : PySem.W.keepIn K (.ref f6) = true)
    (a7 : PySem.W.nsIn K mainGlobals "_law_rule" = some (some (.ref f7)))
    (l7 : K.lookup f7 = some ⟨oc7, od7, .func (PySem.W.fnOf "_law_rule" "_law_rule" (defArgs s_Llaw_rule) (defBody s_Llaw_rule) (defScope s_Llaw_rule) .none kV7 dc7 pm7 an7 cd7 ct7), sl7⟩) (c7 : PySem.W.codeIn K cd7 "_law_rule" = true) (k7 : PySem.W.keepIn K (.ref f7) = true)
    (a8 : PySem.W.nsIn K mainGlobals "_law_row" = some (some (.ref f8)))
    (l8 : K.lookup f8 = some ⟨oc8, od8, .func (PySem.W.fnOf "_law_row" "_law_row" (defArgs s_Llaw_row) (defBody s_Llaw_row) (defScope s_Llaw_row) .none kV8 dc8 pm8 an8 cd8 ct8), sl8⟩) (c8 : PySem.W.codeIn K cd8 "_law_row" = true) (k8 : PySem.W.keepIn K (.ref f8) = true)
    (a9 : PySem.W.nsIn K mainGlobals "_law_may" = some (some (.ref f9)))
    (l9 : K.lookup f9 = some ⟨oc9, od9, .func (PySem.W.fnOf "_law_may" "_law_may" (defArgs s_Llaw_may) (defBody s_Llaw_may) (defScope s_Llaw_may) .none kV9 dc9 pm9 an9 cd9 ct9), sl9⟩) (c9 : PySem.W.codeIn K cd9 "_law_may" = true) (k9 : PySem.W.keepIn K (.ref f9) = true)
    (a10 : PySem.W.findIn K (.ref C) "__contains__" = some (some (.ref f10))) (i10 : PySem.W.isFn K (.ref f10) = true)
    (l10 : K.lookup f10 = some ⟨oc10, od10, .func (PySem.W.fnOf "__contains__" "Row.__contains__" (defArgs s_Row___contains__) (defBody s_Row___contains__) (defScope s_Row___contains__) .none kV10 dc10 pm10 an10 cd10 ct10), sl10⟩) (c10 : PySem.W.codeIn K cd10 "Row.__contains__" = true) (k10 : PySem.W.keepIn K (.ref f10) = true)
    (a11 : PySem.W.nsIn K mainGlobals "span" = some (some (.ref f11)))
    (l11 : K.lookup f11 = some ⟨oc11, od11, .func (PySem.W.fnOf "span" "span" (defArgs s_span) (defBody s_span) (defScope s_span) .none kV11 dc11 pm11 an11 cd11 ct11), sl11⟩) (c11 : PySem.W.codeIn K cd11 "span" = true) (k11 : PySem.W.keepIn K (.ref f11) = true)
    (a12 : PySem.W.nsIn K mainGlobals "span_of" = some (some (.ref f12)))
    (l12 : K.lookup f12 = some ⟨oc12, od12, .func (PySem.W.fnOf "span_of" "span_of" (defArgs s_span_of) (defBody s_span_of) (defScope s_span_of) .none kV12 dc12 pm12 an12 cd12 ct12), sl12⟩) (c12 : PySem.W.codeIn K cd12 "span_of" = true) (k12 : PySem.W.keepIn K (.ref f12) = true)
    (a13 : PySem.W.nsIn K mainGlobals "lot" = some (some (.ref f13)))
    (l13 : K.lookup f13 = some ⟨oc13, od13, .func (PySem.W.fnOf "lot" "lot" (defArgs s_lot) (defBody s_lot) (defScope s_lot) .none kV13 dc13 pm13 an13 cd13 ct13), sl13⟩) (c13 : PySem.W.codeIn K cd13 "lot" = true) (k13 : PySem.W.keepIn K (.ref f13) = true)
    (a14 : PySem.W.nsIn K mainGlobals "open_ahead" = some (some (.ref f14)))
    (l14 : K.lookup f14 = some ⟨oc14, od14, .func (PySem.W.fnOf "open_ahead" "open_ahead" (defArgs s_open_ahead) (defBody s_open_ahead) (defScope s_open_ahead) .none kV14 dc14 pm14 an14 cd14 ct14), sl14⟩) (c14 : PySem.W.codeIn K cd14 "open_ahead" = true) (k14 : PySem.W.keepIn K (.ref f14) = true)
    (a15 : PySem.W.nsIn K mainGlobals "open_behind" = some (some (.ref f15)))
    (l15 : K.lookup f15 = some ⟨oc15, od15, .func (PySem.W.fnOf "open_behind" "open_behind" (defArgs s_open_behind) (defBody s_open_behind) (defScope s_open_behind) .none kV15 dc15 pm15 an15 cd15 ct15), sl15⟩) (c15 : PySem.W.codeIn K cd15 "open_behind" = true) (k15 : PySem.W.keepIn K (.ref f15) = true)
    (a16 : PySem.W.nsIn K mainGlobals "closers" = some (some (.ref f16)))
    (l16 : K.lookup f16 = some ⟨oc16, od16, .func (PySem.W.fnOf "closers" "closers" (defArgs s_closers) (defBody s_closers) (defScope s_closers) .none kV16 dc16 pm16 an16 cd16 ct16), sl16⟩) (c16 : PySem.W.codeIn K cd16 "closers" = true) (k16 : PySem.W.keepIn K (.ref f16) = true)
    (a17 : PySem.W.nsIn K mainGlobals "is_record" = some (some (.ref f17)))
    (l17 : K.lookup f17 = some ⟨oc17, od17, .func (PySem.W.fnOf "is_record" "is_record" (defArgs s_is_record) (defBody s_is_record) (defScope s_is_record) .none kV17 dc17 pm17 an17 cd17 ct17), sl17⟩) (c17 : PySem.W.codeIn K cd17 "is_record" = true) (k17 : PySem.W.keepIn K (.ref f17) = true)
    (a18 : PySem.W.nsIn K mainGlobals "heads" = some (some (.ref f18)))
    (l18 : K.lookup f18 = some ⟨oc18, od18, .func (PySem.W.fnOf "heads" "heads" (defArgs s_heads) (defBody s_heads) (defScope s_heads) .none kV18 dc18 pm18 an18 cd18 ct18), sl18⟩) (c18 : PySem.W.codeIn K cd18 "heads" = true) (k18 : PySem.W.keepIn K (.ref f18) = true)
    (a19 : PySem.W.nsIn K mainGlobals "lets" = some (some (.ref f19)))
    (l19 : K.lookup f19 = some ⟨oc19, od19, .func (PySem.W.fnOf "lets" "lets" (defArgs s_lets) (defBody s_lets) (defScope s_lets) .none kV19 dc19 pm19 an19 cd19 ct19), sl19⟩) (c19 : PySem.W.codeIn K cd19 "lets" = true) (k19 : PySem.W.keepIn K (.ref f19) = true)
    (a20 : PySem.W.nsIn K mainGlobals "is_let" = some (some (.ref f20)))
    (l20 : K.lookup f20 = some ⟨oc20, od20, .func (PySem.W.fnOf "is_let" "is_let" (defArgs s_is_let) (defBody s_is_let) (defScope s_is_let) .none kV20 dc20 pm20 an20 cd20 ct20), sl20⟩) (c20 : PySem.W.codeIn K cd20 "is_let" = true) (k20 : PySem.W.keepIn K (.ref f20) = true)
    (a21 : PySem.W.nsIn K mainGlobals "free_heads" = some (some (.ref f21)))
    (l21 : K.lookup f21 = some ⟨oc21, od21, .func (PySem.W.fnOf "free_heads" "free_heads" (defArgs s_free_heads) (defBody s_free_heads) (defScope s_free_heads) .none kV21 dc21 pm21 an21 cd21 ct21), sl21⟩) (c21 : PySem.W.codeIn K cd21 "free_heads" = true) (k21 : PySem.W.keepIn K (.ref f21) = true)
    (a22 : PySem.W.nsIn K mainGlobals "stretches" = some (some (.ref f22)))
    (l22 : K.lookup f22 = some ⟨oc22, od22, .func (PySem.W.fnOf "stretches" "stretches" (defArgs s_stretches) (defBody s_stretches) (defScope s_stretches) .none kV22 dc22 pm22 an22 cd22 ct22), sl22⟩) (c22 : PySem.W.codeIn K cd22 "stretches" = true) (k22 : PySem.W.keepIn K (.ref f22) = true)
    (a23 : PySem.W.nsIn K mainGlobals "fits" = some (some (.ref f23)))
    (l23 : K.lookup f23 = some ⟨oc23, od23, .func (PySem.W.fnOf "fits" "fits" (defArgs s_fits) (defBody s_fits) (defScope s_fits) .none kV23 dc23 pm23 an23 cd23 ct23), sl23⟩) (c23 : PySem.W.codeIn K cd23 "fits" = true) (k23 : PySem.W.keepIn K (.ref f23) = true)
    (a24 : PySem.W.nsIn K mainGlobals "check_stones" = some (some (.ref f24)))
    (l24 : K.lookup f24 = some ⟨oc24, od24, .func (PySem.W.fnOf "check_stones" "check_stones" (defArgs s_check_stones) (defBody s_check_stones) (defScope s_check_stones) .none kV24 dc24 pm24 an24 cd24 ct24), sl24⟩) (c24 : PySem.W.codeIn K cd24 "check_stones" = true) (k24 : PySem.W.keepIn K (.ref f24) = true)
    (a25 : PySem.W.nsIn K mainGlobals "check_ends" = some (some (.ref f25)))
    (l25 : K.lookup f25 = some ⟨oc25, od25, .func (PySem.W.fnOf "check_ends" "check_ends" (defArgs s_check_ends) (defBody s_check_ends) (defScope s_check_ends) .none kV25 dc25 pm25 an25 cd25 ct25), sl25⟩) (c25 : PySem.W.codeIn K cd25 "check_ends" = true) (k25 : PySem.W.keepIn K (.ref f25) = true)
    (a26 : PySem.W.nsIn K mainGlobals "check_rule" = some (some (.ref f26)))
    (l26 : K.lookup f26 = some ⟨oc26, od26, .func (PySem.W.fnOf "check_rule" "check_rule" (defArgs s_check_rule) (defBody s_check_rule) (defScope s_check_rule) .none kV26 dc26 pm26 an26 cd26 ct26), sl26⟩) (c26 : PySem.W.codeIn K cd26 "check_rule" = true) (k26 : PySem.W.keepIn K (.ref f26) = true)
    (a27 : PySem.W.findIn K (.ref C) "__init__" = some (some (.ref f27))) (i27 : PySem.W.isFn K (.ref f27) = true)
    (l27 : K.lookup f27 = some ⟨oc27, od27, .func (PySem.W.fnOf "__init__" "Row.__init__" (defArgs s_Row___init__) (defBody s_Row___init__) (defScope s_Row___init__) .none kV27 dc27 pm27 an27 cd27 ct27), sl27⟩) (c27 : PySem.W.codeIn K cd27 "Row.__init__" = true) (k27 : PySem.W.keepIn K (.ref f27) = true)
    (a28 : PySem.W.nsIn K mainGlobals "_law_right" = some (some (.ref f28)))
    (l28 : K.lookup f28 = some ⟨oc28, od28, .func (PySem.W.fnOf "_law_right" "_law_right" (defArgs s_Llaw_right) (defBody s_Llaw_right) (defScope s_Llaw_right) .none kV28 dc28 pm28 an28 cd28 ct28), sl28⟩) (c28 : PySem.W.codeIn K cd28 "_law_right" = true) (k28 : PySem.W.keepIn K (.ref f28) = true)
    (a29 : PySem.W.nsIn K mainGlobals "_law_pool" = some (some (.ref f29)))
    (l29 : K.lookup f29 = some ⟨oc29, od29, .func (PySem.W.fnOf "_law_pool" "_law_pool" (defArgs s_Llaw_pool) (defBody s_Llaw_pool) (defScope s_Llaw_pool) .none kV29 dc29 pm29 an29 cd29 ct29), sl29⟩) (c29 : PySem.W.codeIn K cd29 "_law_pool" = true) (k29 : PySem.W.keepIn K (.ref f29) = true)
    (a30 : PySem.W.nsIn K mainGlobals "law" = some (some (.ref f30)))
    (l30 : K.lookup f30 = some ⟨oc30, od30, .func (PySem.W.fnOf "law" "law" (defArgs s_law) (defBody s_law) (defScope s_law) .none kV30 dc30 pm30 an30 cd30 ct30), sl30⟩) (c30 : PySem.W.codeIn K cd30 "law" = true) (k30 : PySem.W.keepIn K (.ref f30) = true) : Txt K mg C (fun _ => 0) where
  m_C := PySem.W.mg_of X G aC
  cl := ⟨pg, hd, po, sa⟩
  na_stones := na_stones
  na_ends := na_ends
  na_rule := na_rule
  z_abs := PySem.W.mg_none_of X G z_abs
  z_enumerate := PySem.W.mg_none_of X G z_enumerate
  z_int := PySem.W.mg_none_of X G z_int
  z_len := PySem.W.mg_none_of X G z_len
  z_max := PySem.W.mg_none_of X G z_max
  z_min := PySem.W.mg_none_of X G z_min
  z_range := PySem.W.mg_none_of X G z_range
  z_set := PySem.W.mg_none_of X G z_set
  z_sorted := PySem.W.mg_none_of X G z_sorted
  z_tuple := PySem.W.mg_none_of X G z_tuple
  f_Llaw_take := f0
  fd_Llaw_take := PySem.W.fnOf "_law_take" "_law_take" (defArgs s_Llaw_take) (defBody s_Llaw_take) (defScope s_Llaw_take) .none kV0 dc0 pm0 an0 cd0 ct0
  F_Llaw_take := fun_mk (st := s_Llaw_take) l0 c0 k0
  m_Llaw_take := PySem.W.mg_of X G a0
  b_Llaw_take := (fun_mk (st := s_Llaw_take) l0 c0 k0).binds (ps := P_Llaw_take) fun _ _ _ _ _ _ us hl => match us, hl with | [_, _], _ => rfl
  f_Llaw_one := f1
  fd_Llaw_one := PySem.W.fnOf "_law_one" "_law_one" (defArgs s_Llaw_one) (defBody s_Llaw_one) (defScope s_Llaw_one) .none kV1 dc1 pm1 an1 cd1 ct1
  F_Llaw_one := fun_mk (st := s_Llaw_one) l1 c1 k1
  m_Llaw_one := PySem.W.mg_of X G a1
  b_Llaw_one := (fun_mk (st := s_Llaw_one) l1 c1 k1).binds (ps := P_Llaw_one) fun _ _ _ _ _ _ us hl => match us, hl with | [_, _], _ => rfl
  f_Llaw_stones := f2
  fd_Llaw_stones := PySem.W.fnOf "_law_stones" "_law_stones" (defArgs s_Llaw_stones) (defBody s_Llaw_stones) (defScope s_Llaw_stones) .none kV2 dc2 pm2 an2 cd2 ct2
  F_Llaw_stones := fun_mk (st := s_Llaw_stones) l2 c2 k2
  m_Llaw_stones := PySem.W.mg_of X G a2
  b_Llaw_stones := (fun_mk (st := s_Llaw_stones) l2 c2 k2).binds (ps := P_Llaw_stones) fun _ _ _ _ _ _ us hl => match us, hl with | [_, _], _ => rfl
  f_Llaw_ends := f3
  fd_Llaw_ends := PySem.W.fnOf "_law_ends" "_law_ends" (defArgs s_Llaw_ends) (defBody s_Llaw_ends) (defScope s_Llaw_ends) .none kV3 dc3 pm3 an3 cd3 ct3
  F_Llaw_ends := fun_mk (st := s_Llaw_ends) l3 c3 k3
  m_Llaw_ends := PySem.W.mg_of X G a3
  b_Llaw_ends := (fun_mk (st := s_Llaw_ends) l3 c3 k3).binds (ps := P_Llaw_ends) fun _ _ _ _ _ _ us hl => match us, hl with | [_], _ => rfl
  f_Llaw_span := f4
  fd_Llaw_span := PySem.W.fnOf "_law_span" "_law_span" (defArgs s_Llaw_span) (defBody s_Llaw_span) (defScope s_Llaw_span) .none kV4 dc4 pm4 an4 cd4 ct4
  F_Llaw_span := fun_mk (st := s_Llaw_span) l4 c4 k4
  m_Llaw_span := PySem.W.mg_of X G a4
  b_Llaw_span := (fun_mk (st := s_Llaw_span) l4 c4 k4).binds (ps := P_Llaw_span) fun _ _ _ _ _ _ us hl => match us, hl with | [_, _], _ => rfl
  f_Llaw_closers := f5
  fd_Llaw_closers := PySem.W.fnOf "_law_closers" "_law_closers" (defArgs s_Llaw_closers) (defBody s_Llaw_closers) (defScope s_Llaw_closers) .none kV5 dc5 pm5 an5 cd5 ct5
  F_Llaw_closers := fun_mk (st := s_Llaw_closers) l5 c5 k5
  m_Llaw_closers := PySem.W.mg_of X G a5
  b_Llaw_closers := (fun_mk (st := s_Llaw_closers) l5 c5 k5).binds (ps := P_Llaw_closers) fun _ _ _ _ _ _ us hl => match us, hl with | [_, _, _], _ => rfl
  f_Llaw_heads := f6
  fd_Llaw_heads := PySem.W.fnOf "_law_heads" "_law_heads" (defArgs s_Llaw_heads) (defBody s_Llaw_heads) (defScope s_Llaw_heads) .none kV6 dc6 pm6 an6 cd6 ct6
  F_Llaw_heads := fun_mk (st := s_Llaw_heads) l6 c6 k6
  m_Llaw_heads := PySem.W.mg_of X G a6
  b_Llaw_heads := (fun_mk (st := s_Llaw_heads) l6 c6 k6).binds (ps := P_Llaw_heads) fun _ _ _ _ _ _ us hl => match us, hl with | [_, _], _ => rfl
  f_Llaw_rule := f7
  fd_Llaw_rule := PySem.W.fnOf "_law_rule" "_law_rule" (defArgs s_Llaw_rule) (defBody s_Llaw_rule) (defScope s_Llaw_rule) .none kV7 dc7 pm7 an7 cd7 ct7
  F_Llaw_rule := fun_mk (st := s_Llaw_rule) l7 c7 k7
  m_Llaw_rule := PySem.W.mg_of X G a7
  b_Llaw_rule := (fun_mk (st := s_Llaw_rule) l7 c7 k7).binds (ps := P_Llaw_rule) fun _ _ _ _ _ _ us hl => match us, hl with | [_, _, _], _ => rfl
  f_Llaw_row := f8
  fd_Llaw_row := PySem.W.fnOf "_law_row" "_law_row" (defArgs s_Llaw_row) (defBody s_Llaw_row) (defScope s_Llaw_row) .none kV8 dc8 pm8 an8 cd8 ct8
  F_Llaw_row := fun_mk (st := s_Llaw_row) l8 c8 k8
  m_Llaw_row := PySem.W.mg_of X G a8
  b_Llaw_row := (fun_mk (st := s_Llaw_row) l8 c8 k8).binds (ps := P_Llaw_row) fun _ _ _ _ _ _ us hl => match us, hl with | [_], _ => rfl
  f_Llaw_may := f9
  fd_Llaw_may := PySem.W.fnOf "_law_may" "_law_may" (defArgs s_Llaw_may) (defBody s_Llaw_may) (defScope s_Llaw_may) .none kV9 dc9 pm9 an9 cd9 ct9
  F_Llaw_may := fun_mk (st := s_Llaw_may) l9 c9 k9
  m_Llaw_may := PySem.W.mg_of X G a9
  b_Llaw_may := (fun_mk (st := s_Llaw_may) l9 c9 k9).binds (ps := P_Llaw_may) fun _ _ _ _ _ _ us hl => match us, hl with | [_, _, _, _, _], _ => rfl
  f_Row___contains__ := f10
  fd_Row___contains__ := PySem.W.fnOf "__contains__" "Row.__contains__" (defArgs s_Row___contains__) (defBody s_Row___contains__) (defScope s_Row___contains__) .none kV10 dc10 pm10 an10 cd10 ct10
  F_Row___contains__ := fun_mk (st := s_Row___contains__) l10 c10 k10
  b_Row___contains__ := (fun_mk (st := s_Row___contains__) l10 c10 k10).binds (ps := P_Row___contains__) fun _ _ _ _ _ _ us hl => match us, hl with | [_, _], _ => rfl
  me_contains := ⟨a10, i10, k10⟩
  f_span := f11
  fd_span := PySem.W.fnOf "span" "span" (defArgs s_span) (defBody s_span) (defScope s_span) .none kV11 dc11 pm11 an11 cd11 ct11
  F_span := fun_mk (st := s_span) l11 c11 k11
  m_span := PySem.W.mg_of X G a11
  b_span := (fun_mk (st := s_span) l11 c11 k11).binds (ps := P_span) fun _ _ _ _ _ _ us hl => match us, hl with | [_, _], _ => rfl
  f_span_of := f12
  fd_span_of := PySem.W.fnOf "span_of" "span_of" (defArgs s_span_of) (defBody s_span_of) (defScope s_span_of) .none kV12 dc12 pm12 an12 cd12 ct12
  F_span_of := fun_mk (st := s_span_of) l12 c12 k12
  m_span_of := PySem.W.mg_of X G a12
  b_span_of := (fun_mk (st := s_span_of) l12 c12 k12).binds (ps := P_span_of) fun _ _ _ _ _ _ us hl => match us, hl with | [_, _], _ => rfl
  f_lot := f13
  fd_lot := PySem.W.fnOf "lot" "lot" (defArgs s_lot) (defBody s_lot) (defScope s_lot) .none kV13 dc13 pm13 an13 cd13 ct13
  F_lot := fun_mk (st := s_lot) l13 c13 k13
  m_lot := PySem.W.mg_of X G a13
  b_lot := (fun_mk (st := s_lot) l13 c13 k13).binds (ps := P_lot) fun _ _ _ _ _ _ us hl => match us, hl with | [_, _], _ => rfl
  f_open_ahead := f14
  fd_open_ahead := PySem.W.fnOf "open_ahead" "open_ahead" (defArgs s_open_ahead) (defBody s_open_ahead) (defScope s_open_ahead) .none kV14 dc14 pm14 an14 cd14 ct14
  F_open_ahead := fun_mk (st := s_open_ahead) l14 c14 k14
  m_open_ahead := PySem.W.mg_of X G a14
  b_open_ahead := (fun_mk (st := s_open_ahead) l14 c14 k14).binds (ps := P_open_ahead) fun _ _ _ _ _ _ us hl => match us, hl with | [_], _ => rfl
  f_open_behind := f15
  fd_open_behind := PySem.W.fnOf "open_behind" "open_behind" (defArgs s_open_behind) (defBody s_open_behind) (defScope s_open_behind) .none kV15 dc15 pm15 an15 cd15 ct15
  F_open_behind := fun_mk (st := s_open_behind) l15 c15 k15
  m_open_behind := PySem.W.mg_of X G a15
  b_open_behind := (fun_mk (st := s_open_behind) l15 c15 k15).binds (ps := P_open_behind) fun _ _ _ _ _ _ us hl => match us, hl with | [_], _ => rfl
  f_closers := f16
  fd_closers := PySem.W.fnOf "closers" "closers" (defArgs s_closers) (defBody s_closers) (defScope s_closers) .none kV16 dc16 pm16 an16 cd16 ct16
  F_closers := fun_mk (st := s_closers) l16 c16 k16
  m_closers := PySem.W.mg_of X G a16
  b_closers := (fun_mk (st := s_closers) l16 c16 k16).binds (ps := P_closers) fun _ _ _ _ _ _ us hl => match us, hl with | [_, _], _ => rfl
  f_is_record := f17
  fd_is_record := PySem.W.fnOf "is_record" "is_record" (defArgs s_is_record) (defBody s_is_record) (defScope s_is_record) .none kV17 dc17 pm17 an17 cd17 ct17
  F_is_record := fun_mk (st := s_is_record) l17 c17 k17
  m_is_record := PySem.W.mg_of X G a17
  b_is_record := (fun_mk (st := s_is_record) l17 c17 k17).binds (ps := P_is_record) fun _ _ _ _ _ _ us hl => match us, hl with | [_, _], _ => rfl
  f_heads := f18
  fd_heads := PySem.W.fnOf "heads" "heads" (defArgs s_heads) (defBody s_heads) (defScope s_heads) .none kV18 dc18 pm18 an18 cd18 ct18
  F_heads := fun_mk (st := s_heads) l18 c18 k18
  m_heads := PySem.W.mg_of X G a18
  b_heads := (fun_mk (st := s_heads) l18 c18 k18).binds (ps := P_heads) fun _ _ _ _ _ _ us hl => match us, hl with | [_], _ => rfl
  f_lets := f19
  fd_lets := PySem.W.fnOf "lets" "lets" (defArgs s_lets) (defBody s_lets) (defScope s_lets) .none kV19 dc19 pm19 an19 cd19 ct19
  F_lets := fun_mk (st := s_lets) l19 c19 k19
  m_lets := PySem.W.mg_of X G a19
  b_lets := (fun_mk (st := s_lets) l19 c19 k19).binds (ps := P_lets) fun _ _ _ _ _ _ us hl => match us, hl with | [_, _], _ => rfl
  f_is_let := f20
  fd_is_let := PySem.W.fnOf "is_let" "is_let" (defArgs s_is_let) (defBody s_is_let) (defScope s_is_let) .none kV20 dc20 pm20 an20 cd20 ct20
  F_is_let := fun_mk (st := s_is_let) l20 c20 k20
  m_is_let := PySem.W.mg_of X G a20
  b_is_let := (fun_mk (st := s_is_let) l20 c20 k20).binds (ps := P_is_let) fun _ _ _ _ _ _ us hl => match us, hl with | [_, _], _ => rfl
  f_free_heads := f21
  fd_free_heads := PySem.W.fnOf "free_heads" "free_heads" (defArgs s_free_heads) (defBody s_free_heads) (defScope s_free_heads) .none kV21 dc21 pm21 an21 cd21 ct21
  F_free_heads := fun_mk (st := s_free_heads) l21 c21 k21
  m_free_heads := PySem.W.mg_of X G a21
  b_free_heads := (fun_mk (st := s_free_heads) l21 c21 k21).binds (ps := P_free_heads) fun _ _ _ _ _ _ us hl => match us, hl with | [_], _ => rfl
  f_stretches := f22
  fd_stretches := PySem.W.fnOf "stretches" "stretches" (defArgs s_stretches) (defBody s_stretches) (defScope s_stretches) .none kV22 dc22 pm22 an22 cd22 ct22
  F_stretches := fun_mk (st := s_stretches) l22 c22 k22
  m_stretches := PySem.W.mg_of X G a22
  b_stretches := (fun_mk (st := s_stretches) l22 c22 k22).binds (ps := P_stretches) fun _ _ _ _ _ _ us hl => match us, hl with | [_], _ => rfl
  kb_stretches := KB.mk' (fun_mk (st := s_stretches) l22 c22 k22) fun _ _ _ _ _ _ us ws h1 h2 => match us, ws, h1, h2 with | [], [_], _, _ => rfl
  f_fits := f23
  fd_fits := PySem.W.fnOf "fits" "fits" (defArgs s_fits) (defBody s_fits) (defScope s_fits) .none kV23 dc23 pm23 an23 cd23 ct23
  F_fits := fun_mk (st := s_fits) l23 c23 k23
  m_fits := PySem.W.mg_of X G a23
  b_fits := (fun_mk (st := s_fits) l23 c23 k23).binds (ps := P_fits) fun _ _ _ _ _ _ us hl => match us, hl with | [_], _ => rfl
  f_check_stones := f24
  fd_check_stones := PySem.W.fnOf "check_stones" "check_stones" (defArgs s_check_stones) (defBody s_check_stones) (defScope s_check_stones) .none kV24 dc24 pm24 an24 cd24 ct24
  F_check_stones := fun_mk (st := s_check_stones) l24 c24 k24
  m_check_stones := PySem.W.mg_of X G a24
  b_check_stones := (fun_mk (st := s_check_stones) l24 c24 k24).binds (ps := P_check_stones) fun _ _ _ _ _ _ us hl => match us, hl with | [_, _], _ => rfl
  f_check_ends := f25
  fd_check_ends := PySem.W.fnOf "check_ends" "check_ends" (defArgs s_check_ends) (defBody s_check_ends) (defScope s_check_ends) .none kV25 dc25 pm25 an25 cd25 ct25
  F_check_ends := fun_mk (st := s_check_ends) l25 c25 k25
  m_check_ends := PySem.W.mg_of X G a25
  b_check_ends := (fun_mk (st := s_check_ends) l25 c25 k25).binds (ps := P_check_ends) fun _ _ _ _ _ _ us hl => match us, hl with | [_], _ => rfl
  f_check_rule := f26
  fd_check_rule := PySem.W.fnOf "check_rule" "check_rule" (defArgs s_check_rule) (defBody s_check_rule) (defScope s_check_rule) .none kV26 dc26 pm26 an26 cd26 ct26
  F_check_rule := fun_mk (st := s_check_rule) l26 c26 k26
  m_check_rule := PySem.W.mg_of X G a26
  b_check_rule := (fun_mk (st := s_check_rule) l26 c26 k26).binds (ps := P_check_rule) fun _ _ _ _ _ _ us hl => match us, hl with | [_], _ => rfl
  f_Row___init__ := f27
  fd_Row___init__ := PySem.W.fnOf "__init__" "Row.__init__" (defArgs s_Row___init__) (defBody s_Row___init__) (defScope s_Row___init__) .none kV27 dc27 pm27 an27 cd27 ct27
  F_Row___init__ := fun_mk (st := s_Row___init__) l27 c27 k27
  kb_Row___init__ := KB.mk' (fun_mk (st := s_Row___init__) l27 c27 k27) fun _ _ _ _ _ _ us ws h1 h2 => match us, ws, h1, h2 with | [_, _], [_, _], _, _ => rfl
  mkC := ⟨mk, a27, i27, kc⟩
  f_Llaw_right := f28
  fd_Llaw_right := PySem.W.fnOf "_law_right" "_law_right" (defArgs s_Llaw_right) (defBody s_Llaw_right) (defScope s_Llaw_right) .none kV28 dc28 pm28 an28 cd28 ct28
  F_Llaw_right := fun_mk (st := s_Llaw_right) l28 c28 k28
  m_Llaw_right := PySem.W.mg_of X G a28
  b_Llaw_right := (fun_mk (st := s_Llaw_right) l28 c28 k28).binds (ps := P_Llaw_right) fun _ _ _ _ _ _ us hl => match us, hl with | [_], _ => rfl
  f_Llaw_pool := f29
  fd_Llaw_pool := PySem.W.fnOf "_law_pool" "_law_pool" (defArgs s_Llaw_pool) (defBody s_Llaw_pool) (defScope s_Llaw_pool) .none kV29 dc29 pm29 an29 cd29 ct29
  F_Llaw_pool := fun_mk (st := s_Llaw_pool) l29 c29 k29
  m_Llaw_pool := PySem.W.mg_of X G a29
  b_Llaw_pool := (fun_mk (st := s_Llaw_pool) l29 c29 k29).binds (ps := P_Llaw_pool) fun _ _ _ _ _ _ us hl => match us, hl with | [_, _], _ => rfl
  f_law := f30
  fd_law := PySem.W.fnOf "law" "law" (defArgs s_law) (defBody s_law) (defScope s_law) .none kV30 dc30 pm30 an30 cd30 ct30
  F_law := fun_mk (st := s_law) l30 c30 k30
  m_law := PySem.W.mg_of X G a30
  b_law := (fun_mk (st := s_law) l30 c30 k30).binds (ps := P_law) fun _ _ _ _ _ _ us hl => match us, hl with | [_], _ => rfl
  bA := fun s v => .of_eq rfl
def spAll (K : PySem.W.Frag) : Sp := fun vs H Q _ => ∃ (a : Addr) (ns : List Int), vs = [.ref a] ∧ SqL K H a (ns.map V.int) ∧ ns.length ≤ 63 ∧ ∀ H', Q (.bl true) H'
theorem end_of {C fa : Addr} {cls : Str → Addr} (T : Txt K mg C cls) (hfa : mg "law" = some (.ref fa)) (hm : ∀ (C : Addr) (ns : List Int), ns.length ≤ 63 → ∃ S, d_law C [.scr ns] [] = .ok (.bl true) S) :
    ∃ fd : FuncData, (∀ (s : Shared) (v : Value), BindsTo s fd ⟨[v], []⟩ [("_law_script", v)]) ∧ ∀ base : Heap, K.In base → base.Ns mainGlobals mg → FnOk P w K mg base (L2.CX P w) 9 fa fd ["_law_script"] (spAll K) := by
  have e := hfa.symm.trans T.m_law
  cases e
  refine ⟨T.fd_law, T.bA, fun base _ _ => (ok_law (w := w) T).imp fun vs H Q E q => ?_⟩
  obtain ⟨a, ns, rfl, hS, hl, k⟩ := q
  obtain ⟨S, hm⟩ := hm C ns hl
  refine ⟨rfl, [], H, [], [.scr ns], ⟨Same.refl _, rfl, fun i s v h => by simp at h, fun a h => absurd h no_own, fun i j s t a h => by simp at h, fun n a h => by simp at h, rfl, .nil⟩, .cons (.scr hS) .nil, ?_⟩
  rw [hm]
  intro φ' F' v H' o' a' r'
  cases r'
  exact k H'
end
end K06
open PySem PySem.W PyProof.Rows
set_option maxRecDepth 100000 in
set_option maxHeartbeats 0 in
theorem PySem.Challenge.cw_turnedvalleys_k06_stretches_that_may_be_holds : PySem.Challenge.rw_turnedvalleys_k06_stretches_that_may_be.Holds := by
  w_on; o_law; k_head; (case hw => w_witness2)
  k_fill
  refine L2.walk_of (l := PySem.Challenge.rw_turnedvalleys_k06_stretches_that_may_be) (n := 63) (k := 9) (x := "_law_script") (CX := fun w => L2.CX PySem.Challenge.rw_turnedvalleys_k06_stretches_that_may_be.prog w) (sp := fun w => K06.spAll _) rfl (by decide) rfl ⟨rfl, by decide, by decide⟩ (fun w h Y => PySem.W.kIn_of Y) ?F (fun _ _ a ns hl _ hS => ⟨a, ns, rfl, hS, hl, fun _ => rfl⟩) (fun _ _ _ _ _ h => by
    obtain ⟨_, _, _, _, _, _, _, _, _, _, _, _, z⟩ := h
    exact z.elim)
  case F =>
    intro w mg fa h KX G hmg
    refine' K06.end_of (K06.txt_mk KX G ?aC ?pg ?hd ?po ?sa ?mk ?kc ?na_stones ?na_ends ?na_rule ?z_abs ?z_enumerate ?z_int ?z_len ?z_max ?z_min ?z_range ?z_set ?z_sorted ?z_tuple ?a0 ?l0 ?c0 ?k0 ?a1 ?l1 ?c1 ?k1 ?a2 ?l2 ?c2 ?k2 ?a3 ?l3 ?c3 ?k3 ?a4 ?l4 ?c4 ?k4 ?a5 ?l5 ?c5 ?k5 ?a6 ?l6 ?c6 ?k6 ?a7 ?l7 ?c7 ?k7 ?a8 ?l8 ?c8 ?k8 ?a9 ?l9 ?c9 ?k9 ?a10 ?i10 ?l10 ?c10 ?k10 ?a11 ?l11 ?c11 ?k11 ?a12 ?l12 ?c12 ?k12 ?a13 ?l13 ?c13 ?k13 ?a14 ?l14 ?c14 ?k14 ?a15 ?l15 ?c15 ?k15 ?a16 ?l16 ?c16 ?k16 ?a17 ?l17 ?c17 ?k17 ?a18 ?l18 ?c18 ?k18 ?a19 ?l19 ?c19 ?k19 ?a20 ?l20 ?c20 ?k20 ?a21 ?l21 ?c21 ?k21 ?a22 ?l22 ?c22 ?k22 ?a23 ?l23 ?c23 ?k23 ?a24 ?l24 ?c24 ?k24 ?a25 ?l25 ?c25 ?k25 ?a26 ?l26 ?c26 ?k26 ?a27 ?i27 ?l27 ?c27 ?k27 ?a28 ?l28 ?c28 ?k28 ?a29 ?l29 ?c29 ?k29 ?a30 ?l30 ?c30 ?k30) hmg K06.law_true
    (case aC => first | k_is | rfl | decide +kernel); (case pg => first | k_is | rfl | decide +kernel); (case hd => first | k_is | rfl | decide +kernel); (case po => first | k_is | rfl | decide +kernel); (case sa => first | k_is | rfl | decide +kernel); (case mk => first | k_is | rfl | decide +kernel); (case kc => first | k_is | rfl | decide +kernel); (case na_stones => first | k_is | rfl | decide +kernel); (case na_ends => first | k_is | rfl | decide +kernel); (case na_rule => first | k_is | rfl | decide +kernel); (case z_abs => first | k_is | rfl | decide +kernel); (case z_enumerate => first | k_is | rfl | decide +kernel); (case z_int => first | k_is | rfl | decide +kernel); (case z_len => first | k_is | rfl | decide +kernel); (case z_max => first | k_is | rfl | decide +kernel); (case z_min => first | k_is | rfl | decide +kernel); (case z_range => first | k_is | rfl | decide +kernel); (case z_set => first | k_is | rfl | decide +kernel); (case z_sorted => first | k_is | rfl | decide +kernel); (case z_tuple => first | k_is | rfl | decide +kernel); (case a0 => first | k_is | rfl | decide +kernel); (case l0 => first | k_is | rfl | decide +kernel); (case c0 => first | k_is | rfl | decide +kernel); (case k0 => first | k_is | rfl | decide +kernel); (case a1 => first | k_is | rfl | decide +kernel); (case l1 => first | k_is | rfl | decide +kernel); (case c1 => first | k_is | rfl | decide +kernel); (case k1 => first | k_is | rfl | decide +kernel); (case a2 => first | k_is | rfl | decide +kernel); (case l2 => first | k_is | rfl | decide +kernel); (case c2 => first | k_is | rfl | decide +kernel); (case k2 => first | k_is | rfl | decide +kernel); (case a3 => first | k_is | rfl | decide +kernel); (case l3 => first | k_is | rfl | decide +kernel); (case c3 => first | k_is | rfl | decide +kernel); (case k3 => first | k_is | rfl | decide +kernel); (case a4 => first | k_is | rfl | decide +kernel); (case l4 => first | k_is | rfl | decide +kernel); (case c4 => first | k_is | rfl | decide +kernel); (case k4 => first | k_is | rfl | decide +kernel); (case a5 => first | k_is | rfl | decide +kernel); (case l5 => first | k_is | rfl | decide +kernel); (case c5 => first | k_is | rfl | decide +kernel); (case k5 => first | k_is | rfl | decide +kernel); (case a6 => first | k_is | rfl | decide +kernel); (case l6 => first | k_is | rfl | decide +kernel); (case c6 => first | k_is | rfl | decide +kernel); (case k6 => first | k_is | rfl | decide +kernel); (case a7 => first | k_is | rfl | decide +kernel); (case l7 => first | k_is | rfl | decide +kernel); (case c7 => first | k_is | rfl | decide +kernel); (case k7 => first | k_is | rfl | decide +kernel); (case a8 => first | k_is | rfl | decide +kernel); (case l8 => first | k_is | rfl | decide +kernel); (case c8 => first | k_is | rfl | decide +kernel); (case k8 => first | k_is | rfl | decide +kernel); (case a9 => first | k_is | rfl | decide +kernel); (case l9 => first | k_is | rfl | decide +kernel); (case c9 => first | k_is | rfl | decide +kernel); (case k9 => first | k_is | rfl | decide +kernel); (case a10 => first | k_is | rfl | decide +kernel); (case i10 => first | k_is | rfl | decide +kernel); (case l10 => first | k_is | rfl | decide +kernel); (case c10 => first | k_is | rfl | decide +kernel); (case k10 => first | k_is | rfl | decide +kernel); (case a11 => first | k_is | rfl | decide +kernel); (case l11 => first | k_is | rfl | decide +kernel); (case c11 => first | k_is | rfl | decide +kernel); (case k11 => first | k_is | rfl | decide +kernel); (case a12 => first | k_is | rfl | decide +kernel); (case l12 => first | k_is | rfl | decide +kernel); (case c12 => first | k_is | rfl | decide +kernel); (case k12 => first | k_is | rfl | decide +kernel); (case a13 => first | k_is | rfl | decide +kernel); (case l13 => first | k_is | rfl | decide +kernel); (case c13 => first | k_is | rfl | decide +kernel); (case k13 => first | k_is | rfl | decide +kernel); (case a14 => first | k_is | rfl | decide +kernel); (case l14 => first | k_is | rfl | decide +kernel); (case c14 => first | k_is | rfl | decide +kernel); (case k14 => first | k_is | rfl | decide +kernel); (case a15 => first | k_is | rfl | decide +kernel); (case l15 => first | k_is | rfl | decide +kernel); (case c15 => first | k_is | rfl | decide +kernel); (case k15 => first | k_is | rfl | decide +kernel); (case a16 => first | k_is | rfl | decide +kernel); (case l16 => first | k_is | rfl | decide +kernel); (case c16 => first | k_is | rfl | decide +kernel); (case k16 => first | k_is | rfl | decide +kernel); (case a17 => first | k_is | rfl | decide +kernel); (case l17 => first | k_is | rfl | decide +kernel); (case c17 => first | k_is | rfl | decide +kernel); (case k17 => first | k_is | rfl | decide +kernel); (case a18 => first | k_is | rfl | decide +kernel); (case l18 => first | k_is | rfl | decide +kernel); (case c18 => first | k_is | rfl | decide +kernel); (case k18 => first | k_is | rfl | decide +kernel); (case a19 => first | k_is | rfl | decide +kernel); (case l19 => first | k_is | rfl | decide +kernel); (case c19 => first | k_is | rfl | decide +kernel); (case k19 => first | k_is | rfl | decide +kernel); (case a20 => first | k_is | rfl | decide +kernel); (case l20 => first | k_is | rfl | decide +kernel); (case c20 => first | k_is | rfl | decide +kernel); (case k20 => first | k_is | rfl | decide +kernel); (case a21 => first | k_is | rfl | decide +kernel); (case l21 => first | k_is | rfl | decide +kernel); (case c21 => first | k_is | rfl | decide +kernel); (case k21 => first | k_is | rfl | decide +kernel); (case a22 => first | k_is | rfl | decide +kernel); (case l22 => first | k_is | rfl | decide +kernel); (case c22 => first | k_is | rfl | decide +kernel); (case k22 => first | k_is | rfl | decide +kernel); (case a23 => first | k_is | rfl | decide +kernel); (case l23 => first | k_is | rfl | decide +kernel); (case c23 => first | k_is | rfl | decide +kernel); (case k23 => first | k_is | rfl | decide +kernel); (case a24 => first | k_is | rfl | decide +kernel); (case l24 => first | k_is | rfl | decide +kernel); (case c24 => first | k_is | rfl | decide +kernel); (case k24 => first | k_is | rfl | decide +kernel); (case a25 => first | k_is | rfl | decide +kernel); (case l25 => first | k_is | rfl | decide +kernel); (case c25 => first | k_is | rfl | decide +kernel); (case k25 => first | k_is | rfl | decide +kernel); (case a26 => first | k_is | rfl | decide +kernel); (case l26 => first | k_is | rfl | decide +kernel); (case c26 => first | k_is | rfl | decide +kernel); (case k26 => first | k_is | rfl | decide +kernel); (case a27 => first | k_is | rfl | decide +kernel); (case i27 => first | k_is | rfl | decide +kernel); (case l27 => first | k_is | rfl | decide +kernel); (case c27 => first | k_is | rfl | decide +kernel); (case k27 => first | k_is | rfl | decide +kernel); (case a28 => first | k_is | rfl | decide +kernel); (case l28 => first | k_is | rfl | decide +kernel); (case c28 => first | k_is | rfl | decide +kernel); (case k28 => first | k_is | rfl | decide +kernel); (case a29 => first | k_is | rfl | decide +kernel); (case l29 => first | k_is | rfl | decide +kernel); (case c29 => first | k_is | rfl | decide +kernel); (case k29 => first | k_is | rfl | decide +kernel); (case a30 => first | k_is | rfl | decide +kernel); (case l30 => first | k_is | rfl | decide +kernel); (case c30 => first | k_is | rfl | decide +kernel); (case k30 => first | k_is | rfl | decide +kernel)
