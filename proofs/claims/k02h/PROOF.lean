import PyProof.Rows.All
import Wide.All
import OpenK.AllK
import Wide.FinOn
import PyProof.SeqIndex
import HandS.TupAny
import HandS.TupMul
import HandS.Strs
import HandS.ForMost
import HandS.ForExc
import HandS.CallSlots
import HandS.Lambda
import HandS.EndTab
import HandS.Deep
import HandS.Wide
import KE.Datum
import HandS.Conv
import PyProof.Rows.StrMul
import PyProof.Rows.StrJoinRep
import HandS.ExcCtx
import HandS.WordsExc
import HandS.Walk
import KE.DatumOrd
import HandS.StrMore
import HandS.ExcOwn
import HandS.AnyAll
import HandS.Style
import HandS.IsInst
import HandS.EndOwn
import PyProof.AutoSeq1
import KE.DataEq
import HandS.Defaults
import HandS.SortInts
import PySem.Challenge.RW_wirestack_k02_frames_in_a_row_of_bytes
set_option Elab.async false
set_option linter.all false
set_option maxRecDepth 100000
set_option maxHeartbeats 4000000
namespace Wv
open PySem PySem.Spec PyProof.Rows L2 HT
/-! ### tuples whose object is known -/
def NewT (H : Hp) (Q : VK) (xs : List V) : Prop := ∀ p o, o.dict = none → H p = none → Q (.ref p) (upd H p (.frz o (.tup xs)))
abbrev tupO (its : List Value) : Obj := { cls := .type "tuple", data := .seq its.toArray }
section
variable {X : Cx} {e : Expr} {es : List Expr} {te : TE} {t : TA} {pos : Pos}
theorem newT {pins : List (Addr × Obj)} {σ : L2.St} {H : Hp} {s : Shared} {xs : List V} {its : List Value} {Q : VK} (I : Inv X pins σ H s) (hz : xs.length ≤ sizeLine) (r : Vals xs its) (q : NewT H Q xs) :
    EP X pins σ Q (.ref s.heap.objs.size) { s with heap := s.heap.push (tupO its) } :=
  ⟨.ref s.heap.objs.size, upd H s.heap.objs.size (.frz (tupO its) (.tup xs)), I.laid (t' := s.toks) (fun b u e => Heap.get?_push_of_some _ e) (Nat.le_refl _)
    (show ObjOk X.prog X.w _ _ _ (.frz (tupO its) (.tup xs)) from ⟨Heap.get?_push_size _ rfl, hz, its, r, IsTup.new _ _⟩), rfl, q _ _ rfl (I.hok.fresh (Nat.le_refl _))⟩
def tTupF (t : TA) : TE := fun σ H Q => t σ H fun xs H1 => xs.length ≤ sizeLine ∧ NewT H1 Q xs
theorem pe_tupF {x1} (h : PA X es t) : PE X (.Tuple es x1 pos) (tTupF t) := by
  refine ⟨fun pins s σ H Q I hq => ?_⟩
  refine wpAny_Tuple_spliced (thn (h.run pos pins s σ H _ I hq) fun us s1 ⟨xs, H1, I1, r, z, q⟩ => ⟨by rw [← r.length]; exact z, ?_⟩)
  exact newT I1 z r q
def rCatF (K : PySem.W.Frag) : R2 := fun x y H Q => ∃ a b xs ys, x = .ref a ∧ y = .ref b ∧ SqT K H a xs ∧ SqT K H b ys ∧ xs.length + ys.length ≤ sizeLine ∧
  (xs = [] → Q (.ref b) H) ∧ (xs ≠ [] → ys = [] → Q (.ref a) H) ∧ (xs ≠ [] → ys ≠ [] → NewT H Q (xs ++ ys))
theorem op_catF : OpR X (binaryOp .Add) (rCatF X.K) := by
  intro pins s σ H x y v u Q I rx ry h
  obtain ⟨a, b, xs, ys, rfl, rfl, ha, hb, hz, q0, q1, q2⟩ := h
  by_cases hx : xs = []
  · subst hx
    cases rx
    cases ry
    obtain ⟨its, r1, p1, _⟩ := I.tuple ha
    obtain ⟨its2, r2, p2, _⟩ := I.tuple hb
    cases r1
    exact cat_tup0 p1 p2 ⟨.ref b, H, I, rfl, q0 rfl⟩
  · cases rx
    cases ry
    obtain ⟨its, r1, p1, _⟩ := I.tuple ha
    obtain ⟨its2, r2, p2, _⟩ := I.tuple hb
    refine HT.cat_tup p1 p2 (fun z => hx (r1.nil_iff.mp z)) (fun z => ⟨.ref a, H, I, rfl, q1 hx (r2.nil_iff.mp z)⟩) (fun z => ?_) (by rw [← r1.length, ← r2.length]; exact hz)
    exact newT I (by rw [List.length_append]; exact hz) (r1.append r2) (q2 hx fun w => z (r2.nil_iff.mpr w))
def rSlF (K : PySem.W.Frag) : V → Option Int → Option Int → Hp → VK → Prop := fun x lo hi H Q => ∃ a xs, x = .ref a ∧ SqT K H a xs ∧
  (HT.sIx xs.length 0 lo = 0 ∧ HT.sIx xs.length xs.length hi = xs.length → Q (.ref a) H) ∧ (¬ (HT.sIx xs.length 0 lo = 0 ∧ HT.sIx xs.length xs.length hi = xs.length) → NewT H Q (cutV xs lo hi))
theorem sl_tupF : SlR X (rSlF X.K) := by
  intro pins s σ H x v vl vu lo hi sl Q I rx hs pl pu h
  obtain ⟨a, xs, rfl, hx, q1, q2⟩ := h
  cases rx
  obtain ⟨its, r, ht, hz⟩ := I.tuple hx
  have hlen : its.toArray.size = xs.length := by rw [List.size_toArray]; exact r.length.symm
  refine ⟨"tuple", _, PyProof.Rows.slot_tuple_getitem.lookup, ht.typeIs, ?_⟩
  by_cases hw : HT.sIx xs.length 0 lo = 0 ∧ HT.sIx xs.length xs.length hi = xs.length
  · exact getItem_tuple_whole ht hs pl pu (by rw [hlen]; exact hw) ⟨.ref a, H, I, rfl, q1 hw⟩
  · refine HT.getItem_tuple_cut ht hs pl pu (by rw [hlen]; exact hw) ?_ (by rw [hlen]; exact hz)
    rw [hlen]
    exact newT I (Nat.le_trans (cutV_length xs lo hi) hz) ((r.drop (HT.sIx xs.length 0 lo)).take (HT.sIx xs.length xs.length hi - HT.sIx xs.length 0 lo)) (q2 hw)
def rRepF (K : PySem.W.Frag) : R2 := fun x y H Q => ∃ l k xs, x = .ref l ∧ y = .int k ∧ SqT K H l xs ∧ xs ≠ [] ∧ 2 ≤ k ∧ k ≤ 1000 ∧ xs.length ≤ 1000 ∧ NewT H Q (List.replicate k.toNat xs).flatten
theorem op_repF : OpR X (binaryOp .Mult) (rRepF X.K) := by
  intro pins s σ H x y v u Q I rx ry h
  obtain ⟨l, k, xs, rfl, rfl, hT, hne, h1, h2, hz, q⟩ := h
  cases rx
  obtain ⟨t, rfl⟩ := ry
  obtain ⟨its, r, ⟨⟨cls, dd, data, sl⟩, ho, hc, n, hd⟩, hs⟩ := I.tuple hT
  simp only at hc hd
  subst hc hd
  have hle : its.length = xs.length := r.length.symm
  have hn : its ≠ [] := fun e => hne (by
    rw [e] at hle
    exact List.eq_nil_of_length_eq_zero hle.symm)
  have hi : its.toArray.isEmpty = false := by
    cases its with
    | nil => exact absurd rfl hn
    | cons a b => rfl
  have hsz0 : its.toArray.size = xs.length := by rw [List.size_toArray, hle]
  have hm : ((its.toArray.size : Nat) : Int) * k ≤ 1000000 := by
    rw [hsz0]
    have a1 : ((xs.length : Nat) : Int) * k ≤ 1000 * k := Int.mul_le_mul_of_nonneg_right (by omega) (by omega)
    omega
  have flen : (List.replicate k.toNat its).flatten.length ≤ sizeLine := by
    rw [PyProof.Rows.lm_len_rep_flat, hle, sizeLine_eq]
    have a1 : k.toNat * xs.length ≤ 1000 * 1000 := Nat.mul_le_mul (by omega) hz
    omega
  have c0 : (decide (k < -(2 ^ 63)) || decide (k ≥ 2 ^ 63)) = false := by
    rw [decide_eq_false (by omega), decide_eq_false (by omega)] <;> rfl
  have c1 : (its.toArray.isEmpty || k == 1) = false := by
    rw [hi, Bool.false_or]
    exact beq_eq_false_iff_ne.mpr (by omega)
  have c2 : (decide (k ≤ 0) || its.toArray.isEmpty) = false := by
    rw [hi, Bool.or_false]
    exact decide_eq_false (by omega)
  have c4 : Builtin.Tuple.tupleTooMany (((its.toArray.size : Nat) : Int) * k) = false := by
    unfold Builtin.Tuple.tupleTooMany
    rw [sizeLine_eq]
    exact decide_eq_false (by omega)
  refine wpAny_binaryOp_repeat_ref (T := "tuple") (U := "int") (by decide) ⟨_, ho, rfl⟩ (fun s' => typeIs_int s' k t) noFill_tuple_mul F.fills_int_mul F.slot_int_rmul repeat_tuple F.slot_int_index.lookup
    (call_meets F.slot_int_rmul (typeIs_int s k t) F.entry_int_rmul (F.args_int_rmul_2 _ _) (int_rmul_tuple k t l its.toArray n dd sl)
      ⟨ho, rfl, ⟨_, ho, rfl⟩, call_meets F.slot_tuple_mul ⟨_, ho, rfl⟩ F.entry_tuple_mul (F.args_tuple_mul_2 _ _) (tuple_mulW l its.toArray n dd sl k t c0 c1 c2 (by omega) c4 (by rw [size_rep, List.size_toArray]; exact flen)) ⟨ho, ?_⟩⟩)
  rw [size_rep]
  exact newT I (by rw [PyProof.Rows.lm_len_rep_flat, sizeLine_eq]; have a1 : k.toNat * xs.length ≤ 1000 * 1000 := Nat.mul_le_mul (by omega) hz; omega) (r.rep k.toNat) q
theorem call_tupleF : CallR X (.type "tuple") (fun xs H Q => ∃ p ys, xs = [.ref p] ∧ ((SqL X.K H p ys ∧ NewT H Q ys) ∨ (SqT X.K H p ys ∧ Q (.ref p) H))) := by
  intro pins s σ H xs us Q I r h
  obtain ⟨p, ys, rfl, h⟩ := h
  obtain ⟨u, rfl, rx⟩ := vals1 r
  cases rx
  rcases h with ⟨hq, q⟩ | ⟨hq, q⟩
  · obtain ⟨its, r', pl, hz⟩ := I.list hq
    have hlen := r'.length
    refine call_tuple_list pl.isList (fun h' kp => ?_) (by simp only [List.size_toArray] <;> omega)
    exact newT (I.kept (t' := s.toks) kp) hz r' q
  · obtain ⟨its, r', pl, hz⟩ := I.tuple hq
    exact call_tuple_same pl ⟨.ref p, H, I, rfl, q⟩
/-! ### methods of tuples -/
def TupF (H : Hp) (a : Addr) (xs : List V) : Prop := ∃ o, H a = some (.frz o (.tup xs)) ∧ o.dict = none
theorem TupF.sq {K : PySem.W.Frag} {H : Hp} {a : Addr} {xs : List V} (h : TupF H a xs) : SqT K H a xs := by
  obtain ⟨o, e, _⟩ := h
  exact .inl (.inr ⟨o, e⟩)
theorem TupF.is {pins : List (Addr × Obj)} {σ : L2.St} {H : Hp} {s : Shared} {a : Addr} {xs : List V} (I : Inv X pins σ H s) (h : TupF H a xs) : s.TypeIs (.ref a) "tuple" ∧ ∀ b, (Value.ref a) = .ref b → ∃ ob, s.heap.get? b = some ob ∧ ob.dict = none := by
  obtain ⟨o, e, d⟩ := h
  obtain ⟨h1, h2, its, r, o2, h3, h4, h5⟩ := (show ObjOk X.prog X.w H s.heap a (.frz o (.tup xs)) from I.hok a _ e)
  refine ⟨⟨o2, h3, h4⟩, fun b z => ?_⟩
  cases z
  exact ⟨o, h1, d⟩
def tTM (K : PySem.W.Frag) (r : V → List V → Hp → VK → Prop) (to : TE) (t : TA) : TE := fun σ H Q => to σ H fun x H1 => (∃ a xs, x = .ref a ∧ TupF H1 a xs) ∧ t σ H1 fun xs H2 => r x xs H2 Q
variable {o : Expr} {to : TE} {name : Str} {apos cpos : Pos} {id : String} {r : V → List V → Hp → VK → Prop}
theorem pe_tm (pa : PlainAttrs "tuple") (slot : Slot "tuple" name id) (hty : typeOf (.builtin id) = pure (.type "method_descriptor")) (hm : MtR X id r) (ho : PE X o to) (ha : PA X (e :: es) t)
    (hbase : attributeBase o name X.env (eval o X.env) = eval o X.env := by rfl)
    (hfew : ((backTo cpos (starEach (e :: es) X.env)).all (fun x => !x.1) && (backToKw cpos (keywordEach [] X.env)).all (fun x => x.1.isSome)
      && decide ((e :: es).length + ([] : List Keyword).length + (if ([] : List Keyword).isEmpty then 0 else 1) < 30)) = true := by rfl)
    (hline : (apos.endLine == cpos.line) = true := by rfl) (hs : starEach (e :: es) X.env = (false, eval e X.env) :: starEach es X.env := by rfl) (hplain : (backTo cpos (starEach es X.env)).any (·.1) = false := by rfl) :
    PE X (.Call (.Attribute o name apos) (e :: es) [] cpos) (tTM X.K r to t) := by
  refine ⟨fun pins s σ H Q I h => ?_⟩
  refine wpAny_Call_method_late hbase hfew hline rfl (thn (ho.run pins s σ H _ I h) fun v s1 ⟨x, H1, I1, r1, ty, q1⟩ => ?_)
  obtain ⟨a, xs, rfl, ht⟩ := ty
  obtain rfl : v = Value.ref a := r1
  obtain ⟨h1, h2⟩ := ht.is I1
  refine ⟨"tuple", id, pa, slot, hty, h1, h2, ?_⟩
  have hA := ha.run cpos pins s1 σ H1 _ I1 q1
  rw [hs] at hA ⊢
  refine Calls.callWith_builtin (by show (false || (backTo cpos (starEach es X.env)).any (·.1)) = false; rw [hplain] <;> rfl) (Calls.evalArgs_plain ?_)
  exact thn hA fun us s2 ⟨vs, H2, I2, r2, q2⟩ => hm pins s2 σ H2 (.ref a) vs _ us Q I2 rfl r2 q2
theorem flat_ints (ys : List Int) : (ys.map V.int).all flatV = true := by
  rw [List.all_map]
  exact List.all_eq_true.mpr fun _ _ => rfl
theorem eqU_int {i : Int} {u : Value} {j : Int} (r : RelV (.int j) u) : eqU (.int i) u = decide (j = i) := by
  rw [eqU_of r rfl]
  show eqV (.int j) (.int i) = _
  unfold eqV
  simp
  by_cases z : j = i <;> simp [z]
def rCntI (K : PySem.W.Frag) : V → List V → Hp → VK → Prop := fun x xs H Q => ∃ (p : Addr) (ns : List Int) (k : Int), x = .ref p ∧ xs = [.int k] ∧ SqT K H p (ns.map V.int) ∧ Q (.int (ns.count k : Nat)) H
theorem count_ints {k : Int} : ∀ {us : List Value} {ns : List Int}, Vals (ns.map V.int) us → us.countP (eqU (.int k)) = ns.count k
  | us, [], r => by cases r; rfl
  | us, n :: ns, r => by
    cases r with
    | cons h t =>
      rw [List.countP_cons, count_ints t, List.count_cons, eqU_int h]
      by_cases z : n = k
      · subst z; simp
      · simp [z]
theorem mt_countT : MtR X "tuple.count" (rCntI X.K) := by
  intro pins s σ H x xs v us Q I rx rxs h
  obtain ⟨p, ns, k, rfl, rfl, hs, q⟩ := h
  cases rx
  obtain ⟨u, rfl, t, rfl⟩ := vals1 rxs
  obtain ⟨its, rv, ⟨⟨oc, od, oi, os⟩, ho, e1, n, e2⟩, _⟩ := I.tuple hs
  simp only at e1 e2
  subst e1
  subst e2
  refine call_meets PySem.F.slot_tuple_count ⟨_, ho, rfl⟩ PySem.F.entry_tuple_count (PySem.F.args_tuple_count_2 _ _) (SeqAt.tuple_countAt p its.toArray n od os (.int k t) (eqU (.int k))) ⟨ho, fun w hw => mem_eqAt (x := .int k) ⟨t, rfl⟩ rfl rv (flat_ints ns) w (by simpa using hw), ?_⟩
  refine ⟨.int (ns.count k : Nat), H, I.tok _, ⟨s.toks, ?_⟩, q⟩
  show Value.int (List.countP (eqU (.int k)) its.toArray.toList : Nat) _ = _
  rw [List.toList_toArray, count_ints rv]
theorem at_ints {ns : List Int} {its : List Value} (rv : Vals (ns.map V.int) its) : ∀ (m : Nat) (hm : m < its.toArray.size), ∃ (y : Int) (t : Tok), ns[m]? = some y ∧ its.toArray[m] = Value.int y t := fun m hm => by
  have hl : its.toArray.size = ns.length := by rw [List.size_toArray, ← rv.length, List.length_map]
  have hm' : m < ns.length := by rw [← hl]; exact hm
  obtain ⟨w, hw, t, hw'⟩ := rv.get (i := m) (x := .int ns[m]) (by simp [hm'])
  refine ⟨ns[m], t, List.getElem?_eq_getElem hm', ?_⟩
  have e := (List.getElem?_eq_some_iff.mp hw).2
  rw [← hw', ← e]
  simp
def rIdxI (K : PySem.W.Frag) : V → List V → Hp → VK → Prop := fun x xs H Q => ∃ (p : Addr) (ns : List Int) (k : Int) (j : Nat), x = .ref p ∧ xs = [.int k] ∧ SqT K H p (ns.map V.int) ∧ ns[j]? = some k ∧ (∀ m, m < j → ns[m]? ≠ some k) ∧ Q (.int (j : Nat)) H
theorem mt_indexT : MtR X "tuple.index" (rIdxI X.K) := by
  intro pins s σ H x xs v us Q I rx rxs h
  obtain ⟨p, ns, k, j, rfl, rfl, hs, hj0, hno, q⟩ := h
  cases rx
  obtain ⟨u, rfl, t, rfl⟩ := vals1 rxs
  obtain ⟨its, rv, ⟨⟨oc, od, oi, os⟩, ho, e1, n, e2⟩, _⟩ := I.tuple hs
  simp only at e1 e2
  subst e1
  subst e2
  have hl : its.toArray.size = ns.length := by rw [List.size_toArray, ← rv.length, List.length_map]
  have hj : j < its.toArray.size := by rw [hl]; exact (List.getElem?_eq_some_iff.mp hj0).1
  have ai := at_ints rv
  refine call_meets PySem.F.slot_tuple_index ⟨_, ho, rfl⟩ PySem.F.entry_tuple_index (PySem.F.args_tuple_index_2 _ _) (TI.tuple_indexAt p its.toArray n od os (.int k t) (eqU (.int k)) j hj ?_ ?_)
    ⟨ho, fun w hw => mem_eqAt (x := .int k) ⟨t, rfl⟩ rfl rv (flat_ints ns) w (by simpa using hw), ⟨.int (j : Nat), H, I.tok _, ⟨_, rfl⟩, q⟩⟩
  · obtain ⟨y, t', h1, h2⟩ := ai j hj
    rw [hj0] at h1
    cases h1
    rw [h2, eqU_int ⟨t', rfl⟩]
    exact decide_eq_true rfl
  · intro m hm hmj
    obtain ⟨y, t', h1, h2⟩ := ai m hm
    rw [h2, eqU_int ⟨t', rfl⟩]
    exact decide_eq_false fun z => hno m hmj (by rw [h1, z])
def rIdx3 (K : PySem.W.Frag) : V → List V → Hp → VK → Prop := fun x xs H Q => ∃ (p : Addr) (ns : List Int) (k : Int) (a j : Nat), x = .ref p ∧ xs = [.int k, .int (a : Int)] ∧ SqT K H p (ns.map V.int) ∧ ns[j]? = some k ∧ a ≤ j ∧ (∀ m, a ≤ m → m < j → ns[m]? ≠ some k) ∧ Q (.int (j : Nat)) H
theorem mt_index3 : MtR X "tuple.index" (rIdx3 X.K) := by
  intro pins s σ H x xs v us Q I rx rxs h
  obtain ⟨p, ns, k, a, j, rfl, rfl, hs, hj0, haj, hno, q⟩ := h
  cases rx
  obtain ⟨u, u2, rfl, ⟨t, rfl⟩, ⟨t2, rfl⟩⟩ := vals2 rxs
  obtain ⟨its, rv, ⟨⟨oc, od, oi, os⟩, ho, e1, n, e2⟩, _⟩ := I.tuple hs
  simp only at e1 e2
  subst e1
  subst e2
  have hl : its.toArray.size = ns.length := by rw [List.size_toArray, ← rv.length, List.length_map]
  have hj : j < its.toArray.size := by rw [hl]; exact (List.getElem?_eq_some_iff.mp hj0).1
  have ai := at_ints rv
  have sf := PySem.SeqAt.searchFrom_nat a its.toArray.size
  have eat : ∀ m (hm : m < its.toArray.size), SeqAt.EqAt X.A.in1 s its.toArray[m] (.int k t) (eqU (.int k) its.toArray[m]) := fun m hm => mem_eqAt (x := .int k) ⟨t, rfl⟩ rfl rv (flat_ints ns) _ (by simp)
  let e : Nat → Bool := fun m => if hm : m < its.toArray.size then eqU (.int k) its.toArray[m] else false
  have he : ∀ m (hm : m < its.toArray.size), e m = eqU (.int k) its.toArray[m] := fun m hm => dif_pos hm
  refine call_meets PySem.F.slot_tuple_index ⟨_, ho, rfl⟩ PySem.F.entry_tuple_index (PySem.F.args_tuple_index_3 _ _ _) (PySem.SeqAt.tuple_index3_found p its.toArray n od os (.int k t) e (a : Int) t2 j hj (by rw [sf]; exact haj) hj ?_ ?_)
    ⟨ho, fun m hm => by rw [he m hm]; exact eat m hm, ⟨.int (j : Nat), H, I.tok _, ⟨_, rfl⟩, q⟩⟩
  · obtain ⟨y, t', h1, h2⟩ := ai j hj
    rw [hj0] at h1
    cases h1
    rw [he j hj, h2, eqU_int ⟨t', rfl⟩]
    exact decide_eq_true rfl
  · intro m hm h1 hmj
    rw [sf] at h1
    obtain ⟨y, t', h3, h2⟩ := ai m hm
    rw [he m hm, h2, eqU_int ⟨t', rfl⟩]
    exact decide_eq_false fun z => hno m h1 hmj (by rw [h3, z])
end
end Wv
set_option maxRecDepth 100000
set_option maxHeartbeats 2000000
namespace Wv
open PySem PySem.Spec PyProof.Rows L2
/-! ### data, owned objects, the symbolic state -/
/-- what is true of an address, for good -/
structure ExtP where
  p : Addr → Hp → Prop
  mono : ∀ a (H H' : Hp), (∀ b φ, H b = some (.ext φ) → H' b = some (.ext φ)) → p a H → p a H'
inductive D where
  | raw (v : V)
  | tup (l : List D)
  | lst (l : List D)
  | ext (ψ : ExtP)
abbrev I (i : Int) : D := .raw (.int i)
abbrev B (b : Bool) : D := .raw (.bl b)
abbrev Z (s : Str) : D := .raw (.str s)
abbrev N0 : D := .raw .non
abbrev Rf (p : Addr) : D := .raw (.ref p)
inductive O where
  | lst (l : List D)
  | frz (o : Obj) (l : List D)
  | ins (C : Addr) (fs : List (Str × D))
  | dK (kvs : List (Key × D))
  | dT (kvs : List (List Key × D))
  | fK (o : Obj) (vs : List (Key × V)) (kvs : List (Key × D))
  | fT (o : Obj) (vs : List (List Key × V)) (kvs : List (List Key × D))
abbrev Ms := List (Addr × O)
abbrev Rh := List (Option D)
abbrev dom (M : Ms) : List Addr := M.map (·.1)
mutual
inductive Rp (K : PySem.W.Frag) (X : List Addr) (H : Hp) : V → D → Prop
  | raw (v : V) : Rp K X H v (.raw v)
  | tup {a : Addr} {xs : List V} {ds : List D} : TupF H a xs → RpL K X H xs ds → Rp K X H (.ref a) (.tup ds)
  | lst {a : Addr} {xs : List V} {ds : List D} : H a = some (.lst xs) → a ∉ X → RpL K X H xs ds → Rp K X H (.ref a) (.lst ds)
  | ext {a : Addr} {ψ : ExtP} : ψ.p a H → Rp K X H (.ref a) (.ext ψ)
inductive RpL (K : PySem.W.Frag) (X : List Addr) (H : Hp) : List V → List D → Prop
  | nil : RpL K X H [] []
  | cons {v : V} {vs : List V} {d : D} {ds : List D} : Rp K X H v d → RpL K X H vs ds → RpL K X H (v :: vs) (d :: ds)
end
section
variable {K : PySem.W.Frag} {X X' : List Addr} {H H' : Hp}
mutual
theorem Rp.mono (he : ∀ b φ, H b = some (.ext φ) → H' b = some (.ext φ)) (ht : ∀ a xs, TupF H a xs → TupF H' a xs) (hl : ∀ a xs, H a = some (.lst xs) → a ∉ X → H' a = some (.lst xs) ∧ a ∉ X') : ∀ {v d}, Rp K X H v d → Rp K X' H' v d
  | _, _, .raw v => .raw v
  | _, _, .tup h hs => .tup (ht _ _ h) (RpL.mono he ht hl hs)
  | _, _, .lst h n hs => .lst (hl _ _ h n).1 (hl _ _ h n).2 (RpL.mono he ht hl hs)
  | _, _, .ext h => .ext (ExtP.mono _ _ _ _ he h)
theorem RpL.mono (he : ∀ b φ, H b = some (.ext φ) → H' b = some (.ext φ)) (ht : ∀ a xs, TupF H a xs → TupF H' a xs) (hl : ∀ a xs, H a = some (.lst xs) → a ∉ X → H' a = some (.lst xs) ∧ a ∉ X') : ∀ {vs ds}, RpL K X H vs ds → RpL K X' H' vs ds
  | _, _, .nil => .nil
  | _, _, .cons h hs => .cons (Rp.mono he ht hl h) (RpL.mono he ht hl hs)
end
theorem RpL.length {vs : List V} {ds : List D} : RpL K X H vs ds → vs.length = ds.length := by
  intro h
  induction ds generalizing vs with
  | nil => cases h; rfl
  | cons d ds ih => cases h with | cons _ h2 => simp [ih h2]
theorem RpL.get {vs : List V} {ds : List D} (h : RpL K X H vs ds) {i : Nat} {d : D} (e : ds[i]? = some d) : ∃ v, vs[i]? = some v ∧ Rp K X H v d := by
  induction ds generalizing vs i with
  | nil => simp at e
  | cons d0 ds ih =>
    cases h with
    | cons h1 h2 =>
      cases i with
      | zero => simp at e; subst e; exact ⟨_, rfl, h1⟩
      | succ i => simp at e; obtain ⟨v, e1, e2⟩ := ih h2 e; exact ⟨v, by simpa using e1, e2⟩
theorem RpL.getV {vs : List V} {ds : List D} (h : RpL K X H vs ds) {i : Nat} {v : V} (e : vs[i]? = some v) : ∃ d, ds[i]? = some d ∧ Rp K X H v d := by
  induction vs generalizing ds i with
  | nil => simp at e
  | cons v0 vs ih =>
    cases h with
    | cons h1 h2 =>
      cases i with
      | zero => simp at e; subst e; exact ⟨_, rfl, h1⟩
      | succ i => simp at e; obtain ⟨d, e1, e2⟩ := ih h2 e; exact ⟨d, by simpa using e1, e2⟩
theorem RpL.app {vs us : List V} {ds es : List D} (h : RpL K X H vs ds) (h2 : RpL K X H us es) : RpL K X H (vs ++ us) (ds ++ es) := by
  induction ds generalizing vs with
  | nil => cases h; exact h2
  | cons d ds ih => cases h with | cons a b => exact .cons a (ih b)
theorem RpL.set {vs : List V} {ds : List D} (h : RpL K X H vs ds) {v : V} {d : D} (r : Rp K X H v d) : ∀ i : Nat, RpL K X H (vs.set i v) (ds.set i d) := by
  intro i
  induction ds generalizing vs i with
  | nil => cases h; exact .nil
  | cons d ds ih => cases h with
    | cons a b =>
      cases i with
      | zero => exact .cons r b
      | succ i => exact .cons a (ih b i)
theorem RpL.take {vs : List V} {ds : List D} (h : RpL K X H vs ds) : ∀ n : Nat, RpL K X H (vs.take n) (ds.take n) := by
  intro n
  induction ds generalizing vs n with
  | nil => cases h; cases n <;> exact .nil
  | cons d ds ih => cases h with
    | cons a b =>
      cases n with
      | zero => exact .nil
      | succ n => exact .cons a (ih b n)
theorem RpL.drop {vs : List V} {ds : List D} (h : RpL K X H vs ds) : ∀ n : Nat, RpL K X H (vs.drop n) (ds.drop n) := by
  intro n
  induction ds generalizing vs n with
  | nil => cases h; cases n <;> exact .nil
  | cons d ds ih => cases h with
    | cons a b =>
      cases n with
      | zero => exact .cons a b
      | succ n => exact ih b n
theorem RpL.erase {vs : List V} {ds : List D} (h : RpL K X H vs ds) : ∀ n : Nat, RpL K X H (vs.eraseIdx n) (ds.eraseIdx n) := by
  intro n
  induction ds generalizing vs n with
  | nil => cases h; cases n <;> exact .nil
  | cons d ds ih => cases h with
    | cons a b =>
      cases n with
      | zero => exact b
      | succ n => exact .cons a (ih b n)
theorem RpL.rev {vs : List V} {ds : List D} (h : RpL K X H vs ds) : RpL K X H vs.reverse ds.reverse := by
  induction ds generalizing vs with
  | nil => cases h; exact .nil
  | cons d ds ih => cases h with
    | cons a b => simp only [List.reverse_cons]; exact (ih b).app (.cons a .nil)
theorem Rp.raw_inv {v w : V} (h : Rp K X H v (.raw w)) : v = w := by cases h; rfl
theorem Rp.tup_inv {v : V} {ds : List D} (h : Rp K X H v (.tup ds)) : ∃ a xs, v = .ref a ∧ SqT K H a xs ∧ RpL K X H xs ds := by
  cases h with | tup h1 h2 => obtain ⟨o, e, _⟩ := h1; exact ⟨_, _, rfl, .inl (.inr ⟨o, e⟩), h2⟩
theorem Rp.tup_invH {v : V} {ds : List D} (h : Rp K X H v (.tup ds)) : ∃ a xs, v = .ref a ∧ TupF H a xs ∧ RpL K X H xs ds := by
  cases h with | tup h1 h2 => exact ⟨_, _, rfl, h1, h2⟩
theorem Rp.lst_inv {v : V} {ds : List D} (h : Rp K X H v (.lst ds)) : ∃ a xs, v = .ref a ∧ H a = some (.lst xs) ∧ a ∉ X ∧ RpL K X H xs ds := by
  cases h with | lst h1 h2 h3 => exact ⟨_, _, rfl, h1, h2, h3⟩
theorem RpL.raws {vs ws : List V} (h : RpL K X H vs (ws.map D.raw)) : vs = ws := by
  induction ws generalizing vs with
  | nil => cases h; rfl
  | cons d ds ih => cases h with | cons a b => rw [ih b, a.raw_inv]
theorem RpL.raws_mk (ws : List V) : RpL K X H ws (ws.map D.raw) := by
  induction ws with
  | nil => exact .nil
  | cons d ds ih => exact .cons (.raw d) ih
/-- named values -/
def RpF (K : PySem.W.Frag) (X : List Addr) (H : Hp) (vs : List (Str × V)) (fs : List (Str × D)) : Prop := vs.map (·.1) = fs.map (·.1) ∧ RpL K X H (vs.map (·.2)) (fs.map (·.2))
def RpK (K : PySem.W.Frag) (X : List Addr) (H : Hp) (vs : List (Key × V)) (fs : List (Key × D)) : Prop := vs.map (·.1) = fs.map (·.1) ∧ RpL K X H (vs.map (·.2)) (fs.map (·.2))
def RpKT (K : PySem.W.Frag) (X : List Addr) (H : Hp) (vs : List (List Key × V)) (fs : List (List Key × D)) : Prop := vs.map (·.1) = fs.map (·.1) ∧ RpL K X H (vs.map (·.2)) (fs.map (·.2))
end
/-- the owned object at p -/
def OAt (K : PySem.W.Frag) (X : List Addr) (H : Hp) (p : Addr) : O → Prop
  | .lst l => ∃ xs, H p = some (.lst xs) ∧ RpL K X H xs l
  | .frz o l => ∃ xs, H p = some (.frz o (.lst xs)) ∧ RpL K X H xs l
  | .ins C fs => ∃ dx vs, H p = some (.ins C dx vs) ∧ RpF K X H vs fs
  | .dK kvs => ∃ vs, H p = some (.dK vs) ∧ RpK K X H vs kvs
  | .dT kvs => ∃ vs, H p = some (.dT vs) ∧ RpKT K X H vs kvs
  | .fK o vs kvs => H p = some (.frz o (.dK vs)) ∧ RpK K X H vs kvs
  | .fT o vs kvs => H p = some (.frz o (.dT vs)) ∧ RpKT K X H vs kvs
/-- objects that only other rules change -/
def keepO : HO → Prop
  | .tbl _ => True
  | .ext _ => True
  | _ => False
/-- what a global condition must bear -/
def Gst (G : Hp → Prop) : Prop := ∀ H H' : Hp, G H → (∀ a o, H a = some o → keepO o → H' a = some o) → G H'
structure AtM (G : Hp → Prop) (K : PySem.W.Frag) (M : Ms) (H : Hp) : Prop where
  g : G H
  nd : (dom M).Nodup
  ob : ∀ p ∈ M, OAt K (dom M) H p.1 p.2
def Sl (K : PySem.W.Frag) (X : List Addr) (H : Hp) (σ : L2.St) (ρ : Rh) : Prop := σ.length = ρ.length ∧ ∀ (i : Nat) (d : D), ρ[i]? = some (some d) → ∃ v, σ[i]? = some (some v) ∧ Rp K X H v d
structure Mv (M : Ms) (H : Hp) (M' : Ms) (H' : Hp) : Prop where
  ext : ∀ a o, H a = some o → a ∉ dom M → (∀ ps, o ≠ .tbl ps) → H' a = some o
  new : ∀ a ∈ dom M', a ∈ dom M ∨ ∀ o, H a = some o → ∃ ps, o = .tbl ps
section
variable {G : Hp → Prop} {K : PySem.W.Frag} {M M' M1 M2 : Ms} {H H' H1 H2 : Hp}
theorem Mv.refl (M : Ms) (H : Hp) : Mv M H M H := ⟨fun _ _ h _ _ => h, fun _ h => .inl h⟩
theorem Mv.trans (a : Mv M H M1 H1) (b : Mv M1 H1 M2 H2) : Mv M H M2 H2 := by
  have ex : ∀ x o, H x = some o → x ∉ dom M → (∀ ps, o ≠ .tbl ps) → H1 x = some o ∧ x ∉ dom M1 := fun x o h n t => ⟨a.ext x o h n t, fun z => by
    rcases a.new x z with q | q
    · exact n q
    · obtain ⟨ps, e⟩ := q o h
      exact t ps e⟩
  refine ⟨fun x o h n t => b.ext x o (ex x o h n t).1 (ex x o h n t).2 t, fun x hx => ?_⟩
  · by_cases hd : x ∈ dom M
    · exact .inl hd
    · refine .inr fun o h => ?_
      by_cases t : ∃ ps, o = .tbl ps
      · exact t
      · exfalso
        have t' : ∀ ps, o ≠ .tbl ps := fun ps z => t ⟨ps, z⟩
        rcases b.new x hx with q | q
        · exact (ex x o h hd t').2 q
        · exact t (q o (ex x o h hd t').1)
theorem OAt.some {X : List Addr} {p : Addr} {o : O} (h : OAt K X H p o) : ∃ u, H p = some u ∧ (∀ xs, u ≠ .tup xs) ∧ (∀ a b, u ≠ .frz a (.tup b)) ∧ ¬ keepO u := by
  cases o with
  | lst l => obtain ⟨xs, e, _⟩ := h; exact ⟨_, e, (fun _ z => by cases z), (fun _ _ z => by cases z), fun z => z.elim⟩
  | frz o l => obtain ⟨xs, e, _⟩ := h; exact ⟨_, e, (fun _ z => by cases z), (fun _ _ z => by cases z), fun z => z.elim⟩
  | ins C fs => obtain ⟨dx, vs, e, _⟩ := h; exact ⟨_, e, (fun _ z => by cases z), (fun _ _ z => by cases z), fun z => z.elim⟩
  | dK kvs => obtain ⟨vs, e, _⟩ := h; exact ⟨_, e, (fun _ z => by cases z), (fun _ _ z => by cases z), fun z => z.elim⟩
  | dT kvs => obtain ⟨vs, e, _⟩ := h; exact ⟨_, e, (fun _ z => by cases z), (fun _ _ z => by cases z), fun z => z.elim⟩
  | fK o vs kvs => obtain ⟨e, _⟩ := h; exact ⟨_, e, (fun _ z => by cases z), (fun _ _ z => by cases z), fun z => z.elim⟩
  | fT o vs kvs => obtain ⟨e, _⟩ := h; exact ⟨_, e, (fun _ z => by cases z), (fun _ _ z => by cases z), fun z => z.elim⟩
theorem AtM.dom_ob (a : AtM G K M H) {p : Addr} (hp : p ∈ dom M) : ∃ u, H p = some u ∧ (∀ xs, u ≠ .tup xs) ∧ (∀ a b, u ≠ .frz a (.tup b)) ∧ ¬ keepO u := by
  obtain ⟨q, hq, e⟩ := List.mem_map.mp hp
  subst e
  exact (a.ob q hq).some
theorem AtM.tup_out (a : AtM G K M H) {p : Addr} {xs : List V} (h : Rd H p (.tup xs)) : p ∉ dom M := fun hp => by
  obtain ⟨u, e, n1, n2, _⟩ := a.dom_ob hp
  rcases h with h | ⟨o, h⟩
  · exact n1 xs (Option.some.inj (e.symm.trans h))
  · exact n2 _ _ (Option.some.inj (e.symm.trans h))
theorem Mv.rd (m : Mv M H M' H') {p : Addr} {u : HO} (h : Rd H p u) (hn : p ∉ dom M) (hu : ∀ ps, u ≠ .tbl ps) : Rd H' p u := by
  rcases h with h | ⟨o, h⟩
  · exact .inl (m.ext _ _ h hn hu)
  · exact .inr ⟨o, m.ext _ _ h hn (fun _ z => by cases z)⟩
theorem Mv.sqT (m : Mv M H M' H') (a : AtM G K M H) {p : Addr} {xs : List V} (h : SqT K H p xs) : SqT K H' p xs := by
  rcases h with h | h
  · exact .inl (m.rd h (a.tup_out h) (fun _ z => by cases z))
  · exact .inr h
theorem Mv.tupH (m : Mv M H M' H') (a : AtM G K M H) {p : Addr} {xs : List V} (h : TupF H p xs) : TupF H' p xs := by
  obtain ⟨o, e, d⟩ := h
  exact ⟨o, m.ext _ _ e (a.tup_out (.inr ⟨o, e⟩)) (fun _ z => by cases z), d⟩
theorem Mv.extH (m : Mv M H M' H') (a : AtM G K M H) {p : Addr} {φ : Heap → Prop} (h : H p = some (.ext φ)) : H' p = some (.ext φ) := m.ext _ _ h (fun z => by
  obtain ⟨u, e, _, _, n⟩ := a.dom_ob z
  rw [h] at e
  cases e
  exact n trivial) (fun _ z => by cases z)
theorem Mv.lstR (m : Mv M H M' H') {p : Addr} {xs : List V} (h : H p = some (.lst xs)) (hn : p ∉ dom M) : H' p = some (.lst xs) ∧ p ∉ dom M' := by
  refine ⟨m.ext _ _ h hn (fun _ z => by cases z), fun z => ?_⟩
  rcases m.new p z with q | q
  · exact hn q
  · obtain ⟨ps, e⟩ := q _ h
    cases e
theorem Mv.rp (m : Mv M H M' H') (a : AtM G K M H) {v : V} {d : D} (h : Rp K (dom M) H v d) : Rp K (dom M') H' v d := h.mono (fun _ _ => m.extH a) (fun _ _ => m.tupH a) fun _ _ => m.lstR
theorem Mv.rpl (m : Mv M H M' H') (a : AtM G K M H) {v : List V} {d : List D} (h : RpL K (dom M) H v d) : RpL K (dom M') H' v d := h.mono (fun _ _ => m.extH a) (fun _ _ => m.tupH a) fun _ _ => m.lstR
theorem Mv.sl (m : Mv M H M' H') (a : AtM G K M H) {σ : L2.St} {ρ : Rh} (h : Sl K (dom M) H σ ρ) : Sl K (dom M') H' σ ρ := ⟨h.1, fun i d e => by
  obtain ⟨v, e1, e2⟩ := h.2 i d e
  exact ⟨v, e1, m.rp a e2⟩⟩
theorem Mv.oat (m : Mv M H M' H') (a : AtM G K M H) {p : Addr} {o : O} (h : OAt K (dom M) H p o) (hp : ∀ u, H p = some u → H' p = some u) : OAt K (dom M') H' p o := by
  cases o with
  | lst l => obtain ⟨xs, e, r⟩ := h; exact ⟨xs, hp _ e, m.rpl a r⟩
  | frz o l => obtain ⟨xs, e, r⟩ := h; exact ⟨xs, hp _ e, m.rpl a r⟩
  | ins C fs => obtain ⟨dx, vs, e, r, r2⟩ := h; exact ⟨dx, vs, hp _ e, r, m.rpl a r2⟩
  | dK kvs => obtain ⟨vs, e, r, r2⟩ := h; exact ⟨vs, hp _ e, r, m.rpl a r2⟩
  | dT kvs => obtain ⟨vs, e, r, r2⟩ := h; exact ⟨vs, hp _ e, r, m.rpl a r2⟩
  | fK o vs kvs => obtain ⟨e, r, r2⟩ := h; exact ⟨hp _ e, r, m.rpl a r2⟩
  | fT o vs kvs => obtain ⟨e, r, r2⟩ := h; exact ⟨hp _ e, r, m.rpl a r2⟩
/-- all that stood stands: something new came, not owned -/
theorem Mv.grow (e : ∀ a o, H a = some o → H' a = some o) : Mv M H M H' := ⟨fun a o h _ _ => e a o h, fun _ h => .inl h⟩
theorem AtM.grow (a : AtM G K M H) (gs : Gst G) (e : ∀ a o, H a = some o → H' a = some o) : AtM G K M H' :=
  ⟨gs _ _ a.g fun b o h _ => e b o h, a.nd, fun p hp => (Mv.grow e).oat a (a.ob p hp) (fun u h => e _ _ h)⟩
theorem upd_grow {p : Addr} {o : HO} (h : H p = none) : ∀ a u, H a = some u → upd H p o a = some u := fun a u e => by
  rw [upd_ne (ne_of_none e h)]; exact e
theorem dom_set {i : Nat} {p : Addr} {o : O} (h : (dom M)[i]? = some p) : dom (M.set i (p, o)) = dom M := by
  unfold dom at *
  rw [List.map_set]
  refine List.ext_getElem? fun j => ?_
  by_cases hj : i = j
  · subst hj
    rw [h]
    by_cases hl : i < (M.map (·.1)).length
    · rw [List.getElem?_set_self hl]
    · rw [List.getElem?_eq_none (by omega)] at h; cases h
  · rw [List.getElem?_set_ne hj]
theorem dom_at {i : Nat} {p : Addr} {o : O} (h : M[i]? = some (p, o)) : (dom M)[i]? = some p := by
  unfold dom; rw [List.getElem?_map, h]; rfl
theorem mem_at {i : Nat} {p : Addr} {o : O} (h : M[i]? = some (p, o)) : p ∈ dom M := List.mem_of_getElem? (dom_at h)
/-- an owned object is written -/
theorem AtM.write (a : AtM G K M H) (gs : Gst G) {i : Nat} {p : Addr} {o o' : O} {u : HO} (h : M[i]? = some (p, o)) (hu : ∀ ps, u ≠ .tbl ps) (new : OAt K (dom M) (upd H p u) p o') :
    AtM G K (M.set i (p, o')) (upd H p u) ∧ Mv M H (M.set i (p, o')) (upd H p u) := by
  have hd := dom_set (o := o') (dom_at h)
  have m : Mv M H M (upd H p u) := ⟨fun b v e n _ => by
      rw [upd_ne (fun z => n (by rw [z]; exact mem_at h))]; exact e, fun _ h => .inl h⟩
  refine ⟨⟨gs _ _ a.g fun b v e k => ?_, by rw [hd]; exact a.nd, fun q hq => ?_⟩, ⟨m.ext, fun b hb => .inl (by rw [hd] at hb; exact hb)⟩⟩
  · rw [upd_ne (fun z => ?_)]
    · exact e
    · obtain ⟨v', e', _, _, n⟩ := a.dom_ob (mem_at h)
      rw [z, e'] at e
      cases e
      exact n k
  · rw [hd]
    obtain ⟨j, hj⟩ := List.getElem?_of_mem hq
    by_cases z : i = j
    · subst z
      have hl : i < M.length := by
        rcases Nat.lt_or_ge i M.length with q | q
        · exact q
        · rw [List.getElem?_eq_none q] at h; cases h
      rw [List.getElem?_set_self hl] at hj
      cases hj
      exact new
    · rw [List.getElem?_set_ne z] at hj
      have hne : q.1 ≠ p := fun e => by
        have h1 := dom_at (o := q.2) (p := q.1) hj
        have h2 := dom_at h
        rw [e] at h1
        exact z (nd_ix a.nd h2 h1)
      exact m.oat a (a.ob q (List.mem_of_getElem? hj)) fun v e => by rw [upd_ne hne]; exact e
/-- an owned object comes -/
theorem AtM.own (a : AtM G K M H) (gs : Gst G) {p : Addr} {o : O} (e : ∀ b v, H b = some v → H' b = some v) (hn : H p = none) (new : OAt K (p :: dom M) H' p o) :
    AtM G K ((p, o) :: M) H' ∧ Mv M H ((p, o) :: M) H' := by
  have m : Mv M H ((p, o) :: M) H' := ⟨fun b v h _ _ => e b v h, fun b hb => by
    rcases List.mem_cons.mp hb with z | z
    · subst z; exact .inr fun o h => by rw [hn] at h; cases h
    · exact .inl z⟩
  refine ⟨⟨gs _ _ a.g fun b v h _ => e b v h, List.nodup_cons.mpr ⟨fun z => ?_, a.nd⟩, fun q hq => ?_⟩, m⟩
  · obtain ⟨u, h, _⟩ := a.dom_ob z
    rw [hn] at h; cases h
  · rcases List.mem_cons.mp hq with z | z
    · subst z; exact new
    · exact m.oat a (a.ob q z) fun v h => e _ _ h
theorem Sl.set {X : List Addr} {σ : L2.St} {ρ : Rh} (h : Sl K X H σ ρ) (i : Nat) {v : V} {d : D} (r : Rp K X H v d) : Sl K X H (σ.set i (some v)) (ρ.set i (some d)) := by
  refine ⟨by rw [List.length_set, List.length_set]; exact h.1, fun j e hj => ?_⟩
  by_cases z : i = j
  · subst z
    have hl : i < ρ.length := by
      rcases Nat.lt_or_ge i ρ.length with q | q
      · exact q
      · rw [List.getElem?_eq_none (by rw [List.length_set]; exact q)] at hj; cases hj
    rw [List.getElem?_set_self hl] at hj
    rw [List.getElem?_set_self (by rw [h.1]; exact hl)]
    cases hj
    exact ⟨v, rfl, r⟩
  · rw [List.getElem?_set_ne z] at hj ⊢
    exact h.2 j e hj
theorem Sl.wipe {X : List Addr} {σ : L2.St} {ρ : Rh} (h : Sl K X H σ ρ) (i : Nat) : Sl K X H (σ.set i none) (ρ.set i none) := by
  refine ⟨by rw [List.length_set, List.length_set]; exact h.1, fun j e hj => ?_⟩
  by_cases z : i = j
  · subst z
    have hl : i < ρ.length := by
      rcases Nat.lt_or_ge i ρ.length with q | q
      · exact q
      · rw [List.getElem?_eq_none (by rw [List.length_set]; exact q)] at hj; cases hj
    rw [List.getElem?_set_self hl] at hj
    cases hj
  · rw [List.getElem?_set_ne z] at hj ⊢
    exact h.2 j e hj
end
/-! ### what is wanted of an expression, a test, arguments, statements -/
structure En where
  nx : Ms → Rh → Prop
  rt : Ms → D → Prop
  bk : Ms → Rh → Prop
  ct : Ms → Rh → Prop
  xr : Value → Ms → Prop
def Xok (W : WX) (G : Hp → Prop) (K : PySem.W.Frag) (M : Ms) (H : Hp) (σ : L2.St) (xr : Value → Ms → Prop) : Prop := ∀ cls M' H', xr cls M' → AtM G K M' H' → Mv M H M' H' → W cls none σ H'
def TEv (G : Hp → Prop) (K : PySem.W.Frag) (W : WX) (te : TE) (M : Ms) (ρ : Rh) (xr : Value → Ms → Prop) (R : Ms → D → Prop) : Prop :=
  ∀ σ H, AtM G K M H → Sl K (dom M) H σ ρ → Xok W G K M H σ xr → ∀ Q : VK, (∀ M' d v H', R M' d → AtM G K M' H' → Mv M H M' H' → Rp K (dom M') H' v d → Q v H') → te σ H Q
def TTv (G : Hp → Prop) (K : PySem.W.Frag) (W : WX) (tt : TT) (M : Ms) (ρ : Rh) (xr : Value → Ms → Prop) (R : Ms → Bool → Prop) : Prop :=
  ∀ σ H, AtM G K M H → Sl K (dom M) H σ ρ → Xok W G K M H σ xr → ∀ Q : Bool → Hp → Prop, (∀ M' b H', R M' b → AtM G K M' H' → Mv M H M' H' → Q b H') → tt σ H Q
def TAv (G : Hp → Prop) (K : PySem.W.Frag) (W : WX) (ta : TA) (M : Ms) (ρ : Rh) (xr : Value → Ms → Prop) (R : Ms → List D → Prop) : Prop :=
  ∀ σ H, AtM G K M H → Sl K (dom M) H σ ρ → Xok W G K M H σ xr → ∀ Q : List V → Hp → Prop, (∀ M' d v H', R M' d → AtM G K M' H' → Mv M H M' H' → RpL K (dom M') H' v d → Q v H') → ta σ H Q
def TSv (G : Hp → Prop) (K : PySem.W.Frag) (W : WX) (t : TS) (M : Ms) (ρ : Rh) (N : En) : Prop :=
  ∀ σ H, AtM G K M H → Sl K (dom M) H σ ρ → ∀ Dn : Ends, (∀ M' H' cls σ', N.xr cls M' → AtM G K M' H' → Mv M H M' H' → W cls none σ' H') →
    (∀ M' ρ' σ' H', N.nx M' ρ' → AtM G K M' H' → Sl K (dom M') H' σ' ρ' → Mv M H M' H' → Dn.nx σ' H') →
    (∀ M' d v H', N.rt M' d → AtM G K M' H' → Mv M H M' H' → Rp K (dom M') H' v d → Dn.rt v H') →
    (∀ M' ρ' σ' H', N.bk M' ρ' → AtM G K M' H' → Sl K (dom M') H' σ' ρ' → Mv M H M' H' → Dn.bk σ' H') →
    (∀ M' ρ' σ' H', N.ct M' ρ' → AtM G K M' H' → Sl K (dom M') H' σ' ρ' → Mv M H M' H' → Dn.ct σ' H') → t Dn σ H
/-- the weakest readings -/
def eT (X : Cx) (e : Expr) : TE := fun σ H Q => ∀ pins s, Inv X pins σ H s → wpAny (model X.prog X.w) X.A (eval e X.env) (EP X pins σ Q) X.xe s
def tT (X : Cx) (e : Expr) : TT := fun σ H Q => ∀ pins s, Inv X pins σ H s → wpAny (model X.prog X.w) X.A (isTrue e X.env (eval e X.env)) (TP X pins σ Q) X.xe s
def wT (X : Cx) (e : Expr) : TT := fun σ H Q => ∀ whole pins s, Inv X pins σ H s → wpAny (model X.prog X.w) X.A (isTrue e X.env whole) (TP X pins σ Q) X.xe s
def aT (X : Cx) (es : List Expr) : TA := fun σ H Q => ∀ pos pins s, Inv X pins σ H s → wpAny (model X.prog X.w) X.A (spliced (backTo pos (starEach es X.env))) (AP X pins σ Q) X.xe s
def sT (X : Cx) (st : Stmt) : TS := fun Dn σ H => ∀ pins s, Inv X pins σ H s → wpAny (model X.prog X.w) X.A (exec st X.env) (SP X pins Dn) X.xe s
def ssT (X : Cx) (st : List Stmt) : TS := fun Dn σ H => ∀ pins s, Inv X pins σ H s → wpAny (model X.prog X.w) X.A (execs st X.env) (SP X pins Dn) X.xe s
section
variable {X : Cx}
theorem pe_wp {e : Expr} : PE X e (eT X e) := ⟨fun pins s σ H Q I h => h pins s I⟩
theorem pt_wp {e : Expr} : PT X e (tT X e) := ⟨fun pins s σ H Q I h => h pins s I⟩
theorem pw_wp {e : Expr} : PW X e (wT X e) := ⟨fun whole pins s σ H Q I h => h whole pins s I⟩
theorem pa_wp {es : List Expr} : PA X es (aT X es) := ⟨fun pos pins s σ H Q I h => h pos pins s I⟩
theorem ps_wp {st : Stmt} : PS X st (sT X st) := ⟨fun pins s σ H Q I h => h pins s I⟩
theorem pss_wp {st : List Stmt} : PSs X st (ssT X st) := ⟨fun pins s σ H Q I h => h pins s I⟩
end
section
variable (X : Cx) (G : Hp → Prop) (W : WX)
structure WE (e : Expr) (M : Ms) (ρ : Rh) (xr : Value → Ms → Prop) (R : Ms → D → Prop) : Prop where
  run : TEv G X.K W (eT X e) M ρ xr R
structure WT (e : Expr) (M : Ms) (ρ : Rh) (xr : Value → Ms → Prop) (R : Ms → Bool → Prop) : Prop where
  run : TTv G X.K W (tT X e) M ρ xr R
structure WW (e : Expr) (M : Ms) (ρ : Rh) (xr : Value → Ms → Prop) (R : Ms → Bool → Prop) : Prop where
  run : TTv G X.K W (wT X e) M ρ xr R
structure WA (e : List Expr) (M : Ms) (ρ : Rh) (xr : Value → Ms → Prop) (R : Ms → List D → Prop) : Prop where
  run : TAv G X.K W (aT X e) M ρ xr R
structure WS (st : Stmt) (M : Ms) (ρ : Rh) (N : En) : Prop where
  run : TSv G X.K W (sT X st) M ρ N
structure WSs (st : List Stmt) (M : Ms) (ρ : Rh) (N : En) : Prop where
  run : TSv G X.K W (ssT X st) M ρ N
end
section
variable {X : Cx} {G : Hp → Prop} {W : WX}
instance {e M ρ xr R} : CoeFun (WE X G W e M ρ xr R) fun _ => TEv G X.K W (eT X e) M ρ xr R := ⟨WE.run⟩
instance {e M ρ xr R} : CoeFun (WT X G W e M ρ xr R) fun _ => TTv G X.K W (tT X e) M ρ xr R := ⟨WT.run⟩
instance {e M ρ xr R} : CoeFun (WW X G W e M ρ xr R) fun _ => TTv G X.K W (wT X e) M ρ xr R := ⟨WW.run⟩
instance {e M ρ xr R} : CoeFun (WA X G W e M ρ xr R) fun _ => TAv G X.K W (aT X e) M ρ xr R := ⟨WA.run⟩
instance {e M ρ N} : CoeFun (WS X G W e M ρ N) fun _ => TSv G X.K W (sT X e) M ρ N := ⟨WS.run⟩
instance {e M ρ N} : CoeFun (WSs X G W e M ρ N) fun _ => TSv G X.K W (ssT X e) M ρ N := ⟨WSs.run⟩
end
section
variable {X : Cx} {G : Hp → Prop} {W : WX} {M : Ms} {ρ : Rh} {xr : Value → Ms → Prop} {N : En}
theorem we_of {e : Expr} {te : TE} {R : Ms → D → Prop} (h : PE X e te) (t : TEv G X.K W te M ρ xr R) : WE X G W e M ρ xr R :=
  ⟨fun σ H a b x Q k pins s I => h.run pins s σ H Q I (t σ H a b x Q k)⟩
theorem wt_of {e : Expr} {te : TT} {R : Ms → Bool → Prop} (h : PT X e te) (t : TTv G X.K W te M ρ xr R) : WT X G W e M ρ xr R :=
  ⟨fun σ H a b x Q k pins s I => h.run pins s σ H Q I (t σ H a b x Q k)⟩
theorem ww_of {e : Expr} {te : TT} {R : Ms → Bool → Prop} (h : PW X e te) (t : TTv G X.K W te M ρ xr R) : WW X G W e M ρ xr R :=
  ⟨fun σ H a b x Q k whole pins s I => h.run whole pins s σ H Q I (t σ H a b x Q k)⟩
theorem wa_of {e : List Expr} {te : TA} {R : Ms → List D → Prop} (h : PA X e te) (t : TAv G X.K W te M ρ xr R) : WA X G W e M ρ xr R :=
  ⟨fun σ H a b x Q k pos pins s I => h.run pos pins s σ H Q I (t σ H a b x Q k)⟩
theorem ws_of {e : Stmt} {te : TS} (h : PS X e te) (t : TSv G X.K W te M ρ N) : WS X G W e M ρ N :=
  ⟨fun σ H a b Dn x n r bk ct pins s I => h.run pins s σ H Dn I (t σ H a b Dn x n r bk ct)⟩
theorem wss_of {e : List Stmt} {te : TS} (h : PSs X e te) (t : TSv G X.K W te M ρ N) : WSs X G W e M ρ N :=
  ⟨fun σ H a b Dn x n r bk ct pins s I => h.run pins s σ H Dn I (t σ H a b Dn x n r bk ct)⟩
/-- running one after another -/
theorem Xok.mv {K : PySem.W.Frag} {H H' : Hp} {M' : Ms} {σ : L2.St} (x : Xok W G K M H σ xr) (m : Mv M H M' H') : Xok W G K M' H' σ xr := fun cls M2 H2 h a m2 => x cls M2 H2 h a (m.trans m2)
/-! ### names and constants -/
theorem we_var {x : Str} {pos : Pos} {R : Ms → D → Prop} (i : Nat) (d : D) (hN : X.N[i]? = some x) (hv : Vis X.env.scope x) (h : ρ[i]? = some (some d)) (k : R M d) (hd : (x == ("__debug__" : Str)) = false := by decide) (hcd : (x == ("__classdict__" : Str)) = false := by decide) :
    WE X G W (.Name x pos) M ρ xr R := we_of (pe_var hN hv hd hcd) fun σ H a b _ Q q => by
  obtain ⟨v, e, r⟩ := b.2 i d h
  exact ⟨v, e, q M d v H k a (Mv.refl _ _) r⟩
theorem tev_c {K : PySem.W.Frag} {v : V} {R : Ms → D → Prop} (k : R M (.raw v)) : TEv G K W (tC v) M ρ xr R := fun σ H a _ _ Q q => q M _ v H k a (Mv.refl _ _) (.raw v)
theorem we_int {i : Int} {j pos} {R : Ms → D → Prop} (k : R M (I i)) : WE X G W (.Constant (.int i) j pos) M ρ xr R := we_of pe_int (tev_c k)
theorem we_bl {b : Bool} {j pos} {R : Ms → D → Prop} (k : R M (B b)) : WE X G W (.Constant (.bool b) j pos) M ρ xr R := we_of pe_bl (tev_c k)
theorem we_non {j pos} {R : Ms → D → Prop} (k : R M N0) : WE X G W (.Constant .none j pos) M ρ xr R := we_of pe_non (tev_c k)
theorem we_str {z : Str} {j pos} {R : Ms → D → Prop} (k : R M (Z z)) : WE X G W (.Constant (.str z) j pos) M ρ xr R := we_of pe_str (tev_c k)
theorem we_glob {x : Str} {v : V} {u : Value} {pos : Pos} {R : Ms → D → Prop} (hm : X.mg x = some u) (hg : Gl X x) (r : RelV v u) (k : R M (.raw v)) (hd : (x == ("__debug__" : Str)) = false := by decide) : WE X G W (.Name x pos) M ρ xr R :=
  we_of (pe_glob hg hm r hd) (tev_c k)
theorem we_globI {x : Str} {i : Int} {t : Tok} {pos : Pos} {R : Ms → D → Prop} (hm : X.mg x = some (.int i t)) (hg : Gl X x) (k : R M (I i)) (hd : (x == ("__debug__" : Str)) = false := by decide) : WE X G W (.Name x pos) M ρ xr R := we_glob (v := .int i) hm hg ⟨_, rfl⟩ k hd
theorem we_globS {x : Str} {i : Str} {t : Tok} {pos : Pos} {R : Ms → D → Prop} (hm : X.mg x = some (.str i t)) (hg : Gl X x) (k : R M (Z i)) (hd : (x == ("__debug__" : Str)) = false := by decide) : WE X G W (.Name x pos) M ρ xr R := we_glob (v := .str i) hm hg ⟨_, rfl⟩ k hd
/-! ### operators -/
theorem TEv.mono {K : PySem.W.Frag} {te : TE} {R R' : Ms → D → Prop} (h : TEv G K W te M ρ xr R) (f : ∀ M d, R M d → R' M d) : TEv G K W te M ρ xr R' := fun σ H a b x Q q => h σ H a b x Q fun M1 d v H1 h1 => q M1 d v H1 (f _ _ h1)
theorem ofT {a b : Prop} (h : if true = true then a else b) : a := h
theorem ofF {a b : Prop} (h : if false = true then a else b) : b := h
/-- two values, then what r asks of them -/
theorem tev_op {K : PySem.W.Frag} {r : R2} {ta tb : TE} {R : Ms → D → Prop} {F : D → D → Ms → (Ms → D → Prop) → Prop}
    (hr : ∀ M x y d e H (Q : VK), AtM G K M H → Rp K (dom M) H x d → Rp K (dom M) H y e → F d e M R → (∀ M' d v H', R M' d → AtM G K M' H' → Mv M H M' H' → Rp K (dom M') H' v d → Q v H') → r x y H Q)
    (h : TEv G K W ta M ρ xr fun M1 d => TEv G K W tb M1 ρ xr fun M2 e => F d e M2 R) : TEv G K W (tOp r ta tb) M ρ xr R := by
  intro σ H a b x Q q
  refine h σ H a b x _ fun M1 d v H1 h1 a1 m1 r1 => ?_
  refine h1 σ H1 a1 (m1.sl a b) (x.mv m1) _ fun M2 e u H2 h2 a2 m2 r2 => ?_
  exact hr M2 v u d e H2 Q a2 (m2.rp a1 r1) r2 h2 fun M' d' v' H' k a' m' r' => q M' d' v' H' k a' ((m1.trans m2).trans m') r'
end
end Wv
set_option maxRecDepth 100000
set_option maxHeartbeats 2000000
namespace Wv
open PySem PySem.Spec PyProof.Rows L2
/-! ### bools among whole numbers -/
section
variable {prog : Program} {w : World} {A : Around} {E : Value → Shared → Prop} {s : Shared} {Q : Value → Shared → Prop}
theorem gives_lt_bi (p : Bool) (b : Int) (u : Tok) : Gives (Builtin.«int.__lt__» ⟨[.bool p, .int b u], []⟩) (.val (Value.bool ((fun x1 x2 => decide (x1 < x2)) (if p = true then (1 : Int) else 0) b))) :=
  .of_wp fun M A E s Q h => by obtain ⟨hp, g, d, tk, os⟩ := s; wp_walk; exact ⟨_, rfl, h⟩
theorem gives_gt_bi (p : Bool) (b : Int) (u : Tok) : Gives (Builtin.«int.__gt__» ⟨[.bool p, .int b u], []⟩) (.val (Value.bool ((fun x1 x2 => decide (x1 > x2)) (if p = true then (1 : Int) else 0) b))) :=
  .of_wp fun M A E s Q h => by obtain ⟨hp, g, d, tk, os⟩ := s; wp_walk; exact ⟨_, rfl, h⟩
theorem gives_ge_bi (p : Bool) (b : Int) (u : Tok) : Gives (Builtin.«int.__ge__» ⟨[.bool p, .int b u], []⟩) (.val (Value.bool ((fun x1 x2 => decide (x1 ≥ x2)) (if p = true then (1 : Int) else 0) b))) :=
  .of_wp fun M A E s Q h => by obtain ⟨hp, g, d, tk, os⟩ := s; wp_walk; exact ⟨_, rfl, h⟩
theorem lt_bool_int {p : Bool} {b : Int} {u : Tok} (h : Q (.bool (decide ((if p = true then (1 : Int) else 0) < b))) s) : wpAny (model prog w) A (compareOp .Lt (.bool p) (.int b u)) Q E s := by
  show wpAny (model prog w) A (richCompare .Lt (.bool p) (.int b u)) Q E s
  exact PySem.SeqAt.rc_left_or rfl (typeIs_int s b u) (by decide) F.sub_int_bool F.slot_bool_lt (call_gives F.slot_bool_lt rfl F.entry_int_lt (F.args_int_lt_2 _ _) (gives_lt_bi p b u) ⟨nofun, h⟩) (.inl rfl)
theorem gt_bool_int {p : Bool} {b : Int} {u : Tok} (h : Q (.bool (decide (b < (if p = true then (1 : Int) else 0)))) s) : wpAny (model prog w) A (compareOp .Gt (.bool p) (.int b u)) Q E s := by
  show wpAny (model prog w) A (richCompare .Gt (.bool p) (.int b u)) Q E s
  exact PySem.SeqAt.rc_left_or rfl (typeIs_int s b u) (by decide) F.sub_int_bool F.slot_bool_gt (call_gives F.slot_bool_gt rfl F.entry_int_gt (F.args_int_gt_2 _ _) (gives_gt_bi p b u) ⟨nofun, h⟩) (.inl rfl)
theorem le_int_bool {p : Bool} {b : Int} {u : Tok} (h : Q (.bool (decide (b ≤ (if p = true then (1 : Int) else 0)))) s) : wpAny (model prog w) A (compareOp .LtE (.int b u) (.bool p)) Q E s := by
  show wpAny (model prog w) A (richCompare .LtE (.int b u) (.bool p)) Q E s
  exact PySem.SeqAt.rc_sub_first_or (typeIs_int s b u) rfl (by decide) F.sub_bool_int F.slot_bool_ge (call_gives F.slot_bool_ge rfl F.entry_int_ge (F.args_int_ge_2 _ _) (gives_ge_bi p b u) ⟨nofun, h⟩) (.inl rfl)
end
def bI (p : Bool) : Int := if p = true then 1 else 0
theorem op_ltBI {X : Cx} : OpR X (compareOp .Lt) (fun x y H Q => ∃ p j, x = .bl p ∧ y = .int j ∧ Q (.bl (decide (bI p < j))) H) := by
  intro pins s σ H x y v u Q I rx ry h
  obtain ⟨p, j, rfl, rfl, q⟩ := h
  obtain ⟨t, rfl⟩ := ry
  cases rx
  exact lt_bool_int ⟨.bl _, H, I, rfl, q⟩
theorem op_gtBI {X : Cx} : OpR X (compareOp .Gt) (fun x y H Q => ∃ p j, x = .bl p ∧ y = .int j ∧ Q (.bl (decide (j < bI p))) H) := by
  intro pins s σ H x y v u Q I rx ry h
  obtain ⟨p, j, rfl, rfl, q⟩ := h
  obtain ⟨t, rfl⟩ := ry
  cases rx
  exact gt_bool_int ⟨.bl _, H, I, rfl, q⟩
theorem op_leIB {X : Cx} : OpR X (compareOp .LtE) (fun x y H Q => ∃ j p, x = .int j ∧ y = .bl p ∧ Q (.bl (decide (j ≤ bI p))) H) := by
  intro pins s σ H x y v u Q I rx ry h
  obtain ⟨j, p, rfl, rfl, q⟩ := h
  obtain ⟨t, rfl⟩ := rx
  cases ry
  exact le_int_bool ⟨.bl _, H, I, rfl, q⟩
/-! ### data as PyData -/
mutual
def pyD : D → PyData
  | .raw (.int i) => .int i
  | .raw (.bl b) => .bool b
  | .raw (.str s) => .str s
  | .raw _ => .none
  | .tup l => .tuple (pyDs l)
  | .lst l => .list (pyDs l)
  | .ext _ => .none
def pyDs : List D → List PyData
  | [] => []
  | d :: ds => pyD d :: pyDs ds
end
inductive Pl : Nat → D → Prop
  | int {n : Nat} (i : Int) : Pl n (I i)
  | bl {n : Nat} (b : Bool) : Pl n (B b)
  | str {n : Nat} (s : Str) : Pl n (Z s)
  | non {n : Nat} : Pl n N0
  | tup {n : Nat} {l : List D} : (∀ x ∈ l, Pl n x) → Pl (n + 1) (.tup l)
  | lst {n : Nat} {l : List D} : (∀ x ∈ l, Pl n x) → Pl (n + 1) (.lst l)
def eqd (d e : D) : Bool := PyData.eqv (pyD d) (pyD e)
theorem pyDs_map : ∀ l : List D, pyDs l = l.map pyD
  | [] => rfl
  | d :: ds => by simp only [pyDs, List.map_cons, pyDs_map ds]
theorem plainAll_of : ∀ {l : List PyData}, (∀ x ∈ l, x.plain = true) → PyData.plainAll l = true
  | [], _ => rfl
  | x :: xs, h => by
    rw [PyData.plainAll, h x List.mem_cons_self, plainAll_of fun y hy => h y (List.mem_cons_of_mem _ hy)]; rfl
theorem depthAll_of {n : Nat} : ∀ {l : List PyData}, (∀ x ∈ l, x.depth ≤ n) → PyData.depthAll l ≤ n
  | [], _ => Nat.zero_le _
  | x :: xs, h => by
    rw [PyData.depthAll]
    exact Nat.max_le.mpr ⟨h x List.mem_cons_self, depthAll_of fun y hy => h y (List.mem_cons_of_mem _ hy)⟩
theorem Pl.plain : ∀ {n : Nat} {d : D}, Pl n d → (pyD d).plain = true ∧ (pyD d).depth ≤ n
  | _, _, .int i => ⟨rfl, Nat.zero_le _⟩
  | _, _, .bl i => ⟨rfl, Nat.zero_le _⟩
  | _, _, .str i => ⟨rfl, Nat.zero_le _⟩
  | _, _, .non => ⟨rfl, Nat.zero_le _⟩
  | _, _, .tup h => by
    have ih := fun x hx => Pl.plain (h x hx)
    simp only [pyD, pyDs_map, PyData.plain, PyData.depth]
    refine ⟨plainAll_of fun y hy => ?_, Nat.succ_le_succ (depthAll_of fun y hy => ?_)⟩ <;> obtain ⟨x, hx, rfl⟩ := List.mem_map.mp hy
    · exact (ih x hx).1
    · exact (ih x hx).2
  | _, _, .lst h => by
    have ih := fun x hx => Pl.plain (h x hx)
    simp only [pyD, pyDs_map, PyData.plain, PyData.depth]
    refine ⟨plainAll_of fun y hy => ?_, Nat.succ_le_succ (depthAll_of fun y hy => ?_)⟩ <;> obtain ⟨x, hx, rfl⟩ := List.mem_map.mp hy
    · exact (ih x hx).1
    · exact (ih x hx).2
section
variable {K : PySem.W.Frag} {X : List Addr} {H : Hp}
mutual
theorem Rp.dp : ∀ {n : Nat} {v : V} {d : D}, Pl n d → Rp K X H v d → Dp K H v (pyD d)
  | _, _, _, .int i, h => by rw [h.raw_inv]; exact .int i
  | _, _, _, .bl i, h => by rw [h.raw_inv]; exact .bl i
  | _, _, _, .str i, h => by rw [h.raw_inv]; exact .str i
  | _, _, _, .non, h => by rw [h.raw_inv]; exact .non
  | _, _, _, .tup p, h => by
    obtain ⟨a, xs, rfl, hs, hr⟩ := h.tup_inv
    exact .tup hs (RpL.dp p hr)
  | _, _, _, .lst p, h => by
    obtain ⟨a, xs, rfl, hs, _, hr⟩ := h.lst_inv
    exact .lst (SqL.of hs) (RpL.dp p hr)
theorem RpL.dp : ∀ {n : Nat} {vs : List V} {ds : List D}, (∀ x ∈ ds, Pl n x) → RpL K X H vs ds → DpAll K H vs (pyDs ds)
  | _, _, [], _, h => by cases h; exact .nil
  | _, _, d :: ds, p, h => by
    cases h with
    | cons h1 h2 => exact .cons (Rp.dp (p d List.mem_cons_self) h1) (RpL.dp (fun x hx => p x (List.mem_cons_of_mem _ hx)) h2)
end
end
/-! ### operators by what they are on values -/
def rW (X : Cx) (f : Value → Value → Sem Value) : R2 := fun x y H Q => ∀ pins s σ v u, Inv X pins σ H s → RelV x v → RelV y u → wpAny (model X.prog X.w) X.A (f v u) (EP X pins σ Q) X.xe s
section
variable {X : Cx} {G : Hp → Prop} {W : WX} {M : Ms} {ρ : Rh} {xr : Value → Ms → Prop} {N : En} {a b c e : Expr} {pos : Pos} {R : Ms → D → Prop}
theorem op_rW {f : Value → Value → Sem Value} : OpR X f (rW X f) := fun pins s σ H x y v u Q I rx ry h => h pins s σ v u I rx ry
theorem rW_of {f : Value → Value → Sem Value} {r : R2} (o : OpR X f r) {x y : V} {H : Hp} {Q : VK} (h : r x y H Q) : rW X f x y H Q := fun pins s σ v u I rx ry => o pins s σ H x y v u Q I rx ry h
theorem op_mulS {X : Cx} : OpR X (binaryOp .Mult) (fun x y H Q => ∃ z n, x = .str z ∧ y = .int n ∧ MulOk z n ∧ Q (.str (Txt.mul z n)) H) := by
  intro pins s σ H x y v u Q I rx ry h
  obtain ⟨z, n, rfl, rfl, hz, q⟩ := h
  obtain ⟨t, rfl⟩ := rx
  obtain ⟨t', rfl⟩ := ry
  exact SB.mul hz (fun t' tk => ⟨.str (Txt.mul z n), H, I.tok _, ⟨_, rfl⟩, q⟩)
inductive BinD : Operator → D → D → (D → Prop) → Prop
  | addI {i j : Int} {k : D → Prop} (h : k (I (i + j))) : BinD .Add (I i) (I j) k
  | addS {i j : Str} {k : D → Prop} (z : i.length + j.length ≤ sizeLine) (h : k (Z (i ++ j))) : BinD .Add (Z i) (Z j) k
  | addT {i j : List D} {k : D → Prop} (z : i.length + j.length ≤ sizeLine) (h : k (.tup (i ++ j))) : BinD .Add (.tup i) (.tup j) k
  | addL {i j : List D} {k : D → Prop} (z : i.length + j.length ≤ sizeLine) (h : k (.lst (i ++ j))) : BinD .Add (.lst i) (.lst j) k
  | subI {i j : Int} {k : D → Prop} (h : k (I (i - j))) : BinD .Sub (I i) (I j) k
  | mulI {i j : Int} {k : D → Prop} (z : CMul i j) (h : k (I (i * j))) : BinD .Mult (I i) (I j) k
  | mulS {i : Str} {j : Int} {k : D → Prop} (z : MulOk i j) (h : k (Z (Txt.mul i j))) : BinD .Mult (Z i) (I j) k
  | mulL {i : List D} {j : Int} {k : D → Prop} (z1 : -(2 ^ 63) ≤ j) (z2 : j < 2 ^ 63) (z : i.length * j.toNat ≤ sizeLine) (h : k (.lst (List.replicate j.toNat i).flatten)) : BinD .Mult (.lst i) (I j) k
  | mulT {i : List D} {j : Int} {k : D → Prop} (hne : i ≠ []) (z1 : 2 ≤ j) (z2 : j ≤ 1000) (z : i.length ≤ 1000) (h : k (.tup (List.replicate j.toNat i).flatten)) : BinD .Mult (.tup i) (I j) k
  | divI {i j : Int} {k : D → Prop} (z : 0 < j) (z2 : j < 1180591620717411303424) (h : k (I (i / j))) : BinD .FloorDiv (I i) (I j) k
  | modI {i j : Int} {k : D → Prop} (z : 0 < j) (h : k (I (i % j))) : BinD .Mod (I i) (I j) k
  | powI {i j : Int} {k : D → Prop} (z : CPow i j) (h : k (I (i ^ j.toNat))) : BinD .Pow (I i) (I j) k
  | xorI {i j : Int} {k : D → Prop} (h : k (I (Builtin.bitXor i j))) : BinD .BitXor (I i) (I j) k
  | andI {i j : Int} {k : D → Prop} (h : k (I (Builtin.bitAnd i j))) : BinD .BitAnd (I i) (I j) k
  | orI {i j : Int} {k : D → Prop} (h : k (I (Builtin.bitOr i j))) : BinD .BitOr (I i) (I j) k
  | shrI {i j : Int} {k : D → Prop} (z : 0 ≤ j) (h : k (I (i / 2 ^ j.toNat))) : BinD .RShift (I i) (I j) k
  | shlI {i j : Int} {k : D → Prop} (z : CPow i j) (h : k (I (i * 2 ^ j.toNat))) : BinD .LShift (I i) (I j) k
theorem Mv.up (gs : Gst G) {H : Hp} {p : Addr} {o : HO} (a : AtM G X.K M H) (hp : H p = none) : AtM G X.K M (upd H p o) ∧ Mv M H M (upd H p o) := ⟨a.grow gs (upd_grow hp), Mv.grow (upd_grow hp)⟩
theorem fresh_dom (a : AtM G X.K M H) {p : Addr} (hp : H p = none) : p ∉ dom M := fun z => by
  obtain ⟨u, e, _⟩ := a.dom_ob z
  rw [hp] at e; cases e
theorem RpL.repl {K : PySem.W.Frag} {Y : List Addr} {H : Hp} {vs : List V} {ds : List D} (h : RpL K Y H vs ds) : ∀ n : Nat, RpL K Y H (List.replicate n vs).flatten (List.replicate n ds).flatten
  | 0 => .nil
  | n + 1 => by simp only [List.replicate_succ, List.flatten_cons]; exact h.app (RpL.repl h n)
/-- a new tuple, a new list of ours -/
theorem new_tup (gs : Gst G) {H : Hp} {xs : List V} {ds : List D} (a : AtM G X.K M H) (r : RpL X.K (dom M) H xs ds) {Q : VK} (k : R M (.tup ds))
    (q : ∀ M' d v H', R M' d → AtM G X.K M' H' → Mv M H M' H' → Rp X.K (dom M') H' v d → Q v H') : NewT H Q xs := fun p o hd hp => by
  obtain ⟨a1, m1⟩ := Mv.up (o := .frz o (.tup xs)) gs a hp
  exact q M _ _ _ k a1 m1 (.tup ⟨o, upd_same, hd⟩ (m1.rpl a r))
theorem new_lst (gs : Gst G) {H : Hp} {p : Addr} {xs : List V} {ds : List D} (a : AtM G X.K M H) (hp : H p = none) (r : RpL X.K (dom M) H xs ds) {Q : VK} (k : R M (.lst ds))
    (q : ∀ M' d v H', R M' d → AtM G X.K M' H' → Mv M H M' H' → Rp X.K (dom M') H' v d → Q v H') : Q (.ref p) (upd H p (.lst xs)) := by
  obtain ⟨a1, m1⟩ := Mv.up (o := .lst xs) gs a hp
  exact q M _ _ _ k a1 m1 (.lst upd_same (fresh_dom a hp) (m1.rpl a r))
theorem div_ok {i j : Int} (z : 0 < j) (z2 : j < 1180591620717411303424) : CDivW i j := by
  refine wide_div (b := 70) z ?_ (by decide) (by decide)
  have e : (2 : Nat) ^ 70 = 1180591620717411303424 := by decide
  rw [e]
  omega
theorem bin_ok (gs : Gst G) {op : Operator} {x y : V} {d e : D} {H : Hp} {Q : VK} (a : AtM G X.K M H) (rx : Rp X.K (dom M) H x d) (ry : Rp X.K (dom M) H y e) (h : BinD op d e (R M))
    (q : ∀ M' d v H', R M' d → AtM G X.K M' H' → Mv M H M' H' → Rp X.K (dom M') H' v d → Q v H') : rW X (binaryOp op) x y H Q := by
  cases h with
  | addI h => rw [rx.raw_inv, ry.raw_inv]; exact rW_of op_add ⟨_, _, rfl, rfl, q M _ _ H h a (Mv.refl _ _) (.raw _)⟩
  | addS z h => rw [rx.raw_inv, ry.raw_inv]; exact rW_of op_add_str ⟨_, _, rfl, rfl, z, q M _ _ H h a (Mv.refl _ _) (.raw _)⟩
  | addT z h =>
    obtain ⟨p1, xs, rfl, s1, l1⟩ := rx.tup_invH
    obtain ⟨p2, ys, rfl, s2, l2⟩ := ry.tup_invH
    refine rW_of op_catF ⟨p1, p2, xs, ys, rfl, rfl, s1.sq, s2.sq, by rw [l1.length, l2.length]; exact z, fun e => ?_, fun _ e => ?_, fun _ _ => new_tup gs a (l1.app l2) h q⟩
    · subst e
      cases l1
      exact q M _ _ H h a (Mv.refl _ _) (.tup s2 l2)
    · subst e
      cases l2
      rw [List.append_nil] at h
      exact q M _ _ H h a (Mv.refl _ _) (.tup s1 l1)
  | addL z h =>
    obtain ⟨p1, xs, rfl, s1, _, l1⟩ := rx.lst_inv
    obtain ⟨p2, ys, rfl, s2, _, l2⟩ := ry.lst_inv
    exact rW_of op_cat ⟨p1, p2, xs, ys, rfl, rfl, s1, s2, by rw [l1.length, l2.length]; exact z, fun p hp => new_lst gs a hp (l1.app l2) h q⟩
  | subI h => rw [rx.raw_inv, ry.raw_inv]; exact rW_of op_sub ⟨_, _, rfl, rfl, q M _ _ H h a (Mv.refl _ _) (.raw _)⟩
  | mulI z h => rw [rx.raw_inv, ry.raw_inv]; exact rW_of op_mul ⟨_, _, rfl, rfl, z, q M _ _ H h a (Mv.refl _ _) (.raw _)⟩
  | mulS z h => rw [rx.raw_inv, ry.raw_inv]; exact rW_of op_mulS ⟨_, _, rfl, rfl, z, q M _ _ H h a (Mv.refl _ _) (.raw _)⟩
  | mulL z1 z2 z h =>
    obtain ⟨p1, xs, rfl, s1, _, l1⟩ := rx.lst_inv
    rw [ry.raw_inv]
    refine rW_of op_rep ⟨p1, _, xs, rfl, rfl, s1, z1, z2, by rw [l1.length]; exact z, fun p hp => new_lst gs a hp ?_ h q⟩
    exact RpL.repl l1 _
  | mulT hne z1 z2 z h =>
    obtain ⟨p1, xs, rfl, s1, l1⟩ := rx.tup_inv
    rw [ry.raw_inv]
    refine rW_of op_repF ⟨p1, _, xs, rfl, rfl, s1, fun e => hne (by subst e; cases l1; rfl), z1, z2, by rw [l1.length]; exact z, new_tup gs a ?_ h q⟩
    exact RpL.repl l1 _
  | divI z z2 h => rw [rx.raw_inv, ry.raw_inv]; exact rW_of op_fdivW ⟨_, _, rfl, rfl, div_ok z z2, q M _ _ H h a (Mv.refl _ _) (.raw _)⟩
  | modI z h => rw [rx.raw_inv, ry.raw_inv]; exact rW_of op_mod ⟨_, _, rfl, rfl, z, q M _ _ H h a (Mv.refl _ _) (.raw _)⟩
  | powI z h => rw [rx.raw_inv, ry.raw_inv]; exact rW_of op_pow ⟨_, _, rfl, rfl, z, q M _ _ H h a (Mv.refl _ _) (.raw _)⟩
  | xorI h => rw [rx.raw_inv, ry.raw_inv]; exact rW_of op_xor ⟨_, _, rfl, rfl, q M _ _ H h a (Mv.refl _ _) (.raw _)⟩
  | andI h => rw [rx.raw_inv, ry.raw_inv]; exact rW_of op_and ⟨_, _, rfl, rfl, q M _ _ H h a (Mv.refl _ _) (.raw _)⟩
  | orI h => rw [rx.raw_inv, ry.raw_inv]; exact rW_of op_or ⟨_, _, rfl, rfl, q M _ _ H h a (Mv.refl _ _) (.raw _)⟩
  | shrI z h => rw [rx.raw_inv, ry.raw_inv]; exact rW_of op_shr ⟨_, _, rfl, rfl, z, q M _ _ H h a (Mv.refl _ _) (.raw _)⟩
  | shlI z h => rw [rx.raw_inv, ry.raw_inv]; exact rW_of op_shl ⟨_, _, rfl, rfl, z, q M _ _ H h a (Mv.refl _ _) (.raw _)⟩
theorem we_bin (gs : Gst G) {op : Operator} (h : WE X G W a M ρ xr fun M1 d => WE X G W b M1 ρ xr fun M2 e => BinD op d e (R M2)) : WE X G W (.BinOp a op b pos) M ρ xr R :=
  we_of (pe_op op_rW pe_wp pe_wp) (tev_op (F := fun d e M R => BinD op d e (R M)) (fun M x y d e H Q a rx ry h q => bin_ok gs a rx ry h q) (h.run.mono fun _ _ z => z.run))
/-! ### comparisons -/
def isN : D → Bool
  | .raw .non => true
  | _ => false
inductive CmpD : CmpOp → D → D → (Bool → Prop) → Prop
  | lt {i j : Int} {k : Bool → Prop} (h : k (decide (i < j))) : CmpD .Lt (I i) (I j) k
  | le {i j : Int} {k : Bool → Prop} (h : k (decide (i ≤ j))) : CmpD .LtE (I i) (I j) k
  | gt {i j : Int} {k : Bool → Prop} (h : k (decide (j < i))) : CmpD .Gt (I i) (I j) k
  | ge {i j : Int} {k : Bool → Prop} (h : k (decide (j ≤ i))) : CmpD .GtE (I i) (I j) k
  | ltBI {p : Bool} {j : Int} {k : Bool → Prop} (h : k (decide (bI p < j))) : CmpD .Lt (B p) (I j) k
  | gtBI {p : Bool} {j : Int} {k : Bool → Prop} (h : k (decide (j < bI p))) : CmpD .Gt (B p) (I j) k
  | leIB {p : Bool} {j : Int} {k : Bool → Prop} (h : k (decide (j ≤ bI p))) : CmpD .LtE (I j) (B p) k
  | eq {d e : D} {k : Bool → Prop} (p1 : Pl 60 d) (p2 : Pl 60 e) (h : k (eqd d e)) : CmpD .Eq d e k
  | ne {d e : D} {k : Bool → Prop} (p1 : Pl 60 d) (p2 : Pl 60 e) (h : k (!eqd d e)) : CmpD .NotEq d e k
  | isN {d : D} {k : Bool → Prop} (h : k (isN d)) : CmpD .Is d N0 k
  | notN {d : D} {k : Bool → Prop} (h : k (!isN d)) : CmpD .IsNot d N0 k
  | inT {d : D} {l : List D} {k : Bool → Prop} (p1 : Pl 60 d) (p2 : ∀ x ∈ l, Pl 60 x) (h : k (l.any fun x => eqd x d)) : CmpD .In d (.tup l) k
  | inL {d : D} {l : List D} {k : Bool → Prop} (p1 : Pl 60 d) (p2 : ∀ x ∈ l, Pl 60 x) (h : k (l.any fun x => eqd x d)) : CmpD .In d (.lst l) k
  | notInT {d : D} {l : List D} {k : Bool → Prop} (p1 : Pl 60 d) (p2 : ∀ x ∈ l, Pl 60 x) (h : k (!l.any fun x => eqd x d)) : CmpD .NotIn d (.tup l) k
  | notInL {d : D} {l : List D} {k : Bool → Prop} (p1 : Pl 60 d) (p2 : ∀ x ∈ l, Pl 60 x) (h : k (!l.any fun x => eqd x d)) : CmpD .NotIn d (.lst l) k
  | inS {c : Nat} {z : Str} {k : Bool → Prop} (h : k (decide (c ∈ z.cps.toList))) : CmpD .In (Z ⟨#[c]⟩) (Z z) k
  | notInS {c : Nat} {z : Str} {k : Bool → Prop} (h : k (!decide (c ∈ z.cps.toList))) : CmpD .NotIn (Z ⟨#[c]⟩) (Z z) k
theorem isN_of {K : PySem.W.Frag} {Y : List Addr} {H : Hp} {x : V} {d : D} (r : Rp K Y H x d) : decide (x = .non) = isN d := by
  cases r with
  | raw => cases x <;> simp [isN]
  | tup _ _ => simp [isN]
  | lst _ _ _ => simp [isN]
  | ext _ => simp [isN]
theorem any_map {l : List D} {d : D} : ((pyDs l).any fun y => PyData.eqv y (pyD d)) = l.any fun x => eqd x d := by
  rw [pyDs_map, List.any_map]; rfl
theorem cmp_ok (hu : X.A.units + 64 < cLine) {op : CmpOp} {x y : V} {d e : D} {H : Hp} {Q : VK} (a : AtM G X.K M H) (rx : Rp X.K (dom M) H x d) (ry : Rp X.K (dom M) H y e) (h : CmpD op d e fun b => Q (.bl b) H) :
    rW X (compareOp op) x y H Q := by
  cases h with
  | lt h => rw [rx.raw_inv, ry.raw_inv]; exact rW_of op_lt ⟨_, _, rfl, rfl, h⟩
  | le h => rw [rx.raw_inv, ry.raw_inv]; exact rW_of op_le ⟨_, _, rfl, rfl, h⟩
  | gt h => rw [rx.raw_inv, ry.raw_inv]; exact rW_of op_gt ⟨_, _, rfl, rfl, h⟩
  | ge h => rw [rx.raw_inv, ry.raw_inv]; exact rW_of op_ge ⟨_, _, rfl, rfl, h⟩
  | ltBI h => rw [rx.raw_inv, ry.raw_inv]; exact rW_of op_ltBI ⟨_, _, rfl, rfl, h⟩
  | gtBI h => rw [rx.raw_inv, ry.raw_inv]; exact rW_of op_gtBI ⟨_, _, rfl, rfl, h⟩
  | leIB h => rw [rx.raw_inv, ry.raw_inv]; exact rW_of op_leIB ⟨_, _, rfl, rfl, h⟩
  | eq p1 p2 h =>
    intro pins s σ v u I rv ru
    obtain ⟨as, r1⟩ := Dp.reads I _ x v (Rp.dp p1 rx) rv
    obtain ⟨bs, r2⟩ := Dp.reads I _ y u (Rp.dp p2 ry) ru
    have h1 := p1.plain.2
    exact PySem.SeqAt.eq_plain r1 r2 p1.plain.1 p2.plain.1 (by omega) ⟨.bl _, H, I, rfl, h⟩
  | ne p1 p2 h =>
    intro pins s σ v u I rv ru
    obtain ⟨as, r1⟩ := Dp.reads I _ x v (Rp.dp p1 rx) rv
    obtain ⟨bs, r2⟩ := Dp.reads I _ y u (Rp.dp p2 ry) ru
    have h1 := p1.plain.2
    exact PySem.SeqAt.ne_plain r1 r2 p1.plain.1 p2.plain.1 (by omega) ⟨.bl _, H, I, rfl, h⟩
  | isN h => rw [ry.raw_inv]; exact rW_of op_isN ⟨rfl, by rw [isN_of rx]; exact h⟩
  | notN h => rw [ry.raw_inv]; exact rW_of op_notN ⟨rfl, by rw [isN_of rx]; exact h⟩
  | inT p1 p2 h =>
    intro pins s σ v u I rv ru
    obtain ⟨as, r1⟩ := Dp.reads I _ x v (Rp.dp p1 rx) rv
    have pt : Pl 61 (.tup _) := .tup p2
    obtain ⟨bs, r2⟩ := Dp.reads I _ y u (Rp.dp pt ry) ru
    have h1 := p1.plain.2
    have h2 := pt.plain.1
    simp only [pyD] at r2
    rw [pyD, PyData.plain] at h2
    exact PySem.SeqAt.in_tuple_data r2 r1 h2 p1.plain.1 (by omega) ⟨.bl _, H, I, rfl, by rw [any_map]; exact h⟩
  | inL p1 p2 h =>
    intro pins s σ v u I rv ru
    obtain ⟨as, r1⟩ := Dp.reads I _ x v (Rp.dp p1 rx) rv
    have pt : Pl 61 (.lst _) := .lst p2
    obtain ⟨bs, r2⟩ := Dp.reads I _ y u (Rp.dp pt ry) ru
    have h1 := p1.plain.2
    have h2 := pt.plain.1
    simp only [pyD] at r2
    rw [pyD, PyData.plain] at h2
    exact PySem.SeqAt.in_list_data r2 r1 h2 p1.plain.1 (by omega) ⟨.bl _, H, I, rfl, by rw [any_map]; exact h⟩
  | notInT p1 p2 h =>
    intro pins s σ v u I rv ru
    obtain ⟨as, r1⟩ := Dp.reads I _ x v (Rp.dp p1 rx) rv
    have pt : Pl 61 (.tup _) := .tup p2
    obtain ⟨bs, r2⟩ := Dp.reads I _ y u (Rp.dp pt ry) ru
    have h1 := p1.plain.2
    have h2 := pt.plain.1
    simp only [pyD] at r2
    rw [pyD, PyData.plain] at h2
    exact PySem.SeqAt.notIn_tuple_data r2 r1 h2 p1.plain.1 (by omega) ⟨.bl _, H, I, rfl, by rw [any_map]; exact h⟩
  | notInL p1 p2 h =>
    intro pins s σ v u I rv ru
    obtain ⟨as, r1⟩ := Dp.reads I _ x v (Rp.dp p1 rx) rv
    have pt : Pl 61 (.lst _) := .lst p2
    obtain ⟨bs, r2⟩ := Dp.reads I _ y u (Rp.dp pt ry) ru
    have h1 := p1.plain.2
    have h2 := pt.plain.1
    simp only [pyD] at r2
    rw [pyD, PyData.plain] at h2
    exact PySem.SeqAt.notIn_list_data r2 r1 h2 p1.plain.1 (by omega) ⟨.bl _, H, I, rfl, by rw [any_map]; exact h⟩
  | inS h => rw [rx.raw_inv, ry.raw_inv]; exact rW_of op_in_sign ⟨_, _, rfl, rfl, h⟩
  | notInS h => rw [rx.raw_inv, ry.raw_inv]; exact rW_of op_notIn_sign ⟨_, _, rfl, rfl, h⟩
theorem CmpD.imp {op : CmpOp} {d e : D} {k k' : Bool → Prop} (h : CmpD op d e k) (f : ∀ b, k b → k' b) : CmpD op d e k' := by
  cases h with
  | lt h => exact .lt (f _ h)
  | le h => exact .le (f _ h)
  | gt h => exact .gt (f _ h)
  | ge h => exact .ge (f _ h)
  | ltBI h => exact .ltBI (f _ h)
  | gtBI h => exact .gtBI (f _ h)
  | leIB h => exact .leIB (f _ h)
  | eq p1 p2 h => exact .eq p1 p2 (f _ h)
  | ne p1 p2 h => exact .ne p1 p2 (f _ h)
  | isN h => exact .isN (f _ h)
  | notN h => exact .notN (f _ h)
  | inT p1 p2 h => exact .inT p1 p2 (f _ h)
  | inL p1 p2 h => exact .inL p1 p2 (f _ h)
  | notInT p1 p2 h => exact .notInT p1 p2 (f _ h)
  | notInL p1 p2 h => exact .notInL p1 p2 (f _ h)
  | inS h => exact .inS (f _ h)
  | notInS h => exact .notInS (f _ h)
theorem we_cmp (hu : X.A.units + 64 < cLine) {op : CmpOp} (h : WE X G W a M ρ xr fun M1 d => WE X G W b M1 ρ xr fun M2 e => CmpD op d e fun k => R M2 (B k)) (hm : behindInMarks op b = false := by rfl) :
    WE X G W (.Compare a [op] [b] pos) M ρ xr R :=
  we_of (pe_cmpR op_rW pe_wp pe_wp hm) (tev_op (F := fun d e M R => CmpD op d e fun k => R M (B k)) (fun M x y d e H Q a rx ry h q => cmp_ok hu a rx ry (h.imp fun k hk => q M _ _ H hk a (Mv.refl _ _) (.raw _))) (h.run.mono fun _ _ z => z.run))
theorem wt_cmp (hu : X.A.units + 64 < cLine) {op : CmpOp} {R : Ms → Bool → Prop} (h : WE X G W a M ρ xr fun M1 d => WE X G W b M1 ρ xr fun M2 e => CmpD op d e (R M2)) (hm : behindInMarks op b = false := by rfl) :
    WT X G W (.Compare a [op] [b] pos) M ρ xr R := wt_of (pt_cmpR op_rW pe_wp pe_wp hm) fun σ H a0 b0 x Q q => by
  refine h σ H a0 b0 x _ fun M1 d v H1 h1 a1 m1 r1 => ?_
  refine h1 σ H1 a1 (m1.sl a0 b0) (x.mv m1) _ fun M2 e u H2 h2 a2 m2 r2 => ?_
  exact cmp_ok hu a2 (m2.rp a1 r1) r2 (h2.imp fun k hk => ⟨k, rfl, q M2 k H2 hk a2 (m1.trans m2)⟩)
/-- a op b op' c -/
theorem we_chain (hu : X.A.units + 64 < cLine) {op op' : CmpOp}
    (h : WE X G W a M ρ xr fun M1 d => WE X G W b M1 ρ xr fun M2 e => CmpD op d e fun k => if k = true then WE X G W c M2 ρ xr fun M3 f => CmpD op' e f fun k => R M3 (B k) else R M2 (B false))
    (hm : lastMarks [op, op'] [b, c] = false := by with_unfolding_all rfl) : WE X G W (.Compare a [op, op'] [b, c] pos) M ρ xr R :=
  we_of (pe_chain op_rW op_rW pe_wp pe_wp pe_wp hm) fun σ H a0 b0 x Q q => by
  refine h σ H a0 b0 x _ fun M1 d v H1 h1 a1 m1 r1 => ?_
  refine h1 σ H1 a1 (m1.sl a0 b0) (x.mv m1) _ fun M2 e u H2 h2 a2 m2 r2 => ?_
  refine cmp_ok hu a2 (m2.rp a1 r1) r2 (h2.imp fun k hk => ⟨k, rfl, ?_⟩)
  cases k with
  | false => exact iteF (q M2 _ _ H2 hk a2 (m1.trans m2) (.raw _))
  | true =>
    refine iteT ((ofT hk) σ H2 a2 (m2.sl a1 (m1.sl a0 b0)) (x.mv (m1.trans m2)) _ fun M3 f w H3 h3 a3 m3 r3 => ?_)
    exact cmp_ok hu a3 (m3.rp a2 r2) r3 (h3.imp fun k hk => q M3 _ _ H3 hk a3 ((m1.trans m2).trans m3) (.raw _))
theorem wt_chain (hu : X.A.units + 64 < cLine) {op op' : CmpOp} {R : Ms → Bool → Prop}
    (h : WE X G W a M ρ xr fun M1 d => WE X G W b M1 ρ xr fun M2 e => CmpD op d e fun k => if k = true then WE X G W c M2 ρ xr fun M3 f => CmpD op' e f (R M3) else R M2 false)
    (hm : lastMarks [op, op'] [b, c] = false := by with_unfolding_all rfl) : WT X G W (.Compare a [op, op'] [b, c] pos) M ρ xr R :=
  wt_of (pt_chain op_rW op_rW pe_wp pe_wp pe_wp hm) fun σ H a0 b0 x Q q => by
  refine h σ H a0 b0 x _ fun M1 d v H1 h1 a1 m1 r1 => ?_
  refine h1 σ H1 a1 (m1.sl a0 b0) (x.mv m1) _ fun M2 e u H2 h2 a2 m2 r2 => ?_
  refine cmp_ok hu a2 (m2.rp a1 r1) r2 (h2.imp fun k hk => ⟨k, rfl, ?_⟩)
  cases k with
  | false => exact iteF ⟨false, rfl, q M2 _ H2 hk a2 (m1.trans m2)⟩
  | true =>
    refine iteT ((ofT hk) σ H2 a2 (m2.sl a1 (m1.sl a0 b0)) (x.mv (m1.trans m2)) _ fun M3 f w H3 h3 a3 m3 r3 => ?_)
    exact cmp_ok hu a3 (m3.rp a2 r2) r3 (h3.imp fun k hk => ⟨k, rfl, q M3 _ H3 hk a3 ((m1.trans m2).trans m3)⟩)
/-! ### tests -/
inductive TruD : D → (Bool → Prop) → Prop
  | bl {b : Bool} {k : Bool → Prop} (h : k b) : TruD (B b) k
  | int {i : Int} {k : Bool → Prop} (h : k (i != 0)) : TruD (I i) k
  | str {z : Str} {k : Bool → Prop} (l : z.length ≤ sizeLine) (h : k ((z.length : Int) != 0)) : TruD (Z z) k
  | tup {l : List D} {k : Bool → Prop} (h : k (!l.isEmpty)) : TruD (.tup l) k
  | lst {l : List D} {k : Bool → Prop} (h : k (!l.isEmpty)) : TruD (.lst l) k
theorem RpL.isEmpty {K : PySem.W.Frag} {Y : List Addr} {H : Hp} {xs : List V} {ds : List D} (r : RpL K Y H xs ds) : xs.isEmpty = ds.isEmpty := by cases r <;> rfl
theorem wt_val {R : Ms → Bool → Prop} (h : WE X G W e M ρ xr fun M1 d => TruD d (R M1)) (he : ∀ whole, isTrue e X.env whole = (do let v ← whole; standAt e.pos; holding [v] (truthy v)) := by intro _; rfl) : WT X G W e M ρ xr R :=
  wt_of (pt_truth pe_wp he) fun σ H a0 b0 x Q q => by
  refine h σ H a0 b0 x _ fun M1 d v H1 h1 a1 m1 r1 => ?_
  cases h1 with
  | bl h => rw [r1.raw_inv]; exact ⟨_, rfl, q M1 _ H1 h a1 m1⟩
  | int h => rw [r1.raw_inv]; exact ⟨_, rfl, q M1 _ H1 h a1 m1⟩
  | str l h => rw [r1.raw_inv]; exact ⟨_, ⟨l, rfl⟩, q M1 _ H1 h a1 m1⟩
  | tup h =>
    obtain ⟨p, xs, rfl, s1, l1⟩ := r1.tup_inv
    exact ⟨_, .inr (.inl ⟨xs, s1, rfl⟩), by rw [l1.isEmpty]; exact q M1 _ H1 h a1 m1⟩
  | lst h =>
    obtain ⟨p, xs, rfl, s1, _, l1⟩ := r1.lst_inv
    exact ⟨_, .inl ⟨xs, SqL.of s1, rfl⟩, by rw [l1.isEmpty]; exact q M1 _ H1 h a1 m1⟩
theorem wt_not {R : Ms → Bool → Prop} (h : WT X G W e M ρ xr fun M1 k => R M1 (!k)) : WT X G W (.UnaryOp .Not e pos) M ρ xr R :=
  wt_of (pt_not pt_wp) fun σ H a0 b0 x Q q => h σ H a0 b0 x _ fun M1 k H1 hk a1 m1 => q M1 _ H1 hk a1 m1
variable {rest : List Expr}
theorem wt_bool {op} {R : Ms → Bool → Prop} (h : WW X G W (.BoolOp op rest pos) M ρ xr R) : WT X G W (.BoolOp op rest pos) M ρ xr R :=
  wt_of (PW.pt pw_wp) fun σ H a0 b0 x Q q => h σ H a0 b0 x Q q
theorem ww_and1 {R : Ms → Bool → Prop} (h : WT X G W a M ρ xr R) : WW X G W (.BoolOp .And [a] pos) M ρ xr R :=
  ww_of (pw_and1 pt_wp) fun σ H a0 b0 x Q q => h σ H a0 b0 x Q q
theorem ww_or1 {R : Ms → Bool → Prop} (h : WT X G W a M ρ xr R) : WW X G W (.BoolOp .Or [a] pos) M ρ xr R :=
  ww_of (pw_or1 pt_wp) fun σ H a0 b0 x Q q => h σ H a0 b0 x Q q
theorem ww_and {R : Ms → Bool → Prop} (h : WT X G W a M ρ xr fun M1 k => if k = true then WW X G W (.BoolOp .And (b :: rest) pos) M1 ρ xr R else R M1 false) : WW X G W (.BoolOp .And (a :: b :: rest) pos) M ρ xr R :=
  ww_of (pw_and pt_wp pw_wp) fun σ H a0 b0 x Q q => h σ H a0 b0 x _ fun M1 k H1 hk a1 m1 => by
  cases k with
  | false => exact iteF (q M1 _ H1 hk a1 m1)
  | true => exact iteT ((ofT hk) σ H1 a1 (m1.sl a0 b0) (x.mv m1) _ fun M2 k2 H2 h2 a2 m2 => q M2 k2 H2 h2 a2 (m1.trans m2))
theorem ww_or {R : Ms → Bool → Prop} (h : WT X G W a M ρ xr fun M1 k => if k = true then R M1 true else WW X G W (.BoolOp .Or (b :: rest) pos) M1 ρ xr R) : WW X G W (.BoolOp .Or (a :: b :: rest) pos) M ρ xr R :=
  ww_of (pw_or pt_wp pw_wp) fun σ H a0 b0 x Q q => h σ H a0 b0 x _ fun M1 k H1 hk a1 m1 => by
  cases k with
  | true => exact iteT (q M1 _ H1 hk a1 m1)
  | false => exact iteF ((ofF hk) σ H1 a1 (m1.sl a0 b0) (x.mv m1) _ fun M2 k2 H2 h2 a2 m2 => q M2 k2 H2 h2 a2 (m1.trans m2))
/-- .. as values, of bools -/
theorem we_one {op} (h : WE X G W a M ρ xr R) : WE X G W (.BoolOp op [a] pos) M ρ xr R := we_of (pe_one pe_wp) h
theorem we_and (h : WE X G W a M ρ xr fun M1 d => ∃ k, d = B k ∧ if k = true then WE X G W (.BoolOp .And (b :: rest) pos) M1 ρ xr R else R M1 (B false)) : WE X G W (.BoolOp .And (a :: b :: rest) pos) M ρ xr R :=
  we_of (pe_and pe_wp pe_wp) fun σ H a0 b0 x Q q => h σ H a0 b0 x _ fun M1 d v H1 hk a1 m1 r1 => by
  obtain ⟨k, rfl, hk⟩ := hk
  rw [r1.raw_inv]
  refine ⟨k, rfl, ?_⟩
  cases k with
  | false => exact iteF (q M1 _ _ H1 hk a1 m1 (.raw _))
  | true => exact iteT ((ofT hk) σ H1 a1 (m1.sl a0 b0) (x.mv m1) _ fun M2 k2 v H2 h2 a2 m2 => q M2 k2 v H2 h2 a2 (m1.trans m2))
theorem we_or (h : WE X G W a M ρ xr fun M1 d => ∃ k, d = B k ∧ if k = true then R M1 (B true) else WE X G W (.BoolOp .Or (b :: rest) pos) M1 ρ xr R) : WE X G W (.BoolOp .Or (a :: b :: rest) pos) M ρ xr R :=
  we_of (pe_or pe_wp pe_wp) fun σ H a0 b0 x Q q => h σ H a0 b0 x _ fun M1 d v H1 hk a1 m1 r1 => by
  obtain ⟨k, rfl, hk⟩ := hk
  rw [r1.raw_inv]
  refine ⟨k, rfl, ?_⟩
  cases k with
  | true => exact iteT (q M1 _ _ H1 hk a1 m1 (.raw _))
  | false => exact iteF ((ofF hk) σ H1 a1 (m1.sl a0 b0) (x.mv m1) _ fun M2 k2 v H2 h2 a2 m2 => q M2 k2 v H2 h2 a2 (m1.trans m2))
theorem we_not (h : WE X G W a M ρ xr fun M1 d => ∃ k, d = B k ∧ R M1 (B (!k))) : WE X G W (.UnaryOp .Not a pos) M ρ xr R :=
  we_of (pe_not pe_wp) fun σ H a0 b0 x Q q => h σ H a0 b0 x _ fun M1 d v H1 hk a1 m1 r1 => by
  obtain ⟨k, rfl, hk⟩ := hk
  rw [r1.raw_inv]
  exact ⟨k, rfl, q M1 _ _ H1 hk a1 m1 (.raw _)⟩
theorem we_neg (h : WE X G W a M ρ xr fun M1 d => ∃ i : Int, d = I i ∧ R M1 (I (-i))) : WE X G W (.UnaryOp .USub a pos) M ρ xr R :=
  we_of (pe_un un_neg pe_wp) fun σ H a0 b0 x Q q => h σ H a0 b0 x _ fun M1 d v H1 hk a1 m1 r1 => by
  obtain ⟨k, rfl, hk⟩ := hk
  rw [r1.raw_inv]
  exact ⟨k, rfl, q M1 _ _ H1 hk a1 m1 (.raw _)⟩
theorem we_ifx (h : WT X G W c M ρ xr fun M1 k => if k = true then WE X G W a M1 ρ xr R else WE X G W b M1 ρ xr R) : WE X G W (.IfExp c a b pos) M ρ xr R :=
  we_of (pe_ifExp pt_wp pe_wp pe_wp) fun σ H a0 b0 x Q q => h σ H a0 b0 x _ fun M1 k H1 hk a1 m1 => by
  cases k with
  | true => exact iteT ((show WE X G W a M1 ρ xr R from hk) σ H1 a1 (m1.sl a0 b0) (x.mv m1) _ fun M2 k2 v H2 h2 a2 m2 => q M2 k2 v H2 h2 a2 (m1.trans m2))
  | false => exact iteF ((show WE X G W b M1 ρ xr R from hk) σ H1 a1 (m1.sl a0 b0) (x.mv m1) _ fun M2 k2 v H2 h2 a2 m2 => q M2 k2 v H2 h2 a2 (m1.trans m2))
/-! ### arguments, displays -/
variable {es : List Expr} {RA : Ms → List D → Prop}
theorem wa_nil (h : RA M []) : WA X G W [] M ρ xr RA := wa_of pa_nil fun σ H a0 b0 x Q q => q M [] [] H h a0 (Mv.refl _ _) .nil
theorem wa_cons (h : WE X G W e M ρ xr fun M1 d => WA X G W es M1 ρ xr fun M2 ds => RA M2 (d :: ds)) (hs : starEach (e :: es) X.env = (false, eval e X.env) :: starEach es X.env := by rfl) : WA X G W (e :: es) M ρ xr RA :=
  wa_of (pa_cons pe_wp pa_wp hs) fun σ H a0 b0 x Q q => h σ H a0 b0 x _ fun M1 d v H1 hk a1 m1 r1 =>
    hk σ H1 a1 (m1.sl a0 b0) (x.mv m1) _ fun M2 ds vs H2 h2 a2 m2 r2 => q M2 _ _ H2 h2 a2 (m1.trans m2) (.cons (m2.rp a1 r1) r2)
theorem we_tup (gs : Gst G) {x1} (h : WA X G W es M ρ xr fun M1 ds => ds.length ≤ sizeLine ∧ R M1 (.tup ds)) : WE X G W (.Tuple es x1 pos) M ρ xr R :=
  we_of (pe_tupF pa_wp) fun σ H a0 b0 x Q q => h σ H a0 b0 x _ fun M1 ds vs H1 hk a1 m1 r1 =>
    ⟨by rw [r1.length]; exact hk.1, new_tup (R := R) gs a1 r1 hk.2 fun M' d v H' h a m r => q M' d v H' h a (m1.trans m) r⟩
theorem we_lst1 (gs : Gst G) (h : WA X G W (e :: es) M ρ xr fun M1 ds => ds.length ≤ sizeLine ∧ R M1 (.lst ds)) : WE X G W (.List (e :: es) pos) M ρ xr R :=
  we_of (pe_lst pa_wp) fun σ H a0 b0 x Q q => h σ H a0 b0 x _ fun M1 ds vs H1 hk a1 m1 r1 =>
    ⟨by rw [r1.length]; exact hk.1, fun p hp => new_lst (R := R) gs a1 hp r1 hk.2 fun M' d v H' h a m r => q M' d v H' h a (m1.trans m) r⟩
theorem we_lst (gs : Gst G) (h : WA X G W es M ρ xr fun M1 ds => ds.length ≤ sizeLine ∧ R M1 (.lst ds)) : WE X G W (.List es pos) M ρ xr R :=
  we_of (pe_lst pa_wp) fun σ H a0 b0 x Q q => h σ H a0 b0 x _ fun M1 ds vs H1 hk a1 m1 r1 =>
    ⟨by rw [r1.length]; exact hk.1, fun p hp => new_lst (R := R) gs a1 hp r1 hk.2 fun M' d v H' h a m r => q M' d v H' h a (m1.trans m) r⟩
/-- a list that will be changed: it becomes ours -/
theorem own_lst (gs : Gst G) {H : Hp} {p : Addr} {xs : List V} {ds : List D} (a : AtM G X.K M H) (hp : H p = none) (r : RpL X.K (dom M) H xs ds) : AtM G X.K ((p, .lst ds) :: M) (upd H p (.lst xs)) ∧ Mv M H ((p, .lst ds) :: M) (upd H p (.lst xs)) := by
  refine a.own gs (upd_grow hp) hp ⟨xs, upd_same, ?_⟩
  have m : Mv M H ((p, .lst ds) :: M) (upd H p (.lst xs)) := ⟨fun b v h _ _ => upd_grow hp b v h, fun b hb => by
    rcases List.mem_cons.mp hb with z | z
    · subst z; exact .inr fun o h => by rw [hp] at h; cases h
    · exact .inl z⟩
  exact m.rpl a r
theorem we_lstO (gs : Gst G) (h : WA X G W es M ρ xr fun M1 ds => ds.length ≤ sizeLine ∧ ∀ p, R ((p, .lst ds) :: M1) (Rf p)) : WE X G W (.List es pos) M ρ xr R :=
  we_of (pe_lst pa_wp) fun σ H a0 b0 x Q q => h σ H a0 b0 x _ fun M1 ds vs H1 hk a1 m1 r1 =>
    ⟨by rw [r1.length]; exact hk.1, fun p hp => by
      obtain ⟨a2, m2⟩ := own_lst gs a1 hp r1
      exact q _ _ _ _ (hk.2 p) a2 (m1.trans m2) (.raw _)⟩
end
end Wv
set_option maxRecDepth 100000
set_option maxHeartbeats 2000000
namespace Wv
open PySem PySem.Spec PyProof.Rows L2
theorem skyN {B : Heap} {l : List Env} {a : Addr} {cls : Value} {d : Option Addr} {L : Addr} {h : Heap} (x : Sky B l a (L2N.Zn cls d) L h) : Sky B l a (Zc cls d) L h := by
  rcases x with ⟨hB, hn, hl, oe, vs, he, hz, hd, h1⟩ | ⟨h1, h2, h3, oe, vs, T, oT, ts, he, hz, r⟩ | ⟨h1, h2, h3, oe, vs, T, oT, ts, he, hz, r⟩
  · exact .inl ⟨hB, hn, hl, oe, vs, he, hz.zc, hd, h1⟩
  · exact .inr (.inl ⟨h1, h2, h3, oe, vs, T, oT, ts, he, hz.zc, r⟩)
  · exact .inr (.inr ⟨h1, h2, h3, oe, vs, T, oT, ts, he, hz.zc, r⟩)
/-- who takes every exception takes those where nothing is handled -/
theorem takesN {X : Cx} {W : WX} (t : L2.Takes X W) : L2N.Takes X W := fun u s' ⟨a, B, sI, pins, σ, H, cls, d, e, I, nb, up, sky, na, os, ag, w⟩ =>
  t u s' ⟨a, B, sI, pins, σ, H, cls, d, e, I, nb, up, skyN sky, na, os, ag, w⟩
theorem takes0N {X : Cx} : L2N.Takes X (fun _ _ _ _ => False) := fun _ _ x => by
  obtain ⟨_, _, _, _, _, _, _, _, _, _, _, _, _, _, _, _, z⟩ := x
  exact z.elim
/-- as Fun.ok, for a def that may raise, where nothing is handled -/
theorem okXN {P : Program} {w : World} {K : PySem.W.Frag} {mg : Str → Option Value} {base : Heap} {x qual : Str} {st : Stmt} {f : Addr} {fd : FuncData} {N ps : List Str} {k : Nat} {sp : Sp} (F : Fun K x qual st f fd) (S : FnScope N ps (defScope st)) (len : ∀ vs H Q E, sp vs H Q E → vs.length = ps.length)
    (hbody : ∀ (cdv : Value) (A : Around) (outer : List Env) (s : Shared) (H : Hp) (vs : List V) (Q : VK) (E : XK), Room k (A.deeper (envOfC qual (defScope st) s.heap.objs.size f cdv)) → sp vs H Q E →
      ∃ t, PSs (cxOf (L2N.CX P w) P w K mg base N qual (defScope st) f cdv A outer s H E) (defBody st) t ∧ t { nx := fun _ H' => Q .non H', rt := Q } (L2.start N vs) H) : FnOk P w K mg base (L2N.CX P w) (k + 1) f fd ps sp := by
  obtain ⟨oc, od, kV, doc, pm, an, cdv, ct, osl, rfl, lk, hcd⟩ := F.ex
  exact fn_of lk hcd S len fun A outer s H vs Q E hr hsp => hbody cdv A outer s H vs Q E hr hsp
/-- what every rule leans on -/
structure Ct (X : Cx) (G : Hp → Prop) (W : WX) (k : Nat) : Prop where
  gs : Gst G
  tk : L2N.Takes X W
  hr : Room k X.A
  hp : PassesOwn (model X.prog X.w) X.A X.env X.xe
  hc : X.calm = true
  nd : X.N.Nodup
inductive IsI : D → (Int → Prop) → Prop
  | mk {i : Int} {k : Int → Prop} (h : k i) : IsI (I i) k
inductive IsB : D → (Bool → Prop) → Prop
  | mk {i : Bool} {k : Bool → Prop} (h : k i) : IsB (B i) k
inductive IsZ : D → (Str → Prop) → Prop
  | mk {i : Str} {k : Str → Prop} (h : k i) : IsZ (Z i) k
inductive IsT : D → (List D → Prop) → Prop
  | mk {i : List D} {k : List D → Prop} (h : k i) : IsT (.tup i) k
inductive IsL : D → (List D → Prop) → Prop
  | mk {i : List D} {k : List D → Prop} (h : k i) : IsL (.lst i) k
/-- a list of ours, an instance of ours -/
inductive OwL (M : Ms) : D → (Nat → Addr → List D → Prop) → Prop
  | mk {q : Addr} {l : List D} {k : Nat → Addr → List D → Prop} (j : Nat) (e : M[j]? = some (q, .lst l)) (h : k j q l) : OwL M (Rf q) k
inductive OwI (M : Ms) : D → (Nat → Addr → Addr → List (Str × D) → Prop) → Prop
  | mk {q C : Addr} {fs : List (Str × D)} {k : Nat → Addr → Addr → List (Str × D) → Prop} (j : Nat) (e : M[j]? = some (q, .ins C fs)) (h : k j q C fs) : OwI M (Rf q) k
/-- what a def promises, by data and owned objects -/
abbrev SpD := List D → Ms → (Value → Ms → Prop) → (Ms → D → Prop) → Prop
def spOf (G : Hp → Prop) (K : PySem.W.Frag) (S : SpD) : Sp := fun vs H Q E => ∃ M ds xr R, AtM G K M H ∧ RpL K (dom M) H vs ds ∧ S ds M xr R ∧
  (∀ M' d v H', R M' d → AtM G K M' H' → Mv M H M' H' → Rp K (dom M') H' v d → Q v H') ∧ (∀ cls M' H', xr cls M' → AtM G K M' H' → Mv M H M' H' → E cls none H')
/-- a def of the text that keeps its promise; dd: its defaults -/
structure Gf (P : Program) (w : World) (K : PySem.W.Frag) (mg : Str → Option Value) (base : Heap) (G : Hp → Prop) (k : Nat) (f : Addr) (dd : List V) (S : SpD) : Prop where
  ex : ∃ (fd : FuncData) (ps : List Str) (dv : List Value), FnOk P w K mg base (L2N.CX P w) k f fd ps (spOf G K S) ∧ Binds K fd ps dv ∧ Vals dd dv
  kp : PySem.W.keepIn K (.ref f) = true
theorem Gf.mono {P : Program} {w : World} {K : PySem.W.Frag} {mg : Str → Option Value} {base : Heap} {G : Hp → Prop} {j k : Nat} {f : Addr} {dd : List V} {S : SpD} (g : Gf P w K mg base G j f dd S) (h : j ≤ k) : Gf P w K mg base G k f dd S := by
  obtain ⟨⟨fd, ps, dv, F, b, r⟩, kp⟩ := g
  exact ⟨⟨fd, ps, dv, F.mono h, b, r⟩, kp⟩
section
variable {X : Cx} {CX : CXT} {k : Nat} {f C : Addr} {fd : FuncData} {ps : List Str} {sp : Sp} {dvs : List V} {ds : List Value} {E : L2.St → XK} {x m : Str} {p pos apos : Pos} {e o : Expr} {es : List Expr} {ta : TE} {t : TA}
theorem pe_call0S (F : FnOk X.prog X.w X.K X.mg X.base CX k f fd ps sp) (hr : Room k X.A) (hg : Gl X x) (hm : X.mg x = some (.ref f)) (hk : PySem.W.keepIn X.K (.ref f) = true) (hb : Binds X.K fd ps ds) (hd : Vals dvs ds) (hx : ∀ σ, PassesAt CX X σ (E σ))
    (hdb : (x == ("__debug__" : Str)) = false := by decide) : PE X (.Call (.Name x p) [] [] pos) (tCallSD sp dvs E tNil) := by
  refine ⟨fun pins s σ H Q I h => ?_⟩
  refine wpAny_Call_Name_kw (ld_glob I hg hm ?_ hdb)
  exact PySem.W.callWith_K0 I.kIn hk (run_fnSD (us := []) F hr hb hd (hx σ) I .nil h)
def tMethS (C : Addr) (m : Str) (sp : Sp) (dvs : List V) (E : L2.St → XK) (ta : TE) (t : TA) : TE := fun σ H Q => ta σ H fun x H1 => ∃ a dx fs, x = .ref a ∧ H1 a = some (.ins C dx fs) ∧ fs.lookup m = none ∧
  t σ H1 fun vs H2 => sp (x :: (vs ++ dvs)) H2 Q (E σ)
theorem pe_methS {pl : Sem Bool} (he : PE X o ta) (c : Cls X.K C) (hm : Meth X.K C m f) (F : FnOk X.prog X.w X.K X.mg X.base CX k f fd ps sp) (hr : Room k X.A) (hb : Binds X.K fd ps ds) (hd : Vals dvs ds) (hx : ∀ σ, PassesAt CX X σ (E σ)) (ha : PA X (e :: es) t)
    (hst : starEach (e :: es) X.env = (false, eval e X.env) :: starEach es X.env := by rfl) (hpl : (backTo pos (starEach es X.env)).any (·.1) = false := by rfl)
    (ht : eval (.Call (.Attribute o m apos) (e :: es) [] pos) X.env = (do
      let ov ← eval o X.env
      standAt apos.atName
      let (f, first) ← holding [ov] (getMethod ov m pl)
      callWith pos f first (backTo pos (starEach (e :: es) X.env)) (backToKw pos (keywordEach [] X.env))) := by rfl) :
    PE X (.Call (.Attribute o m apos) (e :: es) [] pos) (tMethS C m sp dvs E ta t) := by
  refine ⟨fun pins s σ H Q I h => ?_⟩
  refine PySem.W.methodCall_KW (pl := pl) (thn (he.run pins s σ H _ I h) fun u s1 ⟨x, H1, I1, rx, a, dx, fs, ex, ea, l, q⟩ => ?_) ht
  subst ex
  obtain rfl : u = Value.ref a := rx
  refine getmeth_ok I1 ea c hm l ?_
  refine PySem.W.callWith_K (first := [.ref a]) (h₀ := X.base) I.ok.mod.kin hm.kp (thn (ha.run pos pins s1 σ H1 _ I1 q) fun us s2 ⟨vs, H2, I2, r, q2⟩ => ⟨I2.kIn, ?_⟩) hst hpl
  exact run_fnSD (us := .ref a :: us) (vs := .ref a :: vs) F hr hb hd (hx σ) I2 (.cons rfl r) q2
theorem pe_meth0S {pl : Sem Bool} (he : PE X o ta) (c : Cls X.K C) (hm : Meth X.K C m f) (F : FnOk X.prog X.w X.K X.mg X.base CX k f fd ps sp) (hr : Room k X.A) (hb : Binds X.K fd ps ds) (hd : Vals dvs ds) (hx : ∀ σ, PassesAt CX X σ (E σ))
    (ht : eval (.Call (.Attribute o m apos) [] [] pos) X.env = (do
      let ov ← eval o X.env
      standAt apos.atName
      let (f, first) ← holding [ov] (getMethod ov m pl)
      callWith pos f first (backTo pos (starEach [] X.env)) (backToKw pos (keywordEach [] X.env))) := by rfl) :
    PE X (.Call (.Attribute o m apos) [] [] pos) (tMethS C m sp dvs E ta tNil) := by
  refine ⟨fun pins s σ H Q I h => ?_⟩
  refine PySem.W.methodCall_KW (pl := pl) (thn (he.run pins s σ H _ I h) fun u s1 ⟨x, H1, I1, rx, a, dx, fs, ex, ea, l, q⟩ => ?_) ht
  subst ex
  obtain rfl : u = Value.ref a := rx
  refine getmeth_ok I1 ea c hm l ?_
  exact PySem.W.callWith_K0 (first := [.ref a]) I1.kIn hm.kp (run_fnSD (us := [.ref a]) (vs := [.ref a]) F hr hb hd (hx σ) I1 (.cons rfl .nil) q)
theorem run_makeS {E : XK} {pins : List (Addr × Obj)} {σ : L2.St} {H : Hp} {s : Shared} {Q : VK} {us : List Value} {vs : List V} (M : Mk X.K C f) (F : FnOk X.prog X.w X.K X.mg X.base CX k f fd ps sp) (hr : Room (k + 1) X.A) (hb : Binds X.K fd ps ds) (hd : Vals dvs ds)
    (hx : PassesAt CX X σ E) (I : Inv X pins σ H s) (r : Vals vs us)
    (h : ∀ x dx, H x = none → H dx = none → dx ≠ x → sp (.ref x :: (vs ++ dvs)) (upd (upd H dx (.own x)) x (.ins C dx [])) (fun v H2 => v = .non ∧ Q (.ref x) H2) E) :
    wpAny (model X.prog X.w) X.A (call (.ref C) us) (EP X pins σ Q) X.xe s := by
  have hq := h (s.heap.objs.size + 1) s.heap.objs.size (I.hok.fresh (Nat.le_succ _)) (I.hok.fresh (Nat.le_refl _)) (Nat.ne_of_lt (Nat.lt_succ_self _))
  have I2 := Inv.made (C := C) I
  have r2 : Vals (V.ref (s.heap.objs.size + 1) :: (vs ++ dvs)) (Value.ref (s.heap.objs.size + 1) :: (us ++ ds)) := .cons rfl (r.append hd)
  have hl : (Value.ref (s.heap.objs.size + 1) :: us ++ ds).length = ps.length := by
    have e := r2.length
    rw [F.len _ _ _ _ hq] at e
    exact e.symm
  refine wpAny_call (make_map (f := f) I.kIn M.makes M.init (beq_iff_eq.mp M.fn) (codeAny_mono (F.run _ X.stack _ _ ⟨Value.ref (s.heap.objs.size + 1) :: us, []⟩ (Value.ref (s.heap.objs.size + 1) :: (us ++ ds)) _ _ E (hr.make C us [])
    (I2.env0.make C us []) (hb _ (Value.ref (s.heap.objs.size + 1) :: us) I2.kIn hl) r2 hq) fun r s' hq' => ?_))
  cases r with
  | error e => exact hx pins _ _ e s' I2 hq'
  | ok fl =>
    cases fl with
    | ret u =>
      obtain ⟨v, H', I3, rv, ev, q3⟩ := I2.after hq'
      subst ev
      exact ⟨rv, ⟨V.ref (s.heap.objs.size + 1), H', I3, rfl, q3⟩⟩
    | next => exact False.elim hq'
    | brk => exact False.elim hq'
    | cont => exact False.elim hq'
def tMakeS (C : Addr) (sp : Sp) (dvs : List V) (E : L2.St → XK) (t : TA) : TE := fun σ H Q => t σ H fun vs H1 => ∀ x dx, H1 x = none → H1 dx = none → dx ≠ x →
  sp (.ref x :: (vs ++ dvs)) (upd (upd H1 dx (.own x)) x (.ins C dx [])) (fun v H2 => v = .non ∧ Q (.ref x) H2) (E σ)
theorem pe_makeS (M : Mk X.K C f) (F : FnOk X.prog X.w X.K X.mg X.base CX k f fd ps sp) (hr : Room (k + 1) X.A) (hg : Gl X x) (hm : X.mg x = some (.ref C)) (hb : Binds X.K fd ps ds) (hd : Vals dvs ds) (hx : ∀ σ, PassesAt CX X σ (E σ))
    (ha : PA X (e :: es) t) (hdb : (x == ("__debug__" : Str)) = false := by decide) (he : starEach (e :: es) X.env = (false, eval e X.env) :: starEach es X.env := by rfl) (hpl : (backTo pos (starEach es X.env)).any (·.1) = false := by rfl) :
    PE X (.Call (.Name x p) (e :: es) [] pos) (tMakeS C sp dvs E t) := by
  refine ⟨fun pins s σ H Q I h => ?_⟩
  refine wpAny_Call_Name_kw (ld_glob I hg hm ?_ hdb)
  refine PySem.W.callWith_K (h₀ := X.base) I.ok.mod.kin M.kp (thn (ha.run pos pins s σ H _ I h) fun us s1 ⟨vs, H1, I1, r, q⟩ => ⟨I1.kIn, ?_⟩) he hpl
  exact run_makeS M F hr hb hd (hx σ) I1 r q
theorem pe_make0S (M : Mk X.K C f) (F : FnOk X.prog X.w X.K X.mg X.base CX k f fd ps sp) (hr : Room (k + 1) X.A) (hg : Gl X x) (hm : X.mg x = some (.ref C)) (hb : Binds X.K fd ps ds) (hd : Vals dvs ds) (hx : ∀ σ, PassesAt CX X σ (E σ))
    (hdb : (x == ("__debug__" : Str)) = false := by decide) : PE X (.Call (.Name x p) [] [] pos) (tMakeS C sp dvs E tNil) := by
  refine ⟨fun pins s σ H Q I h => ?_⟩
  refine wpAny_Call_Name_kw (ld_glob I hg hm ?_ hdb)
  exact PySem.W.callWith_K0 I.kIn M.kp (run_makeS (us := []) M F hr hb hd (hx σ) I .nil h)
end
section
variable {X : Cx} {G : Hp → Prop} {W : WX} {M : Ms} {ρ : Rh} {xr : Value → Ms → Prop} {N : En} {a b c e o : Expr} {es : List Expr} {pos p apos : Pos} {R : Ms → D → Prop} {k j : Nat}
/-! ### calls of the text's defs -/
/-- the promise at a call -/
theorem sp_use {H : Hp} {S : SpD} {vs : List V} {ds : List D} {σ : L2.St} {Q : VK} (a : AtM G X.K M H) (r : RpL X.K (dom M) H vs ds) (s : S ds M xr R) (x : Xok W G X.K M H σ xr)
    (q : ∀ M' d v H', R M' d → AtM G X.K M' H' → Mv M H M' H' → Rp X.K (dom M') H' v d → Q v H') : spOf G X.K S vs H Q (L2.WE W σ) :=
  ⟨M, ds, xr, R, a, r, s, q, x⟩
theorem raws_dd {K : PySem.W.Frag} {Y : List Addr} {H : Hp} {vs : List V} {ds : List D} (h : RpL K Y H vs ds) (dd : List V) : RpL K Y H (vs ++ dd) (ds ++ dd.map D.raw) := h.app (RpL.raws_mk dd)
theorem we_call {S : SpD} {x : Str} {f : Addr} {dd : List V} (cx : Ct X G W k) (g : Gf X.prog X.w X.K X.mg X.base G j f dd S) (hj : j ≤ k) (hm : X.mg x = some (.ref f)) (hg : Gl X x)
    (h : WA X G W (e :: es) M ρ xr fun M1 ds => S (ds ++ dd.map D.raw) M1 xr R) (hdb : (x == ("__debug__" : Str)) = false := by decide)
    (he : starEach (e :: es) X.env = (false, eval e X.env) :: starEach es X.env := by rfl) (hpl : (backTo pos (starEach es X.env)).any (·.1) = false := by rfl) : WE X G W (.Call (.Name x p) (e :: es) [] pos) M ρ xr R := by
  obtain ⟨⟨fd, ps, dv, F, b, r⟩, kp⟩ := g
  refine we_of (pe_callSD F (cx.hr.mono hj) hg hm kp b r (E := L2.WE W) (fun σ => L2N.passAt cx.tk σ) pa_wp hdb he hpl) fun σ H a0 b0 xk Q q => ?_
  exact h σ H a0 b0 xk _ fun M1 ds vs H1 s a1 m1 r1 => sp_use a1 (raws_dd r1 dd) s (xk.mv m1) fun M' d v H' hk a' m' r' => q M' d v H' hk a' (m1.trans m') r'
theorem we_call0 {S : SpD} {x : Str} {f : Addr} {dd : List V} (cx : Ct X G W k) (g : Gf X.prog X.w X.K X.mg X.base G j f dd S) (hj : j ≤ k) (hm : X.mg x = some (.ref f)) (hg : Gl X x)
    (h : S (dd.map D.raw) M xr R) (hdb : (x == ("__debug__" : Str)) = false := by decide) : WE X G W (.Call (.Name x p) [] [] pos) M ρ xr R := by
  obtain ⟨⟨fd, ps, dv, F, b, r⟩, kp⟩ := g
  refine we_of (pe_call0S F (cx.hr.mono hj) hg hm kp b r (E := L2.WE W) (fun σ => L2N.passAt cx.tk σ) hdb) fun σ H a0 b0 xk Q q => ?_
  exact sp_use a0 (raws_dd (ds := []) .nil dd) h xk q
/-! ### instances -/
theorem lookup_map {α β : Type} {vs : List (Str × α)} {fs : List (Str × β)} (h : vs.map (·.1) = fs.map (·.1)) {f : Str} {d : β} (e : fs.lookup f = some d) : ∃ i : Nat, ∃ v, vs.lookup f = some v ∧ (fs.map (·.2))[i]? = some d ∧ (vs.map (·.2))[i]? = some v := by
  induction fs generalizing vs with
  | nil => simp at e
  | cons q fs ih =>
    cases vs with
    | nil => simp at h
    | cons u vs =>
      obtain ⟨g, d0⟩ := q
      obtain ⟨g', v0⟩ := u
      simp only [List.map_cons, List.cons.injEq] at h
      obtain ⟨rfl, h2⟩ := h
      rw [List.lookup_cons] at e
      cases z : f == g' with
      | true =>
        rw [z] at e
        cases e
        exact ⟨0, v0, by rw [List.lookup_cons, z], rfl, rfl⟩
      | false =>
        rw [z] at e
        obtain ⟨i, v, e1, e2, e3⟩ := ih h2 e
        exact ⟨i + 1, v, by rw [List.lookup_cons, z]; exact e1, by simpa using e2, by simpa using e3⟩
theorem lookup_none {α β : Type} {vs : List (Str × α)} {fs : List (Str × β)} (h : vs.map (·.1) = fs.map (·.1)) {f : Str} (e : fs.lookup f = none) : vs.lookup f = none := by
  induction fs generalizing vs with
  | nil => cases vs with
    | nil => rfl
    | cons u vs => simp at h
  | cons q fs ih =>
    cases vs with
    | nil => simp at h
    | cons u vs =>
      obtain ⟨g, d0⟩ := q
      obtain ⟨g', v0⟩ := u
      simp only [List.map_cons, List.cons.injEq] at h
      obtain ⟨rfl, h2⟩ := h
      rw [List.lookup_cons] at e ⊢
      cases z : f == g' with
      | true => rw [z] at e; cases e
      | false => rw [z] at e; exact ih h2 e
theorem RpF.look {K : PySem.W.Frag} {Y : List Addr} {H : Hp} {vs : List (Str × V)} {fs : List (Str × D)} (r : RpF K Y H vs fs) {f : Str} {d : D} (e : fs.lookup f = some d) : ∃ v, vs.lookup f = some v ∧ Rp K Y H v d := by
  obtain ⟨i, v, e1, e2, e3⟩ := lookup_map r.1 e
  obtain ⟨v', e4, r4⟩ := r.2.get e2
  rw [e3] at e4; cases e4
  exact ⟨v, e1, r4⟩
def putD (f : Str) (v : D) : List (Str × D) → List (Str × D)
  | [] => [(f, v)]
  | (g, x) :: r => if g = f then (g, v) :: r else (g, x) :: putD f v r
theorem RpF.put {K : PySem.W.Frag} {Y : List Addr} {H : Hp} {vs : List (Str × V)} {fs : List (Str × D)} (r : RpF K Y H vs fs) (f : Str) {v : V} {d : D} (h : Rp K Y H v d) : RpF K Y H (putF f v vs) (putD f d fs) := by
  obtain ⟨r1, r2⟩ := r
  induction fs generalizing vs with
  | nil => cases vs with
    | nil => exact ⟨rfl, .cons h .nil⟩
    | cons u vs => simp at r1
  | cons q fs ih =>
    cases vs with
    | nil => simp at r1
    | cons u vs =>
      obtain ⟨g, d0⟩ := q
      obtain ⟨g', v0⟩ := u
      simp only [List.map_cons, List.cons.injEq] at r1
      obtain ⟨rfl, h2⟩ := r1
      cases r2 with
      | cons ha hb =>
        unfold putF putD
        by_cases z : g' = f
        · rw [if_pos z, if_pos z]
          exact ⟨by simp [h2], .cons h hb⟩
        · rw [if_neg z, if_neg z]
          obtain ⟨i1, i2⟩ := ih h2 hb
          exact ⟨by simp [i1], .cons ha i2⟩
theorem RpF.len {K : PySem.W.Frag} {Y : List Addr} {H : Hp} {vs : List (Str × V)} {fs : List (Str × D)} (r : RpF K Y H vs fs) : vs.length = fs.length := by
  have := congrArg List.length r.1
  simpa using this
theorem at_ob {H : Hp} {i : Nat} {q : Addr} {u : O} (a : AtM G X.K M H) (h : M[i]? = some (q, u)) : OAt X.K (dom M) H q u := a.ob _ (List.mem_of_getElem? h)
theorem we_fld {f : Str} (h : WE X G W o M ρ xr fun M1 d => OwI M1 d fun _ _ C fs => Cls X.K C ∧ NoAttr X.K C f ∧ ∃ z, fs.lookup f = some z ∧ R M1 z)
    (hb : attributeBase o f X.env (eval o X.env) = eval o X.env := by rfl) : WE X G W (.Attribute o f pos) M ρ xr R :=
  we_of (pe_fld pe_wp hb) fun σ H a0 b0 x Q q => h σ H a0 b0 x _ fun M1 d v H1 hk a1 m1 r1 => by
  cases hk with
  | mk i hi hk =>
  rename_i q0 C fs
  obtain ⟨c, n, z, hl, hk⟩ := hk
  obtain ⟨dx, vs, e, rf⟩ := at_ob a1 hi
  obtain ⟨v', e', r'⟩ := rf.look hl
  exact ⟨q0, C, dx, vs, v', r1.raw_inv, e, c, n, e', q M1 z v' H1 hk a1 m1 r'⟩
theorem ws_fld {f : Str} {pos' : Pos} (gs : Gst G) (h : WE X G W a M ρ N.xr fun M1 z => WE X G W o M1 ρ N.xr fun M2 d => OwI M2 d fun i q C fs => Cls X.K C ∧ NoAttr X.K C f ∧ fs.length < 1000 ∧ N.nx (M2.set i (q, .ins C (putD f z fs))) ρ)
    (hs : swapsWith a (some (.Attribute o f pos')) pos.line X.env = pure false := by rfl) : WS X G W (.Assign [.Attribute o f pos'] a pos) M ρ N :=
  ws_of (ps_fld pe_wp pe_wp hs) fun σ H a0 b0 Dn x n r bk ct => by
  refine h σ H a0 b0 (fun cls M' H' hx ha hm => x M' H' cls σ hx ha hm) _ fun M1 z v H1 h1 a1 m1 r1 => ?_
  refine h1 σ H1 a1 (m1.sl a0 b0) (fun cls M' H' hx ha hm => x M' H' cls σ hx ha (m1.trans hm)) _ fun M2 d u H2 h2 a2 m2 r2 => ?_
  cases h2 with
  | mk i hi hk =>
  rename_i q C fs
  obtain ⟨c, na, hl, hk⟩ := hk
  obtain ⟨dx, vs, e, rf⟩ := at_ob a2 hi
  refine ⟨q, C, dx, vs, r2.raw_inv, e, c, na, by rw [rf.len]; exact hl, ?_⟩
  have m12 := m1.trans m2
  have rz := m2.rp a1 r1
  have hm : Mv M2 H2 M2 (upd H2 q (.ins C dx (putF f v vs))) := ⟨fun b w e n _ => by
      rw [upd_ne (fun z => n (by rw [z]; exact mem_at hi))]; exact e, fun _ h => .inl h⟩
  obtain ⟨a3, m3⟩ := a2.write gs (o' := .ins C (putD f z fs)) hi (u := .ins C dx (putF f v vs)) (fun _ z => by cases z) ⟨dx, _, upd_same, (rf.put f rz).1, hm.rpl a2 (rf.put f rz).2⟩
  exact n _ _ σ _ hk a3 (m3.sl a2 (m12.sl a0 b0)) (m12.trans m3)
/-- o.m(e, ..) of an owned instance -/
theorem we_meth {S : SpD} {m : Str} {f C : Addr} {dd : List V} (cx : Ct X G W k) (g : Gf X.prog X.w X.K X.mg X.base G j f dd S) (hj : j ≤ k) (cl : Cls X.K C) (me : Meth X.K C m f)
    (h : WE X G W o M ρ xr fun M1 d => OwI M1 d fun _ q C' fs => C' = C ∧ fs.lookup m = none ∧ WA X G W (e :: es) M1 ρ xr fun M2 ds => S (Rf q :: (ds ++ dd.map D.raw)) M2 xr R) {pl : Sem Bool}
    (hst : starEach (e :: es) X.env = (false, eval e X.env) :: starEach es X.env := by rfl) (hpl : (backTo pos (starEach es X.env)).any (·.1) = false := by rfl)
    (ht : eval (.Call (.Attribute o m apos) (e :: es) [] pos) X.env = (do
      let ov ← eval o X.env
      standAt apos.atName
      let (f, first) ← holding [ov] (getMethod ov m pl)
      callWith pos f first (backTo pos (starEach (e :: es) X.env)) (backToKw pos (keywordEach [] X.env))) := by rfl) : WE X G W (.Call (.Attribute o m apos) (e :: es) [] pos) M ρ xr R := by
  obtain ⟨⟨fd, ps, dv, F, b, r⟩, kp⟩ := g
  refine we_of (pe_methS pe_wp cl me F (cx.hr.mono hj) b r (E := L2.WE W) (fun σ => L2N.passAt cx.tk σ) pa_wp hst hpl ht) fun σ H a0 b0 xk Q q => ?_
  refine h σ H a0 b0 xk _ fun M1 d v H1 h1 a1 m1 r1 => ?_
  cases h1 with
  | mk i hi h1 =>
  rename_i q0 C' fs
  obtain ⟨rfl, hl, h1⟩ := h1
  obtain ⟨dx, vs, e, rf⟩ := at_ob a1 hi
  obtain rfl := r1.raw_inv
  exact ⟨q0, dx, vs, rfl, e, lookup_none rf.1 hl, h1 σ H1 a1 (m1.sl a0 b0) (xk.mv m1) _ fun M2 ds vs2 H2 s a2 m2 r2 =>
    sp_use a2 (.cons (m2.rp a1 r1) (raws_dd r2 dd)) s (xk.mv (m1.trans m2)) fun M' d v H' hk a' m' r' => q M' d v H' hk a' ((m1.trans m2).trans m') r'⟩
theorem we_meth0 {S : SpD} {m : Str} {f C : Addr} {dd : List V} (cx : Ct X G W k) (g : Gf X.prog X.w X.K X.mg X.base G j f dd S) (hj : j ≤ k) (cl : Cls X.K C) (me : Meth X.K C m f)
    (h : WE X G W o M ρ xr fun M1 d => OwI M1 d fun _ q C' fs => C' = C ∧ fs.lookup m = none ∧ S (Rf q :: dd.map D.raw) M1 xr R) {pl : Sem Bool}
    (ht : eval (.Call (.Attribute o m apos) [] [] pos) X.env = (do
      let ov ← eval o X.env
      standAt apos.atName
      let (f, first) ← holding [ov] (getMethod ov m pl)
      callWith pos f first (backTo pos (starEach [] X.env)) (backToKw pos (keywordEach [] X.env))) := by rfl) : WE X G W (.Call (.Attribute o m apos) [] [] pos) M ρ xr R := by
  obtain ⟨⟨fd, ps, dv, F, b, r⟩, kp⟩ := g
  refine we_of (pe_meth0S pe_wp cl me F (cx.hr.mono hj) b r (E := L2.WE W) (fun σ => L2N.passAt cx.tk σ) ht) fun σ H a0 b0 xk Q q => ?_
  refine h σ H a0 b0 xk _ fun M1 d v H1 h1 a1 m1 r1 => ?_
  cases h1 with
  | mk i hi h1 =>
  rename_i q0 C' fs
  obtain ⟨rfl, hl, h1⟩ := h1
  obtain ⟨dx, vs, e, rf⟩ := at_ob a1 hi
  obtain rfl := r1.raw_inv
  exact ⟨q0, dx, vs, rfl, e, lookup_none rf.1 hl, sp_use a1 (.cons r1 (raws_dd (ds := []) .nil dd)) h1 (xk.mv m1) fun M' d v H' hk a' m' r' => q M' d v H' hk a' (m1.trans m') r'⟩
/-- C(..): a new owned instance, then __init__ -/
theorem made (gs : Gst G) {H : Hp} {x dx C : Addr} (a : AtM G X.K M H) (hx : H x = none) (hd : H dx = none) (ne : dx ≠ x) :
    AtM G X.K ((x, .ins C []) :: M) (upd (upd H dx (.own x)) x (.ins C dx [])) ∧ Mv M H ((x, .ins C []) :: M) (upd (upd H dx (.own x)) x (.ins C dx [])) := by
  refine a.own gs (fun b v e => ?_) hx ⟨dx, [], upd_same, rfl, .nil⟩
  rw [upd_ne (ne_of_none e hx), upd_ne (ne_of_none e hd)]
  exact e
theorem we_make {S : SpD} {x : Str} {f C : Addr} {dd : List V} (cx : Ct X G W k) (g : Gf X.prog X.w X.K X.mg X.base G j f dd S) (hj : j + 1 ≤ k) (mk : Mk X.K C f) (hm : X.mg x = some (.ref C)) (hg : Gl X x)
    (h : WA X G W (e :: es) M ρ xr fun M1 ds => ∀ q, S (Rf q :: (ds ++ dd.map D.raw)) ((q, .ins C []) :: M1) xr fun M2 _ => R M2 (Rf q)) (hret : ∀ ds M xr R, S ds M xr R → S ds M xr fun M' d => R M' d ∧ d = N0)
    (hdb : (x == ("__debug__" : Str)) = false := by decide) (he : starEach (e :: es) X.env = (false, eval e X.env) :: starEach es X.env := by rfl) (hpl : (backTo pos (starEach es X.env)).any (·.1) = false := by rfl) :
    WE X G W (.Call (.Name x p) (e :: es) [] pos) M ρ xr R := by
  obtain ⟨⟨fd, ps, dv, F, b, r⟩, kp⟩ := g
  refine we_of (pe_makeS mk F (cx.hr.mono hj) hg hm b r (E := L2.WE W) (fun σ => L2N.passAt cx.tk σ) pa_wp hdb he hpl) fun σ H a0 b0 xk Q q => ?_
  refine h σ H a0 b0 xk _ fun M1 ds vs H1 s a1 m1 r1 => fun y dy hy hdy ne => ?_
  obtain ⟨a2, m2⟩ := made (C := C) cx.gs a1 hy hdy ne
  refine sp_use (xr := xr) a2 (.cons (.raw _) (raws_dd (m2.rpl a1 r1) dd)) (hret _ _ _ _ (s y)) (xk.mv (m1.trans m2)) fun M' d v H' hk a' m' r' => ?_
  obtain ⟨hk, rfl⟩ := hk
  exact ⟨r'.raw_inv, q M' _ _ H' hk a' ((m1.trans m2).trans m') (.raw _)⟩
theorem we_make0 {S : SpD} {x : Str} {f C : Addr} {dd : List V} (cx : Ct X G W k) (g : Gf X.prog X.w X.K X.mg X.base G j f dd S) (hj : j + 1 ≤ k) (mk : Mk X.K C f) (hm : X.mg x = some (.ref C)) (hg : Gl X x)
    (h : ∀ q, S (Rf q :: dd.map D.raw) ((q, .ins C []) :: M) xr fun M2 _ => R M2 (Rf q)) (hret : ∀ ds M xr R, S ds M xr R → S ds M xr fun M' d => R M' d ∧ d = N0)
    (hdb : (x == ("__debug__" : Str)) = false := by decide) : WE X G W (.Call (.Name x p) [] [] pos) M ρ xr R := by
  obtain ⟨⟨fd, ps, dv, F, b, r⟩, kp⟩ := g
  refine we_of (pe_make0S mk F (cx.hr.mono hj) hg hm b r (E := L2.WE W) (fun σ => L2N.passAt cx.tk σ) hdb) fun σ H a0 b0 xk Q q => fun y dy hy hdy ne => ?_
  obtain ⟨a2, m2⟩ := made (C := C) cx.gs a0 hy hdy ne
  refine sp_use (xr := xr) a2 (.cons (.raw _) (raws_dd (ds := []) .nil dd)) (hret _ _ _ _ (h y)) (xk.mv m2) fun M' d v H' hk a' m' r' => ?_
  obtain ⟨hk, rfl⟩ := hk
  exact ⟨r'.raw_inv, q M' _ _ H' hk a' (m2.trans m') (.raw _)⟩
/-! ### places, slices -/
theorem atI_rp {K : PySem.W.Frag} {Y : List Addr} {H : Hp} {vs : List V} {ds : List D} (r : RpL K Y H vs ds) {i : Int} {d : D} (e : atI ds i = some d) : ∃ v, atI vs i = some v ∧ Rp K Y H v d := by
  unfold atI at e ⊢
  rw [r.length]
  cases z : ixN ds.length i with
  | none => rw [z] at e; cases e
  | some j =>
    rw [z] at e
    obtain ⟨v, e1, e2⟩ := r.get (show ds[j]? = some d from e)
    exact ⟨v, e1, e2⟩
inductive IxD (M : Ms) : D → D → (D → Prop) → Prop
  | lst {l : List D} {i : Int} {d : D} {k : D → Prop} (e : atI l i = some d) (h : k d) : IxD M (.lst l) (I i) k
  | tup {l : List D} {i : Int} {d : D} {k : D → Prop} (e : atI l i = some d) (h : k d) : IxD M (.tup l) (I i) k
  | own {q : Addr} {l : List D} {i : Int} {d : D} {k : D → Prop} (j : Nat) (o : M[j]? = some (q, .lst l)) (e : atI l i = some d) (h : k d) : IxD M (Rf q) (I i) k
  | str {z : Str} {i : Int} {c : Nat} {k : D → Prop} (s : z.length ≤ sizeLine) (e : atI z.cps.toList i = some c) (h : k (Z ⟨#[c]⟩)) : IxD M (Z z) (I i) k
theorem we_ix (h : WE X G W a M ρ xr fun M1 d => WE X G W b M1 ρ xr fun M2 e => IxD M2 d e (R M2)) (hs : PlainIx b := by exact fun _ _ => rfl) : WE X G W (.Subscript a b pos) M ρ xr R :=
  we_of (pe_ix ix_seq pe_wp pe_wp hs) (tev_op (F := fun d e M R => IxD M d e (R M)) (fun M x y d e H Q a rx ry h q => by
    cases h with
    | lst e h =>
      obtain ⟨p1, xs, rfl, s1, _, l1⟩ := rx.lst_inv
      obtain ⟨v, e1, r1⟩ := atI_rp l1 e
      exact .inl ⟨p1, xs, _, v, rfl, ry.raw_inv, SqL.of s1, e1, q M _ _ H h a (Mv.refl _ _) r1⟩
    | tup e h =>
      obtain ⟨p1, xs, rfl, s1, l1⟩ := rx.tup_inv
      obtain ⟨v, e1, r1⟩ := atI_rp l1 e
      exact .inr (.inl ⟨p1, xs, _, v, rfl, ry.raw_inv, s1, e1, q M _ _ H h a (Mv.refl _ _) r1⟩)
    | own j o e h =>
      obtain ⟨xs, s1, l1⟩ := at_ob a o
      obtain ⟨v, e1, r1⟩ := atI_rp l1 e
      exact .inl ⟨_, xs, _, v, rx.raw_inv, ry.raw_inv, SqL.of s1, e1, q M _ _ H h a (Mv.refl _ _) r1⟩
    | str s e h => exact .inr (.inr ⟨_, _, _, rx.raw_inv, ry.raw_inv, s, e, q M _ _ H h a (Mv.refl _ _) (.raw _)⟩)) (h.run.mono fun _ _ z => z.run))
/-- the items of xs[lo:hi] -/
def cutD (xs : List D) (lo hi : Option Int) : List D := (xs.drop (HT.sIx xs.length 0 lo)).take (HT.sIx xs.length xs.length hi - HT.sIx xs.length 0 lo)
theorem RpL.cut {K : PySem.W.Frag} {Y : List Addr} {H : Hp} {vs : List V} {ds : List D} (r : RpL K Y H vs ds) (lo hi : Option Int) : RpL K Y H (cutV vs lo hi) (cutD ds lo hi) := by
  unfold cutV cutD
  rw [r.length]
  exact (r.drop _).take _
/-- a list of ints that stands in the module -/
def KL (K : PySem.W.Frag) (a : Addr) (xs : List V) : Prop := ∃ (o : Obj) (its : Array Value) (n : Nat), K.lookup a = some o ∧ o.cls = .type "list" ∧ o.dict = none ∧ o.data = .seq its n ∧ its.size ≤ sizeLine ∧ Vals xs its.toList
inductive SlD (K : PySem.W.Frag) (M : Ms) : D → Option Int → Option Int → (D → Prop) → Prop
  | lst {l : List D} {lo hi : Option Int} {k : D → Prop} (h : k (.lst (cutD l lo hi))) : SlD K M (.lst l) lo hi k
  | tup {l : List D} {lo hi : Option Int} {k : D → Prop} (h : k (.tup (cutD l lo hi))) : SlD K M (.tup l) lo hi k
  | str {z : Str} {lo hi : Option Int} {k : D → Prop} (s : z.length ≤ sizeLine) (h : k (Z (cutS z lo hi))) : SlD K M (Z z) lo hi k
  | own {q : Addr} {l : List D} {lo hi : Option Int} {k : D → Prop} (j : Nat) (o : M[j]? = some (q, .lst l)) (h : k (.lst (cutD l lo hi))) : SlD K M (Rf q) lo hi k
  | frz {q : Addr} {ob : Obj} {l : List D} {lo hi : Option Int} {k : D → Prop} (j : Nat) (o : M[j]? = some (q, .frz ob l)) (h : k (.lst (cutD l lo hi))) : SlD K M (Rf q) lo hi k
  | ko {q : Addr} {xs : List V} {lo hi : Option Int} {k : D → Prop} (o : KL K q xs) (h : k (.lst (cutD (xs.map D.raw) lo hi))) : SlD K M (Rf q) lo hi k
def WO (X : Cx) (G : Hp → Prop) (W : WX) (o : Option Expr) (M : Ms) (ρ : Rh) (xr : Value → Ms → Prop) (R : Ms → Option Int → Prop) : Prop :=
  match o with
  | none => R M none
  | some e => WE X G W e M ρ xr fun M1 d => IsI d fun i => R M1 (some i)
def oT (X : Cx) (o : Option Expr) : TO :=
  match o with
  | none => tNoPart
  | some e => tPart (eT X e)
theorem po_wp {o : Option Expr} : PO X o (oT X o) := by
  cases o with
  | none => exact po_none
  | some e => exact po_some pe_wp
theorem wo_run {σ : L2.St} {H : Hp} {o : Option Expr} {Ro : Ms → Option Int → Prop} (h : WO X G W o M ρ xr Ro) (a0 : AtM G X.K M H) (b0 : Sl X.K (dom M) H σ ρ) (x : Xok W G X.K M H σ xr) {Q : Option Int → Hp → Prop}
    (q : ∀ M' i H', Ro M' i → AtM G X.K M' H' → Mv M H M' H' → Q i H') : oT X o σ H Q := by
  cases o with
  | none => exact q M none H h a0 (Mv.refl _ _)
  | some e =>
    refine (show WE X G W e M ρ xr _ from h) σ H a0 b0 x _ fun M1 d v H1 h1 a1 m1 r1 => ?_
    cases h1 with
    | mk h1 => exact ⟨_, r1.raw_inv, q M1 (some _) H1 h1 a1 m1⟩
theorem cut_whole {l : List D} {lo hi : Option Int} (h : HT.sIx l.length 0 lo = 0 ∧ HT.sIx l.length l.length hi = l.length) : cutD l lo hi = l := by
  unfold cutD
  rw [h.1, h.2]
  simp
theorem we_slice (gs : Gst G) {lo hi : Option Expr} {p2 : Pos} (h : WE X G W a M ρ xr fun M1 d => WO X G W lo M1 ρ xr fun M2 l => WO X G W hi M2 ρ xr fun M3 u => SlD X.K M3 d l u (R M3)) : WE X G W (.Subscript a (.Slice lo hi none p2) pos) M ρ xr R :=
  we_of (pe_slice (sl_list.or (sl_tupF.or sl_str)) pe_wp po_wp po_wp) fun σ H a0 b0 x Q q => by
  refine h σ H a0 b0 x _ fun M1 d v H1 h1 a1 m1 r1 => ?_
  refine wo_run h1 a1 (m1.sl a0 b0) (x.mv m1) fun M2 l H2 h2 a2 m2 => ?_
  refine wo_run h2 a2 (m2.sl a1 (m1.sl a0 b0)) (x.mv (m1.trans m2)) fun M3 u H3 h3 a3 m3 => ?_
  have r3 := m3.rp a2 (m2.rp a1 r1)
  have m := (m1.trans m2).trans m3
  have q' : ∀ M' d v H', R M' d → AtM G X.K M' H' → Mv M3 H3 M' H' → Rp X.K (dom M') H' v d → Q v H' := fun M' d v H' hk a' m' r' => q M' d v H' hk a' (m.trans m') r'
  cases h3 with
  | lst h =>
    obtain ⟨p1, xs, rfl, s1, _, l1⟩ := r3.lst_inv
    exact .inl ⟨p1, xs, rfl, SqL.of s1, fun p hp => new_lst gs a3 hp (l1.cut _ _) h q'⟩
  | tup h =>
    obtain ⟨p1, xs, rfl, s1, l1⟩ := r3.tup_inv
    refine .inr (.inl ⟨p1, xs, rfl, s1, fun z => ?_, fun _ => new_tup gs a3 (l1.cut _ _) h q'⟩)
    rw [l1.length] at z
    rw [cut_whole z] at h
    exact q' M3 _ _ H3 h a3 (Mv.refl _ _) r3
  | str s h =>
    rw [r3.raw_inv]
    exact .inr (.inr ⟨_, rfl, s, q' M3 _ _ H3 h a3 (Mv.refl _ _) (.raw _)⟩)
  | own j o h =>
    obtain ⟨xs, s1, l1⟩ := at_ob a3 o
    rw [r3.raw_inv]
    exact .inl ⟨_, xs, rfl, SqL.of s1, fun p hp => new_lst gs a3 hp (l1.cut _ _) h q'⟩
  | frz j o h =>
    obtain ⟨xs, s1, l1⟩ := at_ob a3 o
    rw [r3.raw_inv]
    exact .inl ⟨_, xs, rfl, .inl (.inr ⟨_, s1⟩), fun p hp => new_lst gs a3 hp (l1.cut _ _) h q'⟩
  | @ko q xs _ _ _ o h =>
    rw [r3.raw_inv]
    exact .inl ⟨_, xs, rfl, .inr o, fun p hp => new_lst gs a3 hp ((RpL.raws_mk xs).cut _ _) h q'⟩
end
end Wv
set_option maxRecDepth 100000
set_option maxHeartbeats 2000000
namespace Wv
open PySem PySem.Spec PyProof.Rows L2
section
variable {X : Cx} {G : Hp → Prop} {W : WX} {M : Ms} {ρ : Rh} {xr : Value → Ms → Prop} {N : En} {a b c e o : Expr} {es : List Expr} {pos p apos : Pos} {R : Ms → D → Prop} {k j : Nat}
/-! ### statements -/
theorem wss_nil (h : N.nx M ρ) : WSs X G W [] M ρ N := wss_of pss_nil fun σ H a0 b0 Dn x n r bk ct => n M ρ σ H h a0 b0 (Mv.refl _ _)
theorem wss_cons {st : Stmt} {rest : List Stmt} (h : WS X G W st M ρ { N with nx := fun M' ρ' => WSs X G W rest M' ρ' N }) : WSs X G W (st :: rest) M ρ N :=
  wss_of (pss_cons ps_wp pss_wp) fun σ H a0 b0 Dn x n r bk ct => h σ H a0 b0 { Dn with nx := ssT X rest Dn } x
    (fun M1 ρ1 σ1 H1 h1 a1 b1 m1 => h1 σ1 H1 a1 b1 Dn (fun M' H' cls σ' hx ha hm => x M' H' cls σ' hx ha (m1.trans hm)) (fun M' ρ' σ' H' hk ha hb hm => n M' ρ' σ' H' hk ha hb (m1.trans hm))
      (fun M' d v H' hk ha hm => r M' d v H' hk ha (m1.trans hm)) (fun M' ρ' σ' H' hk ha hb hm => bk M' ρ' σ' H' hk ha hb (m1.trans hm)) (fun M' ρ' σ' H' hk ha hb hm => ct M' ρ' σ' H' hk ha hb (m1.trans hm)))
    r bk ct
theorem wss_one {st : Stmt} (h : WS X G W st M ρ N) : WSs X G W [st] M ρ N := wss_of (pss_one ps_wp) h
theorem ws_pass (h : N.nx M ρ) : WS X G W (.Pass pos) M ρ N := ws_of ps_pass fun σ H a0 b0 Dn x n r bk ct => n M ρ σ H h a0 b0 (Mv.refl _ _)
theorem ws_break (h : N.bk M ρ) : WS X G W (.Break pos) M ρ N := ws_of ps_break fun σ H a0 b0 Dn x n r bk ct => bk M ρ σ H h a0 b0 (Mv.refl _ _)
theorem ws_cont (h : N.ct M ρ) : WS X G W (.Continue pos) M ρ N := ws_of ps_continue fun σ H a0 b0 Dn x n r bk ct => ct M ρ σ H h a0 b0 (Mv.refl _ _)
/-- what is raised, of a statement's wish -/
theorem xok_of {σ : L2.St} {H : Hp} (x : ∀ M' H' cls σ', N.xr cls M' → AtM G X.K M' H' → Mv M H M' H' → W cls none σ' H') : Xok W G X.K M H σ N.xr := fun cls M' H' hx ha hm => x M' H' cls σ hx ha hm
theorem ws_ret (h : WE X G W e M ρ N.xr N.rt) : WS X G W (.Return (some e) pos) M ρ N :=
  ws_of (ps_ret pe_wp) fun σ H a0 b0 Dn x n r bk ct => h σ H a0 b0 (xok_of x) _ fun M1 d v H1 h1 a1 m1 r1 => r M1 d v H1 h1 a1 m1 r1
theorem ws_retN (h : N.rt M N0) : WS X G W (.Return none pos) M ρ N :=
  ws_of ps_retN fun σ H a0 b0 Dn x n r bk ct => r M N0 _ H h a0 (Mv.refl _ _) (.raw _)
theorem ws_expr (h : WE X G W e M ρ N.xr fun M1 _ => N.nx M1 ρ) (hs : swapsWith e none pos.line X.env = pure false := by rfl) : WS X G W (.Expr e pos) M ρ N :=
  ws_of (ps_expr pe_wp hs) fun σ H a0 b0 Dn x n r bk ct => h σ H a0 b0 (xok_of x) _ fun M1 d v H1 h1 a1 m1 r1 => n M1 ρ σ H1 h1 a1 (m1.sl a0 b0) m1
theorem ws_doc {z : Str} {j pos pos'} (h : N.nx M ρ) : WS X G W (.Expr (.Constant (.str z) j pos) pos') M ρ N := ws_of ps_doc fun σ H a0 b0 Dn x n r bk ct => n M ρ σ H h a0 b0 (Mv.refl _ _)
theorem ws_if {t u : List Stmt} (h : WT X G W c M ρ N.xr fun M1 k => if k = true then WSs X G W t M1 ρ N else WSs X G W u M1 ρ N) : WS X G W (.If c t u pos) M ρ N :=
  ws_of (ps_if pt_wp pss_wp pss_wp) fun σ H a0 b0 Dn x n r bk ct => h σ H a0 b0 (xok_of x) _ fun M1 k H1 h1 a1 m1 => by
  have hx : ∀ M' H' cls σ', N.xr cls M' → AtM G X.K M' H' → Mv M1 H1 M' H' → W cls none σ' H' := fun M' H' cls σ' hx ha hm => x M' H' cls σ' hx ha (m1.trans hm)
  have hn : ∀ M' ρ' σ' H', N.nx M' ρ' → AtM G X.K M' H' → Sl X.K (dom M') H' σ' ρ' → Mv M1 H1 M' H' → Dn.nx σ' H' := fun M' ρ' σ' H' hk ha hb hm => n M' ρ' σ' H' hk ha hb (m1.trans hm)
  have hr : ∀ M' d v H', N.rt M' d → AtM G X.K M' H' → Mv M1 H1 M' H' → Rp X.K (dom M') H' v d → Dn.rt v H' := fun M' d v H' hk ha hm => r M' d v H' hk ha (m1.trans hm)
  have hb : ∀ M' ρ' σ' H', N.bk M' ρ' → AtM G X.K M' H' → Sl X.K (dom M') H' σ' ρ' → Mv M1 H1 M' H' → Dn.bk σ' H' := fun M' ρ' σ' H' hk ha hb hm => bk M' ρ' σ' H' hk ha hb (m1.trans hm)
  have hc : ∀ M' ρ' σ' H', N.ct M' ρ' → AtM G X.K M' H' → Sl X.K (dom M') H' σ' ρ' → Mv M1 H1 M' H' → Dn.ct σ' H' := fun M' ρ' σ' H' hk ha hb hm => ct M' ρ' σ' H' hk ha hb (m1.trans hm)
  cases k with
  | true => exact iteT ((show WSs X G W t M1 ρ N from h1) σ H1 a1 (m1.sl a0 b0) Dn hx hn hr hb hc)
  | false => exact iteF ((show WSs X G W u M1 ρ N from h1) σ H1 a1 (m1.sl a0 b0) Dn hx hn hr hb hc)
/-! ### targets -/
/-- what a target does to the slots -/
def GOk (G : Hp → Prop) (K : PySem.W.Frag) (g : TG) (as : D → Rh → (Rh → Prop) → Prop) : Prop :=
  ∀ v d M ρ σ H (k : Rh → Prop) (Q : L2.St → Hp → Prop), AtM G K M H → Sl K (dom M) H σ ρ → Rp K (dom M) H v d → as d ρ k → (∀ ρ' σ', k ρ' → Sl K (dom M) H σ' ρ' → Q σ' H) → g v σ H Q
abbrev asN (i : Nat) : D → Rh → (Rh → Prop) → Prop := fun d ρ k => k (ρ.set i (some d))
theorem gok_name {K : PySem.W.Frag} (i : Nat) : GOk G K (gName i) (asN i) := fun v d M ρ σ H k Q a0 b0 r h q => q _ _ h (b0.set i r)
def asL : List (D → Rh → (Rh → Prop) → Prop) → List D → Rh → (Rh → Prop) → Prop
  | [], ds, ρ, k => ds = [] ∧ k ρ
  | a :: as, ds, ρ, k => ∃ d r, ds = d :: r ∧ a d ρ fun ρ' => asL as r ρ' k
def asT (as : List (D → Rh → (Rh → Prop) → Prop)) : D → Rh → (Rh → Prop) → Prop := fun d ρ k => ∃ ds, d = .tup ds ∧ ds.length = as.length ∧ asL as ds ρ k
def GsOk (G : Hp → Prop) (K : PySem.W.Frag) (g : TGs) (as : List (D → Rh → (Rh → Prop) → Prop)) : Prop :=
  ∀ vs ds M ρ σ H (k : Rh → Prop) (Q : L2.St → Hp → Prop), AtM G K M H → Sl K (dom M) H σ ρ → RpL K (dom M) H vs ds → asL as ds ρ k → (∀ ρ' σ', k ρ' → Sl K (dom M) H σ' ρ' → Q σ' H) → g vs σ H Q
theorem gsok_nil {K : PySem.W.Frag} : GsOk G K gNil [] := fun vs ds M ρ σ H k Q a0 b0 r h q => by
  obtain ⟨rfl, h⟩ := h
  cases r
  exact ⟨rfl, q _ _ h b0⟩
theorem gsok_cons {K : PySem.W.Frag} {t : TG} {u : TGs} {a : D → Rh → (Rh → Prop) → Prop} {as : List (D → Rh → (Rh → Prop) → Prop)} (h1 : GOk G K t a) (h2 : GsOk G K u as) : GsOk G K (gCons t u) (a :: as) := fun vs ds M ρ σ H k Q a0 b0 r h q => by
  obtain ⟨d, r', rfl, h⟩ := h
  cases r with
  | cons ra rb => exact ⟨_, _, rfl, h1 _ _ _ _ _ _ _ _ a0 b0 ra h fun ρ' σ' hk hs => h2 _ _ _ _ _ _ _ _ a0 hs rb hk q⟩
theorem gok_tup {K : PySem.W.Frag} {n : Nat} {t : TGs} {as : List (D → Rh → (Rh → Prop) → Prop)} (h : GsOk G K t as) (hn : as.length = n) : GOk G K (gTup K n t) (asT as) := fun v d M ρ σ H k Q a0 b0 r hh q => by
  obtain ⟨ds, rfl, hl, hh⟩ := hh
  obtain ⟨p1, xs, rfl, s1, l1⟩ := r.tup_inv
  exact ⟨p1, xs, rfl, s1, by rw [l1.length, hl, hn], h _ _ _ _ _ _ _ _ a0 b0 l1 hh q⟩
/-- x = e -/
theorem ws_set (i : Nat) {x : Str} {pos' : Pos} (hN : X.N.Nodup) (h : WE X G W e M ρ N.xr fun M1 d => N.nx M1 (ρ.set i (some d))) (hi : X.N[i]? = some x := by rfl) (hx : Loc X.env.scope x := by first | exact Or.inl rfl | exact Or.inr rfl)
    (hs : swapsWith e (some (.Name x pos')) pos.line X.env = pure false := by rfl) (hf : X.fn x = true ∨ X.env.scope.names.lookup x = some .local := by first | exact .inl rfl | exact .inr rfl) : WS X G W (.Assign [.Name x pos'] e pos) M ρ N :=
  ws_of (ps_set hN hi hx pe_wp hs hf) fun σ H a0 b0 Dn x n r bk ct => h σ H a0 b0 (xok_of x) _ fun M1 d v H1 h1 a1 m1 r1 => n M1 _ _ H1 h1 a1 ((m1.sl a0 b0).set i r1) m1
/-- any target -/
theorem ws_asg {tg : Expr} {g : TG} {as : D → Rh → (Rh → Prop) → Prop} (hg : PG X tg g) (ok : GOk G X.K g as) (h : WE X G W e M ρ N.xr fun M1 d => as d ρ fun ρ' => N.nx M1 ρ') (hs : swapsWithSole [tg] e pos.line X.env = pure false := by rfl) (hw : swappedStores [tg] e X.env = pure none := by rfl) (ha : (assignEach [tg] X.env).map (·.2) = [assign tg X.env] := by rfl) :
    WS X G W (.Assign [tg] e pos) M ρ N :=
  ws_of (ps_asg pe_wp hg hs hw ha) fun σ H a0 b0 Dn x n r bk ct => h σ H a0 b0 (xok_of x) _ fun M1 d v H1 h1 a1 m1 r1 => ok v d M1 ρ σ H1 _ _ a1 (m1.sl a0 b0) r1 h1 fun ρ' σ' hk hs => n M1 ρ' σ' H1 hk a1 hs m1
/-- a, b = e1, e2 -/
theorem ws_par (i j : Nat) {x y : Str} {a b : Expr} {px py pt : Pos} {kt k2 pt2} (hc : X.calm = true) (hN : X.N.Nodup) (h : WA X G W [a, b] M ρ N.xr fun M1 ds => ∃ d d', ds = [d, d'] ∧ N.nx M1 ((ρ.set i (some d)).set j (some d')))
    (hp : PS X (.Assign [.Tuple [.Name x px, .Name y py] kt pt] (.Tuple [a, b] k2 pt2) pos) (tPar i j (aT X [a, b]))) : WS X G W (.Assign [.Tuple [.Name x px, .Name y py] kt pt] (.Tuple [a, b] k2 pt2) pos) M ρ N :=
  ws_of hp fun σ H a0 b0 Dn x n r bk ct => h σ H a0 b0 (xok_of x) _ fun M1 ds vs H1 h1 a1 m1 r1 => by
  obtain ⟨d, d', rfl, h1⟩ := h1
  cases r1 with
  | cons ra rb => cases rb with
    | cons rb rc => cases rc; exact ⟨_, _, rfl, n M1 _ _ H1 h1 a1 (((m1.sl a0 b0).set i ra).set j rb) m1⟩
/-- xs[i] = e -/
theorem ws_sub (gs : Gst G) {o i : Expr} {sp : Pos} (h : WE X G W e M ρ N.xr fun M1 z => WE X G W o M1 ρ N.xr fun M2 d => WE X G W i M2 ρ N.xr fun M3 y => IsI y fun iv => OwL M3 d fun n q l => ∃ j, ixN l.length iv = some j ∧ N.nx (M3.set n (q, .lst (l.set j z))) ρ)
    (hp : ∀ {to ti : TE}, PE X o to → PE X i ti → PG X (.Subscript o i sp) (gSub to ti rSetL))
    (hs : swapsWithSole [.Subscript o i sp] e pos.line X.env = pure false := by rfl) (hw : swappedStores [.Subscript o i sp] e X.env = pure none := by rfl) : WS X G W (.Assign [.Subscript o i sp] e pos) M ρ N :=
  ws_of (ps_asg pe_wp (hp pe_wp pe_wp) hs hw) fun σ H a0 b0 Dn x n r bk ct => by
  refine h σ H a0 b0 (xok_of x) _ fun M1 z v H1 h1 a1 m1 r1 => ?_
  refine h1 σ H1 a1 (m1.sl a0 b0) ((xok_of x).mv m1) _ fun M2 d u H2 h2 a2 m2 r2 => ?_
  refine h2 σ H2 a2 (m2.sl a1 (m1.sl a0 b0)) ((xok_of x).mv (m1.trans m2)) _ fun M3 y w H3 h3 a3 m3 r3 => ?_
  cases h3 with
  | mk h3 =>
  rename_i iv
  cases h3 with
  | mk ix hi h3 =>
  rename_i q l
  obtain ⟨j, hj, hk⟩ := h3
  obtain ⟨xs, e3, l3⟩ := at_ob a3 hi
  have m12 := (m1.trans m2).trans m3
  have rz := m3.rp a2 (m2.rp a1 r1)
  refine ⟨q, xs, iv, j, (m3.rp a2 r2).raw_inv, r3.raw_inv, e3, by rw [l3.length]; exact hj, ?_⟩
  have hm : Mv M3 H3 M3 (upd H3 q (.lst (xs.set j v))) := ⟨fun b w e n _ => by
      rw [upd_ne (fun z => n (by rw [z]; exact mem_at hi))]; exact e, fun _ h => .inl h⟩
  obtain ⟨a4, m4⟩ := a3.write gs (o' := .lst (l.set j z)) hi (u := .lst (xs.set j v)) (fun _ z => by cases z) ⟨_, upd_same, hm.rpl a3 (l3.set rz j)⟩
  exact n _ _ σ _ hk a4 (m4.sl a3 (m12.sl a0 b0)) (m12.trans m4)
/-- x += e of ints -/
theorem ws_augI (i : Nat) {x : Str} {op : Operator} {f : Int → Int → Int} {pos' : Pos} (hN : X.N.Nodup) (hop : PIp X op (ipI f)) (h : ∃ u : Int, ρ[i]? = some (some (I u)) ∧ WE X G W e M ρ N.xr fun M1 d => IsI d fun w => N.nx M1 (ρ.set i (some (I (f u w)))))
    (hi : X.N[i]? = some x := by rfl) (hx : Loc X.env.scope x := by first | exact Or.inl rfl | exact Or.inr rfl) (hf : X.fn x = true ∨ X.env.scope.names.lookup x = some .local := by first | exact .inl rfl | exact .inr rfl) : WS X G W (.AugAssign (.Name x pos') op e pos) M ρ N :=
  ws_of (ps_aug hN hi hx pe_wp hop hf) fun σ H a0 b0 Dn x n r bk ct => by
  obtain ⟨u, hu, h⟩ := h
  obtain ⟨v, e1, r1⟩ := b0.2 i _ hu
  refine ⟨v, e1, h σ H a0 b0 (xok_of x) _ fun M1 d v' H1 h1 a1 m1 r2 => ?_⟩
  cases h1 with
  | mk h1 =>
  rename_i w
  exact ⟨u, w, r1.raw_inv, r2.raw_inv, n M1 _ _ H1 h1 a1 ((m1.sl a0 b0).set i (.raw _)) m1⟩
/-! ### loops -/
theorem ws_while {body : List Stmt} (cx : Ct X G W k) (J : Nat → Ms → Rh → Prop) (h0 : ∃ m, J m M ρ)
    (h : ∀ m M ρ, J m M ρ → WT X G W c M ρ N.xr fun M1 b => if b = true then WSs X G W body M1 ρ { nx := fun M' ρ' => ∃ m', m' < m ∧ J m' M' ρ', rt := N.rt, bk := N.nx, ct := fun M' ρ' => ∃ m', m' < m ∧ J m' M' ρ', xr := N.xr } else N.nx M1 ρ) :
    WS X G W (.While c body [] pos) M ρ N :=
  ws_of (ps_while cx.hp pt_wp pss_wp) fun σ H a0 b0 Dn x n r bk ct => by
  obtain ⟨m0, w0⟩ := h0
  refine ⟨fun m σ' H' => ∃ M' ρ', J m M' ρ' ∧ AtM G X.K M' H' ∧ Sl X.K (dom M') H' σ' ρ' ∧ Mv M H M' H', ⟨m0, M, ρ, w0, a0, b0, Mv.refl _ _⟩, ?_⟩
  rintro m σ1 H1 ⟨M1, ρ1, j1, a1, b1, m1⟩
  refine h m M1 ρ1 j1 σ1 H1 a1 b1 (fun cls M' H' hx ha hm => x M' H' cls σ1 hx ha (m1.trans hm)) _ fun M2 b H2 h2 a2 m2 => ?_
  cases b with
  | false => exact iteF (n M2 ρ1 σ1 H2 h2 a2 (m2.sl a1 b1) (m1.trans m2))
  | true =>
    have m12 := m1.trans m2
    refine iteT ⟨fun σ' H' => ∃ m', m' < m ∧ ∃ M' ρ', J m' M' ρ' ∧ AtM G X.K M' H' ∧ Sl X.K (dom M') H' σ' ρ' ∧ Mv M H M' H', fun σ' H' hh => hh, ?_⟩
    exact (show WSs X G W body M2 ρ1 _ from h2) σ1 H2 a2 (m2.sl a1 b1) _ (fun M' H' cls σ' hx ha hm => x M' H' cls σ' hx ha (m12.trans hm))
      (fun M' ρ' σ' H' ⟨m', hm', hj⟩ ha hb hm => ⟨m', hm', M', ρ', hj, ha, hb, m12.trans hm⟩) (fun M' d v H' hk ha hm => r M' d v H' hk ha (m12.trans hm))
      (fun M' ρ' σ' H' hk ha hb hm => n M' ρ' σ' H' hk ha hb (m12.trans hm)) (fun M' ρ' σ' H' ⟨m', hm', hj⟩ ha hb hm => ⟨m', hm', M', ρ', hj, ha, hb, m12.trans hm⟩)
/-- what is walked: after it came to be, the items l, each as data -/
def WalkD (G : Hp → Prop) (K : PySem.W.Frag) (M' : Ms) (H' : Hp) (J : It) (l : List D) : Prop := ∃ Gd Y, Walk J l.length Gd Y ∧ (∀ M2 H2, AtM G K M2 H2 → Mv M' H' M2 H2 → Gd H2) ∧
  ∀ i H2 M2 v H3, AtM G K M2 H2 → Mv M' H' M2 H2 → Y i H2 v H3 → ∃ z, l[i]? = some z ∧ AtM G K M2 H3 ∧ Mv M2 H2 M2 H3 ∧ Rp K (dom M2) H3 v z
def TIv (G : Hp → Prop) (K : PySem.W.Frag) (W : WX) (wi : TI) (M : Ms) (ρ : Rh) (xr : Value → Ms → Prop) (R : Ms → List D → Prop) : Prop :=
  ∀ σ H, AtM G K M H → Sl K (dom M) H σ ρ → Xok W G K M H σ xr → ∀ Q : It → Hp → Prop, (∀ M' l H' J, R M' l → AtM G K M' H' → Mv M H M' H' → WalkD G K M' H' J l → Q J H') → wi σ H Q
def WI (X : Cx) (G : Hp → Prop) (W : WX) (tg it : Expr) (M : Ms) (ρ : Rh) (xr : Value → Ms → Prop) (R : Ms → List D → Prop) : Prop := ∃ wi, PI X tg it wi ∧ TIv G X.K W wi M ρ xr R
theorem mv_at {K : PySem.W.Frag} {M' M2 : Ms} {H' H2 : Hp} {xs : List V} {l : List D} {a : Addr} (hm : Mv M' H' M2 H2) (a0 : AtM G K M' H') (l1 : RpL K (dom M') H' xs l) {i : Nat} {v : V} (h : xs[i]? = some v) : ∃ z, l[i]? = some z ∧ Rp K (dom M2) H2 v z := by
  obtain ⟨z, e, r⟩ := l1.getV h
  exact ⟨z, e, hm.rp a0 r⟩
section
variable {tg it : Expr} {RI : Ms → List D → Prop}
theorem wi_tup (h : WE X G W it M ρ xr fun M1 d => IsT d fun l => RI M1 l) : WI X G W tg it M ρ xr RI := ⟨_, pi_tup pe_wp, fun σ H a0 b0 x Q q => h σ H a0 b0 x _ fun M1 d v H1 h1 a1 m1 r1 => by
  cases h1 with
  | mk h1 =>
  rename_i l
  obtain ⟨p1, xs, rfl, s1, l1⟩ := r1.tup_inv
  refine ⟨p1, rfl, ⟨xs, s1⟩, q M1 l H1 _ h1 a1 m1 ⟨_, _, by rw [← l1.length]; exact walk_tup (K := X.K) (a := p1) (xs := xs), fun M2 H2 a2 hm => hm.sqT a1 s1, fun i H2 M2 v H3 a2 hm y => ?_⟩⟩
  obtain ⟨rfl, hy⟩ := y
  obtain ⟨z, hz, rz⟩ := mv_at (a := p1) hm a1 l1 hy
  exact ⟨z, hz, a2, Mv.refl _ _, rz⟩⟩
theorem wi_lst (h : WE X G W it M ρ xr fun M1 d => IsL d fun l => RI M1 l) : WI X G W tg it M ρ xr RI := ⟨_, pi_list pe_wp, fun σ H a0 b0 x Q q => h σ H a0 b0 x _ fun M1 d v H1 h1 a1 m1 r1 => by
  cases h1 with
  | mk h1 =>
  rename_i l
  obtain ⟨p1, xs, rfl, s1, s2, l1⟩ := r1.lst_inv
  refine ⟨p1, rfl, ⟨xs, SqL.of s1⟩, q M1 l H1 _ h1 a1 m1 ⟨_, _, by rw [← l1.length]; exact walk_list (K := X.K) (a := p1) (xs := xs), fun M2 H2 a2 hm => SqL.of (hm.lstR s1 s2).1, fun i H2 M2 v H3 a2 hm y => ?_⟩⟩
  obtain ⟨rfl, hy⟩ := y
  obtain ⟨z, hz, rz⟩ := mv_at (a := p1) hm a1 l1 hy
  exact ⟨z, hz, a2, Mv.refl _ _, rz⟩⟩
theorem wi_str (h : WE X G W it M ρ xr fun M1 d => IsZ d fun z => RI M1 (z.cps.toList.map fun c => Z ⟨#[c]⟩)) : WI X G W tg it M ρ xr RI := ⟨_, pi_str pe_wp, fun σ H a0 b0 x Q q => h σ H a0 b0 x _ fun M1 d v H1 h1 a1 m1 r1 => by
  cases h1 with
  | mk h1 =>
  rename_i z
  refine ⟨z, r1.raw_inv, q M1 _ H1 _ h1 a1 m1 ⟨_, _, by rw [List.length_map, Array.length_toList]; exact walk_str (z := z), fun M2 H2 a2 hm => trivial, fun i H2 M2 v H3 a2 hm y => ?_⟩⟩
  obtain ⟨rfl, c, hc, rfl⟩ := y
  exact ⟨Z ⟨#[c]⟩, by rw [List.getElem?_map, Array.getElem?_toList, hc]; rfl, a2, Mv.refl _ _, .raw _⟩⟩
theorem wi_rng1 {a : Expr} {p1 p2 : Pos} (hm : X.mg "range" = none) (hgl : Gl X "range") (h : WA X G W [a] M ρ xr fun M1 ds => ∃ n : Int, ds = [I n] ∧ -(2 ^ 62) ≤ n ∧ n < 2 ^ 62 ∧ RI M1 ((List.range n.toNat).map fun (i : Nat) => I (i : Int)))
    (hs : starEach [a] X.env = [(false, eval a X.env)] := by rfl) : WI X G W tg (.Call (.Name "range" p1) [a] [] p2) M ρ xr RI := ⟨_, pi_range1 hgl hm pa_wp hs, fun σ H a0 b0 x Q q => h σ H a0 b0 x _ fun M1 ds vs H1 h1 a1 m1 r1 => by
  obtain ⟨n, rfl, z1, z2, h1⟩ := h1
  cases r1 with
  | cons ra rb =>
    cases rb
    refine ⟨n, by rw [ra.raw_inv], z1, z2, q M1 _ H1 _ h1 a1 m1 ⟨fun _ => True, fun i H x H' => i < n.toNat ∧ H' = H ∧ x = .int (0 + (i : Int)), ?_, fun M2 H2 a2 hm => trivial, fun i H2 M2 v H3 a2 hm y => ?_⟩⟩
    · rw [List.length_map, List.length_range]
      exact (walk_range (lo := 0) (n := n.toNat)).mono (fun _ _ => trivial) fun i H x H' hi _ y => ⟨hi, y.1, y.2⟩
    · obtain ⟨hi, rfl, rfl⟩ := y
      exact ⟨I (i : Int), by rw [List.getElem?_map, List.getElem?_range hi]; rfl, a2, Mv.refl _ _, by rw [Int.zero_add]; exact .raw _⟩⟩
theorem wi_rng2 {a b : Expr} {p1 p2 : Pos} (hm : X.mg "range" = none) (hgl : Gl X "range") (h : WA X G W [a, b] M ρ xr fun M1 ds => ∃ lo n : Int, ds = [I lo, I n] ∧ (-(2 ^ 62) ≤ lo ∧ lo < 2 ^ 62 ∧ -(2 ^ 62) ≤ n ∧ n < 2 ^ 62) ∧ RI M1 ((List.range (n - lo).toNat).map fun (i : Nat) => I (lo + (i : Int))))
    (hs : starEach [a, b] X.env = [(false, eval a X.env), (false, eval b X.env)] := by rfl) (hs2 : starEach [b] X.env = [(false, eval b X.env)] := by rfl) : WI X G W tg (.Call (.Name "range" p1) [a, b] [] p2) M ρ xr RI := ⟨_, pi_range2 hgl hm pa_wp hs hs2, fun σ H a0 b0 x Q q => h σ H a0 b0 x _ fun M1 ds vs H1 h1 a1 m1 r1 => by
  obtain ⟨lo, n, rfl, z1, h1⟩ := h1
  cases r1 with
  | cons ra rb =>
    cases rb with
    | cons rb rc =>
    cases rc
    refine ⟨lo, n, by rw [ra.raw_inv, rb.raw_inv], z1, q M1 _ H1 _ h1 a1 m1 ⟨fun _ => True, fun i H x H' => i < (n - lo).toNat ∧ H' = H ∧ x = .int (lo + (i : Int)), ?_, fun M2 H2 a2 hm => trivial, fun i H2 M2 v H3 a2 hm y => ?_⟩⟩
    · rw [List.length_map, List.length_range]
      exact (walk_range (lo := lo) (n := (n - lo).toNat)).mono (fun _ _ => trivial) fun i H x H' hi _ y => ⟨hi, y.1, y.2⟩
    · obtain ⟨hi, rfl, rfl⟩ := y
      exact ⟨I (lo + (i : Int)), by rw [List.getElem?_map, List.getElem?_range hi]; rfl, a2, Mv.refl _ _, .raw _⟩⟩
end
/-- one turn of a for -/
def Turn (X : Cx) (G : Hp → Prop) (W : WX) (as : D → Rh → (Rh → Prop) → Prop) (body : List Stmt) (N : En) (J : Nat → Ms → Rh → Prop) (n : Nat) (z : D) : Prop :=
  ∀ M' ρ', J n M' ρ' → as z ρ' fun ρ'' => WSs X G W body M' ρ'' { nx := J (n + 1), rt := N.rt, bk := N.nx, ct := J (n + 1), xr := N.xr }
section
variable {tg it : Expr} {g : TG} {as : D → Rh → (Rh → Prop) → Prop} {body : List Stmt}
theorem ws_for (cx : Ct X G W k) (hg : PG X tg g) (ok : GOk G X.K g as) (J : Nat → Ms → Rh → Prop)
    (h : WI X G W tg it M ρ N.xr fun M1 l => J 0 M1 ρ ∧ (∀ n z, l[n]? = some z → Turn X G W as body N J n z) ∧ ∀ M' ρ', J l.length M' ρ' → N.nx M' ρ')
    (hsf : ∀ x, foldedSetIterable it X.env x = pure x := by intro _; rfl) : WS X G W (.For tg it body [] pos) M ρ N := by
  obtain ⟨wi, hi, h⟩ := h
  refine ws_of (ps_for cx.hp cx.hc hi hg pss_wp hsf) fun σ H a0 b0 Dn x n r bk ct => h σ H a0 b0 (xok_of x) _ fun M1 l H1 Jt h1 a1 m1 wd => ?_
  obtain ⟨j0, ht, he⟩ := h1
  obtain ⟨Gd, Y, w, hG, hY⟩ := wd
  refine for_it w (fun i σ' H' => ∃ M' ρ', J i M' ρ' ∧ AtM G X.K M' H' ∧ Sl X.K (dom M') H' σ' ρ' ∧ Mv M1 H1 M' H') ⟨M1, ρ, j0, a1, m1.sl a0 b0, Mv.refl _ _⟩ (fun i σ' H' _ ⟨M', ρ', _, ha, _, hm⟩ => hG _ _ ha hm) ?_ ?_
  · rintro i v σ' H' H3 hi ⟨M', ρ', hj, ha, hb, hm⟩ y
    obtain ⟨z, hz, ha3, hm3, rz⟩ := hY i H' M' v H3 ha hm y
    refine ok v z M' ρ' σ' H3 _ _ ha3 (hm3.sl ha hb) rz (ht i z hz M' ρ' hj) fun ρ2 σ2 hw hs => ?_
    have m13 := (m1.trans hm).trans hm3
    exact hw σ2 H3 ha3 hs _ (fun M2 H2 cls σ3 hx ha2 hm2 => x M2 H2 cls σ3 hx ha2 (m13.trans hm2)) (fun M2 ρ3 σ3 H3 hk ha2 hb2 hm2 => ⟨M2, ρ3, hk, ha2, hb2, (hm.trans hm3).trans hm2⟩)
      (fun M2 d v H2 hk ha2 hm2 => r M2 d v H2 hk ha2 (m13.trans hm2)) (fun M2 ρ3 σ3 H3 hk ha2 hb2 hm2 => n M2 ρ3 σ3 H3 hk ha2 hb2 (m13.trans hm2)) (fun M2 ρ3 σ3 H3 hk ha2 hb2 hm2 => ⟨M2, ρ3, hk, ha2, hb2, (hm.trans hm3).trans hm2⟩)
  · rintro σ' H' ⟨M', ρ', hj, ha, hb, hm⟩
    exact n M' ρ' σ' H' (he M' ρ' hj) ha hb (m1.trans hm)
end
/-! ### comprehensions -/
/-- the tests of a comprehension -/
def WTs (X : Cx) (G : Hp → Prop) (W : WX) (ifs : List Expr) (M : Ms) (ρ : Rh) (xr : Value → Ms → Prop) (R : Ms → Bool → Prop) : Prop :=
  match ifs with
  | [] => R M true
  | [c] => WT X G W c M ρ xr R
  | _ => False
def ifsT (X : Cx) (ifs : List Expr) : TT := fun σ H Q => ∀ pins s, Inv X pins σ H s →
    wpAny (model X.prog X.w) X.A (forIn ifs true fun c r => if r = true then do let ok ← isTrue c X.env (eval c X.env); pure (ForInStep.yield ok) else pure (ForInStep.yield r)) (TP X pins σ Q) X.xe s
theorem pts_wp {ifs : List Expr} : PTs X ifs (ifsT X ifs) := ⟨fun pins s σ H Q I h => h pins s I⟩
theorem wts_run {ifs : List Expr} {Rb : Ms → Bool → Prop} (h : WTs X G W ifs M ρ xr Rb) : TTv G X.K W (ifsT X ifs) M ρ xr Rb := by
  match ifs, h with
  | [], h => exact fun σ H a0 b0 x Q q pins s I => pts_nil.run pins s σ H Q I (q M true H h a0 (Mv.refl _ _))
  | [c], h => exact fun σ H a0 b0 x Q q pins s I => (pts_one pt_wp).run pins s σ H Q I ((show WT X G W c M ρ xr Rb from h) σ H a0 b0 x Q q)
/-- a list of ours becomes data -/
theorem AtM.drop {K : PySem.W.Frag} {q : Addr} {l : List D} {H : Hp} (a : AtM G K ((q, .lst l) :: M) H) : AtM G K M H ∧ Mv ((q, .lst l) :: M) H M H ∧ Rp K (dom M) H (.ref q) (.lst l) := by
  have hn : q ∉ dom M := (List.nodup_cons.mp a.nd).1
  have m : Mv ((q, O.lst l) :: M) H M H := ⟨fun _ _ h _ _ => h, fun b hb => .inl (List.mem_cons_of_mem _ hb)⟩
  refine ⟨⟨a.g, (List.nodup_cons.mp a.nd).2, fun p hp => m.oat a (a.ob p (List.mem_cons_of_mem _ hp)) fun u h => h⟩, m, ?_⟩
  obtain ⟨xs, e, r⟩ := a.ob (q, .lst l) List.mem_cons_self
  exact .lst e hn (m.rpl a r)
theorem Sl.wipes {K : PySem.W.Frag} {Y : List Addr} {H : Hp} {σ : L2.St} {ρ : Rh} (h : Sl K Y H σ ρ) : ∀ vs : List Nat, Sl K Y H (L2.wipe σ vs) (vs.foldr (fun v r => r.set v none) ρ)
  | [] => h
  | v :: vs => by
    show Sl K Y H ((L2.wipe σ vs).set v none) ((vs.foldr (fun v r => r.set v none) ρ).set v none)
    exact (Sl.wipes h vs).wipe v
abbrev wipeD (ρ : Rh) (vs : List Nat) : Rh := vs.foldr (fun v r => r.set v none) ρ
/-- the target of a comprehension: only its own slots -/
def GWipe (g : TG) (vs : List Nat) : Prop := ∀ v σ H (Q : L2.St → Hp → Prop), g v (L2.wipe σ vs) H Q → g v (L2.wipe σ vs) H fun σ2 H2 => L2.wipe σ2 vs = L2.wipe σ vs ∧ Q σ2 H2
theorem gwipe_name (i : Nat) : GWipe (gName i) [i] := fun v σ H Q h => ⟨by
  show ((σ.set i none).set i (some v)).set i none = σ.set i none
  rw [List.set_set, List.set_set], h⟩
section
variable {tg it elt : Expr} {g : TG} {as : D → Rh → (Rh → Prop) → Prop} {ifs : List Expr} {scope : Scope} {own : List (Str × Nat)}
/-- a block of X -/
def Blk (X : Cx) (scope : Scope) (Y : Cx) : Prop := ∃ (s : Shared) (H : Hp) (C : Addr) (cl : List (Str × Addr)) (fp : List Addr), Y = X.blk s H scope (compEnvC scope cl C X.env) fp
/-- what a turn of a comprehension is to show -/
def TurnC (X : Cx) (G : Hp → Prop) (k : Nat) (scope : Scope) (as : D → Rh → (Rh → Prop) → Prop) (ifs : List Expr) (elt : Expr) (ρ : Rh) (J : Nat → Ms → List D → Prop) (n : Nat) (z : D) : Prop :=
  ∀ q M' acc, J n M' acc → as z ρ fun ρ' => ∀ Y, Blk X scope Y → Ct Y G (fun _ _ _ _ => False) k → WTs Y G (fun _ _ _ _ => False) ifs ((q, .lst acc) :: M') ρ' (fun _ _ => False) fun M2 b =>
    if b = true then ∀ Y', Blk X scope Y' → Ct Y' G (fun _ _ _ _ => False) k → WE Y' G (fun _ _ _ _ => False) elt M2 ρ' (fun _ _ => False) fun M3 y => ∃ M4, M3 = (q, .lst acc) :: M4 ∧ acc.length < sizeLine ∧ J (n + 1) M4 (acc ++ [y]) else ∃ M4, M2 = (q, .lst acc) :: M4 ∧ J (n + 1) M4 acc
theorem tev_lc (gs : Gst G) {wi : TI} (ok : GOk G X.K g as) (gw : GWipe g (own.map (·.2))) (J : Nat → Ms → List D → Prop) {Wt : TT} {We : TE}
    (h : TIv G X.K W wi M ρ xr fun M1 l => J 0 M1 [] ∧ (∀ n z, l[n]? = some z → ∀ q M' acc, J n M' acc → as z (wipeD ρ (own.map (·.2))) fun ρ' => TTv G X.K (fun _ _ _ _ => False) Wt ((q, .lst acc) :: M') ρ' (fun _ _ => False) fun M2 b => if b = true then TEv G X.K (fun _ _ _ _ => False) We M2 ρ' (fun _ _ => False) fun M3 y => ∃ M4, M3 = (q, .lst acc) :: M4 ∧ acc.length < sizeLine ∧ J (n + 1) M4 (acc ++ [y]) else ∃ M4, M2 = (q, .lst acc) :: M4 ∧ J (n + 1) M4 acc) ∧ ∀ M' acc, J l.length M' acc → R M' (.lst acc)) :
    TEv G X.K W (tLc wi g Wt We (own.map (·.2))) M ρ xr R := by
  intro σ H a0 b0 x Q q
  refine h σ H a0 b0 x _ fun M1 l H1 Jt h1 a1 m1 wd => fun Dl hD => ?_
  obtain ⟨j0, ht, he⟩ := h1
  obtain ⟨Gd, Y, w, hG, hY⟩ := wd
  obtain ⟨a2, m2⟩ := own_lst (X := X) gs a1 hD .nil
  refine lc_it w (fun i H' => ∃ M' acc, J i M' acc ∧ AtM G X.K ((Dl, .lst acc) :: M') H' ∧ Mv M1 H1 ((Dl, .lst acc) :: M') H') ⟨M1, [], j0, a2, m2⟩ (fun i H' _ ⟨M', acc, _, ha, hm⟩ => hG _ _ ha hm) ?_ ?_
  · rintro i v H' H3 hi ⟨M', acc, hj, ha, hm⟩ y
    obtain ⟨z, hz, ha3, hm3, rz⟩ := hY i H' _ v H3 ha hm y
    have hmm := m1.trans (hm.trans hm3)
    have bs : Sl X.K (dom ((Dl, O.lst acc) :: M')) H3 (L2.wipe σ (own.map (·.2))) (wipeD ρ (own.map (·.2))) := (hmm.sl a0 b0).wipes _
    refine gw v σ H3 _ (ok v z _ _ _ H3 _ _ ha3 bs rz (ht i z hz Dl M' acc hj) fun ρ2 σ2 hw hs => ?_)
    refine hw σ2 H3 ha3 hs (fun _ _ _ z => z.elim) _ fun M2 b H4 h2 a4 m4 => ?_
    cases b with
    | false =>
      obtain ⟨M4, rfl, hj4⟩ := (show ∃ M4, M2 = (Dl, O.lst acc) :: M4 ∧ J (i + 1) M4 acc from h2)
      exact iteF ⟨M4, acc, hj4, a4, (hm.trans hm3).trans m4⟩
    | true =>
      refine iteT ((show TEv G X.K _ We M2 ρ2 _ _ from h2) σ2 H4 a4 (m4.sl ha3 hs) (fun _ _ _ z => z.elim) _ fun M3 y v5 H5 h5 a5 m5 r5 => ?_)
      obtain ⟨M4, rfl, hl, hj4⟩ := h5
      obtain ⟨xs, e5, rl⟩ := a5.ob (Dl, .lst acc) List.mem_cons_self
      refine ⟨xs, e5, by rw [rl.length]; exact hl, M4, acc ++ [y], hj4, ?_⟩
      have hmw : Mv ((Dl, O.lst acc) :: M4) H5 ((Dl, O.lst acc) :: M4) (upd H5 Dl (.lst (xs ++ [v5]))) := ⟨fun b w e n _ => by
        rw [upd_ne (fun z => n (by rw [z]; exact List.mem_cons_self))]; exact e, fun _ h => .inl h⟩
      obtain ⟨a6, m6⟩ := a5.write gs (i := 0) (o' := .lst (acc ++ [y])) rfl (u := .lst (xs ++ [v5])) (fun _ z => by cases z) ⟨_, upd_same, (hmw.rpl a5 rl).app (.cons (hmw.rp a5 r5) .nil)⟩
      exact ⟨a6, (((hm.trans hm3).trans m4).trans m5).trans m6⟩
  · rintro H' ⟨M', acc, hj, ha, hm⟩
    obtain ⟨a3, m3, r3⟩ := ha.drop
    exact q M' _ _ H' (he M' acc hj) a3 ((m1.trans hm).trans m3) r3
theorem Ct.blk (cx : Ct X G W k) {Y : Cx} (h : Blk X scope Y) : Ct Y G (fun _ _ _ _ => False) k := by
  obtain ⟨s, H, C, cl, fp, rfl⟩ := h
  exact ⟨cx.gs, takes0N, cx.hr, PassesOwn.never, cx.hc, cx.nd⟩
/-- the reading of a comprehension's parts -/
theorem tiv_lc (cx : Ct X G W k) {wi : TI} {vs : List Nat} {J : Nat → Ms → List D → Prop}
    (h : TIv G X.K W wi M ρ xr fun M1 l => J 0 M1 [] ∧ (∀ n z, l[n]? = some z → TurnC X G k scope as ifs elt (wipeD ρ vs) J n z) ∧ ∀ M' acc, J l.length M' acc → R M' (.lst acc)) (mono : ∀ d ρ (k k' : Rh → Prop), (∀ r, k r → k' r) → as d ρ k → as d ρ k') :
    TIv G X.K W wi M ρ xr fun M1 l => J 0 M1 [] ∧ (∀ n z, l[n]? = some z → ∀ q M' acc, J n M' acc → as z (wipeD ρ vs) fun ρ' => TTv G X.K (fun _ _ _ _ => False) (fun σ H Q => ∀ Y, Blk X scope Y → ifsT Y ifs σ H Q) ((q, .lst acc) :: M') ρ' (fun _ _ => False) fun M2 b =>
      if b = true then TEv G X.K (fun _ _ _ _ => False) (fun σ H Q => ∀ Y, Blk X scope Y → eT Y elt σ H Q) M2 ρ' (fun _ _ => False) fun M3 y => ∃ M4, M3 = (q, .lst acc) :: M4 ∧ acc.length < sizeLine ∧ J (n + 1) M4 (acc ++ [y]) else ∃ M4, M2 = (q, .lst acc) :: M4 ∧ J (n + 1) M4 acc) ∧ ∀ M' acc, J l.length M' acc → R M' (.lst acc) := by
  intro σ H a0 b0 x Q q
  refine h σ H a0 b0 x _ fun M1 l H1 Jt h1 a1 m1 wd => q M1 l H1 Jt ?_ a1 m1 wd
  obtain ⟨j0, ht, he⟩ := h1
  refine ⟨j0, fun n z hz q0 M' acc hj => mono _ _ _ _ (fun ρ' hr => ?_) (ht n z hz q0 M' acc hj), he⟩
  intro σ2 H2 a2 b2 x2 Q2 q2 Y hY
  have hK : Y.K = X.K := by obtain ⟨s, H, C, cl, fp, rfl⟩ := hY; rfl
  have h3 := wts_run (hr Y hY (cx.blk hY))
  rw [hK] at h3
  refine h3 σ2 H2 a2 b2 x2 Q2 fun M3 b H3 hb a3 m3 => q2 M3 b H3 ?_ a3 m3
  cases b with
  | false => exact hb
  | true =>
    intro σ4 H4 a4 b4 x4 Q4 q4 Y' hY'
    have hK' : Y'.K = X.K := by obtain ⟨s, H, C, cl, fp, rfl⟩ := hY'; rfl
    have h5 := (show ∀ Y', Blk X scope Y' → Ct Y' G (fun _ _ _ _ => False) k → WE Y' G (fun _ _ _ _ => False) elt M3 ρ' (fun _ _ => False) _ from hb) Y' hY' (cx.blk hY')
    replace h5 := h5.run
    rw [hK'] at h5
    exact h5 σ4 H4 a4 b4 x4 Q4 q4
/-- [elt for tg in it if ..] -/
theorem we_lc (cx : Ct X G W k) (hN : X.N.Nodup) (own : List (Str × Nat)) (J : Nat → Ms → List D → Prop) (gok : GOk G X.K g as) (gw : GWipe g (own.map (·.2))) (mono : ∀ d ρ (k k' : Rh → Prop), (∀ r, k r → k' r) → as d ρ k → as d ρ k')
    (hg : ∀ (s : Shared) (H : Hp) (C : Addr) (cl : List (Str × Addr)) (fp : List Addr), PG (X.blk s H scope (compEnvC scope cl C X.env) fp) tg g) (ok : BlkOk X.N X.env.scope scope own)
    (h : WI X G W tg it M ρ xr fun M1 l => J 0 M1 [] ∧ (∀ n z, l[n]? = some z → TurnC X G k scope as ifs elt (wipeD ρ (own.map (·.2))) J n z) ∧ ∀ M' acc, J l.length M' acc → R M' (.lst acc))
    (hs : ∀ x, foldedSetIterable it X.env x = pure x := by intro _; rfl) : WE X G W (.ListComp elt [⟨tg, it, ifs, 0⟩] scope pos) M ρ xr R := by
  obtain ⟨wi, hi, h⟩ := h
  exact we_of (pe_lc (own := own) (tt := fun σ H Q => ∀ Y, Blk X scope Y → ifsT Y ifs σ H Q) (te := fun σ H Q => ∀ Y, Blk X scope Y → eT Y elt σ H Q) cx.hc hN hi ok hg
    (fun s H C cl fp => ⟨fun pins s' σ H' Q I h => pts_wp.run pins s' σ H' Q I (h _ ⟨s, H, C, cl, fp, rfl⟩)⟩) (fun s H C cl fp => ⟨fun pins s' σ H' Q I h => pe_wp.run pins s' σ H' Q I (h _ ⟨s, H, C, cl, fp, rfl⟩)⟩) hs) (tev_lc cx.gs gok gw J (tiv_lc cx h mono))
/-- y = [elt for tg in it if ..] -/
theorem ws_setLc (i : Nat) {y : Str} {py spos : Pos} (cx : Ct X G W k) (hN : X.N.Nodup) (own : List (Str × Nat)) (J : Nat → Ms → List D → Prop) (gok : GOk G X.K g as) (gw : GWipe g (own.map (·.2))) (mono : ∀ d ρ (k k' : Rh → Prop), (∀ r, k r → k' r) → as d ρ k → as d ρ k')
    (hg : ∀ (s : Shared) (H : Hp) (C : Addr) (cl : List (Str × Addr)) (fp : List Addr), PG (X.blk s H scope (compEnvC scope cl C X.env) fp) tg g) (ok : BlkOk X.N X.env.scope scope own) (hsw : swapsWith (.ListComp elt [⟨tg, it, ifs, 0⟩] scope pos) (some (.Name y py)) spos.line X.env = pure true)
    (h : WI X G W tg it M ρ N.xr fun M1 l => J 0 M1 [] ∧ (∀ n z, l[n]? = some z → TurnC X G k scope as ifs elt (wipeD ρ (own.map (·.2))) J n z) ∧ ∀ M' acc, J l.length M' acc → N.nx M' (ρ.set i (some (.lst acc))))
    (hy : X.N[i]? = some y := by rfl) (hyl : X.env.scope.names.lookup y = some .local := by rfl) (hs : ∀ x, foldedSetIterable it X.env x = pure x := by intro _; rfl) : WS X G W (.Assign [.Name y py] (.ListComp elt [⟨tg, it, ifs, 0⟩] scope pos) spos) M ρ N := by
  obtain ⟨wi, hi, h⟩ := h
  refine ws_of (ps_setLc (own := own) (tt := fun σ H Q => ∀ Y, Blk X scope Y → ifsT Y ifs σ H Q) (te := fun σ H Q => ∀ Y, Blk X scope Y → eT Y elt σ H Q) cx.hc hN hy hyl hsw hi ok hg
    (fun s H C cl fp => ⟨fun pins s' σ H' Q I h => pts_wp.run pins s' σ H' Q I (h _ ⟨s, H, C, cl, fp, rfl⟩)⟩) (fun s H C cl fp => ⟨fun pins s' σ H' Q I h => pe_wp.run pins s' σ H' Q I (h _ ⟨s, H, C, cl, fp, rfl⟩)⟩) hs) fun σ H a0 b0 Dn x n r bk ct => ?_
  exact tev_lc (R := fun M' d => N.nx M' (ρ.set i (some d))) cx.gs gok gw J (tiv_lc (R := fun M' d => N.nx M' (ρ.set i (some d))) cx h mono) σ H a0 b0 (xok_of x) _ fun M' d v H' hk a' m' r' => n M' _ _ H' hk a' ((m'.sl a0 b0).set i r') m'
end
/-! ### raise -/
theorem ws_raise {t : L2.St → Hp → XK → Prop} {cls : Value} (cx : Ct X G W k) (he : L2N.PMk X e t) (ht : ∀ σ H (Q : XK), Q cls none H → t σ H Q) (h : N.xr cls M) : WS X G W (.Raise (some e) none pos) M ρ N :=
  ws_of (L2N.ps_raise cx.hc cx.tk he) fun σ H a0 b0 Dn x n r bk ct => ht σ H _ (x M H cls σ h a0 (Mv.refl _ _))
/-! ### a def's body -/
end
def startD (N : List Str) (ds : List D) : Rh := ds.map some ++ List.replicate (N.length - ds.length) none
theorem sl_start {K : PySem.W.Frag} {Y : List Addr} {H : Hp} {N : List Str} {vs : List V} {ds : List D} (r : RpL K Y H vs ds) : Sl K Y H (L2.start N vs) (startD N ds) := by
  unfold L2.start startD
  refine ⟨by simp [r.length], fun i d e => ?_⟩
  by_cases h : i < ds.length
  · rw [List.getElem?_append_left (by simpa using h)] at e
    rw [List.getElem?_append_left (by simpa [r.length] using h)]
    · rw [List.getElem?_map] at e
      cases z : ds[i]? with
      | none => rw [z] at e; cases e
      | some d' =>
        rw [z] at e
        cases e
        obtain ⟨v, e1, e2⟩ := r.get z
        exact ⟨v, by rw [List.getElem?_map, e1]; rfl, e2⟩
  · rw [List.getElem?_append_right (by simp; omega)] at e
    rw [List.getElem?_replicate] at e
    split at e <;> cases e
section
variable {P : Program} {w : World} {K : PySem.W.Frag} {mg : Str → Option Value} {base : Heap} {G : Hp → Prop}
/-- THE RULE of a def -/
theorem gf_of {x qual : Str} {st : Stmt} {f : Addr} {fd : FuncData} {N ps : List Str} {k : Nat} {S : SpD} {dd : List V} {dv : List Value} (F : Fun K x qual st f fd) (Sc : FnScope N ps (defScope st)) (gs : Gst G) (bd : Binds K fd ps dv) (dr : Vals dd dv)
    (len : ∀ ds M xr R, S ds M xr R → ds.length = ps.length)
    (hbody : ∀ (X : Cx) (W : WX) (M : Ms) (ds : List D) (xr : Value → Ms → Prop) (R : Ms → D → Prop), (∃ cdv A outer s H E, X = cxOf (L2N.CX P w) P w K mg base N qual (defScope st) f cdv A outer s H E) → Ct X G W k → S ds M xr R →
      WSs X G W (defBody st) M (startD N ds) { nx := fun M' _ => R M' N0, rt := R, bk := fun _ _ => False, ct := fun _ _ => False, xr := xr }) : Gf P w K mg base G (k + 1) f dd S := by
  refine ⟨⟨fd, ps, dv, okXN F Sc (fun vs H Q E h => ?_) (fun cdv A outer s H vs Q E hr h => ?_), bd, dr⟩, F.kp⟩
  · obtain ⟨M, ds, xr, R, _, r, hs, _⟩ := h
    rw [r.length]; exact len _ _ _ _ hs
  · obtain ⟨M, ds, xr, R, a, r, hs, q, e⟩ := h
    refine ⟨_, pss_wp, ?_⟩
    refine hbody _ (fun cls d _ H => E cls d H) M ds xr R ⟨cdv, A, outer, s, H, E, rfl⟩ ⟨gs, L2N.takes_of rfl rfl rfl rfl, hr, passes_of rfl, rfl, Sc.nd⟩ hs _ H a (sl_start r) _ (fun M' H' cls σ' hx ha hm => e cls M' H' hx ha hm)
      (fun M' ρ' σ' H' hk ha hb hm => q M' _ _ H' hk ha hm (.raw _)) (fun M' d v H' hk ha hm hr => q M' d v H' hk ha hm hr) (fun _ _ _ _ h => h.elim) (fun _ _ _ _ h => h.elim)
end
end Wv
set_option maxRecDepth 100000
set_option maxHeartbeats 2000000
namespace Wv
open PySem PySem.Spec PyProof.Rows L2
section
variable {X : Cx} {G : Hp → Prop} {W : WX} {M : Ms} {ρ : Rh} {xr : Value → Ms → Prop} {N : En} {a b c e o : Expr} {es : List Expr} {pos p apos : Pos} {R : Ms → D → Prop} {k j : Nat}
/-! ### built-ins by name -/
/-- a built-in's rule, used on data -/
theorem we_bi {x : Str} {id : String} {r : List V → Hp → VK → Prop} {RA : Ms → List D → Prop} (hc : CallR X (.builtin id) r) (hm : X.mg x = none) (hv : bootBuiltins x = some (.builtin id)) (hg : Gl X x) (h : WA X G W (e :: es) M ρ xr RA)
    (t : ∀ M1 ds vs H1 (Q : VK), RA M1 ds → AtM G X.K M1 H1 → RpL X.K (dom M1) H1 vs ds → (∀ M' d v H', R M' d → AtM G X.K M' H' → Mv M1 H1 M' H' → Rp X.K (dom M') H' v d → Q v H') → r vs H1 Q)
    (hn : x ≠ "__name__" := by decide) (hdb : (x == ("__debug__" : Str)) = false := by decide)
    (he : starEach (e :: es) X.env = (false, eval e X.env) :: starEach es X.env := by rfl) (hpl : (backTo pos (starEach es X.env)).any (·.1) = false := by rfl) : WE X G W (.Call (.Name x p) (e :: es) [] pos) M ρ xr R :=
  we_of (pe_callB hc hg hm hv pa_wp hn hdb he hpl) fun σ H a0 b0 xk Q q => h σ H a0 b0 xk _ fun M1 ds vs H1 h1 a1 m1 r1 => t M1 ds vs H1 Q h1 a1 r1 fun M' d v H' hk a' m' r' => q M' d v H' hk a' (m1.trans m') r'
theorem we_bt {x : Str} {T : String} {r : List V → Hp → VK → Prop} {RA : Ms → List D → Prop} (hc : CallR X (.type T) r) (hm : X.mg x = none) (hv : bootBuiltins x = some (.type T)) (hg : Gl X x) (h : WA X G W (e :: es) M ρ xr RA)
    (t : ∀ M1 ds vs H1 (Q : VK), RA M1 ds → AtM G X.K M1 H1 → RpL X.K (dom M1) H1 vs ds → (∀ M' d v H', R M' d → AtM G X.K M' H' → Mv M1 H1 M' H' → Rp X.K (dom M') H' v d → Q v H') → r vs H1 Q)
    (hn : x ≠ "__name__" := by decide) (hdb : (x == ("__debug__" : Str)) = false := by decide)
    (he : starEach (e :: es) X.env = (false, eval e X.env) :: starEach es X.env := by rfl) (hpl : (backTo pos (starEach es X.env)).any (·.1) = false := by rfl) : WE X G W (.Call (.Name x p) (e :: es) [] pos) M ρ xr R :=
  we_of (pe_callTy hc hg hm hv pa_wp hn hdb he hpl) fun σ H a0 b0 xk Q q => h σ H a0 b0 xk _ fun M1 ds vs H1 h1 a1 m1 r1 => t M1 ds vs H1 Q h1 a1 r1 fun M' d v H' hk a' m' r' => q M' d v H' hk a' (m1.trans m') r'
theorem RpL.one {K : PySem.W.Frag} {Y : List Addr} {H : Hp} {vs : List V} {d : D} (r : RpL K Y H vs [d]) : ∃ v, vs = [v] ∧ Rp K Y H v d := by
  cases r with | cons a b => cases b; exact ⟨_, rfl, a⟩
theorem RpL.two {K : PySem.W.Frag} {Y : List Addr} {H : Hp} {vs : List V} {d d' : D} (r : RpL K Y H vs [d, d']) : ∃ v v', vs = [v, v'] ∧ Rp K Y H v d ∧ Rp K Y H v' d' := by
  cases r with | cons a b => cases b with | cons b c => cases c; exact ⟨_, _, rfl, a, b⟩
inductive LenD (M : Ms) : D → (Int → Prop) → Prop
  | str {z : Str} {k : Int → Prop} (l : z.length ≤ sizeLine) (h : k z.length) : LenD M (Z z) k
  | tup {l : List D} {k : Int → Prop} (h : k l.length) : LenD M (.tup l) k
  | lst {l : List D} {k : Int → Prop} (h : k l.length) : LenD M (.lst l) k
  | own {q : Addr} {l : List D} {k : Int → Prop} (j : Nat) (o : M[j]? = some (q, .lst l)) (h : k l.length) : LenD M (Rf q) k
theorem we_len (hm : X.mg "len" = none) (hg : Gl X "len") (h : WE X G W e M ρ xr fun M1 d => LenD M1 d fun n => R M1 (I n)) (he : starEach [e] X.env = (false, eval e X.env) :: starEach [] X.env := by rfl) :
    WE X G W (.Call (.Name "len" p) [e] [] pos) M ρ xr R :=
  we_bi (he := he) (RA := fun M1 ds => ∃ d, ds = [d] ∧ LenD M1 d fun n => R M1 (I n)) (call_len_seq.or call_len_str) hm PySem.boot_len hg (wa_cons (he) (h := by
    exact ⟨fun σ H a0 b0 x Q q => h σ H a0 b0 x Q fun M1 d v H1 hd a1 m1 r1 => q M1 d v H1 (wa_nil ⟨d, rfl, hd⟩) a1 m1 r1⟩)) fun M1 ds vs H1 Q ⟨d, hds, hd⟩ a1 r1 q => by
  subst hds
  obtain ⟨v, rfl, rv⟩ := r1.one
  cases hd with
  | str l h => rw [rv.raw_inv]; exact .inr ⟨_, rfl, l, q M1 _ _ H1 h a1 (Mv.refl _ _) (.raw _)⟩
  | tup h =>
    obtain ⟨p1, xs, rfl, s1, l1⟩ := rv.tup_inv
    exact .inl ⟨p1, xs, rfl, .inr s1, by rw [l1.length]; exact q M1 _ _ H1 h a1 (Mv.refl _ _) (.raw _)⟩
  | lst h =>
    obtain ⟨p1, xs, rfl, s1, _, l1⟩ := rv.lst_inv
    exact .inl ⟨p1, xs, rfl, .inl (SqL.of s1), by rw [l1.length]; exact q M1 _ _ H1 h a1 (Mv.refl _ _) (.raw _)⟩
  | own j o h =>
    obtain ⟨xs, s1, l1⟩ := at_ob a1 o
    rw [rv.raw_inv]
    exact .inl ⟨_, xs, rfl, .inl (SqL.of s1), by rw [l1.length]; exact q M1 _ _ H1 h a1 (Mv.refl _ _) (.raw _)⟩
/-- one argument -/
theorem wa_one {RA : Ms → List D → Prop} (h : WE X G W e M ρ xr fun M1 d => RA M1 [d]) (he : starEach [e] X.env = (false, eval e X.env) :: starEach [] X.env := by rfl) : WA X G W [e] M ρ xr RA :=
  wa_cons (he) (h := ⟨fun σ H a0 b0 x Q q => h σ H a0 b0 x Q fun M1 d v H1 hd a1 m1 r1 => q M1 d v H1 (wa_nil hd) a1 m1 r1⟩)
theorem we_int1 (hm : X.mg "int" = none) (hg : Gl X "int") (h : WE X G W e M ρ xr fun M1 d => (∃ i : Int, d = I i ∧ R M1 (I i)) ∨ ∃ b : Bool, d = B b ∧ R M1 (I (if b then 1 else 0))) (he : starEach [e] X.env = (false, eval e X.env) :: starEach [] X.env := by rfl) :
    WE X G W (.Call (.Name "int" p) [e] [] pos) M ρ xr R :=
  we_bt (he := he) (RA := fun M1 ds => ∃ d, ds = [d] ∧ ((∃ i : Int, d = I i ∧ R M1 (I i)) ∨ ∃ b : Bool, d = B b ∧ R M1 (I (if b then 1 else 0)))) call_int1 hm (by decide +kernel) hg (wa_one (h := ⟨fun σ H a0 b0 x Q q => h σ H a0 b0 x Q fun M1 d v H1 hd a1 m1 r1 => q M1 d v H1 ⟨d, rfl, hd⟩ a1 m1 r1⟩) he) fun M1 ds vs H1 Q ⟨d, hds, hd⟩ a1 r1 q => by
  subst hds
  obtain ⟨v, rfl, rv⟩ := r1.one
  rcases hd with ⟨i, rfl, h⟩ | ⟨b, rfl, h⟩
  · rw [rv.raw_inv]; exact .inl ⟨i, rfl, q M1 _ _ H1 h a1 (Mv.refl _ _) (.raw _)⟩
  · rw [rv.raw_inv]; exact .inr ⟨b, rfl, q M1 _ _ H1 h a1 (Mv.refl _ _) (.raw _)⟩
theorem we_abs (hm : X.mg "abs" = none) (hg : Gl X "abs") (h : WE X G W e M ρ xr fun M1 d => IsI d fun i => R M1 (I (if i < 0 then -i else i))) (he : starEach [e] X.env = (false, eval e X.env) :: starEach [] X.env := by rfl) :
    WE X G W (.Call (.Name "abs" p) [e] [] pos) M ρ xr R :=
  we_bi (he := he) (RA := fun M1 ds => ∃ i : Int, ds = [I i] ∧ R M1 (I (if i < 0 then -i else i))) call_abs hm (by decide +kernel) hg (wa_one (h := ⟨fun σ H a0 b0 x Q q => h σ H a0 b0 x Q fun M1 d v H1 hd a1 m1 r1 => q M1 d v H1 (by cases hd with | mk h => exact ⟨_, rfl, h⟩) a1 m1 r1⟩) he) fun M1 ds vs H1 Q ⟨i, hds, hd⟩ a1 r1 q => by
  subst hds
  obtain ⟨v, rfl, rv⟩ := r1.one
  rw [rv.raw_inv]; exact ⟨i, rfl, q M1 _ _ H1 hd a1 (Mv.refl _ _) (.raw _)⟩
/-- tuple(x) -/
inductive SeqD (M : Ms) : D → (List D → Prop) → Prop
  | tup {l : List D} {k : List D → Prop} (h : k l) : SeqD M (.tup l) k
  | lst {l : List D} {k : List D → Prop} (h : k l) : SeqD M (.lst l) k
  | own {q : Addr} {l : List D} {k : List D → Prop} (j : Nat) (o : M[j]? = some (q, .lst l)) (h : k l) : SeqD M (Rf q) k
theorem we_tuple (gs : Gst G) (hm : X.mg "tuple" = none) (hg : Gl X "tuple") (h : WE X G W e M ρ xr fun M1 d => SeqD M1 d fun l => R M1 (.tup l)) (he : starEach [e] X.env = (false, eval e X.env) :: starEach [] X.env := by rfl) :
    WE X G W (.Call (.Name "tuple" p) [e] [] pos) M ρ xr R :=
  we_bt (he := he) (RA := fun M1 ds => ∃ d, ds = [d] ∧ SeqD M1 d fun l => R M1 (.tup l)) call_tupleF hm (by decide +kernel) hg (wa_one (h := ⟨fun σ H a0 b0 x Q q => h σ H a0 b0 x Q fun M1 d v H1 hd a1 m1 r1 => q M1 d v H1 ⟨d, rfl, hd⟩ a1 m1 r1⟩) he) fun M1 ds vs H1 Q ⟨d, hds, hd⟩ a1 r1 q => by
  subst hds
  obtain ⟨v, rfl, rv⟩ := r1.one
  cases hd with
  | tup h =>
    obtain ⟨p1, xs, rfl, s1, l1⟩ := rv.tup_inv
    exact ⟨p1, xs, rfl, .inr ⟨s1, q M1 _ _ H1 h a1 (Mv.refl _ _) rv⟩⟩
  | lst h =>
    obtain ⟨p1, xs, rfl, s1, _, l1⟩ := rv.lst_inv
    exact ⟨p1, xs, rfl, .inl ⟨SqL.of s1, new_tup gs a1 l1 h q⟩⟩
  | own j o h =>
    obtain ⟨xs, s1, l1⟩ := at_ob a1 o
    rw [rv.raw_inv]
    exact ⟨_, xs, rfl, .inl ⟨SqL.of s1, new_tup gs a1 l1 h q⟩⟩
/-- list(x): data, or ours -/
theorem we_list (gs : Gst G) (hm : X.mg "list" = none) (hg : Gl X "list") (h : WE X G W e M ρ xr fun M1 d => SeqD M1 d fun l => R M1 (.lst l)) (he : starEach [e] X.env = (false, eval e X.env) :: starEach [] X.env := by rfl) :
    WE X G W (.Call (.Name "list" p) [e] [] pos) M ρ xr R :=
  we_bt (he := he) (RA := fun M1 ds => ∃ d, ds = [d] ∧ SeqD M1 d fun l => R M1 (.lst l)) call_list_of hm (by decide +kernel) hg (wa_one (h := ⟨fun σ H a0 b0 x Q q => h σ H a0 b0 x Q fun M1 d v H1 hd a1 m1 r1 => q M1 d v H1 ⟨d, rfl, hd⟩ a1 m1 r1⟩) he) fun M1 ds vs H1 Q ⟨d, hds, hd⟩ a1 r1 q => by
  subst hds
  obtain ⟨v, rfl, rv⟩ := r1.one
  cases hd with
  | tup h =>
    obtain ⟨p1, xs, rfl, s1, l1⟩ := rv.tup_inv
    exact ⟨p1, xs, rfl, .inr s1, fun l hl => new_lst gs a1 hl l1 h q⟩
  | lst h =>
    obtain ⟨p1, xs, rfl, s1, _, l1⟩ := rv.lst_inv
    exact ⟨p1, xs, rfl, .inl (SqL.of s1), fun l hl => new_lst gs a1 hl l1 h q⟩
  | own j o h =>
    obtain ⟨xs, s1, l1⟩ := at_ob a1 o
    rw [rv.raw_inv]
    exact ⟨_, xs, rfl, .inl (SqL.of s1), fun l hl => new_lst gs a1 hl l1 h q⟩
theorem we_listO (gs : Gst G) (hm : X.mg "list" = none) (hg : Gl X "list") (h : WE X G W e M ρ xr fun M1 d => SeqD M1 d fun l => ∀ q, R ((q, .lst l) :: M1) (Rf q)) (he : starEach [e] X.env = (false, eval e X.env) :: starEach [] X.env := by rfl) :
    WE X G W (.Call (.Name "list" p) [e] [] pos) M ρ xr R :=
  we_bt (he := he) (RA := fun M1 ds => ∃ d, ds = [d] ∧ SeqD M1 d fun l => ∀ q, R ((q, .lst l) :: M1) (Rf q)) call_list_of hm (by decide +kernel) hg (wa_one (h := ⟨fun σ H a0 b0 x Q q => h σ H a0 b0 x Q fun M1 d v H1 hd a1 m1 r1 => q M1 d v H1 ⟨d, rfl, hd⟩ a1 m1 r1⟩) he) fun M1 ds vs H1 Q ⟨d, hds, hd⟩ a1 r1 q => by
  subst hds
  obtain ⟨v, rfl, rv⟩ := r1.one
  cases hd with
  | tup h =>
    obtain ⟨p1, xs, rfl, s1, l1⟩ := rv.tup_inv
    exact ⟨p1, xs, rfl, .inr s1, fun l hl => by obtain ⟨a2, m2⟩ := own_lst gs a1 hl l1; exact q _ _ _ _ (h l) a2 m2 (.raw _)⟩
  | lst h =>
    obtain ⟨p1, xs, rfl, s1, _, l1⟩ := rv.lst_inv
    exact ⟨p1, xs, rfl, .inl (SqL.of s1), fun l hl => by obtain ⟨a2, m2⟩ := own_lst gs a1 hl l1; exact q _ _ _ _ (h l) a2 m2 (.raw _)⟩
  | own j o h =>
    obtain ⟨xs, s1, l1⟩ := at_ob a1 o
    rw [rv.raw_inv]
    exact ⟨_, xs, rfl, .inl (SqL.of s1), fun l hl => by obtain ⟨a2, m2⟩ := own_lst gs a1 hl l1; exact q _ _ _ _ (h l) a2 m2 (.raw _)⟩
/-! ### methods of built-in types -/
/-- xs.append(e), xs a list of ours -/
theorem we_append (gs : Gst G) (h : WE X G W o M ρ xr fun M1 d => OwL M1 d fun _ q _ => WE X G W e M1 ρ xr fun M2 z => OwL M2 (Rf q) fun i _ l => l.length < sizeLine ∧ R (M2.set i (q, .lst (l ++ [z]))) N0)
    (hb : PE X (.Call (.Attribute o "append" apos) [e] [] pos) (tBM X.K "list" rAppend (eT X o) (aT X [e]))) (he : starEach [e] X.env = (false, eval e X.env) :: starEach [] X.env := by rfl) : WE X G W (.Call (.Attribute o "append" apos) [e] [] pos) M ρ xr R :=
  we_of hb fun σ H a0 b0 x Q q => h σ H a0 b0 x _ fun M1 d v H1 h1 a1 m1 r1 => by
  cases h1 with
  | mk i0 hi0 h1 =>
  rename_i q0 l0
  obtain ⟨xs0, s0, _⟩ := at_ob a1 hi0
  obtain rfl := r1.raw_inv
  refine ⟨.inl ⟨rfl, xs0, SqL.of s0⟩, ?_⟩
  refine wa_one (RA := fun M2 ds => ∃ z, ds = [z] ∧ OwL M2 (Rf q0) fun i _ l => l.length < sizeLine ∧ R (M2.set i (q0, .lst (l ++ [z]))) N0) (⟨fun σ H a0 b0 x Q q => h1 σ H a0 b0 x Q fun M1 d v H1 hd a1 m1 r1 => q M1 d v H1 ⟨d, rfl, hd⟩ a1 m1 r1⟩) he σ H1 a1 (m1.sl a0 b0) (x.mv m1) _ fun M2 ds vs H2 h2 a2 m2 r2 => ?_
  obtain ⟨z, rfl, h2⟩ := h2
  cases h2 with
  | mk i hi h2 =>
  rename_i l
  obtain ⟨hl, hk⟩ := h2
  obtain ⟨u, rfl, ru⟩ := r2.one
  obtain ⟨xs, s1, l1⟩ := at_ob a2 hi
  refine ⟨q0, xs, u, rfl, rfl, s1, by rw [l1.length]; exact hl, ?_⟩
  have hm : Mv M2 H2 M2 (upd H2 q0 (.lst (xs ++ [u]))) := ⟨fun b w e n _ => by
      rw [upd_ne (fun z => n (by rw [z]; exact mem_at hi))]; exact e, fun _ h => .inl h⟩
  obtain ⟨a3, m3⟩ := a2.write gs (o' := .lst (l ++ [z])) hi (u := .lst (xs ++ [u])) (fun _ z => by cases z) ⟨_, upd_same, (hm.rpl a2 l1).app (.cons (hm.rp a2 ru) .nil)⟩
  exact q _ _ _ _ hk a3 ((m1.trans m2).trans m3) (.raw _)
/-- s.find(t), s.index(t) of a text that is there -/
theorem we_find (h : WE X G W o M ρ xr fun M1 d => IsZ d fun z => WE X G W e M1 ρ xr fun M2 d' => IsZ d' fun y => R M2 (I (Txt.find z y)))
    (he : starEach [e] X.env = [(false, eval e X.env)] := by rfl) (hb : attributeBase o "find" X.env (eval o X.env) = eval o X.env := by rfl) (hl : (apos.endLine == pos.line) = true := by rfl) : WE X G W (.Call (.Attribute o "find" apos) [e] [] pos) M ρ xr R :=
  we_of (pe_m1 F.slot_str_find F.type_str_find mt_find pe_wp pe_wp he hb hl) fun σ H a0 b0 x Q q => h σ H a0 b0 x _ fun M1 d v H1 h1 a1 m1 r1 => by
  cases h1 with
  | mk h1 =>
  rename_i z
  obtain rfl := r1.raw_inv
  refine ⟨⟨z, rfl⟩, h1 σ H1 a1 (m1.sl a0 b0) (x.mv m1) _ fun M2 d' v' H2 h2 a2 m2 r2 => ?_⟩
  cases h2 with
  | mk h2 =>
  rename_i y
  obtain rfl := r2.raw_inv
  exact ⟨z, y, rfl, rfl, q M2 _ _ H2 h2 a2 (m1.trans m2) (.raw _)⟩
/-- sep.join(xs) of texts -/
theorem we_join (h : WE X G W o M ρ xr fun M1 d => IsZ d fun z => WE X G W e M1 ρ xr fun M2 d' => ∃ ys : List Str, (d' = .lst (ys.map Z) ∨ d' = .tup (ys.map Z)) ∧ (ys.map (·.length)).sum + ys.length * z.length ≤ 16777216 ∧ R M2 (Z (Txt.join z ys)))
    (he : starEach [e] X.env = [(false, eval e X.env)] := by rfl) (hb : attributeBase o "join" X.env (eval o X.env) = eval o X.env := by rfl) (hl : (apos.endLine == pos.line) = true := by rfl) : WE X G W (.Call (.Attribute o "join" apos) [e] [] pos) M ρ xr R :=
  we_of (pe_join pe_wp pe_wp he hb hl) fun σ H a0 b0 x Q q => h σ H a0 b0 x _ fun M1 d v H1 h1 a1 m1 r1 => by
  cases h1 with
  | mk h1 =>
  rename_i z
  obtain rfl := r1.raw_inv
  refine ⟨⟨z, rfl⟩, h1 σ H1 a1 (m1.sl a0 b0) (x.mv m1) _ fun M2 d' v' H2 h2 a2 m2 r2 => ?_⟩
  obtain ⟨ys, hd, hs, h2⟩ := h2
  have e : ys.map Z = (ys.map V.str).map D.raw := by rw [List.map_map]; rfl
  rcases hd with rfl | rfl
  · obtain ⟨p1, xs, rfl, s1, _, l1⟩ := r2.lst_inv
    rw [e] at l1
    rw [l1.raws] at s1
    exact ⟨z, p1, ys, rfl, rfl, .inl (SqL.of s1), hs, q M2 _ _ H2 h2 a2 (m1.trans m2) (.raw _)⟩
  · obtain ⟨p1, xs, rfl, s1, l1⟩ := r2.tup_inv
    rw [e] at l1
    rw [l1.raws] at s1
    exact ⟨z, p1, ys, rfl, rfl, .inr s1, hs, q M2 _ _ H2 h2 a2 (m1.trans m2) (.raw _)⟩
end
end Wv
set_option maxRecDepth 100000
set_option maxHeartbeats 2000000
namespace Wv
open PySem PySem.Spec PyProof.Rows L2
/-- an own error class under ValueError -/
structure ExcC (K : PySem.W.Frag) (mg : Str → Option Value) (x : Str) (C : Addr) : Prop where
  g : mg x = some (.ref C)
  kp : PySem.W.keepIn K (.ref C) = true
  ex : PySem.W.excIn K C [.type "ValueError", .type "Exception", .type "BaseException", .type "object"] "ValueError.__new__" = true
  sub : PySem.W.subIn K (.ref C) (.type "BaseException") = some true
  ty : PySem.W.typeIn K (.ref C) = some (.type "type")
section
variable {X : Cx} {G : Hp → Prop} {W : WX} {M : Ms} {ρ : Rh} {xr : Value → Ms → Prop} {N : En} {a b c e o : Expr} {es : List Expr} {pos p apos : Pos} {R : Ms → D → Prop} {k j : Nat}
/-- what is ours no longer -/
theorem AtM.sub {K : PySem.W.Frag} {M0 : Ms} {H : Hp} (a : AtM G K M H) (s : List.Sublist M0 M) : AtM G K M0 H ∧ Mv M H M0 H := by
  have hd : ∀ b ∈ dom M0, b ∈ dom M := fun b hb => (s.map (·.1)).subset hb
  have m : Mv M H M0 H := ⟨fun _ _ h _ _ => h, fun b hb => .inl (hd b hb)⟩
  exact ⟨⟨a.g, a.nd.sublist (s.map (·.1)), fun p hp => m.oat a (a.ob p (s.subset hp)) fun u h => h⟩, m⟩
theorem we_sub (h : WE X G W e M ρ xr fun M1 d => ∃ M0, List.Sublist M0 M1 ∧ R M0 d) : WE X G W e M ρ xr R := ⟨fun σ H a0 b0 x Q q => h σ H a0 b0 x Q fun M1 d v H1 h1 a1 m1 r1 => by
  obtain ⟨M0, s, hk⟩ := h1
  obtain ⟨a2, m2⟩ := a1.sub s
  exact q M0 d v H1 hk a2 (m1.trans m2) (m2.rp a1 r1)⟩
theorem ws_retS (h : WE X G W e M ρ N.xr fun M1 d => ∃ M0, List.Sublist M0 M1 ∧ N.rt M0 d) : WS X G W (.Return (some e) pos) M ρ N := ws_ret (we_sub h)
theorem ws_raiseC {x m : Str} {C : Addr} {j : Nat} {p p2 q : Pos} (cx : Ct X G W k) (E : ExcC X.K X.mg x C) (hg : Gl X x) (h : ∃ M0, List.Sublist M0 M ∧ N.xr (.ref C) M0) (hdb : (x == ("__debug__" : Str)) = false := by decide) : WS X G W (.Raise (some (.Call (.Name x p) [.Constant (.str m) j p2] [] pos)) none q) M ρ N :=
  ws_of (L2N.ps_raise cx.hc cx.tk (L2N.pmk_own PySem.F.excBase_ValueError E.ex E.g E.kp (raises_own E.sub E.ty) hg hdb)) fun σ H a0 b0 Dn x n r bk ct => by
  obtain ⟨M0, s, hk⟩ := h
  obtain ⟨a2, m2⟩ := a0.sub s
  exact x M0 H (.ref C) σ hk a2 m2
end
section
variable {X : Cx} {G : Hp → Prop} {W : WX} {M : Ms} {ρ : Rh} {xr : Value → Ms → Prop} {N : En} {e : Expr} {es : List Expr} {R : Ms → D → Prop}
theorem gNm {x : Str} {pos : Pos} (h : WE X G W (.Name x pos) M ρ xr R) : WE X G W (.Name x pos) M ρ xr R := h
theorem gConst {c : Const} {j : Nat} {pos : Pos} (h : WE X G W (.Constant c j pos) M ρ xr R) : WE X G W (.Constant c j pos) M ρ xr R := h
theorem gCall {f : Expr} {es : List Expr} {kw : List Keyword} {pos : Pos} (h : WE X G W (.Call f es kw pos) M ρ xr R) : WE X G W (.Call f es kw pos) M ρ xr R := h
theorem gWE (h : WE X G W e M ρ xr R) : WE X G W e M ρ xr R := h
theorem gWT {R : Ms → Bool → Prop} (h : WT X G W e M ρ xr R) : WT X G W e M ρ xr R := h
theorem gWW {R : Ms → Bool → Prop} (h : WW X G W e M ρ xr R) : WW X G W e M ρ xr R := h
theorem gWA {R : Ms → List D → Prop} (h : WA X G W es M ρ xr R) : WA X G W es M ρ xr R := h
theorem gWS {s : Stmt} (h : WS X G W s M ρ N) : WS X G W s M ρ N := h
theorem gWSs {s : List Stmt} (h : WSs X G W s M ρ N) : WSs X G W s M ρ N := h
theorem gBinD {op : Operator} {d e : D} {k : D → Prop} (h : BinD op d e k) : BinD op d e k := h
theorem gCmpD {op : CmpOp} {d e : D} {k : Bool → Prop} (h : CmpD op d e k) : CmpD op d e k := h
end
theorem Ct.hu {X : Cx} {G : Hp → Prop} {W : WX} {k : Nat} (cx : Ct X G W k) : X.A.units + 64 < cLine := cx.hr.units
theorem ite_d {c A B : Prop} [Decidable c] (h1 : c → A) (h2 : ¬ c → B) : if decide c = true then A else B := by
  by_cases h : c
  · rw [if_pos (decide_eq_true h)]; exact h1 h
  · rw [if_neg (by rw [decide_eq_false h]; decide)]; exact h2 h
theorem ite_nd {c A B : Prop} [Decidable c] (h1 : ¬ c → A) (h2 : c → B) : if (!decide c) = true then A else B := by
  by_cases h : c
  · rw [if_neg (by rw [decide_eq_true h]; decide)]; exact h2 h
  · rw [if_pos (by rw [decide_eq_false h]; decide)]; exact h1 h
theorem ite_b {b : Bool} {A B : Prop} (h1 : b = true → A) (h2 : b = false → B) : if b = true then A else B := by
  cases b with
  | true => exact iteT (h1 rfl)
  | false => exact iteF (h2 rfl)
theorem app_own {q : Addr} {l : List D} {M : Ms} : List.Sublist M ((q, O.lst l) :: M) := List.sublist_cons_self _ _
abbrev byt (l : List Int) : D := .tup (l.map fun i => I i)
end Wv
set_option maxRecDepth 100000
set_option maxHeartbeats 2000000
namespace Wv
open PySem PySem.Spec PyProof.Rows L2
open LamX (CodeO TabS Tabs ExtN TabB lamEnv lamCx LamS among_app codeO_ne)
section
variable {G : Hp → Prop} {K : PySem.W.Frag} {M : Ms} {H H1 : Hp}
/-- the tables may have grown -/
theorem AtM.ext (a : AtM G K M H) (e : ExtN H H1) (g : G H1) : AtM G K M H1 ∧ Mv M H M H1 := by
  have m : Mv M H M H1 := ⟨fun b o h _ t => e b o h t, fun _ h => .inl h⟩
  refine ⟨⟨g, a.nd, fun p hp => m.oat a (a.ob p hp) fun u h => ?_⟩, m⟩
  refine e _ _ h fun ps z => ?_
  obtain ⟨u', h', _, _, n⟩ := (a.ob p hp).some
  rw [h] at h'; cases h'
  subst z
  exact n trivial
end
theorem gst_tabs (T : List (Addr × Str)) : Gst (Tabs T) := fun H H' t e p hp => by
  obtain ⟨ps, h1, h2, h3⟩ := t p hp
  refine ⟨ps, e _ _ h1 trivial, h2, fun pos cv hc => ?_⟩
  obtain ⟨c, e1, e2⟩ := h3 pos cv hc
  exact ⟨c, e1, e _ _ e2 trivial⟩
/-- what a def with lambdas or generator expressions has -/
structure TabX (X : Cx) (T : List (Addr × Str)) (q : Str) : Prop where
  ex : ∃ c P, TabB X.base X.mg c P ∧ X.env.code = .ref c ∧ (P, X.env.qual ++ q) ∈ T ∧ ∀ p ∈ T, p.1 = P → p.2 = X.env.qual ++ q
section
variable {X : Cx} {pins : List (Addr × Obj)} {σ : L2.St} {H : Hp} {s : Shared}
theorem inv_tableG {P c : Addr} {q : Str} {ps more : Array Value} {h' : Heap} {g' : Array GenState} {d' : Drawn} {t' : Nat} (I : Inv X pins σ H s) (hP : H P = some (.tbl ps)) (k : ∀ b o, b ≠ P → s.heap.get? b = some o → h'.get? b = some o)
    (hm : h'.get? P = some { cls := .none, data := .fields (ps ++ more) }) (hc : s.heap.objs.size ≤ c) (ho : ∃ (oc : Obj) (vs : Array Value) (t : Tok), h'.get? c = some oc ∧ oc.data = .fields vs ∧ vs[1]? = some (.str q t)) (hg : AllBare g') :
    Inv X pins σ (upd (upd H P (.tbl (ps ++ more))) c (CodeO c q)) { s with heap := h', gens := g', drawn := d', toks := t' } := by
  have nC : H c = none := I.hok.fresh hc
  have nPc : P ≠ c := ne_of_none hP nC
  have at_ : ∀ b, b ≠ P → b ≠ c → upd (upd H P (.tbl (ps ++ more))) c (CodeO c q) b = H b := fun b h1 h2 => by rw [upd_ne h2, upd_ne h1]
  have atP : upd (upd H P (.tbl (ps ++ more))) c (CodeO c q) P = some (.tbl (ps ++ more)) := by rw [upd_ne nPc, upd_same]
  have nP : ∀ b u, H b = some u → (∀ q, u ≠ .tbl q) → b ≠ P := fun b u e q z => by
    rw [z, hP] at e
    exact q ps (Option.some.inj e).symm
  have nN : ∀ b, H b = none → b ≠ P := fun b e z => by
    rw [z, hP] at e
    cases e
  have lt' : ∀ b o, s.heap.get? b = some o → b ≠ c := fun b o e z => by
    rw [z] at e
    exact Nat.lt_irrefl _ (Nat.lt_of_lt_of_le (Heap.lt_size e) hc)
  have sm : ∀ b u, H b = some u → b ≠ c := fun b u e => ne_of_none e nC
  refine I.step (g' := g') (d' := d') (ch := []) (fun b hb => absurd hb (by simp)) (fun b o _ _ _ e n => k b o (nN b n) e) (fun b o _ _ _ e n => ⟨o.slots, k b o (nN b n) e⟩)
    (fun b o _ e n => by rw [at_ b (nN b n) (lt' b o e)]; exact n) (fun b o _ e => ?_) (fun b xs e => by rw [at_ b (nP b _ e (fun q z => by cases z)) (sm b _ e)]; exact e) (fun b o u e => by rw [at_ b (nP b _ e (fun q z => by cases z)) (sm b _ e)]; exact e) (fun b qs e => ?_) (fun m hn => ?_) (fun b u e => ?_) hg
  · by_cases hb : b = P
    · rw [hb]
      exact ⟨_, hm⟩
    · exact ⟨o, k b o hb e⟩
  · by_cases hb : b = P
    · rw [hb, hP] at e
      cases e
      rw [hb, atP]
      exact ⟨more, rfl⟩
    · rw [at_ b hb (sm b _ e), e]
      exact ⟨#[], by simp⟩
  · obtain ⟨ob, es, ep, ho, r⟩ := hn
    exact ⟨ob, es, ep, k _ ob (nN _ I.free) ho, r⟩
  · by_cases hb : b = c
    · rw [hb, upd_same] at e
      cases e
      rw [hb]
      obtain ⟨oc, vs, t, e1, e2, e3⟩ := ho
      exact ⟨⟨oc, vs, t, e1, e2, e3⟩, ⟨oc, e1⟩, fun h1 h2 ⟨oc, vs, t, a, b, c⟩ st => ⟨oc, vs, t, st _ a, b, c⟩⟩
    · by_cases hb2 : b = P
      · rw [hb2, atP] at e
        cases e
        rw [hb2]
        exact hm
      · rw [at_ b hb2 hb] at e
        refine (I.hok b u e).stay (fun d v hd q => k d v ?_ q) (fun d q => by rw [at_ d (nP d _ q (fun q z => by cases z)) (sm d _ q)]; exact q) fun d xs q => by rw [at_ d (nP d _ q (fun q z => by cases z)) (sm d _ q)]; exact q
        rcases hd with z | z
        · rw [z]
          exact hb2
        · exact nP d _ z (fun q z => by cases z)
/-- a table that has grown by a code object of the right name -/
theorem tabs_grow {T : List (Addr × Str)} {P c' : Addr} {q : Str} {ps : Array Value} {pos : Pos} (hT : Tabs T H) (hP : H P = some (.tbl ps)) (ht : TriplesOk ps.toList) (ha : ∀ (pos : Pos) (cv : Value), codeAmong pos ps.toList = some cv → ∃ c, cv = .ref c ∧ H c = some (CodeO c q))
    (hu : ∀ p ∈ T, p.1 = P → p.2 = q) (nC : H c' = none) : ExtN H (upd (upd H P (.tbl (ps ++ #[rawInt pos.line, rawInt pos.col, .ref c']))) c' (CodeO c' q)) ∧ Tabs T (upd (upd H P (.tbl (ps ++ #[rawInt pos.line, rawInt pos.col, .ref c']))) c' (CodeO c' q)) := by
  have hE : ExtN H (upd (upd H P (.tbl (ps ++ #[rawInt pos.line, rawInt pos.col, .ref c']))) c' (CodeO c' q)) := fun b o e n => by
    rw [upd_ne (ne_of_none e nC), upd_ne (fun z => n ps (Option.some.inj (e.symm.trans (by rw [z]; exact hP))))]
    exact e
  have eL : (ps ++ #[rawInt pos.line, rawInt pos.col, .ref c']).toList = ps.toList ++ [rawInt pos.line, rawInt pos.col, .ref c'] := by simp
  refine ⟨hE, fun p hp => ?_⟩
  by_cases hb : p.1 = P
  · rw [hu p hp hb, hb]
    refine ⟨_, by rw [upd_ne (ne_of_none hP nC), upd_same], by rw [eL]; exact PySem.TriplesOk_snoc _ _ _ _ ht, fun p' cv hcv => ?_⟩
    rw [eL] at hcv
    rcases among_app _ ht hcv with z | z
    · obtain ⟨c0, e1, e2⟩ := ha p' cv z
      exact ⟨c0, e1, hE _ _ e2 codeO_ne⟩
    · exact ⟨c', z, upd_same⟩
  · obtain ⟨ps', a1, a2, a3⟩ := hT p hp
    refine ⟨ps', by rw [upd_ne (ne_of_none a1 nC), upd_ne hb]; exact a1, a2, fun p' cv hcv => ?_⟩
    obtain ⟨c0, e1, e2⟩ := a3 p' cv hcv
    exact ⟨c0, e1, hE _ _ e2 codeO_ne⟩
end
/-! ### any, all of a generator expression -/
/-- where an element is reckoned -/
structure QH (X : Cx) (scope : Scope) (x : Str) (v : Value) (cenv : Env) (m : Str → Option Value) (s : Shared) : Prop where
  md : Mod X.K X.mg X.base
  sc : cenv.scope = scope
  gl : cenv.globals = mainGlobals
  bl : cenv.builtins = builtinsNs
  bk : ∀ b o, X.base.get? b = some o → s.heap.get? b = some o
  ns : s.heap.Ns cenv.locals m
  at_ : m x = some v
/-- e is a value of P at the item v, and nothing changes -/
def Qe (X : Cx) (scope : Scope) (x : Str) (v : Value) (e : Expr) (P : Value → Prop) : Prop :=
  ∀ (cenv : Env) (A' : Around) (E' : Value → Shared → Prop) (s : Shared) (m : Str → Option Value), QH X scope x v cenv m s → wpAny (model X.prog X.w) A' (eval e cenv) (fun y s₃ => P y ∧ Keeps s s₃) E' s
/-- the element is the truth b at the item v -/
def EltG (X : Cx) (scope : Scope) (x : Str) (elt : Expr) (v : Value) (b : Bool) : Prop := Qe X scope x v elt fun y => y = .bool b
/-- what is iterated, its items -/
inductive SrcD : D → List V → Prop
  | tup (l : List V) : SrcD (.tup (l.map D.raw)) l
  | str (z : Str) : SrcD (Z z) (z.cps.toList.map fun c => .str ⟨#[c]⟩)
section
variable {X : Cx} {pins : List (Addr × Obj)} {σ : L2.St} {H : Hp} {s : Shared}
/-- an iterator over it -/
theorem src_iter {v : V} {d : D} {ws : List V} {M : Ms} {G : Hp → Prop} {u : Value} {Q : Value → Shared → Prop} (I : Inv X pins σ H s) (a : AtM G X.K M H) (r : Rp X.K (dom M) H v d) (hs : SrcD d ws) (rv : RelV v u)
    (hQ : ∀ (o : Obj) (kp : List Addr) (Pf : Nat → Value → Prop) (St : Nat → Heap → Prop), (∀ A' : Around, A'.handled = none → Walks X.prog X.w A' s.heap.objs.size (s.heap.objs.size :: kp) [s.heap.objs.size] ws.length Pf St) → St 0 (s.heap.push o) →
      (∀ b ∈ kp, ∃ ob, s.heap.get? b = some ob ∧ ∀ vs, ob.data ≠ .fields vs) → (∀ i y, Pf i y → ∃ w, ws[i]? = some w ∧ RelV w y) → Q (.ref s.heap.objs.size) { s with heap := s.heap.push o }) : wpAny (model X.prog X.w) X.A (pyIter u) Q X.xe s := by
  cases hs with
  | tup l =>
    obtain ⟨p1, xs, rfl, s1, l1⟩ := r.tup_inv
    rw [l1.raws] at s1
    obtain rfl : u = Value.ref p1 := rv
    obtain ⟨its, r2, ht, _⟩ := I.tuple s1
    obtain ⟨ob, hob, hcl, nn, hda⟩ := ht
    have hT : s.heap.IsTuple p1 its.toArray := ⟨ob, hob, hcl, nn, hda⟩
    have hlt : p1 < s.heap.objs.size := Heap.lt_size hob
    have hsz : its.toArray.size = ws.length := by rw [r2.length]; simp
    refine wpAny_pyIter_tuple hT (hQ _ [p1] (fun i v => its.toArray[i]? = some v) (fun i h => h.IsTupleIter s.heap.objs.size p1 i ∧ h.IsTuple p1 its.toArray) (fun A' hA => by rw [← hsz]; exact Walks.tuple hA _ _ (Nat.ne_of_lt hlt) its.toArray) (show _ ∧ _ from ⟨⟨_, Heap.get?_push_size _ rfl, rfl, rfl⟩, hT.push _⟩) (fun b hb => ?_) fun i y h => ?_)
    · rw [List.mem_singleton.mp hb]
      exact ⟨ob, hob, fun vs z => by rw [hda] at z; cases z⟩
    · have h' : its[i]? = some y := by simpa using h
      cases e : ws[i]? with
      | none => rw [r2.none_of e] at h'; cases h'
      | some w =>
        obtain ⟨y', e', rw'⟩ := r2.get e
        rw [e'] at h'; cases h'
        exact ⟨w, rfl, rw'⟩
  | str z =>
    obtain rfl := r.raw_inv
    obtain ⟨t, rfl⟩ := rv
    refine wpAny_pyIter_str fun o St W hst => hQ o [] (SignAt z) St (fun A' hA => by rw [List.length_map, Array.length_toList]; exact W A' hA) hst (fun b hb => by simp at hb) fun i y h => ?_
    obtain ⟨c, t', hc, rfl⟩ := h
    exact ⟨.str ⟨#[c]⟩, by rw [List.getElem?_map, Array.getElem?_toList, hc]; rfl, ⟨t', rfl⟩⟩
def trB (bs : List Bool) (j : Nat) : Bool := bs.getD j false
theorem any_trB (bs : List Bool) : (List.range bs.length).any (trB bs) = bs.any id := by
  rw [Bool.eq_iff_iff, List.any_eq_true, List.any_eq_true]
  constructor
  · rintro ⟨j, hj, h⟩
    have hj' := List.mem_range.mp hj
    refine ⟨bs[j], List.getElem_mem hj', ?_⟩
    simpa [trB, hj'] using h
  · rintro ⟨b, hb, h⟩
    obtain ⟨j, hj, e⟩ := List.getElem_of_mem hb
    exact ⟨j, List.mem_range.mpr hj, by simp [trB, hj, e]; exact h⟩
theorem all_trB (bs : List Bool) : (List.range bs.length).all (trB bs) = bs.all id := by
  rw [Bool.eq_iff_iff, List.all_eq_true, List.all_eq_true]
  constructor
  · intro h b hb
    obtain ⟨j, hj, e⟩ := List.getElem_of_mem hb
    have := h j (List.mem_range.mpr hj)
    simpa [trB, hj, e] using this
  · intro h j hj
    have hj' := List.mem_range.mp hj
    simpa [trB, hj'] using h _ (List.getElem_mem hj')
/-- the generator is made; what is left to be told of it -/
theorem gen_made {T : List (Addr × Str)} {c P : Addr} {elt : Expr} {x : Str} {gpos : Pos} {scope : Scope} {k : Nat} {M M1 : Ms} {xv : V} {H1 : Hp} {s1 : Shared} {u : Value} {d : D} {ws : List V} {bs : List Bool} {Q' : Value → Shared → Prop}
    (hr : Room k X.A) (TB : TabB X.base X.mg c P) (hcode : X.env.code = .ref c) (hmT : (P, X.env.qual ++ "<genexpr>") ∈ T) (hu : ∀ p ∈ T, p.1 = P → p.2 = X.env.qual ++ "<genexpr>") (Sg : GxR.GenS X.env scope x)
    (I1 : Inv X pins σ H1 s1) (a1 : AtM (Tabs T) X.K M1 H1) (r1 : Rp X.K (dom M1) H1 xv d) (rv : RelV xv u) (hsrc : SrcD d ws) (hlen : bs.length = ws.length) (hel : ∀ (i : Nat) w b v, ws[i]? = some w → bs[i]? = some b → RelV w v → EltG X scope x elt v b)
    (hQ : ∀ (g : Addr) (s5 : Shared) (fp wr : List Addr) (Gs : Array GenState → Array GenState → Prop) (F : Nat → Value → Prop) (St : Nat → Shared → Prop), WalksS X.prog X.w X.A.in1 g fp wr Gs bs.length F St → St 0 s5 → TruthOf X.prog X.w X.A.in1 F (trB bs) →
      (∀ s', Moved wr Gs s5 s' → ∃ H2, ExtN H1 H2 ∧ Tabs T H2 ∧ Inv X pins σ H2 s') → Q' (.ref g) s5) :
    wpAny (model X.prog X.w) X.A (pyIter u) (fun it s₂ => s₂.heap.NoLimit ∧
      wpAny (model X.prog X.w) X.A (genexprCode X.env gpos (X.env.qual ++ "<genexpr>") scope) (fun code s₃ => wpAny (model X.prog X.w) X.A (builtinsFor X.env.globals X.env.builtins) (fun bi s₄ =>
        ∃ Ia fp wr n₀ Pf St₀ pz F, it = .ref Ia ∧ (∀ A' : Around, A'.handled = none → Walks X.prog X.w A' Ia fp wr n₀ Pf St₀) ∧ St₀ 0 s₄.heap ∧ (∀ b ∈ fp, b < s₄.heap.objs.size) ∧ s₄.heap.NoLimit ∧ cStatics ∉ wr ∧
          (∀ href : Heap, (∀ b o, s₄.heap.get? b = some o → href.get? b = some o) →
            QuietGen X.prog X.w (genEnv scope (cloFrom X.env.cells scope.names []) s₄.heap.objs.size code bi X.env) x [] elt (List.range s₄.heap.objs.size) wr Pf pz F href) ∧
          (∀ a h₅ tk gs, gs.bare = true → s₄.heap.objs.size < a → h₅.objs.size = a + 1 → (∀ b o, s₄.heap.get? b = some o → h₅.get? b = some o) →
            WalksS X.prog X.w X.A.in4 a (a :: s₄.heap.objs.size :: List.range s₄.heap.objs.size) (s₄.heap.objs.size :: wr) (GenOnlyQ s₄.gens.size) (passing pz n₀ 0).length
              (fun j y => ∃ i, (passing pz n₀ 0)[j]? = some i ∧ F i y) (GenAt X.prog X.w X.A.in4 a s₄.gens.size s₄.heap.objs.size (List.range s₄.heap.objs.size) wr pz n₀ F) →
            GenAt X.prog X.w X.A.in4 a s₄.gens.size s₄.heap.objs.size (List.range s₄.heap.objs.size) wr pz n₀ F 0 { s₄ with gens := s₄.gens.push gs, toks := tk, heap := h₅ } →
            Q' (.ref a) { s₄ with gens := s₄.gens.push gs, toks := tk, heap := h₅ })) X.xe s₃) X.xe s₂) X.xe s1 := by
  obtain ⟨ps, hP, ht, ha⟩ := a1.g _ hmT
  refine src_iter I1 a1 r1 hsrc rv fun o kp Pf St W hst hkp hPf => ?_
  have hPs : s1.heap.get? P = some { cls := .none, data := .fields ps } := I1.hok P _ hP
  have hPlt : P < s1.heap.objs.size := Heap.lt_size hPs
  have hP2 : (s1.heap.push o).get? P = some { cls := .none, data := .fields ps } := Heap.get?_push_of_some _ hPs
  have cd : PySem.W.CodeHd (s1.heap.push o) c P := TB.code.keeps fun b u e => Heap.get?_push_of_some _ (I1.bk b u e)
  have lim2 : (s1.heap.push o).NoLimit := I1.nolimit.push o
  have kpP : ∀ b ∈ kp, b ≠ P := fun b hb z => by
    obtain ⟨ob, e1, e2⟩ := hkp b hb
    rw [z, hPs] at e1
    cases e1
    exact e2 _ rfl
  have cont : ∀ (code : Value) (h3 : Heap) (tk : Nat) (ps' : Array Value), Heap.ExtBut P (s1.heap.push o) h3 → (s1.heap.push o).objs.size ≤ h3.objs.size → h3.get? P = some { cls := .none, data := .fields ps' } →
      (∀ s' : Shared, s'.os = s1.os → AllBare s'.gens → (∀ b u, s1.heap.get? b = some u → b ≠ P → s'.heap.get? b = some u) → (∀ b u, h3.get? b = some u → s1.heap.objs.size < b → b < h3.objs.size → s'.heap.get? b = some u) → s'.heap.get? P = some { cls := .none, data := .fields ps' } → ∃ H2, ExtN H1 H2 ∧ Tabs T H2 ∧ Inv X pins σ H2 s') →
      wpAny (model X.prog X.w) X.A (builtinsFor X.env.globals X.env.builtins) (fun bi s₄ =>
        ∃ Ia fp wr n₀ Pf St₀ pz F, Value.ref s1.heap.objs.size = .ref Ia ∧ (∀ A' : Around, A'.handled = none → Walks X.prog X.w A' Ia fp wr n₀ Pf St₀) ∧ St₀ 0 s₄.heap ∧ (∀ b ∈ fp, b < s₄.heap.objs.size) ∧ s₄.heap.NoLimit ∧ cStatics ∉ wr ∧
          (∀ href : Heap, (∀ b o, s₄.heap.get? b = some o → href.get? b = some o) →
            QuietGen X.prog X.w (genEnv scope (cloFrom X.env.cells scope.names []) s₄.heap.objs.size code bi X.env) x [] elt (List.range s₄.heap.objs.size) wr Pf pz F href) ∧
          (∀ a h₅ tk gs, gs.bare = true → s₄.heap.objs.size < a → h₅.objs.size = a + 1 → (∀ b o, s₄.heap.get? b = some o → h₅.get? b = some o) →
            WalksS X.prog X.w X.A.in4 a (a :: s₄.heap.objs.size :: List.range s₄.heap.objs.size) (s₄.heap.objs.size :: wr) (GenOnlyQ s₄.gens.size) (passing pz n₀ 0).length
              (fun j y => ∃ i, (passing pz n₀ 0)[j]? = some i ∧ F i y) (GenAt X.prog X.w X.A.in4 a s₄.gens.size s₄.heap.objs.size (List.range s₄.heap.objs.size) wr pz n₀ F) →
            GenAt X.prog X.w X.A.in4 a s₄.gens.size s₄.heap.objs.size (List.range s₄.heap.objs.size) wr pz n₀ F 0 { s₄ with gens := s₄.gens.push gs, toks := tk, heap := h₅ } →
            Q' (.ref a) { s₄ with gens := s₄.gens.push gs, toks := tk, heap := h₅ })) X.xe { s1 with heap := h3, toks := tk } := by
    intro code h3 tk ps' hx hsz hP3 hInv
    obtain ⟨bm, ob, e1, e2, e3, e4, e5, e6, e7, e8⟩ := TB.bm
    have hcP : cStatics ≠ P := fun e => by
      obtain ⟨_, hns, _⟩ := I1.nolimit
      obtain ⟨o', es, ep, ho, hd, _⟩ := hns
      rw [e, hPs] at ho
      cases ho
      cases hd
    have hcl : cStatics < s1.heap.objs.size := let ⟨_, hns, _⟩ := I1.nolimit; hns.lt
    have sz2 : (s1.heap.push o).objs.size = s1.heap.objs.size + 1 := Heap.size_push ..
    have keep3 : ∀ b u, b ≠ P → s1.heap.get? b = some u → h3.get? b = some u := fun b u hb e => hx b u hb (Heap.get?_push_of_some _ e)
    refine wpAny_builtinsFor (m := X.mg) (by rw [I1.ok.glob]; exact ((I1.mod.glob.keeps I1.bk).push o).extBut hx TB.gP) e1 e2 (keep3 _ _ e4 (I1.bk _ _ e5)) e6 e7 e8 ?_
    refine ⟨s1.heap.objs.size, s1.heap.objs.size :: kp, [s1.heap.objs.size], ws.length, Pf, St, (fun _ => true), (fun i y => ∃ b, bs[i]? = some b ∧ y = .bool b), rfl, W, ?_, ?_, lim2.extBut hx hcP, ?_, ?_, ?_⟩
    · refine (W X.A hr.hd).frame _ _ _ hst fun b hb u e => hx b u (fun z => ?_) e
      rcases List.mem_cons.mp hb with z2 | z2
      · exact Nat.ne_of_lt hPlt (z.symm.trans z2)
      · exact kpP b z2 z
    · intro b hb
      have h01 : s1.heap.objs.size < h3.objs.size := by omega
      rcases List.mem_cons.mp hb with z | z
      · rw [z]; exact h01
      · obtain ⟨ob', e', _⟩ := hkp b z
        exact Nat.lt_trans (Heap.lt_size e') h01
    · intro z
      rcases List.mem_cons.mp z with z | z
      · exact Nat.ne_of_lt hcl z
      · cases z
    · intro href hhref
      refine ⟨fun A' E' i v s₂ m₂ hA hPv hn hm hk => ?_, fun A' E' i v s₂ m₂ hA hPv hp hn hm hk => ?_⟩
      · simp only [List.forIn_nil]
        exact wpAny_pure ⟨rfl, GxR.keeps_refl _⟩
      · obtain ⟨w, hw, rw'⟩ := hPf i v hPv
        have hi : i < bs.length := by
          rw [hlen]
          rcases Nat.lt_or_ge i ws.length with q | q
          · exact q
          · rw [List.getElem?_eq_none q] at hw; cases hw
        have hb : bs[i]? = some bs[i] := List.getElem?_eq_getElem hi
        refine wpAny_mono (hel i w _ v hw hb rw' _ A' E' s₂ m₂ ⟨I1.mod, rfl, I1.ok.glob, rfl, (fun b o e => ?_), hn, hm⟩) (fun y s3 r => ⟨⟨_, hb, r.1⟩, r.2⟩) fun _ _ e => e
        have eb := I1.bk b o e
        have bP : b ≠ P := fun z => by
          have q := (I1.bs b o e).2
          rw [z, hP] at q; cases q
        refine hk b (List.mem_range.mpr ?_) (fun z => ?_) o (hhref b o (keep3 b o bP eb))
        · have h01 : s1.heap.objs.size < h3.objs.size := by omega
          exact Nat.lt_trans (Heap.lt_size eb) h01
        · have := Heap.lt_size eb
          rw [List.mem_singleton.mp z] at this
          exact Nat.lt_irrefl _ this
    · intro g h5 tk5 gs hgb hag hsz5 hk5 W5 hat
      simp only [GxR.passing_true, List.length_range] at W5
      rw [← hlen] at W5
      refine hQ g _ _ _ _ _ _ W5.in4_1 (by rw [← hlen] at hat; exact hat) ?_ fun s' hm => ?_
      · intro j y sj Qj Ej hy hQj
        obtain ⟨i, hij, b, hb, rfl⟩ := hy
        obtain ⟨hj, ej⟩ := List.getElem?_eq_some_iff.mp hij
        rw [List.getElem_range] at ej
        subst ej
        have hQ2 : Qj (trB bs j) sj := hQj
        rw [show trB bs j = b by simp [trB, hb]] at hQ2
        exact wpAny_truthy_bool hQ2
      · have nwr : ∀ b, b < s1.heap.objs.size → b ∉ h3.objs.size :: [s1.heap.objs.size] := fun b hl z => by
          rcases List.mem_cons.mp z with z | z
          · omega
          · rw [List.mem_singleton.mp z] at hl; exact Nat.lt_irrefl _ hl
        refine hInv s' hm.os (AllBare.movedS (I1.bare.push hgb) hm) (fun b u e hb => hm.heap b u (nwr b (Heap.lt_size e)) (hk5 b u (keep3 b u hb e))) (fun b u e hlo hhi => hm.heap b u (fun z => ?_) (hk5 b u e)) (hm.heap P _ (nwr P hPlt) (hk5 P _ hP3))
        rcases List.mem_cons.mp z with z | z
        · exact Nat.lt_irrefl _ (z ▸ hhi : h3.objs.size < h3.objs.size)
        · have z' := List.mem_singleton.mp z
          rw [z'] at hlo
          exact Nat.lt_irrefl _ hlo
  refine ⟨lim2, ?_⟩
  cases hf : codeAmong gpos ps.toList with
  | none =>
    refine wpAny_genexprCodeX hcode (cd.code hP2 ht) (cd.tab hP2) hf fun c' h' tk hx hge hlt hco' hrec htab' _ => ?_
    obtain ⟨c2, oc, vs, t, e2, hoc, hdo, hv⟩ := hrec
    cases e2
    have sz2 : (s1.heap.push o).objs.size = s1.heap.objs.size + 1 := Heap.size_push ..
    have hge1 : s1.heap.objs.size ≤ c' := by rw [sz2] at hge; omega
    refine cont _ h' tk _ hx (Nat.le_trans hge (Nat.le_of_lt hlt)) htab'.2 fun s' hos hbr hk1 hk3 hPn => ?_
    have J := inv_tableG (q := X.env.qual ++ "<genexpr>") (more := #[rawInt gpos.line, rawInt gpos.col, .ref c']) (h' := s'.heap) (g' := s'.gens) (d' := s'.drawn) (t' := s'.toks) I1 hP (fun b u hb e => hk1 b u e hb) hPn hge1
      ⟨oc, vs, t, hk3 _ _ hoc (by rw [sz2] at hge; omega) hlt, hdo, hv⟩ hbr
    rw [GxR.sh_eta s1 s' hos] at J
    obtain ⟨hE, hT'⟩ := tabs_grow (pos := gpos) a1.g hP ht ha hu (I1.hok.fresh hge1)
    exact ⟨_, hE, hT', J⟩
  | some cv =>
    refine wpAny_genexprCode_hit hcode (cd.code hP2 ht) hf ?_
    refine cont cv (s1.heap.push o) s1.toks ps (Heap.ExtBut.refl _ _) (Nat.le_refl _) hP2 fun s' hos hbr hk1 hk3 hPn => ?_
    have J := GxR.inv_tab (more := #[]) (h' := s'.heap) (g' := s'.gens) (d' := s'.drawn) (t' := s'.toks) I1 hP (fun b u hb e => hk1 b u e hb) (by rw [Array.append_empty]; exact hPn) hbr
    rw [GxR.sh_eta s1 s' hos] at J
    have eH : upd H1 P (.tbl (ps ++ #[])) = H1 := by
      funext b
      by_cases z : b = P
      · rw [z, upd_same, hP]; simp
      · rw [upd_ne z]
    rw [eH] at J
    exact ⟨H1, ExtN.refl _, a1.g, J⟩
end
section
variable {X : Cx} {W : WX} {M : Ms} {ρ : Rh} {xr : Value → Ms → Prop} {T : List (Addr × Str)} {pos p : Pos} {R : Ms → D → Prop} {k j : Nat}
theorem we_any {elt iter : Expr} {x : Str} {px gpos : Pos} {scope : Scope} (cx : Ct X (Tabs T) W k) (TX : TabX X T "<genexpr>") (hm : X.mg "any" = none) (hg : Gl X "any") (Sg : GxR.GenS X.env scope x)
    (h : WE X (Tabs T) W iter M ρ xr fun M1 d => ∃ (ws : List V) (bs : List Bool), SrcD d ws ∧ bs.length = ws.length ∧ (∀ (i : Nat) w b v, ws[i]? = some w → bs[i]? = some b → RelV w v → EltG X scope x elt v b) ∧ R M1 (B (bs.any id)))
    (hs : ∀ v, genFold iter X.env v = pure v := by intro _; rfl)
    (he : starEach [.GeneratorExp elt [⟨.Name x px, iter, [], 0⟩] scope gpos] X.env = (false, eval (.GeneratorExp elt [⟨.Name x px, iter, [], 0⟩] scope gpos) X.env) :: starEach [] X.env := by rfl) :
    WE X (Tabs T) W (.Call (.Name "any" p) [.GeneratorExp elt [⟨.Name x px, iter, [], 0⟩] scope gpos] [] pos) M ρ xr R := by
  obtain ⟨c, P, TB, hcode, hmT, hu⟩ := TX.ex
  constructor; intro σ H a0 b0 xk Q q pins s I
  refine wpAny_Call_Name_kw (ld_blt I hg hm boot_any ?_)
  refine PyProof.Rows.callWith_builtin1 ?_ he (by rfl)
  rw [he]
  show wpAny _ _ (spliced ((false, eval (.GeneratorExp elt [⟨.Name x px, iter, [], 0⟩] scope gpos) X.env) :: backTo pos (starEach [] X.env))) _ _ s
  refine Calls.spliced_cons ?_
  refine wpAny_GeneratorExp_walksQ cx.hr.hd Sg.co (closure_ok Sg.free) Sg.cell Sg.dot Sg.loc Sg.kind (by have := cx.hr.dp; omega) ?_ hs
  refine thn (h σ H a0 b0 xk (fun v H1 => ∃ M1 d, (∃ (ws : List V) (bs : List Bool), SrcD d ws ∧ bs.length = ws.length ∧ (∀ (i : Nat) w b v, ws[i]? = some w → bs[i]? = some b → RelV w v → EltG X scope x elt v b) ∧ R M1 (B (bs.any id))) ∧ AtM (Tabs T) X.K M1 H1 ∧ Mv M H M1 H1 ∧ Rp X.K (dom M1) H1 v d) (fun M1 d v H1 h1 a1 m1 r1 => ⟨M1, d, h1, a1, m1, r1⟩) pins s I) fun u s1 ⟨v, H1, I1, rv, M1, d, h1, a1, m1, r1⟩ => ?_
  obtain ⟨ws, bs, hsrc, hlen, hel, hk⟩ := h1
  refine gen_made (M := M) (Q' := fun v s5 => wpAny (model X.prog X.w) X.A (spliced (backTo pos (starEach [] X.env))) (fun vs s₂ => wpAny (model X.prog X.w) X.A (call (.builtin "any") (v :: vs)) (EP X pins σ Q) X.xe s₂) X.xe s5) cx.hr TB hcode hmT hu Sg I1 a1 r1 rv hsrc hlen hel fun g s5 fp wr Gs F St W5 hst htr hI => ?_
  refine Calls.spliced_nil ?_
  refine call_any_walkS (W5.self 0 _ _ _ hst ⟨g, fp, wr, Gs, _, F, St, _, rfl, W5, hst, htr, fun s' hmv => ?_⟩)
  obtain ⟨H2, hE, hT2, J⟩ := hI s' hmv
  obtain ⟨a2, m2⟩ := a1.ext hE hT2
  rw [any_trB]
  exact ⟨.bl _, H2, J, rfl, q M1 _ _ H2 hk a2 (m1.trans m2) (.raw _)⟩
/-! ### a lambda handed to a def that tries it -/
/-- the context of a lambda's body -/
def LamOf (X : Cx) (scope : Scope) (E : XK) (Y : Cx) : Prop := ∃ (A : Around) (outer : List Env) (s : Shared) (H0 : Hp) (f c' : Addr), Y = lamCx X A outer s H0 E scope f c'
/-- told(what): try: return what() / except e: return ret -/
structure ToldOk (K : PySem.W.Frag) (mg : Str → Option Value) (x e ret : Str) (CS : Addr) : Prop where
  ex : ∃ (g : Addr) (a : Str) (st : Stmt) (fd : FuncData) (Ng : List Str) (p1 p2 p3 p4 p5 p6 p7 p8 : Pos) (j : Nat), mg x = some (.ref g) ∧ Fun K x x st g fd ∧ defBody st = [.Try [.Return (some (.Call (.Name a p1) [] [] p2)) p3] [.ExceptHandler (some (.Name e p4)) none [.Return (some (.Constant (.str ret) j p5)) p6] p7] [] [] p8] ∧
    L2.Binds K fd [a] [] ∧ FnScope Ng [a] (defScope st) ∧ Ng[0]? = some a ∧ Vis (defScope st) a ∧ (defScope st).names.lookup e = some .globalImplicit ∧ (∀ f : Addr, (L2.start Ng [V.ref f])[0]? = some (some (V.ref f))) ∧ (a == ("__debug__" : Str)) = false ∧ (a == ("__classdict__" : Str)) = false
  me : mg e = some (.ref CS)
  de : (e == ("__debug__" : Str)) = false
  exm : PySem.W.exmOne K (.ref CS) (.ref CS) = some true
theorem we_told {x e ret : Str} {CS : Addr} {params : Arguments} {body : Expr} {scope : Scope} {lpos : Pos} (cx : Ct X (Tabs T) W (k + 2)) (TX : TabX X T "<lambda>") (hg : Gl X x) (TO : ToldOk X.K X.mg x e ret CS) (L : LamS X.env.scope scope)
    (h : ∀ Y E, LamOf X scope E Y → Ct Y (Tabs T) (fun cls d _ H => E cls d H) k → WE Y (Tabs T) (fun cls d _ H => E cls d H) body M ρ (fun cls M' => cls = .ref CS ∧ R M' (Z ret)) R)
    (hdef : defaultsOf params X.env = ([], []) := by rfl)
    (hbind : ∀ (q : Str) (cl : List (Str × Addr)) (pm cv ctv : Value), bindArgs (PySem.W.kla_fn "<lambda>" q params body scope cl pm cv ctv) ⟨[], []⟩ = pure [] := by intro _ _ _ _ _; rfl)
    (hdb : (x == ("__debug__" : Str)) = false := by decide) : WE X (Tabs T) W (.Call (.Name x p) [.Lambda params body scope lpos] [] pos) M ρ xr R := by
  obtain ⟨c, P, TB, hcode, hmT, hu⟩ := TX.ex
  obtain ⟨g, a, st, fd, Ng, p1, p2, p3, p4, p5, p6, p7, p8, jj, hm, F, hbody, hb, Sg, hNg, hva, hge, h0, da, dc⟩ := TO.ex
  have kp := F.kp
  obtain ⟨oc, od, kV, doc, pm, an, cdv, ct, osl, rfl, lk, hcd⟩ := F.ex
  rw [hbody] at lk hb
  have pe := LamX.pe_lamcall (X := X) (T := T) (k := k) (TT := LamX.TTold X.K CS ret) (p := p) (lpos := lpos) (pos := pos) (params := params) (body := body) (scope := scope) (a := a) (Ng := Ng)
    (t := fun E σ H Q => ∀ Y, LamOf X scope E Y → Ct Y (Tabs T) (fun cls d _ H => E cls d H) k → eT Y body σ H Q) hg hm kp lk hcd hb Sg hNg hva
    (LamX.told_gives hge TO.me TO.de h0) TB hcode hmT hu cx.hr L hdef hbind
    (fun A outer s H E f c' hr => ⟨fun pins s' σ H' Q I h => h _ ⟨A, outer, s, H, f, c', rfl⟩ ⟨cx.gs, takesN (L2.takes_of rfl rfl rfl rfl), hr, passes_of rfl, rfl, cx.nd⟩ pins s' I⟩) hdb da dc
  refine we_of pe fun σ H a0 b0 xk Q q => ⟨a0.g, fun H1 e1 t1 => ?_⟩
  obtain ⟨a1, m1⟩ := a0.ext e1 t1
  intro Y hY cy
  have hK : Y.K = X.K := by obtain ⟨A, outer, s, H0, f, c', rfl⟩ := hY; rfl
  have hw := h Y _ hY cy
  replace hw := hw.run
  rw [hK] at hw
  refine hw σ H1 a1 (m1.sl a0 b0) (fun cls M' H' hx ha hm => ?_) Q fun M' d v H' hk ha hm hr => q M' d v H' hk ha (m1.trans hm) hr
  obtain ⟨rfl, hR⟩ := hx
  exact ⟨true, TO.exm, fun _ => q M' _ _ H' hR ha (m1.trans hm) (.raw _), fun z => by cases z⟩
end
end Wv
set_option maxRecDepth 100000
set_option maxHeartbeats 2000000
namespace Wv
open PySem PySem.Spec PyProof.Rows L2
open LamX (CodeO TabS Tabs ExtN TabB lamEnv lamCx LamS)
/-- a def whose code object stands at c -/
structure FunT (K : PySem.W.Frag) (x qual : Str) (st : Stmt) (f : Addr) (fd : FuncData) (c : Addr) : Prop where
  ex : ∃ (oc : Value) (od : Option Addr) (kV doc pm : Value) (an : Option Addr) (ct : Value) (osl : Array (Option Value)),
    fd = PySem.W.fnOf x qual (defArgs st) (defBody st) (defScope st) .none kV doc pm an (.ref c) ct ∧ K.lookup f = some ⟨oc, od, .func fd, osl⟩ ∧ PySem.W.codeIn K (.ref c) qual = true
  kp : PySem.W.keepIn K (.ref f) = true
theorem FunT.fun {K : PySem.W.Frag} {x qual : Str} {st : Stmt} {f : Addr} {fd : FuncData} {c : Addr} (F : FunT K x qual st f fd c) : Fun K x qual st f fd := by
  obtain ⟨oc, od, kV, doc, pm, an, ct, osl, h1, h2, h3⟩ := F.ex
  exact ⟨⟨oc, od, kV, doc, pm, an, .ref c, ct, osl, h1, h2, h3⟩, F.kp⟩
theorem funT_mk {K : PySem.W.Frag} {x qual : Str} {st : Stmt} {f c : Addr} {oc : Value} {od an : Option Addr} {osl : Array (Option Value)} {kV doc pm ct : Value} (l : K.lookup f = some ⟨oc, od, .func (PySem.W.fnOf x qual (defArgs st) (defBody st) (defScope st) .none kV doc pm an (.ref c) ct), osl⟩)
    (hc : PySem.W.codeIn K (.ref c) qual = true) (k : PySem.W.keepIn K (.ref f) = true) : FunT K x qual st f (PySem.W.fnOf x qual (defArgs st) (defBody st) (defScope st) .none kV doc pm an (.ref c) ct) c := ⟨⟨oc, od, kV, doc, pm, an, ct, osl, rfl, l, hc⟩, k⟩
section
variable {P : Program} {w : World} {K : PySem.W.Frag} {mg : Str → Option Value} {base : Heap} {G : Hp → Prop}
/-- THE RULE of a def, its code object told -/
theorem gf_ofT {x qual : Str} {st : Stmt} {f c : Addr} {fd : FuncData} {N ps : List Str} {k : Nat} {S : SpD} {dd : List V} {dv : List Value} (F : FunT K x qual st f fd c) (Sc : FnScope N ps (defScope st)) (gs : Gst G) (bd : L2.Binds K fd ps dv) (dr : Vals dd dv)
    (len : ∀ ds M xr R, S ds M xr R → ds.length = ps.length)
    (hbody : ∀ (X : Cx) (W : WX) (M : Ms) (ds : List D) (xr : Value → Ms → Prop) (R : Ms → D → Prop), (∃ A outer s H E, X = cxOf (L2N.CX P w) P w K mg base N qual (defScope st) f (.ref c) A outer s H E) → Ct X G W k → S ds M xr R →
      WSs X G W (defBody st) M (startD N ds) { nx := fun M' _ => R M' N0, rt := R, bk := fun _ _ => False, ct := fun _ _ => False, xr := xr }) : Gf P w K mg base G (k + 1) f dd S := by
  obtain ⟨oc, od, kV, doc, pm, an, ct, osl, rfl, lk, hcd⟩ := F.ex
  refine ⟨⟨_, ps, dv, fn_of lk hcd Sc (fun vs H Q E h => ?_) (fun A outer s H vs Q E hr h => ?_), bd, dr⟩, F.kp⟩
  · obtain ⟨M, ds, xr, R, _, r, hs, _⟩ := h
    rw [r.length]; exact len _ _ _ _ hs
  · obtain ⟨M, ds, xr, R, a, r, hs, q, e⟩ := h
    refine ⟨_, pss_wp, ?_⟩
    refine hbody _ (fun cls d _ H => E cls d H) M ds xr R ⟨A, outer, s, H, E, rfl⟩ ⟨gs, L2N.takes_of rfl rfl rfl rfl, hr, passes_of rfl, rfl, Sc.nd⟩ hs _ H a (sl_start r) _ (fun M' H' cls σ' hx ha hm => e cls M' H' hx ha hm)
      (fun M' ρ' σ' H' hk ha hb hm => q M' _ _ H' hk ha hm (.raw _)) (fun M' d v H' hk ha hm hr => q M' d v H' hk ha hm hr) (fun _ _ _ _ h => h.elim) (fun _ _ _ _ h => h.elim)
end
section
variable {X : Cx} {G : Hp → Prop} {W : WX} {M : Ms} {ρ : Rh} {xr : Value → Ms → Prop} {N : En} {a b c e o : Expr} {es : List Expr} {pos p apos : Pos} {R : Ms → D → Prop} {k j : Nat}
/-- xs[::-1] -/
theorem we_rev (gs : Gst G) {kk : Nat} {p1 p2 p3 : Pos} (h : WE X G W e M ρ xr fun M1 d => OwL M1 d fun _ _ l => R M1 (.lst l.reverse)) : WE X G W (.Subscript e (.Slice none none (some (.UnaryOp .USub (.Constant (.int 1) kk p1) p2)) p3) pos) M ρ xr R :=
  we_of (pe_revL pe_wp) fun σ H a0 b0 x Q q => h σ H a0 b0 x _ fun M1 d v H1 h1 a1 m1 r1 => by
  cases h1 with
  | mk i hi h1 =>
  obtain ⟨xs, s1, l1⟩ := at_ob a1 hi
  obtain rfl := r1.raw_inv
  exact ⟨_, xs, rfl, SqL.of s1, fun p hp => new_lst gs a1 hp l1.rev h1 fun M' d v H' hk a' m' r' => q M' d v H' hk a' (m1.trans m') r'⟩
/-- sequencing of a known result -/
theorem we_imp {R' : Ms → D → Prop} (h : WE X G W e M ρ xr R) (f : ∀ M d, R M d → R' M d) : WE X G W e M ρ xr R' := ⟨fun σ H a0 b0 x Q q => h σ H a0 b0 x Q fun M' d v H' hk => q M' d v H' (f _ _ hk)⟩
/-- a name by its slot as a for's target -/
theorem pgn (i : Nat) {x : Str} {pos : Pos} (hN : X.N.Nodup) (hi : X.N[i]? = some x := by rfl) (hx : Loc X.env.scope x := by first | exact Or.inl rfl | exact Or.inr rfl) (hf : X.fn x = true ∨ X.env.scope.names.lookup x = some .local := by first | exact .inl rfl | exact .inr rfl) : PG X (.Name x pos) (L2.gName i) := pg_name hN hi hx hf
end
theorem sz1 {n : Nat} (h : n ≤ 1000000) : n ≤ sizeLine := Nat.le_trans h (by decide)
theorem sz2 {n : Nat} (h : n < 1000000) : n < sizeLine := Nat.lt_of_lt_of_le h (by decide)
end Wv
set_option maxRecDepth 100000
set_option maxHeartbeats 2000000
namespace Wv
open PySem PySem.Spec PyProof.Rows L2 PySem.W
section
variable {X : Cx} {G : Hp → Prop} {W : WX} {M : Ms} {ρ : Rh} {xr : Value → Ms → Prop} {N : En} {a b c e o : Expr} {es : List Expr} {pos p apos : Pos} {R : Ms → D → Prop} {k j : Nat}
theorem map_erase {α β : Type} {f : α → β} : ∀ (l : List α) (j : Nat), (l.eraseIdx j).map f = (l.map f).eraseIdx j
  | [], _ => rfl
  | _ :: _, 0 => rfl
  | x :: l, j + 1 => by simp only [List.eraseIdx_cons_succ, List.map_cons, map_erase l j]
theorem set_at {α : Type} {l : List α} {i : Nat} {x y : α} (h : l[i]? = some y) : (l.set i x)[i]? = some x := by
  have hl : i < l.length := by
    rcases Nat.lt_or_ge i l.length with q | q
    · exact q
    · rw [List.getElem?_eq_none q] at h; cases h
  rw [List.getElem?_set_self hl]
theorem set_set' {α : Type} {l : List α} {i : Nat} {x y : α} : (l.set i x).set i y = l.set i y := List.set_set ..
/-- a list of ours becomes data, wherever it stands -/
theorem AtM.dropAt {K : PySem.W.Frag} {q : Addr} {l : List D} {H : Hp} {j : Nat} (a : AtM G K M H) (h : M[j]? = some (q, .lst l)) : AtM G K (M.eraseIdx j) H ∧ Mv M H (M.eraseIdx j) H ∧ Rp K (dom (M.eraseIdx j)) H (.ref q) (.lst l) := by
  obtain ⟨a1, m1⟩ := a.sub (List.eraseIdx_sublist M j)
  refine ⟨a1, m1, ?_⟩
  obtain ⟨xs, e, r⟩ := a.ob (q, .lst l) (List.mem_of_getElem? h)
  refine .lst e (fun hq => ?_) (m1.rpl a r)
  have hd : dom (M.eraseIdx j) = (dom M).eraseIdx j := by
    exact map_erase _ _
  rw [hd] at hq
  have hj : (dom M)[j]? = some q := dom_at h
  have hl : j < (dom M).length := by
    rcases Nat.lt_or_ge j (dom M).length with z | z
    · exact z
    · rw [List.getElem?_eq_none z] at hj; cases hj
  rw [List.mem_eraseIdx_iff_getElem?] at hq
  obtain ⟨i, hi, e2⟩ := hq
  exact hi (nd_ix a.nd e2 hj)
theorem wss_freeze {ss : List Stmt} {q : Addr} {l : List D} (j i : Nat) (hj : M[j]? = some (q, .lst l)) (hi : ρ[i]? = some (some (Rf q))) (h : WSs X G W ss (M.eraseIdx j) (ρ.set i (some (.lst l))) N) : WSs X G W ss M ρ N :=
  ⟨fun σ H a0 b0 Dn x n r bk ct => by
  obtain ⟨a1, m1, r1⟩ := a0.dropAt hj
  obtain ⟨v, e, rv⟩ := b0.2 i _ hi
  obtain rfl := rv.raw_inv
  have b1 := (m1.sl a0 b0).set i r1
  have eσ : σ.set i (some (V.ref q)) = σ := by
    refine List.ext_getElem? fun n => ?_
    by_cases z : i = n
    · subst z; rw [set_at e, e]
    · rw [List.getElem?_set_ne z]
  rw [eσ] at b1
  exact h σ H a1 b1 Dn (fun M' H' cls σ' hx ha hm => x M' H' cls σ' hx ha (m1.trans hm)) (fun M' ρ' σ' H' hk ha hb hm => n M' ρ' σ' H' hk ha hb (m1.trans hm))
    (fun M' d v H' hk ha hm => r M' d v H' hk ha (m1.trans hm)) (fun M' ρ' σ' H' hk ha hb hm => bk M' ρ' σ' H' hk ha hb (m1.trans hm)) (fun M' ρ' σ' H' hk ha hb hm => ct M' ρ' σ' H' hk ha hb (m1.trans hm))⟩
/-- what is ours no longer, ahead of statements -/
theorem wss_sub {ss : List Stmt} {M0 : Ms} (s : List.Sublist M0 M) (h : WSs X G W ss M0 ρ N) : WSs X G W ss M ρ N := ⟨fun σ H a0 b0 Dn x n r bk ct => by
  obtain ⟨a1, m1⟩ := a0.sub s
  exact h σ H a1 (m1.sl a0 b0) Dn (fun M' H' cls σ' hx ha hm => x M' H' cls σ' hx ha (m1.trans hm)) (fun M' ρ' σ' H' hk ha hb hm => n M' ρ' σ' H' hk ha hb (m1.trans hm))
    (fun M' d v H' hk ha hm => r M' d v H' hk ha (m1.trans hm)) (fun M' ρ' σ' H' hk ha hb hm => bk M' ρ' σ' H' hk ha hb (m1.trans hm)) (fun M' ρ' σ' H' hk ha hb hm => ct M' ρ' σ' H' hk ha hb (m1.trans hm))⟩
theorem AtM.perm {K : PySem.W.Frag} {M0 : Ms} {H : Hp} (a : AtM G K M H) (s : List.Perm M0 M) : AtM G K M0 H ∧ Mv M H M0 H := by
  have hd : ∀ b, b ∈ dom M0 ↔ b ∈ dom M := fun b => (s.map (·.1)).mem_iff
  have m : Mv M H M0 H := ⟨fun _ _ h _ _ => h, fun b hb => .inl ((hd b).mp hb)⟩
  exact ⟨⟨a.g, (s.map (·.1)).nodup_iff.mpr a.nd, fun p hp => m.oat a (a.ob p (s.mem_iff.mp hp)) fun u h => h⟩, m⟩
theorem we_perm (h : WE X G W e M ρ xr fun M1 d => ∃ M0, List.Perm M0 M1 ∧ R M0 d) : WE X G W e M ρ xr R := ⟨fun σ H a0 b0 x Q q => h σ H a0 b0 x Q fun M1 d v H1 h1 a1 m1 r1 => by
  obtain ⟨M0, s, hk⟩ := h1
  obtain ⟨a2, m2⟩ := a1.perm s
  exact q M0 d v H1 hk a2 (m1.trans m2) (m2.rp a1 r1)⟩
/-- slots forgotten -/
theorem wss_forget {ss : List Stmt} (i : Nat) (h : WSs X G W ss M (ρ.set i none) N) : WSs X G W ss M ρ N := ⟨fun σ H a0 b0 Dn x n r bk ct => by
  refine h σ H a0 ⟨by rw [List.length_set]; exact b0.1, fun m d e => ?_⟩ Dn x n r bk ct
  by_cases z : i = m
  · subst z
    by_cases hl : i < ρ.length
    · rw [List.getElem?_set_self hl] at e; cases e
    · rw [List.getElem?_eq_none (by rw [List.length_set]; omega)] at e; cases e
  · rw [List.getElem?_set_ne z] at e
    exact b0.2 m d e⟩
/-- the end of what follows, made weaker -/
theorem ws_imp {st : Stmt} {N' : En} (h : WS X G W st M ρ N) (nx : ∀ M ρ, N.nx M ρ → N'.nx M ρ) (rt : ∀ M d, N.rt M d → N'.rt M d) (bk : ∀ M ρ, N.bk M ρ → N'.bk M ρ) (ct : ∀ M ρ, N.ct M ρ → N'.ct M ρ) (xr : ∀ c M, N.xr c M → N'.xr c M) : WS X G W st M ρ N' :=
  ⟨fun σ H a0 b0 Dn x n r bk' ct' => h σ H a0 b0 Dn (fun M' H' cls σ' hx => x M' H' cls σ' (xr _ _ hx)) (fun M' ρ' σ' H' hk => n M' ρ' σ' H' (nx _ _ hk)) (fun M' d v H' hk => r M' d v H' (rt _ _ hk)) (fun M' ρ' σ' H' hk => bk' M' ρ' σ' H' (bk _ _ hk)) (fun M' ρ' σ' H' hk => ct' M' ρ' σ' H' (ct _ _ hk))⟩
/-- s.index(y) of a text that is there -/
theorem we_index (cx : Ct X G W k) (h : WE X G W o M ρ xr fun M1 d => IsZ d fun z => WE X G W e M1 ρ xr fun M2 d' => IsZ d' fun y => ∃ n : Nat, Txt.index0 z y = some n ∧ R M2 (I n))
    (he : starEach [e] X.env = (false, eval e X.env) :: starEach [] X.env := by rfl)
    (hb : PE X (.Call (.Attribute o "index" apos) [e] [] pos) (tBMS X.K "str" (rIndexX W) (eT X o) (aT X [e]))) : WE X G W (.Call (.Attribute o "index" apos) [e] [] pos) M ρ xr R :=
  we_of hb fun σ H a0 b0 x Q q => h σ H a0 b0 x _ fun M1 d v H1 h1 a1 m1 r1 => by
  cases h1 with
  | mk h1 =>
  rename_i z
  obtain rfl := r1.raw_inv
  refine ⟨rfl, ?_⟩
  refine wa_one (RA := fun M2 ds => ∃ y, ds = [Z y] ∧ ∃ n : Nat, Txt.index0 z y = some n ∧ R M2 (I n)) (⟨fun σ H a0 b0 x Q q => h1 σ H a0 b0 x Q fun M1 d v H1 hd a1 m1 r1 => q M1 d v H1 (by cases hd with | mk h => exact ⟨_, rfl, h⟩) a1 m1 r1⟩) he σ H1 a1 (m1.sl a0 b0) (x.mv m1) _ fun M2 ds vs H2 h2 a2 m2 r2 => ?_
  obtain ⟨y, rfl, n, hn, hk⟩ := h2
  obtain ⟨u, rfl, ru⟩ := r2.one
  obtain rfl := ru.raw_inv
  refine ⟨z, y, rfl, rfl, fun k hk' => ?_, fun hk' => absurd (hn.symm.trans hk') (by simp)⟩
  rw [hn] at hk'
  cases hk'
  exact q M2 _ _ H2 hk a2 (m1.trans m2) (.raw _)
/-- max(t) of a tuple of ints -/
def rMaxT (K : PySem.W.Frag) : List V → Hp → VK → Prop := fun vs H Q => ∃ (a : Addr) (ns : List Int), vs = [V.ref a] ∧ SqT K H a (ns.map V.int) ∧ 0 < ns.length ∧ ∀ m, m ∈ ns → (∀ y, y ∈ ns → y ≤ m) → Q (.int m) H
theorem maxOf_is (x : Int) : ∀ xs : List Int, maxOf x xs ∈ x :: xs ∧ ∀ y ∈ x :: xs, y ≤ maxOf x xs := by
  intro xs
  unfold maxOf
  induction xs generalizing x with
  | nil => exact ⟨List.mem_cons_self, fun y hy => by simp at hy; subst hy; exact Int.le_refl _⟩
  | cons z xs ih =>
    rw [List.foldl_cons]
    by_cases h : DatumOrd.lt x z = true
    · rw [if_pos h]
      have h' : x < z := by simpa [DatumOrd.lt] using h
      obtain ⟨h1, h2⟩ := ih z
      refine ⟨List.mem_cons_of_mem _ h1, fun y hy => ?_⟩
      rcases List.mem_cons.mp hy with rfl | hy
      · have := h2 z List.mem_cons_self; omega
      · exact h2 y hy
    · rw [if_neg h]
      have h' : ¬ x < z := by simpa [DatumOrd.lt] using h
      obtain ⟨h1, h2⟩ := ih x
      refine ⟨?_, fun y hy => ?_⟩
      · rcases List.mem_cons.mp h1 with h1 | h1
        · rw [h1]; exact List.mem_cons_self
        · exact List.mem_cons_of_mem _ (List.mem_cons_of_mem _ h1)
      · rcases List.mem_cons.mp hy with rfl | hy
        · exact h2 _ List.mem_cons_self
        · rcases List.mem_cons.mp hy with rfl | hy
          · have := h2 x List.mem_cons_self; omega
          · exact h2 y (List.mem_cons_of_mem _ hy)
theorem call_maxT (hc : X.calm = true) (hu : X.A.units + 64 < cLine) : CallR X (.builtin "max") (rMaxT X.K) := by
  intro pins s σ H vs us Q I r h
  obtain ⟨a, ns, rfl, hs, hne, q⟩ := h
  obtain ⟨its, rv, hl, hz⟩ := I.tuple hs
  rw [Vals.ref1 r]
  cases ns with
  | nil => cases hne
  | cons n ns =>
    obtain ⟨ob, hob, hcl, nn, hda⟩ := hl
    have hT : s.heap.IsTuple a its.toArray := ⟨ob, hob, hcl, nn, hda⟩
    refine max_tuple_datum (x := n) (xs := ns) (I.ok.hd hc) hT (HoldAll.of_ints (by simpa using rv.ints)) (by show X.A.units + 1 + 0 < cLine; omega) fun i v h' tk hi hh hk => ?_
    obtain ⟨as, rr⟩ := hh
    obtain ⟨h1, h2⟩ := maxOf_is n ns
    obtain ⟨t, rfl⟩ : ∃ t, v = .int (maxOf n ns) t := by
      cases rr with
      | int _ t => exact ⟨t, rfl⟩
    exact ⟨.int _, H, I.kept hk, ⟨_, rfl⟩, q _ h1 h2⟩
theorem we_maxT (cx : Ct X G W k) (hm : X.mg "max" = none) (hg : Gl X "max") (h : WE X G W e M ρ xr fun M1 d => ∃ ns : List Int, d = byt ns ∧ 0 < ns.length ∧ ∀ m, m ∈ ns → (∀ y, y ∈ ns → y ≤ m) → R M1 (I m)) (he : starEach [e] X.env = (false, eval e X.env) :: starEach [] X.env := by rfl) :
    WE X G W (.Call (.Name "max" p) [e] [] pos) M ρ xr R :=
  we_bi (he := he) (RA := fun M1 ds => ∃ ns : List Int, ds = [byt ns] ∧ 0 < ns.length ∧ ∀ m, m ∈ ns → (∀ y, y ∈ ns → y ≤ m) → R M1 (I m)) (call_maxT cx.hc cx.hu) hm (by decide +kernel) hg (wa_one (h := ⟨fun σ H a0 b0 x Q q => h σ H a0 b0 x Q fun M1 d v H1 hd a1 m1 r1 => q M1 d v H1 (by obtain ⟨ns, rfl, h⟩ := hd; exact ⟨ns, rfl, h⟩) a1 m1 r1⟩) he) fun M1 ds vs H1 Q ⟨ns, hds, hne, hk⟩ a1 r1 q => by
  subst hds
  obtain ⟨v, rfl, rv⟩ := r1.one
  obtain ⟨p1, xs, rfl, s1, l1⟩ := rv.tup_inv
  have e : (ns.map fun i => I i) = (ns.map V.int).map D.raw := by rw [List.map_map]; rfl
  rw [e] at l1
  rw [l1.raws] at s1
  exact ⟨p1, ns, rfl, s1, hne, fun m h1 h2 => q M1 _ _ H1 (hk m h1 h2) a1 (Mv.refl _ _) (.raw _)⟩
/-- a built-in class's name -/
theorem we_ty {x : Str} {T : String} {pos : Pos} (hg : Gl X x) (hm : X.mg x = none) (hv : bootBuiltins x = some (.type T)) (h : R M (.raw (.ty T))) (hn : x ≠ "__name__" := by decide) (hd : (x == ("__debug__" : Str)) = false := by decide) : WE X G W (.Name x pos) M ρ xr R :=
  we_of (pe_bltn (v := .ty T) hg hm hv rfl hn hd) (tev_c h)
/-- isinstance(x, T) of data -/
def tyD : D → String
  | .raw .non => "NoneType"
  | .raw (.bl _) => "bool"
  | .raw (.int _) => "int"
  | .raw (.str _) => "str"
  | .raw _ => "object"
  | .tup _ => "object"
  | .lst _ => "list"
  | .ext _ => "object"
theorem tyx_of {K : PySem.W.Frag} {Y : List Addr} {H : Hp} {v : V} {d : D} (r : Rp K Y H v d) (h : tyD d ≠ "object") : TyX K H v (.type (tyD d)) := by
  cases r with
  | raw =>
    cases v with
    | non => exact .base .non
    | bl b => exact .base (.bl b)
    | int b => exact .base (.int b)
    | str b => exact .base (.str b)
    | _ => exact absurd rfl h
  | tup s _ => exact absurd rfl h
  | lst s _ _ => exact .base (.lst s)
  | ext _ => exact absurd rfl h
theorem we_isi (hm : X.mg "isinstance" = none) (hg : Gl X "isinstance") (h : WA X G W [a, b] M ρ xr fun M1 ds => ∃ d T b0, ds = [d, .raw (.ty T)] ∧ tyD d ≠ "object" ∧ kitB (tyD d) T = some b0 ∧ R M1 (B b0)) (he : starEach [a, b] X.env = (false, eval a X.env) :: starEach [b] X.env := by rfl) (hpl : (backTo pos (starEach [b] X.env)).any (·.1) = false := by rfl) :
    WE X G W (.Call (.Name "isinstance" p) [a, b] [] pos) M ρ xr R :=
  we_bi (he := he) (hpl := hpl) (RA := fun M1 ds => ∃ d T b0, ds = [d, .raw (.ty T)] ∧ tyD d ≠ "object" ∧ kitB (tyD d) T = some b0 ∧ R M1 (B b0)) call_isi hm (by decide +kernel) hg h fun M1 ds vs H1 Q ⟨d, T, b0, hds, ho, hk, hr⟩ a1 r1 q => by
  subst hds
  obtain ⟨v, v', rfl, rv, rv'⟩ := r1.two
  obtain rfl := rv'.raw_inv
  exact ⟨v, _, _, _, b0, rfl, .ty T, tyx_of rv ho, kit_ty hk, q M1 _ _ H1 hr a1 (Mv.refl _ _) (.raw _)⟩
/-- o1[i1], o2[i2] = e, e' -/
theorem ws_sub2 (cx : Ct X G W k) {o1 i1 o2 i2 : Expr} {sp1 sp2 tp : Pos} {kt : Nat} (h : WE X G W e M ρ N.xr fun M1 d => ∃ z1 z2, d = .tup [z1, z2] ∧ WE X G W o1 M1 ρ N.xr fun M2 d1 => WE X G W i1 M2 ρ N.xr fun M3 y => IsI y fun iv => OwL M3 d1 fun n q l => ∃ j, ixN l.length iv = some j ∧
      WE X G W o2 (M3.set n (q, .lst (l.set j z1))) ρ N.xr fun M4 d2 => WE X G W i2 M4 ρ N.xr fun M5 y2 => IsI y2 fun iv2 => OwL M5 d2 fun n2 q2 l2 => ∃ j2, ixN l2.length iv2 = some j2 ∧ N.nx (M5.set n2 (q2, .lst (l2.set j2 z2))) ρ)
    (hp : ∀ {t1 t2 t3 t4 : TE}, PE X o1 t1 → PE X i1 t2 → PE X o2 t3 → PE X i2 t4 → PG X (.Tuple [.Subscript o1 i1 sp1, .Subscript o2 i2 sp2] kt tp) (gTup X.K 2 (gCons (gSub t1 t2 rSetL) (gCons (gSub t3 t4 rSetL) gNil))))
    (hs : swapsWithSole [.Tuple [.Subscript o1 i1 sp1, .Subscript o2 i2 sp2] kt tp] e pos.line X.env = pure false := by rfl) (hw : swappedStores [.Tuple [.Subscript o1 i1 sp1, .Subscript o2 i2 sp2] kt tp] e X.env = pure none := by rfl)
    (h1 : (assignEach [.Tuple [.Subscript o1 i1 sp1, .Subscript o2 i2 sp2] kt tp] X.env).map (·.2) = [assign (.Tuple [.Subscript o1 i1 sp1, .Subscript o2 i2 sp2] kt tp) X.env] := by rfl) : WS X G W (.Assign [.Tuple [.Subscript o1 i1 sp1, .Subscript o2 i2 sp2] kt tp] e pos) M ρ N :=
  ws_of (ps_asg pe_wp (hp pe_wp pe_wp pe_wp pe_wp) hs hw h1) fun σ H a0 b0 Dn x n r bk ct => by
  refine h σ H a0 b0 (xok_of x) _ fun M1 d v H1 h1 a1 m1 r1 => ?_
  obtain ⟨z1, z2, rfl, h1⟩ := h1
  obtain ⟨pt, vs, rfl, st, lt⟩ := r1.tup_inv
  obtain ⟨v1, v2, rfl, rz1, rz2⟩ := lt.two
  refine ⟨pt, [v1, v2], rfl, st, rfl, v1, [v2], rfl, ?_⟩
  refine h1 σ H1 a1 (m1.sl a0 b0) ((xok_of x).mv m1) _ fun M2 d1 u H2 h2 a2 m2 r2 => ?_
  refine h2 σ H2 a2 (m2.sl a1 (m1.sl a0 b0)) ((xok_of x).mv (m1.trans m2)) _ fun M3 y w H3 h3 a3 m3 r3 => ?_
  cases h3 with
  | mk h3 =>
  rename_i iv
  cases h3 with
  | mk ix hi h3 =>
  rename_i q l
  obtain ⟨j, hj, h3⟩ := h3
  obtain ⟨xs, e3, l3⟩ := at_ob a3 hi
  have m12 := (m1.trans m2).trans m3
  refine ⟨q, xs, iv, j, (m3.rp a2 r2).raw_inv, r3.raw_inv, e3, by rw [l3.length]; exact hj, ?_⟩
  have hm : Mv M3 H3 M3 (upd H3 q (.lst (xs.set j v1))) := ⟨fun b w e n _ => by
      rw [upd_ne (fun z => n (by rw [z]; exact mem_at hi))]; exact e, fun _ h => .inl h⟩
  obtain ⟨a4, m4⟩ := a3.write cx.gs (o' := .lst (l.set j z1)) hi (u := .lst (xs.set j v1)) (fun _ z => by cases z) ⟨_, upd_same, hm.rpl a3 (l3.set (m3.rp a2 (m2.rp a1 rz1)) j)⟩
  have m14 := m12.trans m4
  have rz2' := m4.rp a3 (m3.rp a2 (m2.rp a1 rz2))
  refine ⟨v2, [], rfl, ?_⟩
  refine h3 σ _ a4 (m14.sl a0 b0) ((xok_of x).mv m14) _ fun M4 d2 u2 H5 h5 a5 m5 r5 => ?_
  refine h5 σ H5 a5 ((m14.trans m5).sl a0 b0) ((xok_of x).mv (m14.trans m5)) _ fun M5 y2 w2 H6 h6 a6 m6 r6 => ?_
  cases h6 with
  | mk h6 =>
  rename_i iv2
  cases h6 with
  | mk ix2 hi2 h6 =>
  rename_i q2 l2
  obtain ⟨j2, hj2, h6⟩ := h6
  obtain ⟨xs2, e6, l6⟩ := at_ob a6 hi2
  have m16 := (m14.trans m5).trans m6
  refine ⟨q2, xs2, iv2, j2, (m6.rp a5 r5).raw_inv, r6.raw_inv, e6, by rw [l6.length]; exact hj2, rfl, ?_⟩
  have hm2 : Mv M5 H6 M5 (upd H6 q2 (.lst (xs2.set j2 v2))) := ⟨fun b w e n _ => by
      rw [upd_ne (fun z => n (by rw [z]; exact mem_at hi2))]; exact e, fun _ h => .inl h⟩
  obtain ⟨a7, m7⟩ := a6.write cx.gs (o' := .lst (l2.set j2 z2)) hi2 (u := .lst (xs2.set j2 v2)) (fun _ z => by cases z) ⟨_, upd_same, hm2.rpl a6 (l6.set (m6.rp a5 (m5.rp a4 rz2')) j2)⟩
  exact n _ _ σ _ h6 a7 ((m16.trans m7).sl a0 b0) (m16.trans m7)
end
/-! ### equality of data -/
theorem eqd_int (i j : Int) : eqd (I i) (I j) = decide (i = j) := by
  unfold eqd pyD; simp only [PyData.eqv]; rw [Bool.beq_eq_decide_eq]
theorem eqd_bl (i j : Bool) : eqd (B i) (B j) = decide (i = j) := by
  unfold eqd pyD; simp only [PyData.eqv]; rw [Bool.beq_eq_decide_eq]
theorem eqd_str (i j : Str) : eqd (Z i) (Z j) = decide (i = j) := by
  unfold eqd pyD; simp only [PyData.eqv]; exact beq_decide i j
theorem pyDs_ints (l : List Int) : pyDs (l.map fun i => I i) = l.map Datum.toD := by
  induction l with
  | nil => rfl
  | cons a l ih => simp only [List.map_cons, pyDs, ih]; rfl
theorem eqd_ints (i j : List Int) : eqd (byt i) (byt j) = decide (i = j) := by
  unfold eqd pyD; simp only [PyData.eqv, pyDs_ints]; exact eqvAll_map i j
theorem eqd_lints (i j : List Int) : eqd (.lst (i.map fun i => I i)) (.lst (j.map fun i => I i)) = decide (i = j) := by
  unfold eqd pyD; simp only [PyData.eqv, pyDs_ints]; exact eqvAll_map i j
theorem eqd_byt_str (i : List Int) (z : Str) : eqd (byt i) (Z z) = false := by
  unfold eqd pyD; simp only [PyData.eqv]
theorem pl_byt {n : Nat} (l : List Int) : Pl (n + 1) (byt l) := .tup fun x hx => by
  obtain ⟨i, _, rfl⟩ := List.mem_map.mp hx; exact .int i
theorem pl_lints {n : Nat} (l : List Int) : Pl (n + 1) (.lst (l.map fun i => I i)) := .lst fun x hx => by
  obtain ⟨i, _, rfl⟩ := List.mem_map.mp hx; exact .int i
theorem CmpD.eqI {i j : Int} {k : Bool → Prop} (h : k (decide (i = j))) : CmpD .Eq (I i) (I j) k := .eq (.int _) (.int _) (by rw [eqd_int]; exact h)
theorem CmpD.neI {i j : Int} {k : Bool → Prop} (h : k (!decide (i = j))) : CmpD .NotEq (I i) (I j) k := .ne (.int _) (.int _) (by rw [eqd_int]; exact h)
theorem CmpD.eqB {i j : Bool} {k : Bool → Prop} (h : k (decide (i = j))) : CmpD .Eq (B i) (B j) k := .eq (.bl _) (.bl _) (by rw [eqd_bl]; exact h)
theorem CmpD.neB {i j : Bool} {k : Bool → Prop} (h : k (!decide (i = j))) : CmpD .NotEq (B i) (B j) k := .ne (.bl _) (.bl _) (by rw [eqd_bl]; exact h)
theorem CmpD.eqZ {i j : Str} {k : Bool → Prop} (h : k (decide (i = j))) : CmpD .Eq (Z i) (Z j) k := .eq (.str _) (.str _) (by rw [eqd_str]; exact h)
theorem CmpD.neZ {i j : Str} {k : Bool → Prop} (h : k (!decide (i = j))) : CmpD .NotEq (Z i) (Z j) k := .ne (.str _) (.str _) (by rw [eqd_str]; exact h)
theorem CmpD.eqT {i j : List Int} {k : Bool → Prop} (h : k (decide (i = j))) : CmpD .Eq (byt i) (byt j) k := .eq (pl_byt _) (pl_byt _) (by rw [eqd_ints]; exact h)
theorem CmpD.neT {i j : List Int} {k : Bool → Prop} (h : k (!decide (i = j))) : CmpD .NotEq (byt i) (byt j) k := .ne (pl_byt _) (pl_byt _) (by rw [eqd_ints]; exact h)
theorem CmpD.eqTZ {i : List Int} {z : Str} {k : Bool → Prop} (h : k false) : CmpD .Eq (byt i) (Z z) k := .eq (pl_byt _) (.str _) (by rw [eqd_byt_str]; exact h)
theorem CmpD.neTZ {i : List Int} {z : Str} {k : Bool → Prop} (h : k true) : CmpD .NotEq (byt i) (Z z) k := .ne (pl_byt _) (.str _) (by rw [eqd_byt_str]; exact h)
theorem CmpD.eqN {l : List Int} {k : Bool → Prop} (h : k (decide (l = []))) : CmpD .Eq (.lst (l.map fun i => I i)) (.lst []) k := .eq (pl_lints _) (.lst fun _ h => by cases h) (by have := eqd_lints l []; rw [show ((([] : List Int).map fun i => I i)) = ([] : List D) from rfl] at this; rw [this]; exact h)
theorem CmpD.neN {l : List Int} {k : Bool → Prop} (h : k (!decide (l = []))) : CmpD .NotEq (.lst (l.map fun i => I i)) (.lst []) k := .ne (pl_lints _) (.lst fun _ h => by cases h) (by have := eqd_lints l []; rw [show ((([] : List Int).map fun i => I i)) = ([] : List D) from rfl] at this; rw [this]; exact h)
inductive IntD : D → (Int → Prop) → Prop
  | int {i : Int} {k : Int → Prop} (h : k i) : IntD (I i) k
  | bl {b : Bool} {k : Int → Prop} (h : k (if b then 1 else 0)) : IntD (B b) k
theorem we_int2 {X : Cx} {G : Hp → Prop} {W : WX} {M : Ms} {ρ : Rh} {xr : Value → Ms → Prop} {e : Expr} {pos p : Pos} {R : Ms → D → Prop} (hm : X.mg "int" = none) (hg : Gl X "int") (h : WE X G W e M ρ xr fun M1 d => IntD d fun i => R M1 (I i)) (he : starEach [e] X.env = (false, eval e X.env) :: starEach [] X.env := by rfl) :
    WE X G W (.Call (.Name "int" p) [e] [] pos) M ρ xr R := we_int1 hm hg (we_imp h fun M1 d h => by
  cases h with
  | int h => exact .inl ⟨_, rfl, h⟩
  | bl h => exact .inr ⟨_, rfl, h⟩) he
theorem turn_nil {X : Cx} {G : Hp → Prop} {k : Nat} {scope : Scope} {as : D → Rh → (Rh → Prop) → Prop} {elt : Expr} {ρ : Rh} {J : Nat → Ms → List D → Prop} {n : Nat} {z : D} (mono : ∀ d ρ (k k' : Rh → Prop), (∀ r, k r → k' r) → as d ρ k → as d ρ k')
    (h : ∀ q M' acc, J n M' acc → as z ρ fun ρ' => ∀ Y', Blk X scope Y' → Ct Y' G (fun _ _ _ _ => False) k → WE Y' G (fun _ _ _ _ => False) elt ((q, .lst acc) :: M') ρ' (fun _ _ => False) fun M3 y => ∃ M4, M3 = (q, .lst acc) :: M4 ∧ acc.length < sizeLine ∧ J (n + 1) M4 (acc ++ [y])) :
    TurnC X G k scope as [] elt ρ J n z := fun q M' acc hj => mono _ _ _ _ (fun ρ' hh Y hY cy => by
  unfold WTs
  exact (if_pos rfl).mpr hh) (h q M' acc hj)
end Wv
set_option maxRecDepth 100000
set_option maxHeartbeats 2000000
namespace Wv
open PySem PySem.Spec PyProof.Rows L2 PySem.W
section
variable {X : Cx} {scope : Scope} {x : Str} {v : Value} {P : Value → Prop}
theorem keeps_refl (s : Shared) : Keeps s s := ⟨s.heap, s.toks, rfl, fun _ _ e => e⟩
theorem keeps_tok (s : Shared) (k : Nat) : Keeps s { s with toks := k } := ⟨s.heap, k, rfl, fun _ _ e => e⟩
theorem keeps_trans {a b c : Shared} (h : Keeps a b) (h2 : Keeps b c) : Keeps a c := by
  obtain ⟨h', tk, rfl, k⟩ := h
  obtain ⟨h'', tk', rfl, k'⟩ := h2
  exact ⟨h'', tk', rfl, fun b o e => k' b o (k b o e)⟩
theorem QH.keeps {cenv : Env} {m : Str → Option Value} {s s' : Shared} (q : QH X scope x v cenv m s) (k : Keeps s s') : QH X scope x v cenv m s' := by
  obtain ⟨h', tk, rfl, k⟩ := k
  exact ⟨q.md, q.sc, q.gl, q.bl, fun b o e => k b o (q.bk b o e), q.ns.keeps k, q.at_⟩
theorem qe_x {p : Pos} (hk : scope.kind = .function) (hl : scope.names.lookup x = some .local) (hd : (x == ("__debug__" : Str)) = false := by decide) : Qe X scope x v (.Name x p) fun y => y = v := fun cenv A' E' s m q =>
  wpAny_Name (wpAny_loadName_local (by rw [q.sc]; exact hk) (show cenv.scope.names.lookup x = some .local by rw [q.sc]; exact hl) q.ns q.at_ ⟨rfl, keeps_refl _⟩) hd
theorem qe_glob {y : Str} {u : Value} {p : Pos} (hk : scope.kind = .function) (hg : scope.names.lookup y = some .globalImplicit) (hm : X.mg y = some u) (hd : (y == ("__debug__" : Str)) = false := by decide) : Qe X scope x v (.Name y p) fun z => z = u := fun cenv A' E' s m q =>
  Calls.Name_function_global (by rw [q.sc]; exact hk) (show cenv.scope.names.lookup y = _ by rw [q.sc]; exact hg) (Calls.loadGlobal_global (by rw [q.gl]; exact q.md.glob.keeps q.bk) hm ⟨rfl, keeps_refl _⟩) hd
theorem qe_blt {y : Str} {u : Value} {p : Pos} (hk : scope.kind = .function) (hg : scope.names.lookup y = some .globalImplicit) (hm : X.mg y = none) (hv : bootBuiltins y = some u) (hn : y ≠ "__name__" := by decide) (hd : (y == ("__debug__" : Str)) = false := by decide) : Qe X scope x v (.Name y p) fun z => z = u := fun cenv A' E' s m q => by
  obtain ⟨mb, h1, h2⟩ := q.md.blt
  exact Calls.Name_function_global (by rw [q.sc]; exact hk) (show cenv.scope.names.lookup y = _ by rw [q.sc]; exact hg) (Calls.loadGlobal_builtin (by rw [q.gl]; exact q.md.glob.keeps q.bk) hm (by rw [q.bl]; exact h1.keeps q.bk) ((h2 y hn).trans hv) ⟨rfl, keeps_refl _⟩) hd
theorem qe_int {i : Int} {j : Nat} {p : Pos} : Qe X scope x v (.Constant (.int i) j p) fun y => ∃ t, y = .int i t := fun cenv A' E' s m q => by
  have h : wpAny (model X.prog X.w) A' (eval (.Constant (.int i) j p) cenv) (fun y s₃ => (∃ t, y = .int i t) ∧ Keeps s s₃) E' s := wpAny_Constant_int ⟨⟨_, rfl⟩, keeps_tok _ _⟩
  exact h
/-- what is done behind -/
theorem Qe.then {e : Expr} {cenv : Env} {A' : Around} {E' : Value → Shared → Prop} {s : Shared} {m : Str → Option Value} {Q : Value → Shared → Prop} (h : Qe X scope x v e P) (q : QH X scope x v cenv m s) (k : ∀ y s', P y → Keeps s s' → QH X scope x v cenv m s' → Q y s') : wpAny (model X.prog X.w) A' (eval e cenv) Q E' s :=
  wpAny_mono (h cenv A' E' s m q) (fun y s' r => k y s' r.1 r.2 (q.keeps r.2)) fun _ _ e => e
theorem qe_notInS {a b : Expr} {p : Pos} {c : Nat} {z : Str} (ha : Qe X scope x v a fun y => ∃ t, y = .str ⟨#[c]⟩ t) (hb : Qe X scope x v b fun y => ∃ t, y = .str z t) (hm : behindInMarks .NotIn b = false := by with_unfolding_all rfl) : Qe X scope x v (.Compare a [.NotIn] [b] p) fun y => y = .bool (!decide (c ∈ z.cps.toList)) := fun cenv A' E' s m q => by
  refine wpAny_Compare1 (ha.then q ?_) hm
  rintro _ s1 ⟨t, rfl⟩ k1 q1
  refine hb.then q1 ?_
  rintro _ s2 ⟨u, rfl⟩ k2 q2
  exact PyProof.Rows.notIn_str ⟨congrArg (fun b => Value.bool (!b)) (PySem.StrLaws.found_one z c), keeps_trans k1 k2⟩
theorem qe_not {a : Expr} {p : Pos} {b : Bool} (ha : Qe X scope x v a fun y => y = .bool b) : Qe X scope x v (.UnaryOp .Not a p) fun y => y = .bool (!b) := fun cenv A' E' s m q => by
  refine UnaryOp_ (ha.then q ?_)
  rintro _ s1 rfl k1 q1
  exact not_of (wpAny_truthy_bool ⟨rfl, k1⟩)
theorem qe_or {a b : Expr} {p : Pos} {i j : Bool} (ha : Qe X scope x v a fun y => y = .bool i) (hb : Qe X scope x v b fun y => y = .bool j) : Qe X scope x v (.BoolOp .Or [a, b] p) fun y => y = .bool (i || j) := fun cenv A' E' s m q => by
  refine BoolOp_or (ha.then q ?_)
  rintro _ s1 rfl k1 q1
  refine wpAny_truthy_bool ?_
  cases i with
  | true => exact ⟨rfl, k1⟩
  | false =>
    refine BoolOp_one (hb.then q1 ?_)
    rintro _ s2 rfl k2 q2
    exact ⟨rfl, keeps_trans k1 k2⟩
/-- lo <= y < hi -/
theorem qe_between {a b c : Expr} {p : Pos} {i j k : Int} (ha : Qe X scope x v a fun y => ∃ t, y = .int i t) (hb : Qe X scope x v b fun y => ∃ t, y = .int j t) (hc : Qe X scope x v c fun y => ∃ t, y = .int k t) (hm : lastMarks [.LtE, .Lt] [b, c] = false := by with_unfolding_all rfl) : Qe X scope x v (.Compare a [.LtE, .Lt] [b, c] p) fun y => y = .bool (decide (i ≤ j) && decide (j < k)) := fun cenv A' E' s m q => by
  refine Compare_chain (ha.then q ?_) hm
  rintro _ s1 ⟨t, rfl⟩ k1 q1
  refine chain_link (hb.then q1 ?_)
  rintro _ s2 ⟨u, rfl⟩ k2 q2
  refine PyProof.Rows.le_int (wpAny_truthy_bool ?_)
  by_cases h : i ≤ j
  · rw [decide_eq_true h]
    refine iteT ?_
    refine chain_last (hc.then q2 ?_)
    rintro _ s3 ⟨w', rfl⟩ k3 q3
    exact PyProof.Rows.lt_int ⟨by simp, keeps_trans (keeps_trans k1 k2) k3⟩
  · rw [decide_eq_false h]
    exact iteF ⟨by simp, keeps_trans k1 k2⟩
/-- len(a) of a text -/
theorem qe_len {a : Expr} {p p2 : Pos} {z : Str} (hk : scope.kind = .function) (hg : scope.names.lookup ("len" : Str) = some .globalImplicit) (hm : X.mg "len" = none) (hz : z.length ≤ sizeLine) (ha : Qe X scope x v a fun y => ∃ t, y = .str z t)
    (he : ∀ cenv : Env, starEach [a] cenv = (false, eval a cenv) :: starEach [] cenv := by intro _; rfl) : Qe X scope x v (.Call (.Name "len" p) [a] [] p2) fun y => ∃ t, y = .int (z.length : Int) t := fun cenv A' E' s m q => by
  refine wpAny_Call_Name_kw ((qe_blt hk hg hm PySem.boot_len).then q ?_)
  rintro _ s1 rfl k1 q1
  refine PyProof.Rows.callWith_builtin1 ?_ (he cenv) (by rfl)
  rw [he cenv]
  show wpAny _ _ (spliced ((false, eval a cenv) :: backTo p2 (starEach [] cenv))) _ _ s1
  refine Calls.spliced_cons (ha.then q1 ?_)
  rintro _ s2 ⟨t, rfl⟩ k2 q2
  refine Calls.spliced_nil ?_
  have hn := line63
  exact len_str (by omega) ⟨⟨_, rfl⟩, keeps_trans (keeps_trans k1 k2) (keeps_tok _ _)⟩
/-- isinstance(a, T) of an int, a bool, a text -/
theorem qe_isi {a b : Expr} {p p2 : Pos} {u : Value} {T U : String} {r : Bool} (hk : scope.kind = .function) (hg : scope.names.lookup ("isinstance" : Str) = some .globalImplicit) (hm : X.mg "isinstance" = none) (ha : Qe X scope x v a fun y => y = u) (hb : Qe X scope x v b fun y => y = .type T)
    (hu : PySem.W.KitX X.K u (.type U) fun _ => True) (hx : u ≠ .builtin "__main__.__loader__#opaque") (hr : kitB U T = some r)
    (he : ∀ cenv : Env, starEach [a, b] cenv = (false, eval a cenv) :: starEach [b] cenv := by intro _; rfl) (he2 : ∀ cenv : Env, starEach [b] cenv = (false, eval b cenv) :: starEach [] cenv := by intro _; rfl) : Qe X scope x v (.Call (.Name "isinstance" p) [a, b] [] p2) fun y => y = .bool r := fun cenv A' E' s m q => by
  refine wpAny_Call_Name_kw ((qe_blt (u := .builtin "isinstance") hk hg hm (by decide +kernel)).then q ?_)
  rintro _ s1 rfl k1 q1
  refine PyProof.Rows.callWith_builtin1 ?_ (he cenv) (by rw [he2]; rfl)
  rw [he cenv, he2 cenv]
  show wpAny _ _ (spliced ((false, eval a cenv) :: (false, eval b cenv) :: backTo p2 (starEach [] cenv))) _ _ s1
  refine Calls.spliced_cons (ha.then q1 ?_)
  rintro _ s2 rfl k2 q2
  refine Calls.spliced_cons (hb.then q2 ?_)
  rintro _ s3 rfl k3 q3
  refine Calls.spliced_nil ?_
  refine PySem.W.kia_one hu (fun b o e => q3.bk b o (q3.md.kin b o e)) True.intro (kit_ty hr) hx fun tk => ⟨rfl, keeps_trans (keeps_trans (keeps_trans k1 k2) k3) (keeps_tok _ _)⟩
theorem Qe.imp {e : Expr} {P' : Value → Prop} (h : Qe X scope x v e P) (f : ∀ y, P y → P' y) : Qe X scope x v e P' := fun cenv A' E' s m q => wpAny_mono (h cenv A' E' s m q) (fun y s' r => ⟨f y r.1, r.2⟩) fun _ _ e => e
end
def genSB (scope : Scope) (x : Str) : Bool := decide (scope.kind = .function) && !scope.isCoroutine && decide (scope.names.lookup (".0" : Str) = some NameKind.local) && decide (scope.names.lookup x = some .local) && scope.names.all fun y => !decide (y.2 = .cell) && !decide (y.2 = .free)
theorem genS_by {env : Env} {scope : Scope} {x : Str} (h : genSB scope x = true) : GxR.GenS env scope x := by
  unfold genSB at h
  simp only [Bool.and_eq_true, Bool.not_eq_true', decide_eq_true_eq, decide_eq_false_iff_not, List.all_eq_true] at h
  obtain ⟨⟨⟨⟨h1, h2⟩, h3⟩, h4⟩, h5⟩ := h
  exact ⟨h1, h2, fun y hy => (h5 y hy).1, h3, h4, fun y hy e => absurd e (h5 y hy).2⟩
end Wv
set_option maxRecDepth 100000
set_option maxHeartbeats 2000000
namespace Wv
open PySem PySem.Spec PyProof.Rows L2
open LamX (CodeO TabS Tabs ExtN TabB lamEnv lamCx LamS LawAtS)
/-- the table of a def of the top, empty -/
def TabAt (mg : Str → Option Value) (h : Heap) (x : Str) : Prop := ∃ (a : Addr) (o : Obj) (fd : FuncData) (c P : Addr), mg x = some (.ref a) ∧ h.get? a = some o ∧ o.data = .func fd ∧ fd.code = .ref c ∧ h.IsCode c P #[] ∧ h.TableAt c P #[]
theorem walk_ofAll {l : PySem.W.OpenLaw} {n k : Nat} {q : Program} {loose : List Str} {XP : (Str → Option Value) → Heap → Prop} {YP : World → Heap → Prop} {d : DefRec} {K : Params → PySem.W.Frag} {CX : World → CXT} {x : Str}
    (hn : l.most = some n) (hn2 : n ≤ sizeLine) (hdf : d.params.defaults = []) (hr : Room k callerA) (hY : ∀ (w : World) (h : Heap), YP w h → (K w.params).In h)
    (F : ∀ (w : World) (mg : Str → Option Value) (fa : Addr) (h : Heap), YP w h → XP mg h → (K w.params).In h → h.Ns mainGlobals mg → mg d.name = some (.ref fa) → (∀ y, ((recsOf q).any fun e => e.name == y) = true → TabAt mg h y) → LawAtS l w (K w.params) (CX w) k n x mg fa h)
    (hCX : ∀ (w : World) (H : Hp) (s : Shared) (e : Value) (s' : Shared), CX w [] H s (fun _ _ _ => False) e s' → False) :
    PySem.W.WalkO q loose XP YP l.row.toRowW d [] (fun f vs => PySem.call f vs) := by
  refine Att.attach_callB hn hdf fun w s₀ s₁ mg mb fa o pm cd doc a vs ns G Y ho hd hcd hmg hobj hints hlen hbits hg => ?_
  have KX := hY w _ Y
  have tabs : ∀ y, ((recsOf q).any fun e => e.name == y) = true → TabAt mg s₁.heap y := fun y hy => by
    obtain ⟨dL, hm, hn1⟩ := List.any_eq_true.mp hy
    have hn2 : dL.name = y := beq_iff_eq.mp hn1
    obtain ⟨a', o', fd', c', P', h1, h2, h3, h4, h5, h6⟩ := G.T.tab dL hm
    rw [hn2] at h1
    exact ⟨a', o', fd', c', P', h1, h2, h3, h4, h5, h6⟩
  obtain ⟨fd, cs, sp, hT, nT, C, hb, hsp, hF⟩ := F w mg fa _ Y G.X KX G.T.g hmg tabs
  exact LamX.law_callTs KX G.T.g G.T.b G.T.builtins G.T.nolimit hg hT nT C G.T.bmain hobj hints (Nat.le_trans hlen hn2) hr hF hb (fun H hH hS => hsp H a ns hlen hbits hH hS) fun H e s' => hCX w H s₁ e s'
/-- .. by what the part K tells of it -/
theorem tab_of {K : PySem.W.Frag} {mg : Str → Option Value} {h : Heap} {x : Str} {f c Pt : Addr} {oc : Value} {od : Option Addr} {fd : FuncData} {sl : Array (Option Value)} {ec : Value} {dc : Option Addr} {vc : Array Value} {slc : Array (Option Value)} (X : K.In h) (T : TabAt mg h x) (hm : mg x = some (.ref f))
    (l : K.lookup f = some ⟨oc, od, .func fd, sl⟩) (hc : fd.code = .ref c) (lc : K.lookup c = some ⟨ec, dc, .fields vc, slc⟩) (v : vc[11]? = some (.ref Pt)) : h.get? Pt = some { cls := .none, data := .fields #[] } ∧ PySem.W.CodeHd h c Pt := by
  obtain ⟨a, o, fd', c', P, h1, h2, h3, h4, h5, h6⟩ := T
  rw [hm] at h1; cases h1
  rw [X _ _ l] at h2; cases h2
  cases h3
  rw [hc] at h4; cases h4
  have h6' := h6
  obtain ⟨⟨o2, vs, e1, e2, e3, e4⟩, hP⟩ := h6
  rw [X _ _ lc] at e1; cases e1
  cases e3
  rw [v] at e4; cases e4
  exact ⟨hP, PySem.W.CodeHd.of h5 h6'⟩
section
variable {P : Program} {w : World} {K : PySem.W.Frag} {mg : Str → Option Value} {base : Heap} {G : Hp → Prop}
/-- gf_ofT, the def's record told -/
theorem fnok_ofT {x qual : Str} {st : Stmt} {f c : Addr} {fd : FuncData} {N ps : List Str} {k : Nat} {S : SpD} (F : FunT K x qual st f fd c) (Sc : FnScope N ps (defScope st)) (gs : Gst G)
    (len : ∀ ds M xr R, S ds M xr R → ds.length = ps.length)
    (hbody : ∀ (X : Cx) (W : WX) (M : Ms) (ds : List D) (xr : Value → Ms → Prop) (R : Ms → D → Prop), (∃ A outer s H E, X = cxOf (L2N.CX P w) P w K mg base N qual (defScope st) f (.ref c) A outer s H E) → Ct X G W k → S ds M xr R →
      WSs X G W (defBody st) M (startD N ds) { nx := fun M' _ => R M' N0, rt := R, bk := fun _ _ => False, ct := fun _ _ => False, xr := xr }) : FnOk P w K mg base (L2N.CX P w) (k + 1) f fd ps (spOf G K S) := by
  obtain ⟨oc, od, kV, doc, pm, an, ct, osl, rfl, lk, hcd⟩ := F.ex
  refine fn_of lk hcd Sc (fun vs H Q E h => ?_) (fun A outer s H vs Q E hr h => ?_)
  · obtain ⟨M, ds, xr, R, _, r, hs, _⟩ := h
    rw [r.length]; exact len _ _ _ _ hs
  · obtain ⟨M, ds, xr, R, a, r, hs, q, e⟩ := h
    refine ⟨_, pss_wp, ?_⟩
    refine hbody _ (fun cls d _ H => E cls d H) M ds xr R ⟨A, outer, s, H, E, rfl⟩ ⟨gs, L2N.takes_of rfl rfl rfl rfl, hr, passes_of rfl, rfl, Sc.nd⟩ hs _ H a (sl_start r) _ (fun M' H' cls σ' hx ha hm => e cls M' H' hx ha hm)
      (fun M' ρ' σ' H' hk ha hb hm => q M' _ _ H' hk ha hm (.raw _)) (fun M' d v H' hk ha hm hr => q M' d v H' hk ha hm hr) (fun _ _ _ _ h => h.elim) (fun _ _ _ _ h => h.elim)
/-- the loose whole number of the top -/
theorem loose_int {p : Program} {lv : List (Str × PySem.W.WData)} {h : Heap} {x : Str} {i : Int} (X : PySem.W.XL p lv mg h) (hm : (x, PySem.W.WData.int i) ∈ lv) : ∃ t, mg x = some (.int i t) := by
  obtain ⟨v, e, r⟩ := X.2.val _ hm
  cases r with
  | int _ t => exact ⟨t, e⟩
end
end Wv
set_option maxRecDepth 100000
set_option maxHeartbeats 2000000
namespace Wv
open PySem PySem.Spec PyProof.Rows L2 PySem.W
section
variable {X : Cx} {G : Hp → Prop} {W : WX} {M : Ms} {ρ : Rh} {xr : Value → Ms → Prop} {N : En} {a b c e o : Expr} {es : List Expr} {pos p apos : Pos} {R : Ms → D → Prop} {k j : Nat}
def SP {α : Type} (M0 M : List α) : Prop := ∃ M1, List.Perm M1 M0 ∧ List.Sublist M1 M
theorem AtM.subperm {K : PySem.W.Frag} {M0 : Ms} {H : Hp} (a : AtM G K M H) (s : SP M0 M) : AtM G K M0 H ∧ Mv M H M0 H := by
  obtain ⟨M1, h1, h2⟩ := s
  obtain ⟨a1, m1⟩ := a.sub h2
  obtain ⟨a2, m2⟩ := a1.perm h1.symm
  exact ⟨a2, m1.trans m2⟩
theorem we_sp (h : WE X G W e M ρ xr fun M1 d => ∃ M0, SP M0 M1 ∧ R M0 d) : WE X G W e M ρ xr R := ⟨fun σ H a0 b0 x Q q => h σ H a0 b0 x Q fun M1 d v H1 h1 a1 m1 r1 => by
  obtain ⟨M0, s, hk⟩ := h1
  obtain ⟨a2, m2⟩ := a1.subperm s
  exact q M0 d v H1 hk a2 (m1.trans m2) (m2.rp a1 r1)⟩
theorem wt_sp {R : Ms → Bool → Prop} (h : WT X G W e M ρ xr fun M1 d => ∃ M0, SP M0 M1 ∧ R M0 d) : WT X G W e M ρ xr R := ⟨fun σ H a0 b0 x Q q => h σ H a0 b0 x Q fun M1 d H1 h1 a1 m1 => by
  obtain ⟨M0, s, hk⟩ := h1
  obtain ⟨a2, m2⟩ := a1.subperm s
  exact q M0 d H1 hk a2 (m1.trans m2)⟩
theorem sp_cons {α : Type} {x : α} {l : List α} : SP l (x :: l) := ⟨l, List.Perm.refl _, List.sublist_cons_self _ _⟩
theorem sp_swap {α : Type} {x y : α} {l : List α} : SP (y :: l) (y :: x :: l) := ⟨_, List.Perm.refl _, (List.sublist_cons_self x l).cons_cons y⟩
end
theorem CmpD.neI_s {i : Int} {k : Bool → Prop} (h : k false) : CmpD .NotEq (I i) (I i) k := .neI (by rw [decide_eq_true rfl]; exact h)
theorem CmpD.neT_s {i : List Int} {k : Bool → Prop} (h : k false) : CmpD .NotEq (byt i) (byt i) k := .neT (by rw [decide_eq_true rfl]; exact h)
theorem CmpD.neZ_s {i : Str} {k : Bool → Prop} (h : k false) : CmpD .NotEq (Z i) (Z i) k := .neZ (by rw [decide_eq_true rfl]; exact h)
theorem CmpD.eqZ_s {i : Str} {k : Bool → Prop} (h : k true) : CmpD .Eq (Z i) (Z i) k := .eqZ (by rw [decide_eq_true rfl]; exact h)
theorem CmpD.neB_s {i : Bool} {k : Bool → Prop} (h : k false) : CmpD .NotEq (B i) (B i) k := .neB (by rw [decide_eq_true rfl]; exact h)
theorem CmpD.neN_s {k : Bool → Prop} (h : k false) : CmpD .NotEq (.lst []) (.lst []) k := .neN (l := []) (by rw [decide_eq_true rfl]; exact h)
theorem CmpD.eqN_s {k : Bool → Prop} (h : k true) : CmpD .Eq (.lst []) (.lst []) k := .eqN (l := []) (by rw [decide_eq_true rfl]; exact h)
theorem BinD.addB {i j : List Int} {k : D → Prop} (z : i.length + j.length ≤ 1000000) (h : k (byt (i ++ j))) : BinD .Add (byt i) (byt j) k := .addT (sz1 (by rw [List.length_map, List.length_map]; exact z)) (by rw [← List.map_append]; exact h)
end Wv
set_option maxRecDepth 100000
set_option maxHeartbeats 4000000
namespace Wv
open PySem PySem.Spec PyProof.Rows L2 PySem.W
/-- xs.extend(t), t any tuple -/
theorem ext_tup (l b : Addr) (its its2 : Array Value) (n n2 : Nat) (dd : Option Addr) (sl : Array (Option Value)) (h0 : ¬ (!its.isEmpty && Builtin.List.listTooLong (its.size + its2.size)) = true) (h1 : its.size ≤ sizeLine) (h2 : its.size + its2.size ≤ sizeLine + 1) :
    Meets (Builtin.«list.extend» ⟨[.ref l, .ref b], []⟩) fun _ R s => (s.heap.get? l = some { cls := .type "list", data := .seq its n } ∧ s.heap.get? b = some { cls := .type "tuple", dict := dd, data := .seq its2 n2, slots := sl }) ∧
      R (.ok (.ret Value.none)) { s with heap := s.heap.update l (Obj.mapSeq fun x => x ++ its2), toks := s.toks } :=
  .of_wp fun prog w A R s h => by
    obtain ⟨hp, g, d, tk, os⟩ := s
    obtain ⟨⟨hl, hb⟩, h⟩ := h
    have k1 := AutoSeq1.idx_int
    have k2 := AutoSeq1.sub_tuple_tuple
    have k3 := AutoSeq1.sub_list_list
    have k4 := AutoSeq1.sub_tuple_list
    have k5 := AutoSeq1.sub_list_tuple
    have hz : (its ++ its2).size ≤ sizeLine + 1 := by rw [Array.size_append]; exact h2
    wp_walk using (wpAny_updateSeq hl rfl (hz := h1) (_hz' := hz)), wpAny_loadPart' hl, wpAny_loadPart' hb
    exact ⟨_, rfl, h⟩
def rExtT (K : PySem.W.Frag) : V → List V → Hp → VK → Prop := fun x vs H Q => ∃ l b xs zs, x = .ref l ∧ vs = [.ref b] ∧ H l = some (.lst xs) ∧ SqT K H b zs ∧ xs.length + zs.length ≤ sizeLine ∧ Q .non (upd H l (.lst (xs ++ zs)))
theorem mt_extT {X : Cx} : MtM X "list.extend" (rExtT X.K) := by
  intro pins s σ H x vs v us Q I rx rv h
  obtain ⟨l, b, xs, zs, rfl, rfl, hH, hB, hz, q⟩ := h
  cases rx
  obtain ⟨u, rfl, ru⟩ := rv.one
  cases ru
  obtain ⟨z, its, n, r, hl, e⟩ := I.lstM hH
  obtain ⟨its2, r2, ⟨⟨oc, dd, od, sl⟩, e2, hc, n2, hd⟩, hz2⟩ := I.tuple hB
  simp only at hc hd
  subst hc hd
  have hl2 : zs.length = its2.length := r2.length
  have hsz : its.toArray.size + its2.toArray.size ≤ sizeLine := by rw [List.size_toArray, List.size_toArray]; omega
  have hlong : ¬ (!its.toArray.isEmpty && Builtin.List.listTooLong (its.toArray.size + its2.toArray.size)) = true := by
    rw [notLongL hsz, Bool.and_false]
    exact Bool.false_ne_true
  refine call_meets F.slot_list_extend ⟨_, e, rfl⟩ F.entry_list_extend (F.args_list_extend_2 _ _) (ext_tup l b its.toArray its2.toArray n n2 dd sl hlong (by rw [List.size_toArray]; omega) (by omega)) ⟨⟨e, e2⟩, ?_⟩
  refine ⟨.non, _, I.lset (its' := its ++ its2) hH e (by simp) (r.append r2) ?_, rfl, q⟩
  rw [List.length_append]
  omega
section
variable {X : Cx} {G : Hp → Prop} {W : WX} {M : Ms} {ρ : Rh} {xr : Value → Ms → Prop} {N : En} {a b c e o : Expr} {es : List Expr} {pos p apos : Pos} {R : Ms → D → Prop} {k j : Nat}
/-- xs.extend(e), xs a list of ours, e a tuple -/
theorem we_extT (gs : Gst G) (h : WE X G W o M ρ xr fun M1 d => OwL M1 d fun _ q _ => WE X G W e M1 ρ xr fun M2 z => IsT z fun zs => OwL M2 (Rf q) fun i _ l => l.length + zs.length ≤ sizeLine ∧ R (M2.set i (q, .lst (l ++ zs))) N0)
    (hb : PE X (.Call (.Attribute o "extend" apos) [e] [] pos) (tBM X.K "list" (rExtT X.K) (eT X o) (aT X [e]))) (he : starEach [e] X.env = (false, eval e X.env) :: starEach [] X.env := by rfl) : WE X G W (.Call (.Attribute o "extend" apos) [e] [] pos) M ρ xr R :=
  we_of hb fun σ H a0 b0 x Q q => h σ H a0 b0 x _ fun M1 d v H1 h1 a1 m1 r1 => by
  cases h1 with
  | mk i0 hi0 h1 =>
  rename_i q0 l0
  obtain ⟨xs0, s0, _⟩ := at_ob a1 hi0
  obtain rfl := r1.raw_inv
  refine ⟨.inl ⟨rfl, xs0, SqL.of s0⟩, ?_⟩
  refine wa_one (RA := fun M2 ds => ∃ zs, ds = [.tup zs] ∧ OwL M2 (Rf q0) fun i _ l => l.length + zs.length ≤ sizeLine ∧ R (M2.set i (q0, .lst (l ++ zs))) N0) (⟨fun σ H a0 b0 x Q q => h1 σ H a0 b0 x Q fun M1 d v H1 hd a1 m1 r1 => q M1 d v H1 (by cases hd with | mk h => exact ⟨_, rfl, h⟩) a1 m1 r1⟩) he σ H1 a1 (m1.sl a0 b0) (x.mv m1) _ fun M2 ds vs H2 h2 a2 m2 r2 => ?_
  obtain ⟨zs, rfl, h2⟩ := h2
  cases h2 with
  | mk i hi h2 =>
  rename_i l
  obtain ⟨hl, hk⟩ := h2
  obtain ⟨u, rfl, ru⟩ := r2.one
  obtain ⟨pt, us, rfl, st, lt⟩ := ru.tup_inv
  obtain ⟨xs, s1, l1⟩ := at_ob a2 hi
  refine ⟨q0, pt, xs, us, rfl, rfl, s1, st, by rw [l1.length, lt.length]; exact hl, ?_⟩
  have hm : Mv M2 H2 M2 (upd H2 q0 (.lst (xs ++ us))) := ⟨fun b w e n _ => by
      rw [upd_ne (fun z => n (by rw [z]; exact mem_at hi))]; exact e, fun _ h => .inl h⟩
  obtain ⟨a3, m3⟩ := a2.write gs (o' := .lst (l ++ zs)) hi (u := .lst (xs ++ us)) (fun _ z => by cases z) ⟨_, upd_same, (hm.rpl a2 l1).app (hm.rpl a2 lt)⟩
  exact q _ _ _ _ hk a3 ((m1.trans m2).trans m3) (.raw _)
/-- o.f += e of ints -/
theorem ws_fldAdd {f : Str} {tpos : Pos} (gs : Gst G) (h : WE X G W o M ρ N.xr fun M1 d => OwI M1 d fun _ q C fs => Cls X.K C ∧ NoAttr X.K C f ∧ ∃ i : Int, fs.lookup f = some (I i) ∧ WE X G W e M1 ρ N.xr fun M2 z => IsI z fun w => OwI M2 (Rf q) fun j _ C' fs' => C' = C ∧ fs'.length < 1000 ∧ N.nx (M2.set j (q, .ins C (putD f (I (i + w)) fs'))) ρ) : WS X G W (.AugAssign (.Attribute o f tpos) .Add e pos) M ρ N :=
  ws_of (ps_fldaug pe_wp pe_wp in_add) fun σ H a0 b0 Dn x n r bk ct => by
  refine h σ H a0 b0 (xok_of x) _ fun M1 d v H1 h1 a1 m1 r1 => ?_
  cases h1 with
  | mk i0 hi0 h1 =>
  rename_i q C fs
  obtain ⟨c, na, i, hl, h1⟩ := h1
  obtain ⟨dx, vs, e1, rf⟩ := at_ob a1 hi0
  obtain ⟨v', e', r'⟩ := rf.look hl
  refine ⟨q, C, dx, vs, v', r1.raw_inv, e1, c, na, e', ?_⟩
  refine h1 σ H1 a1 (m1.sl a0 b0) ((xok_of x).mv m1) _ fun M2 z u H2 h2 a2 m2 r2 => ?_
  cases h2 with
  | mk h2 =>
  rename_i w
  cases h2 with
  | mk j hj h2 =>
  rename_i C' fs'
  obtain ⟨rfl, hlen, hk⟩ := h2
  obtain ⟨dx2, vs2, e2, rf2⟩ := at_ob a2 hj
  refine ⟨i, w, r'.raw_inv, r2.raw_inv, dx2, vs2, e2, by rw [rf2.len]; exact hlen, ?_⟩
  have hm : Mv M2 H2 M2 (upd H2 q (.ins C' dx2 (putF f (.int (i + w)) vs2))) := ⟨fun b w e n _ => by
      rw [upd_ne (fun z => n (by rw [z]; exact mem_at hj))]; exact e, fun _ h => .inl h⟩
  obtain ⟨a3, m3⟩ := a2.write gs (o' := .ins C' (putD f (I (i + w)) fs')) hj (u := .ins C' dx2 (putF f (.int (i + w)) vs2)) (fun _ z => by cases z) ⟨dx2, _, upd_same, (rf2.put f (.raw _)).1, hm.rpl a2 (rf2.put f (.raw _)).2⟩
  exact n _ _ σ _ hk a3 (m3.sl a2 ((m1.trans m2).sl a0 b0)) ((m1.trans m2).trans m3)
end
section
variable {X : Cx} {G : Hp → Prop} {W : WX} {M : Ms} {ρ : Rh} {N : En}
theorem wss_sp {ss : List Stmt} {M0 : Ms} (s : SP M0 M) (h : WSs X G W ss M0 ρ N) : WSs X G W ss M ρ N := ⟨fun σ H a0 b0 Dn x n r bk ct => by
  obtain ⟨a1, m1⟩ := a0.subperm s
  exact h σ H a1 (m1.sl a0 b0) Dn (fun M' H' cls σ' hx ha hm => x M' H' cls σ' hx ha (m1.trans hm)) (fun M' ρ' σ' H' hk ha hb hm => n M' ρ' σ' H' hk ha hb (m1.trans hm))
    (fun M' d v H' hk ha hm => r M' d v H' hk ha (m1.trans hm)) (fun M' ρ' σ' H' hk ha hb hm => bk M' ρ' σ' H' hk ha hb (m1.trans hm)) (fun M' ρ' σ' H' hk ha hb hm => ct M' ρ' σ' H' hk ha hb (m1.trans hm))⟩
end
end Wv
set_option maxRecDepth 100000
set_option maxHeartbeats 2000000
namespace Wv
open PySem PySem.Spec PyProof.Rows L2 PySem.W
theorem eqd_self {d : D} (h : Pl 60 d) : eqd d d = true := PySem.SeqAt.eqv_refl_plain _ h.plain.1
theorem CmpD.ne_s {d : D} {k : Bool → Prop} (p : Pl 60 d) (h : k false) : CmpD .NotEq d d k := .ne p p (by rw [eqd_self p]; exact h)
theorem CmpD.eq_s {d : D} {k : Bool → Prop} (p : Pl 60 d) (h : k true) : CmpD .Eq d d k := .eq p p (by rw [eqd_self p]; exact h)
theorem rep_byt (n : Nat) (i : Int) : D.tup (List.replicate n [I i]).flatten = byt (List.replicate n i) := by
  rw [byt, List.map_replicate]
  congr 1
  induction n with
  | zero => rfl
  | succ n ih => rw [List.replicate_succ, List.flatten_cons, ih, List.replicate_succ]; rfl
theorem BinD.repB {i : Int} {n : Nat} {k : D → Prop} (h1 : 2 ≤ n) (h2 : n ≤ 1000) (h : k (byt (List.replicate n i))) : BinD .Mult (byt [i]) (I (n : Int)) k := .mulT (by simp) (by omega) (by omega) (by simp) (by rw [Int.toNat_natCast]; exact (rep_byt n i) ▸ h)
theorem pl_byts {n : Nat} (l : List (List Int)) : Pl (n + 2) (.tup (l.map byt)) := .tup fun x hx => by
  obtain ⟨i, _, rfl⟩ := List.mem_map.mp hx; exact pl_byt _
theorem pl_lbyts {n : Nat} (l : List (List Int)) : Pl (n + 2) (.lst (l.map byt)) := .lst fun x hx => by
  obtain ⟨i, _, rfl⟩ := List.mem_map.mp hx; exact pl_byt _
end Wv
set_option maxRecDepth 100000
set_option maxHeartbeats 2000000
namespace Wv
open PySem PySem.Spec PyProof.Rows L2 PySem.W
section
variable {X : Cx} {G : Hp → Prop} {W : WX} {M : Ms} {ρ : Rh} {N : En} {pos : Pos}
/-- x, y, z = a, b, c -/
theorem ws_par3 (i j l : Nat) {x y z : Str} {a b c : Expr} {px py pz pt : Pos} {kt k2 pt2} (h : WA X G W [a, b, c] M ρ N.xr fun M1 ds => ∃ d1 d2 d3, ds = [d1, d2, d3] ∧ N.nx M1 (((ρ.set i (some d1)).set j (some d2)).set l (some d3)))
    (hp : PS X (.Assign [.Tuple [.Name x px, .Name y py, .Name z pz] kt pt] (.Tuple [a, b, c] k2 pt2) pos) (tPar3 i j l (aT X [a, b, c]))) : WS X G W (.Assign [.Tuple [.Name x px, .Name y py, .Name z pz] kt pt] (.Tuple [a, b, c] k2 pt2) pos) M ρ N :=
  ws_of hp fun σ H a0 b0 Dn x n r bk ct => h σ H a0 b0 (xok_of x) _ fun M1 ds vs H1 h1 a1 m1 r1 => by
  obtain ⟨d1, d2, d3, rfl, h1⟩ := h1
  cases r1 with
  | cons ra rb => cases rb with
    | cons rb rc => cases rc with
      | cons rc rd => cases rd; exact ⟨_, _, _, rfl, n M1 _ _ H1 h1 a1 ((((m1.sl a0 b0).set i ra).set j rb).set l rc) m1⟩
end
section
variable {X : Cx} {G : Hp → Prop} {W : WX} {M : Ms} {ρ : Rh} {N : En} {pos : Pos} {k : Nat} {tg it : Expr} {g : TG} {as : D → Rh → (Rh → Prop) → Prop} {body : List Stmt}
/-- a for whose J knows what is walked -/
theorem ws_forL (cx : Ct X G W k) (hg : PG X tg g) (ok : GOk G X.K g as) (J : List D → Nat → Ms → Rh → Prop)
    (h : WI X G W tg it M ρ N.xr fun M1 l => J l 0 M1 ρ ∧ (∀ n z, l[n]? = some z → Turn X G W as body N (J l) n z) ∧ ∀ M' ρ', J l l.length M' ρ' → N.nx M' ρ')
    (hsf : ∀ x, foldedSetIterable it X.env x = pure x := by intro _; rfl) : WS X G W (.For tg it body [] pos) M ρ N := by
  obtain ⟨wi, hi, h⟩ := h
  refine ws_of (ps_for cx.hp cx.hc hi hg pss_wp hsf) fun σ H a0 b0 Dn x n r bk ct => h σ H a0 b0 (xok_of x) _ fun M1 l H1 Jt h1 a1 m1 wd => ?_
  obtain ⟨j0, ht, he⟩ := h1
  obtain ⟨Gd, Y, w, hG, hY⟩ := wd
  refine for_it w (fun i σ' H' => ∃ M' ρ', J l i M' ρ' ∧ AtM G X.K M' H' ∧ Sl X.K (dom M') H' σ' ρ' ∧ Mv M1 H1 M' H') ⟨M1, ρ, j0, a1, m1.sl a0 b0, Mv.refl _ _⟩ (fun i σ' H' _ ⟨M', ρ', _, ha, _, hm⟩ => hG _ _ ha hm) ?_ ?_
  · rintro i v σ' H' H3 hi ⟨M', ρ', hj, ha, hb, hm⟩ y
    obtain ⟨z, hz, ha3, hm3, rz⟩ := hY i H' M' v H3 ha hm y
    refine ok v z M' ρ' σ' H3 _ _ ha3 (hm3.sl ha hb) rz (ht i z hz M' ρ' hj) fun ρ2 σ2 hw hs => ?_
    have m13 := (m1.trans hm).trans hm3
    exact hw σ2 H3 ha3 hs _ (fun M2 H2 cls σ3 hx ha2 hm2 => x M2 H2 cls σ3 hx ha2 (m13.trans hm2)) (fun M2 ρ3 σ3 H3 hk ha2 hb2 hm2 => ⟨M2, ρ3, hk, ha2, hb2, (hm.trans hm3).trans hm2⟩)
      (fun M2 d v H2 hk ha2 hm2 => r M2 d v H2 hk ha2 (m13.trans hm2)) (fun M2 ρ3 σ3 H3 hk ha2 hb2 hm2 => n M2 ρ3 σ3 H3 hk ha2 hb2 (m13.trans hm2)) (fun M2 ρ3 σ3 H3 hk ha2 hb2 hm2 => ⟨M2, ρ3, hk, ha2, hb2, (hm.trans hm3).trans hm2⟩)
  · rintro σ' H' ⟨M', ρ', hj, ha, hb, hm⟩
    exact n M' ρ' σ' H' (he M' ρ' hj) ha hb (m1.trans hm)
end
end Wv
set_option maxRecDepth 100000
set_option maxHeartbeats 2000000
namespace Wv
open PySem PySem.Spec PyProof.Rows L2 PySem.W
/-- a value as data: itself, or a list of ours by its items -/
inductive Vw (M : Ms) : D → D → Prop
  | self (d : D) : Vw M d d
  | own {q : Addr} {l : List D} (j : Nat) (o : M[j]? = some (q, .lst l)) : Vw M (Rf q) (.lst l)
theorem dp_vw {G : Hp → Prop} {K : PySem.W.Frag} {M : Ms} {H : Hp} {x : V} {d d' : D} {n : Nat} (a : AtM G K M H) (r : Rp K (dom M) H x d) (v : Vw M d d') (p : Pl n d') : Dp K H x (pyD d') := by
  cases v with
  | self => exact Rp.dp p r
  | own j o =>
    rw [r.raw_inv]
    exact Rp.dp p (a.dropAt o).2.2
inductive CmpV (M : Ms) : CmpOp → D → D → (Bool → Prop) → Prop
  | eq {d e d' e' : D} {k : Bool → Prop} (v1 : Vw M d d') (v2 : Vw M e e') (p1 : Pl 60 d') (p2 : Pl 60 e') (h : k (eqd d' e')) : CmpV M .Eq d e k
  | ne {d e d' e' : D} {k : Bool → Prop} (v1 : Vw M d d') (v2 : Vw M e e') (p1 : Pl 60 d') (p2 : Pl 60 e') (h : k (!eqd d' e')) : CmpV M .NotEq d e k
section
variable {X : Cx} {G : Hp → Prop} {W : WX} {M : Ms} {ρ : Rh} {xr : Value → Ms → Prop} {N : En} {a b c e o : Expr} {es : List Expr} {pos p apos : Pos} {R : Ms → D → Prop} {k j : Nat}
theorem cmpV_ok (hu : X.A.units + 64 < cLine) {op : CmpOp} {x y : V} {d e : D} {H : Hp} {Q : VK} (a : AtM G X.K M H) (rx : Rp X.K (dom M) H x d) (ry : Rp X.K (dom M) H y e) (h : CmpV M op d e fun b => Q (.bl b) H) :
    rW X (compareOp op) x y H Q := by
  cases h with
  | eq v1 v2 p1 p2 h =>
    intro pins s σ v u I rv ru
    obtain ⟨as, r1⟩ := Dp.reads I _ x v (dp_vw a rx v1 p1) rv
    obtain ⟨bs, r2⟩ := Dp.reads I _ y u (dp_vw a ry v2 p2) ru
    have h1 := p1.plain.2
    exact PySem.SeqAt.eq_plain r1 r2 p1.plain.1 p2.plain.1 (by omega) ⟨.bl _, H, I, rfl, h⟩
  | ne v1 v2 p1 p2 h =>
    intro pins s σ v u I rv ru
    obtain ⟨as, r1⟩ := Dp.reads I _ x v (dp_vw a rx v1 p1) rv
    obtain ⟨bs, r2⟩ := Dp.reads I _ y u (dp_vw a ry v2 p2) ru
    have h1 := p1.plain.2
    exact PySem.SeqAt.ne_plain r1 r2 p1.plain.1 p2.plain.1 (by omega) ⟨.bl _, H, I, rfl, h⟩
theorem CmpV.imp {op : CmpOp} {d e : D} {k k' : Bool → Prop} (h : CmpV M op d e k) (f : ∀ b, k b → k' b) : CmpV M op d e k' := by
  cases h with
  | eq v1 v2 p1 p2 h => exact .eq v1 v2 p1 p2 (f _ h)
  | ne v1 v2 p1 p2 h => exact .ne v1 v2 p1 p2 (f _ h)
theorem we_cmpV (hu : X.A.units + 64 < cLine) {op : CmpOp} (h : WE X G W a M ρ xr fun M1 d => WE X G W b M1 ρ xr fun M2 e => CmpV M2 op d e fun k => R M2 (B k)) (hm : behindInMarks op b = false := by rfl) :
    WE X G W (.Compare a [op] [b] pos) M ρ xr R :=
  we_of (pe_cmpR op_rW pe_wp pe_wp hm) (tev_op (F := fun d e M R => CmpV M op d e fun k => R M (B k)) (fun M x y d e H Q a rx ry h q => cmpV_ok hu a rx ry (h.imp fun k hk => q M _ _ H hk a (Mv.refl _ _) (.raw _))) (h.run.mono fun _ _ z => z.run))
theorem wt_cmpV (hu : X.A.units + 64 < cLine) {op : CmpOp} {R : Ms → Bool → Prop} (h : WE X G W a M ρ xr fun M1 d => WE X G W b M1 ρ xr fun M2 e => CmpV M2 op d e (R M2)) (hm : behindInMarks op b = false := by rfl) :
    WT X G W (.Compare a [op] [b] pos) M ρ xr R := wt_of (pt_cmpR op_rW pe_wp pe_wp hm) fun σ H a0 b0 x Q q => by
  refine h σ H a0 b0 x _ fun M1 d v H1 h1 a1 m1 r1 => ?_
  refine h1 σ H1 a1 (m1.sl a0 b0) (x.mv m1) _ fun M2 e u H2 h2 a2 m2 r2 => ?_
  exact cmpV_ok hu a2 (m2.rp a1 r1) r2 (h2.imp fun k hk => ⟨k, rfl, q M2 k H2 hk a2 (m1.trans m2)⟩)
/-- xs.pop(i), xs a list of ours -/
theorem we_popAt (gs : Gst G) (h : WE X G W o M ρ xr fun M1 d => OwL M1 d fun _ q _ => WE X G W e M1 ρ xr fun M2 z => IsI z fun iv => OwL M2 (Rf q) fun i _ l => ∃ n y, -(2 ^ 63) ≤ iv ∧ iv < 2 ^ 63 ∧ seqIndex? iv l.length = some n ∧ l[n]? = some y ∧ R (M2.set i (q, .lst (l.eraseIdx n))) y)
    (hb : PE X (.Call (.Attribute o "pop" apos) [e] [] pos) (tBM X.K "list" rPopAt (eT X o) (aT X [e]))) (he : starEach [e] X.env = (false, eval e X.env) :: starEach [] X.env := by rfl) : WE X G W (.Call (.Attribute o "pop" apos) [e] [] pos) M ρ xr R :=
  we_of hb fun σ H a0 b0 x Q q => h σ H a0 b0 x _ fun M1 d v H1 h1 a1 m1 r1 => by
  cases h1 with
  | mk i0 hi0 h1 =>
  rename_i q0 l0
  obtain ⟨xs0, s0, _⟩ := at_ob a1 hi0
  obtain rfl := r1.raw_inv
  refine ⟨.inl ⟨rfl, xs0, SqL.of s0⟩, ?_⟩
  refine wa_one (RA := fun M2 ds => ∃ iv : Int, ds = [I iv] ∧ OwL M2 (Rf q0) fun i _ l => ∃ n y, -(2 ^ 63) ≤ iv ∧ iv < 2 ^ 63 ∧ seqIndex? iv l.length = some n ∧ l[n]? = some y ∧ R (M2.set i (q0, .lst (l.eraseIdx n))) y) (⟨fun σ H a0 b0 x Q q => h1 σ H a0 b0 x Q fun M1 d v H1 hd a1 m1 r1 => q M1 d v H1 (by cases hd with | mk h => exact ⟨_, rfl, h⟩) a1 m1 r1⟩) he σ H1 a1 (m1.sl a0 b0) (x.mv m1) _ fun M2 ds vs H2 h2 a2 m2 r2 => ?_
  obtain ⟨iv, rfl, h2⟩ := h2
  cases h2 with
  | mk i hi h2 =>
  rename_i l
  obtain ⟨n, y, z1, z2, hn, hy, hk⟩ := h2
  obtain ⟨u, rfl, ru⟩ := r2.one
  obtain rfl := ru.raw_inv
  obtain ⟨xs, s1, l1⟩ := at_ob a2 hi
  obtain ⟨w, ew, rw'⟩ := l1.get hy
  refine ⟨q0, xs, iv, n, w, rfl, rfl, s1, z1, z2, by rw [l1.length]; exact hn, ew, ?_⟩
  have hm : Mv M2 H2 M2 (upd H2 q0 (.lst (xs.eraseIdx n))) := ⟨fun b w e n _ => by
      rw [upd_ne (fun z => n (by rw [z]; exact mem_at hi))]; exact e, fun _ h => .inl h⟩
  obtain ⟨a3, m3⟩ := a2.write gs (o' := .lst (l.eraseIdx n)) hi (u := .lst (xs.eraseIdx n)) (fun _ z => by cases z) ⟨_, upd_same, (hm.rpl a2 l1).erase n⟩
  exact q _ _ _ _ hk a3 ((m1.trans m2).trans m3) (m3.rp a2 rw')
end
/-- a divisor within bounds -/
structure PosD (j : Int) : Prop where
  pos : 0 < j
  top : j < 1180591620717411303424
theorem BinD.modP {i j : Int} {k : D → Prop} (z : PosD j) (h : k (I (i % j))) : BinD .Mod (I i) (I j) k := .modI z.pos h
theorem BinD.divP {i j : Int} {k : D → Prop} (z : PosD j) (h : k (I (i / j))) : BinD .FloorDiv (I i) (I j) k := .divI z.pos z.top h
theorem PosD.len {α : Type} {l : List α} (h : 0 < l.length) (h2 : l.length ≤ 1000000) : PosD (l.length : Int) := ⟨by omega, by omega⟩
theorem seqIx {k n : Nat} (h : k < n) : seqIndex? (k : Int) n = some k := by
  unfold seqIndex?
  have h1 : ¬ ((k : Int) < 0) := by omega
  simp only [h1, if_false]
  have h2 : (decide (0 ≤ (k : Int)) && decide ((k : Int) < (n : Int))) = true := by
    simp only [Bool.and_eq_true, decide_eq_true_eq]; omega
  simp [h2, h]
section
variable {P : Program} {w : World} {K : PySem.W.Frag} {mg : Str → Option Value} {base : Heap} {G : Hp → Prop}
/-- THE RULE of a def with defaults -/
theorem gf_ofD {x qual : Str} {st : Stmt} {f : Addr} {fd : FuncData} {N ps : List Str} {k : Nat} {S : SpD} {dvs dd : List V} {dv : List Value} (F : FunD K x qual (defArgs st) (defBody st) (defScope st) dvs [] f fd) (Sc : FnScope N ps (defScope st)) (gs : Gst G) (bd : L2.Binds K fd ps dv) (dr : Vals dd dv)
    (len : ∀ ds M xr R, S ds M xr R → ds.length = ps.length)
    (hbody : ∀ (X : Cx) (W : WX) (M : Ms) (ds : List D) (xr : Value → Ms → Prop) (R : Ms → D → Prop), (∃ cdv A outer s H E, X = cxOf (L2N.CX P w) P w K mg base N qual (defScope st) f cdv A outer s H E) → Ct X G W k → S ds M xr R →
      WSs X G W (defBody st) M (startD N ds) { nx := fun M' _ => R M' N0, rt := R, bk := fun _ _ => False, ct := fun _ _ => False, xr := xr }) : Gf P w K mg base G (k + 1) f dd S := by
  refine ⟨⟨fd, ps, dv, F.ok Sc (fun vs H Q E h => ?_) (fun cdv A outer s H vs Q E hr h => ?_), bd, dr⟩, F.kp⟩
  · obtain ⟨M, ds, xr, R, _, r, hs, _⟩ := h
    rw [r.length]; exact len _ _ _ _ hs
  · obtain ⟨M, ds, xr, R, a, r, hs, q, e⟩ := h
    refine ⟨_, pss_wp, ?_⟩
    refine hbody _ (fun cls d _ H => E cls d H) M ds xr R ⟨cdv, A, outer, s, H, E, rfl⟩ ⟨gs, L2N.takes_of rfl rfl rfl rfl, hr, passes_of rfl, rfl, Sc.nd⟩ hs _ H a (sl_start r) _ (fun M' H' cls σ' hx ha hm => e cls M' H' hx ha hm)
      (fun M' ρ' σ' H' hk ha hb hm => q M' _ _ H' hk ha hm (.raw _)) (fun M' d v H' hk ha hm hr => q M' d v H' hk ha hm hr) (fun _ _ _ _ h => h.elim) (fun _ _ _ _ h => h.elim)
end
end Wv
set_option maxRecDepth 100000
set_option maxHeartbeats 4000000

namespace K02
open PySem PySem.Spec PyProof.Rows L2 Wv
open LamX (CodeO TabS Tabs ExtN TabB lamEnv lamCx LamS)
local macro_rules | `(tactic| walk_at "e.name") => `(tactic| first
    | refine we_var 0 _ rfl (by first | exact .inl rfl | exact .inr (.inl rfl) | exact .inr (.inr rfl)) rfl ?_
    | refine we_var 1 _ rfl (by first | exact .inl rfl | exact .inr (.inl rfl) | exact .inr (.inr rfl)) rfl ?_
    | refine we_var 2 _ rfl (by first | exact .inl rfl | exact .inr (.inl rfl) | exact .inr (.inr rfl)) rfl ?_
    | refine we_var 3 _ rfl (by first | exact .inl rfl | exact .inr (.inl rfl) | exact .inr (.inr rfl)) rfl ?_
    | refine we_var 4 _ rfl (by first | exact .inl rfl | exact .inr (.inl rfl) | exact .inr (.inr rfl)) rfl ?_
    | refine we_var 5 _ rfl (by first | exact .inl rfl | exact .inr (.inl rfl) | exact .inr (.inr rfl)) rfl ?_
    | refine we_var 6 _ rfl (by first | exact .inl rfl | exact .inr (.inl rfl) | exact .inr (.inr rfl)) rfl ?_
    | refine we_var 7 _ rfl (by first | exact .inl rfl | exact .inr (.inl rfl) | exact .inr (.inr rfl)) rfl ?_
    | refine we_var 8 _ rfl (by first | exact .inl rfl | exact .inr (.inl rfl) | exact .inr (.inr rfl)) rfl ?_
    | refine we_var 9 _ rfl (by first | exact .inl rfl | exact .inr (.inl rfl) | exact .inr (.inr rfl)) rfl ?_
    | refine we_var 10 _ rfl (by first | exact .inl rfl | exact .inr (.inl rfl) | exact .inr (.inr rfl)) rfl ?_
    | refine we_var 11 _ rfl (by first | exact .inl rfl | exact .inr (.inl rfl) | exact .inr (.inr rfl)) rfl ?_
    | refine we_var 12 _ rfl (by first | exact .inl rfl | exact .inr (.inl rfl) | exact .inr (.inr rfl)) rfl ?_
    | refine we_var 13 _ rfl (by first | exact .inl rfl | exact .inr (.inl rfl) | exact .inr (.inr rfl)) rfl ?_
    | refine we_var 14 _ rfl (by first | exact .inl rfl | exact .inr (.inl rfl) | exact .inr (.inr rfl)) rfl ?_
    | refine we_var 15 _ rfl (by first | exact .inl rfl | exact .inr (.inl rfl) | exact .inr (.inr rfl)) rfl ?_
    | refine we_var 16 _ rfl (by first | exact .inl rfl | exact .inr (.inl rfl) | exact .inr (.inr rfl)) rfl ?_
    | refine we_var 17 _ rfl (by first | exact .inl rfl | exact .inr (.inl rfl) | exact .inr (.inr rfl)) rfl ?_
    | refine we_var 18 _ rfl (by first | exact .inl rfl | exact .inr (.inl rfl) | exact .inr (.inr rfl)) rfl ?_
    | refine we_var 19 _ rfl (by first | exact .inl rfl | exact .inr (.inl rfl) | exact .inr (.inr rfl)) rfl ?_
    | refine we_var 20 _ rfl (by first | exact .inl rfl | exact .inr (.inl rfl) | exact .inr (.inr rfl)) rfl ?_
    | refine we_var 21 _ rfl (by first | exact .inl rfl | exact .inr (.inl rfl) | exact .inr (.inr rfl)) rfl ?_
    | refine we_globI (by assumption) rfl ?_
    | refine we_globS (by assumption) rfl ?_)
local macro_rules | `(tactic| walk_at "e.const") => `(tactic| first
    | refine we_int ?_
    | refine we_str ?_
    | refine we_bl ?_
    | refine we_non ?_)
local macro_rules | `(tactic| walk_at "e.call") => `(tactic| first
    | refine we_len (by assumption) rfl ?_
    | refine we_int2 (by assumption) rfl ?_
    | refine we_tuple (Ct.gs (by assumption)) (by assumption) rfl ?_
    | refine we_abs (by assumption) rfl ?_
    | refine we_find ?_)
local macro_rules | `(tactic| walk_at "e.we") => `(tactic| first
    | (refine gNm ?_; walk_at "e.name")
    | (refine gConst ?_; walk_at "e.const")
    | refine we_bin (Ct.gs (by assumption)) ?_
    | (refine gCall ?_; walk_at "e.call")
    | refine we_cmp (Ct.hu (by assumption)) ?_
    | refine we_ix ?_
    | refine we_slice (Ct.gs (by assumption)) ?_
    | refine we_fld ?_
    | refine we_tup (Ct.gs (by assumption)) ?_
    | refine we_chain (Ct.hu (by assumption)) ?_
    | refine we_lst1 (Ct.gs (by assumption)) ?_
    | refine we_ifx ?_
    | refine we_and ?_
    | refine we_or ?_
    | refine we_one ?_
    | refine we_not ?_
    | refine we_neg ?_)
local macro_rules | `(tactic| walk_at "e.wt") => `(tactic| first
    | refine wt_cmp (Ct.hu (by assumption)) ?_
    | refine wt_chain (Ct.hu (by assumption)) ?_
    | refine wt_not ?_
    | refine wt_bool ?_
    | refine wt_val ?_)
local macro_rules | `(tactic| walk_at "e.ww") => `(tactic| first
    | refine ww_and ?_
    | refine ww_or ?_
    | refine ww_and1 ?_
    | refine ww_or1 ?_)
local macro_rules | `(tactic| walk_at "e.wa") => `(tactic| first
    | refine wa_nil ?_
    | refine wa_cons ?_)
local macro_rules | `(tactic| walk_at "e.wss") => `(tactic| first
    | refine wss_cons ?_
    | refine wss_nil ?_)
local macro_rules | `(tactic| walk_at "e.ws") => `(tactic| first
    | refine ws_if ?_
    | refine ws_expr (we_append (Ct.gs (by assumption)) ?_ (pe_bm PySem.F.plainAttrs_list PySem.F.slot_list_append PySem.F.type_list_append mt_append pe_wp pa_wp))
    | refine ws_expr ?_
    | refine ws_set 0 (Ct.nd (by assumption)) ?_
    | refine ws_set 1 (Ct.nd (by assumption)) ?_
    | refine ws_set 2 (Ct.nd (by assumption)) ?_
    | refine ws_set 3 (Ct.nd (by assumption)) ?_
    | refine ws_set 4 (Ct.nd (by assumption)) ?_
    | refine ws_set 5 (Ct.nd (by assumption)) ?_
    | refine ws_set 6 (Ct.nd (by assumption)) ?_
    | refine ws_set 7 (Ct.nd (by assumption)) ?_
    | refine ws_set 8 (Ct.nd (by assumption)) ?_
    | refine ws_set 9 (Ct.nd (by assumption)) ?_
    | refine ws_set 10 (Ct.nd (by assumption)) ?_
    | refine ws_set 11 (Ct.nd (by assumption)) ?_
    | refine ws_set 12 (Ct.nd (by assumption)) ?_
    | refine ws_set 13 (Ct.nd (by assumption)) ?_
    | refine ws_set 14 (Ct.nd (by assumption)) ?_
    | refine ws_set 15 (Ct.nd (by assumption)) ?_
    | refine ws_set 16 (Ct.nd (by assumption)) ?_
    | refine ws_set 17 (Ct.nd (by assumption)) ?_
    | refine ws_set 18 (Ct.nd (by assumption)) ?_
    | refine ws_set 19 (Ct.nd (by assumption)) ?_
    | refine ws_set 20 (Ct.nd (by assumption)) ?_
    | refine ws_set 21 (Ct.nd (by assumption)) ?_
    | refine ws_sub (Ct.gs (by assumption)) ?_ (fun a b => pg_sub a b set_list)
    | refine ws_fld (Ct.gs (by assumption)) ?_
    | refine ws_pass ?_
    | refine ws_break ?_
    | refine ws_cont ?_)
local macro_rules | `(tactic| walk_at "e.bin") => `(tactic| first
    | refine BinD.addI ?_
    | refine BinD.subI ?_
    | refine BinD.modI (by decide) ?_
    | refine BinD.modI (by assumption) ?_
    | refine BinD.divI (by decide) (by decide) ?_
    | refine BinD.divI (by assumption) (by assumption) ?_
    | refine BinD.mulI (by first | exact .inl ⟨by decide, by decide⟩ | exact .inr ⟨by decide, by decide⟩) ?_
    | refine BinD.xorI ?_
    | refine BinD.powI ⟨by decide, by decide, by decide⟩ ?_)
local macro_rules | `(tactic| walk_at "e.cmp") => `(tactic| first
    | refine CmpD.lt ?_
    | refine CmpD.le ?_
    | refine CmpD.gt ?_
    | refine CmpD.ge ?_
    | refine CmpD.isN ?_
    | refine CmpD.notN ?_
    | refine CmpD.neI_s ?_
    | refine CmpD.neT_s ?_
    | refine CmpD.neZ_s ?_
    | refine CmpD.eqZ_s ?_
    | refine CmpD.neN_s ?_
    | refine CmpD.eqN_s ?_
    | refine CmpD.neTZ ?_
    | refine CmpD.eqTZ ?_
    | refine CmpD.eqI ?_
    | refine CmpD.neI ?_
    | refine CmpD.eqZ ?_
    | refine CmpD.neZ ?_)
local macro_rules | `(tactic| walk_at "e.is") => `(tactic| first
    | refine IsI.mk ?_
    | refine IsT.mk ?_
    | refine IsL.mk ?_
    | refine IsZ.mk ?_
    | refine IsB.mk ?_
    | refine OwL.mk 0 rfl ?_
    | refine OwL.mk 1 rfl ?_
    | refine OwL.mk 2 rfl ?_
    | refine OwL.mk 3 rfl ?_
    | refine OwL.mk 4 rfl ?_
    | refine OwL.mk 5 rfl ?_
    | refine OwI.mk 0 rfl ?_
    | refine OwI.mk 1 rfl ?_
    | refine OwI.mk 2 rfl ?_
    | refine OwI.mk 3 rfl ?_
    | refine OwI.mk 4 rfl ?_
    | refine OwI.mk 5 rfl ?_
    | refine OwI.mk _ (by assumption) ?_
    | refine OwI.mk _ (set_at (by assumption)) ?_
    | refine OwI.mk _ (set_at (set_at (by assumption))) ?_
    | refine OwL.mk _ (by assumption) ?_
    | refine OwL.mk _ (set_at (by assumption)) ?_
    | refine OwL.mk _ (set_at (set_at (by assumption))) ?_
    | refine OwL.mk _ (set_at (set_at (set_at (by assumption)))) ?_
    | refine IxD.own 0 rfl rfl ?_
    | refine IxD.own 1 rfl rfl ?_
    | refine IxD.own 2 rfl rfl ?_
    | refine IxD.own 3 rfl rfl ?_
    | refine IxD.own 4 rfl rfl ?_
    | refine IxD.own 5 rfl rfl ?_
    | refine IxD.own _ (by assumption) rfl ?_
    | refine IxD.own _ (set_at (by assumption)) rfl ?_
    | refine IxD.own _ (set_at (set_at (by assumption))) rfl ?_
    | refine IxD.own _ (set_at (set_at (set_at (by assumption)))) rfl ?_
    | refine IxD.tup rfl ?_
    | refine IxD.lst rfl ?_
    | refine IntD.int ?_
    | refine IntD.bl ?_
    | refine TruD.bl ?_
    | refine TruD.int ?_
    | refine TruD.tup ?_
    | refine TruD.lst ?_
    | refine LenD.tup ?_
    | refine LenD.lst ?_
    | refine SeqD.tup ?_
    | refine SeqD.lst ?_
    | refine SlD.tup ?_
    | refine SlD.lst ?_
    | refine SeqD.own 0 rfl ?_
    | refine SeqD.own 1 rfl ?_
    | refine SeqD.own 2 rfl ?_
    | refine SeqD.own 3 rfl ?_
    | refine SeqD.own 4 rfl ?_
    | refine SeqD.own 5 rfl ?_
    | refine LenD.own 0 rfl ?_
    | refine LenD.own 1 rfl ?_
    | refine LenD.own 2 rfl ?_
    | refine LenD.own 3 rfl ?_
    | refine LenD.own 4 rfl ?_
    | refine LenD.own 5 rfl ?_)
local macro_rules | `(tactic| walk_at "e1") => `(tactic| first
    | (refine gWE ?_; walk_at "e.we")
    | (refine gBinD ?_; walk_at "e.bin")
    | (refine gWSs ?_; walk_at "e.wss")
    | (refine gWS ?_; walk_at "e.ws")
    | (refine gWT ?_; walk_at "e.wt")
    | (refine gCmpD ?_; walk_at "e.cmp")
    | (refine gWA ?_; walk_at "e.wa")
    | (refine gWW ?_; walk_at "e.ww")
    | refine iteT ?_
    | refine iteF ?_
    | walk_at "e.is")
local macro_rules | `(tactic| walk_at "e") => `(tactic| repeat (walk_at "e1"))
def topS (i : Nat) : Stmt := PySem.Challenge.pw_wirestack_k02_frames_in_a_row_of_bytes.main.body.getD i (.Pass ⟨0, 0, 0, 0⟩)
abbrev c_NetError : Stmt := topS 2
abbrev c_OctetError : Stmt := topS 3
abbrev s_told_sums : Stmt := topS 6
abbrev N_told_sums : List Str := ["first", "second", "one", "two"]
theorem sc_told_sums : FnScope N_told_sums ["first", "second"] (defScope s_told_sums) := ⟨rfl, rfl, rfl, by decide +kernel, rfl, by decide +kernel, by decide +kernel⟩
abbrev s_sum_bytes : Stmt := topS 7
abbrev N_sum_bytes : List Str := ["data", "first", "second", "byte"]
theorem sc_sum_bytes : FnScope N_sum_bytes ["data"] (defScope s_sum_bytes) := ⟨rfl, rfl, rfl, by decide +kernel, rfl, by decide +kernel, by decide +kernel⟩
abbrev s_stuffed : Stmt := topS 15
abbrev N_stuffed : List Str := ["data", "found"]
theorem sc_stuffed : FnScope N_stuffed ["data"] (defScope s_stuffed) := ⟨rfl, rfl, rfl, by decide +kernel, rfl, by decide +kernel, by decide +kernel⟩
abbrev s_escaped_bytes : Stmt := topS 16
abbrev N_escaped_bytes : List Str := ["data", "sign", "found", "begin", "_", "end"]
theorem sc_escaped_bytes : FnScope N_escaped_bytes ["data", "sign"] (defScope s_escaped_bytes) := ⟨rfl, rfl, rfl, by decide +kernel, rfl, by decide +kernel, by decide +kernel⟩
abbrev s_frame_bytes : Stmt := topS 17
abbrev N_frame_bytes : List Str := ["payload"]
theorem sc_frame_bytes : FnScope N_frame_bytes ["payload"] (defScope s_frame_bytes) := ⟨rfl, rfl, rfl, by decide +kernel, rfl, by decide +kernel, by decide +kernel⟩
abbrev c_Deframer : Stmt := topS 18
abbrev s_Deframer_init : Stmt := inClass (topS 18) 0
abbrev N_Deframer_init : List Str := ["self"]
theorem sc_Deframer_init : FnScope N_Deframer_init ["self"] (defScope s_Deframer_init) := ⟨rfl, rfl, rfl, by decide +kernel, rfl, by decide +kernel, by decide +kernel⟩
abbrev s_Deframer_feed : Stmt := inClass (topS 18) 1
abbrev N_Deframer_feed : List Str := ["self", "data", "found", "begin", "_", "end", "payload"]
theorem sc_Deframer_feed : FnScope N_Deframer_feed ["self", "data"] (defScope s_Deframer_feed) := ⟨rfl, rfl, rfl, by decide +kernel, rfl, by decide +kernel, by decide +kernel⟩
abbrev s_Deframer_take_all : Stmt := inClass (topS 18) 2
abbrev N_Deframer_take_all : List Str := ["self", "data", "rest", "end"]
theorem sc_Deframer_take_all : FnScope N_Deframer_take_all ["self", "data"] (defScope s_Deframer_take_all) := ⟨rfl, rfl, rfl, by decide +kernel, rfl, by decide +kernel, by decide +kernel⟩
abbrev s_Deframer_take : Stmt := inClass (topS 18) 3
abbrev N_Deframer_take : List Str := ["self", "byte"]
theorem sc_Deframer_take : FnScope N_Deframer_take ["self", "byte"] (defScope s_Deframer_take) := ⟨rfl, rfl, rfl, by decide +kernel, rfl, by decide +kernel, by decide +kernel⟩
abbrev s_Deframer_end_frame : Stmt := inClass (topS 18) 4
abbrev N_Deframer_end_frame : List Str := ["self", "data", "held", "escaped", "payload", "told"]
theorem sc_Deframer_end_frame : FnScope N_Deframer_end_frame ["self", "data"] (defScope s_Deframer_end_frame) := ⟨rfl, rfl, rfl, by decide +kernel, rfl, by decide +kernel, by decide +kernel⟩
abbrev s_Deframer_begin : Stmt := inClass (topS 18) 5
abbrev N_Deframer_begin : List Str := ["self"]
theorem sc_Deframer_begin : FnScope N_Deframer_begin ["self"] (defScope s_Deframer_begin) := ⟨rfl, rfl, rfl, by decide +kernel, rfl, by decide +kernel, by decide +kernel⟩
abbrev s_Deframer_skip_frame : Stmt := inClass (topS 18) 6
abbrev N_Deframer_skip_frame : List Str := ["self"]
theorem sc_Deframer_skip_frame : FnScope N_Deframer_skip_frame ["self"] (defScope s_Deframer_skip_frame) := ⟨rfl, rfl, rfl, by decide +kernel, rfl, by decide +kernel, by decide +kernel⟩
abbrev s_payloads_in : Stmt := topS 19
abbrev N_payloads_in : List Str := ["data"]
theorem sc_payloads_in : FnScope N_payloads_in ["data"] (defScope s_payloads_in) := ⟨rfl, rfl, rfl, by decide +kernel, rfl, by decide +kernel, by decide +kernel⟩
abbrev s_law_dice : Stmt := topS 21
abbrev N_law_dice : List Str := ["cell"]
theorem sc_law_dice : FnScope N_law_dice ["cell"] (defScope s_law_dice) := ⟨rfl, rfl, rfl, by decide +kernel, rfl, by decide +kernel, by decide +kernel⟩
abbrev s_law_roll : Stmt := topS 22
abbrev N_law_roll : List Str := ["dice", "many", "found"]
theorem sc_law_roll : FnScope N_law_roll ["dice", "many"] (defScope s_law_roll) := ⟨rfl, rfl, rfl, by decide +kernel, rfl, by decide +kernel, by decide +kernel⟩
abbrev s_law_rounds : Stmt := topS 23
abbrev N_law_rounds : List Str := ["script", "most", "cells", "cell"]
theorem sc_law_rounds : FnScope N_law_rounds ["script", "most"] (defScope s_law_rounds) := ⟨rfl, rfl, rfl, by decide +kernel, rfl, by decide +kernel, by decide +kernel⟩
abbrev s_law_told : Stmt := topS 24
abbrev N_law_told : List Str := ["what"]
theorem sc_law_told : FnScope N_law_told ["what"] (defScope s_law_told) := ⟨rfl, rfl, rfl, by decide +kernel, rfl, by decide +kernel, by decide +kernel⟩
abbrev s_law_sums : Stmt := topS 25
abbrev N_law_sums : List Str := ["data", "first", "second", "byte"]
theorem sc_law_sums : FnScope N_law_sums ["data"] (defScope s_law_sums) := ⟨rfl, rfl, rfl, by decide +kernel, rfl, by decide +kernel, by decide +kernel⟩
abbrev s_law_frame : Stmt := topS 26
abbrev N_law_frame : List Str := ["data", "found", "byte"]
theorem sc_law_frame : FnScope N_law_frame ["data"] (defScope s_law_frame) := ⟨rfl, rfl, rfl, by decide +kernel, rfl, by decide +kernel, by decide +kernel⟩
abbrev s_law : Stmt := topS 27
abbrev N_law : List Str := ["script", "dice", "payloads", "row", "k", "payload", "deframer", "found", "place", "many", "first", "rest", "spot", "byte", "plain", "bent", "reader", "rubbish", "other", "cut", "long", "j"]
theorem sc_law : FnScope N_law ["script"] (defScope s_law) := ⟨rfl, rfl, rfl, by decide +kernel, rfl, by decide +kernel, by decide +kernel⟩

end K02
set_option maxRecDepth 100000
set_option maxHeartbeats 4000000

namespace K02
open PySem PySem.Spec PyProof.Rows L2 Wv
open LamX (CodeO TabS Tabs ExtN TabB lamEnv lamCx LamS)
local macro_rules | `(tactic| walk_at "e.name") => `(tactic| first
    | refine we_var 0 _ rfl (by first | exact .inl rfl | exact .inr (.inl rfl) | exact .inr (.inr rfl)) rfl ?_
    | refine we_var 1 _ rfl (by first | exact .inl rfl | exact .inr (.inl rfl) | exact .inr (.inr rfl)) rfl ?_
    | refine we_var 2 _ rfl (by first | exact .inl rfl | exact .inr (.inl rfl) | exact .inr (.inr rfl)) rfl ?_
    | refine we_var 3 _ rfl (by first | exact .inl rfl | exact .inr (.inl rfl) | exact .inr (.inr rfl)) rfl ?_
    | refine we_var 4 _ rfl (by first | exact .inl rfl | exact .inr (.inl rfl) | exact .inr (.inr rfl)) rfl ?_
    | refine we_var 5 _ rfl (by first | exact .inl rfl | exact .inr (.inl rfl) | exact .inr (.inr rfl)) rfl ?_
    | refine we_var 6 _ rfl (by first | exact .inl rfl | exact .inr (.inl rfl) | exact .inr (.inr rfl)) rfl ?_
    | refine we_var 7 _ rfl (by first | exact .inl rfl | exact .inr (.inl rfl) | exact .inr (.inr rfl)) rfl ?_
    | refine we_var 8 _ rfl (by first | exact .inl rfl | exact .inr (.inl rfl) | exact .inr (.inr rfl)) rfl ?_
    | refine we_var 9 _ rfl (by first | exact .inl rfl | exact .inr (.inl rfl) | exact .inr (.inr rfl)) rfl ?_
    | refine we_var 10 _ rfl (by first | exact .inl rfl | exact .inr (.inl rfl) | exact .inr (.inr rfl)) rfl ?_
    | refine we_var 11 _ rfl (by first | exact .inl rfl | exact .inr (.inl rfl) | exact .inr (.inr rfl)) rfl ?_
    | refine we_var 12 _ rfl (by first | exact .inl rfl | exact .inr (.inl rfl) | exact .inr (.inr rfl)) rfl ?_
    | refine we_var 13 _ rfl (by first | exact .inl rfl | exact .inr (.inl rfl) | exact .inr (.inr rfl)) rfl ?_
    | refine we_var 14 _ rfl (by first | exact .inl rfl | exact .inr (.inl rfl) | exact .inr (.inr rfl)) rfl ?_
    | refine we_var 15 _ rfl (by first | exact .inl rfl | exact .inr (.inl rfl) | exact .inr (.inr rfl)) rfl ?_
    | refine we_var 16 _ rfl (by first | exact .inl rfl | exact .inr (.inl rfl) | exact .inr (.inr rfl)) rfl ?_
    | refine we_var 17 _ rfl (by first | exact .inl rfl | exact .inr (.inl rfl) | exact .inr (.inr rfl)) rfl ?_
    | refine we_var 18 _ rfl (by first | exact .inl rfl | exact .inr (.inl rfl) | exact .inr (.inr rfl)) rfl ?_
    | refine we_var 19 _ rfl (by first | exact .inl rfl | exact .inr (.inl rfl) | exact .inr (.inr rfl)) rfl ?_
    | refine we_var 20 _ rfl (by first | exact .inl rfl | exact .inr (.inl rfl) | exact .inr (.inr rfl)) rfl ?_
    | refine we_var 21 _ rfl (by first | exact .inl rfl | exact .inr (.inl rfl) | exact .inr (.inr rfl)) rfl ?_
    | refine we_globI (by assumption) rfl ?_
    | refine we_globS (by assumption) rfl ?_)
local macro_rules | `(tactic| walk_at "e.const") => `(tactic| first
    | refine we_int ?_
    | refine we_str ?_
    | refine we_bl ?_
    | refine we_non ?_)
local macro_rules | `(tactic| walk_at "e.call") => `(tactic| first
    | refine we_len (by assumption) rfl ?_
    | refine we_int2 (by assumption) rfl ?_
    | refine we_tuple (Ct.gs (by assumption)) (by assumption) rfl ?_
    | refine we_abs (by assumption) rfl ?_
    | refine we_find ?_)
local macro_rules | `(tactic| walk_at "e.we") => `(tactic| first
    | (refine gNm ?_; walk_at "e.name")
    | (refine gConst ?_; walk_at "e.const")
    | refine we_bin (Ct.gs (by assumption)) ?_
    | (refine gCall ?_; walk_at "e.call")
    | refine we_cmp (Ct.hu (by assumption)) ?_
    | refine we_ix ?_
    | refine we_slice (Ct.gs (by assumption)) ?_
    | refine we_fld ?_
    | refine we_tup (Ct.gs (by assumption)) ?_
    | refine we_chain (Ct.hu (by assumption)) ?_
    | refine we_lst1 (Ct.gs (by assumption)) ?_
    | refine we_ifx ?_
    | refine we_and ?_
    | refine we_or ?_
    | refine we_one ?_
    | refine we_not ?_
    | refine we_neg ?_)
local macro_rules | `(tactic| walk_at "e.wt") => `(tactic| first
    | refine wt_cmp (Ct.hu (by assumption)) ?_
    | refine wt_chain (Ct.hu (by assumption)) ?_
    | refine wt_not ?_
    | refine wt_bool ?_
    | refine wt_val ?_)
local macro_rules | `(tactic| walk_at "e.ww") => `(tactic| first
    | refine ww_and ?_
    | refine ww_or ?_
    | refine ww_and1 ?_
    | refine ww_or1 ?_)
local macro_rules | `(tactic| walk_at "e.wa") => `(tactic| first
    | refine wa_nil ?_
    | refine wa_cons ?_)
local macro_rules | `(tactic| walk_at "e.wss") => `(tactic| first
    | refine wss_cons ?_
    | refine wss_nil ?_)
local macro_rules | `(tactic| walk_at "e.ws") => `(tactic| first
    | refine ws_if ?_
    | refine ws_expr (we_append (Ct.gs (by assumption)) ?_ (pe_bm PySem.F.plainAttrs_list PySem.F.slot_list_append PySem.F.type_list_append mt_append pe_wp pa_wp))
    | refine ws_expr ?_
    | refine ws_set 0 (Ct.nd (by assumption)) ?_
    | refine ws_set 1 (Ct.nd (by assumption)) ?_
    | refine ws_set 2 (Ct.nd (by assumption)) ?_
    | refine ws_set 3 (Ct.nd (by assumption)) ?_
    | refine ws_set 4 (Ct.nd (by assumption)) ?_
    | refine ws_set 5 (Ct.nd (by assumption)) ?_
    | refine ws_set 6 (Ct.nd (by assumption)) ?_
    | refine ws_set 7 (Ct.nd (by assumption)) ?_
    | refine ws_set 8 (Ct.nd (by assumption)) ?_
    | refine ws_set 9 (Ct.nd (by assumption)) ?_
    | refine ws_set 10 (Ct.nd (by assumption)) ?_
    | refine ws_set 11 (Ct.nd (by assumption)) ?_
    | refine ws_set 12 (Ct.nd (by assumption)) ?_
    | refine ws_set 13 (Ct.nd (by assumption)) ?_
    | refine ws_set 14 (Ct.nd (by assumption)) ?_
    | refine ws_set 15 (Ct.nd (by assumption)) ?_
    | refine ws_set 16 (Ct.nd (by assumption)) ?_
    | refine ws_set 17 (Ct.nd (by assumption)) ?_
    | refine ws_set 18 (Ct.nd (by assumption)) ?_
    | refine ws_set 19 (Ct.nd (by assumption)) ?_
    | refine ws_set 20 (Ct.nd (by assumption)) ?_
    | refine ws_set 21 (Ct.nd (by assumption)) ?_
    | refine ws_sub (Ct.gs (by assumption)) ?_ (fun a b => pg_sub a b set_list)
    | refine ws_fld (Ct.gs (by assumption)) ?_
    | refine ws_pass ?_
    | refine ws_break ?_
    | refine ws_cont ?_)
local macro_rules | `(tactic| walk_at "e.bin") => `(tactic| first
    | refine BinD.addI ?_
    | refine BinD.subI ?_
    | refine BinD.modI (by decide) ?_
    | refine BinD.modI (by assumption) ?_
    | refine BinD.divI (by decide) (by decide) ?_
    | refine BinD.divI (by assumption) (by assumption) ?_
    | refine BinD.mulI (by first | exact .inl ⟨by decide, by decide⟩ | exact .inr ⟨by decide, by decide⟩) ?_
    | refine BinD.xorI ?_
    | refine BinD.powI ⟨by decide, by decide, by decide⟩ ?_)
local macro_rules | `(tactic| walk_at "e.cmp") => `(tactic| first
    | refine CmpD.lt ?_
    | refine CmpD.le ?_
    | refine CmpD.gt ?_
    | refine CmpD.ge ?_
    | refine CmpD.isN ?_
    | refine CmpD.notN ?_
    | refine CmpD.neI_s ?_
    | refine CmpD.neT_s ?_
    | refine CmpD.neZ_s ?_
    | refine CmpD.eqZ_s ?_
    | refine CmpD.neN_s ?_
    | refine CmpD.eqN_s ?_
    | refine CmpD.neTZ ?_
    | refine CmpD.eqTZ ?_
    | refine CmpD.eqI ?_
    | refine CmpD.neI ?_
    | refine CmpD.eqZ ?_
    | refine CmpD.neZ ?_)
local macro_rules | `(tactic| walk_at "e.is") => `(tactic| first
    | refine IsI.mk ?_
    | refine IsT.mk ?_
    | refine IsL.mk ?_
    | refine IsZ.mk ?_
    | refine IsB.mk ?_
    | refine OwL.mk 0 rfl ?_
    | refine OwL.mk 1 rfl ?_
    | refine OwL.mk 2 rfl ?_
    | refine OwL.mk 3 rfl ?_
    | refine OwL.mk 4 rfl ?_
    | refine OwL.mk 5 rfl ?_
    | refine OwI.mk 0 rfl ?_
    | refine OwI.mk 1 rfl ?_
    | refine OwI.mk 2 rfl ?_
    | refine OwI.mk 3 rfl ?_
    | refine OwI.mk 4 rfl ?_
    | refine OwI.mk 5 rfl ?_
    | refine OwI.mk _ (by assumption) ?_
    | refine OwI.mk _ (set_at (by assumption)) ?_
    | refine OwI.mk _ (set_at (set_at (by assumption))) ?_
    | refine OwL.mk _ (by assumption) ?_
    | refine OwL.mk _ (set_at (by assumption)) ?_
    | refine OwL.mk _ (set_at (set_at (by assumption))) ?_
    | refine OwL.mk _ (set_at (set_at (set_at (by assumption)))) ?_
    | refine IxD.own 0 rfl rfl ?_
    | refine IxD.own 1 rfl rfl ?_
    | refine IxD.own 2 rfl rfl ?_
    | refine IxD.own 3 rfl rfl ?_
    | refine IxD.own 4 rfl rfl ?_
    | refine IxD.own 5 rfl rfl ?_
    | refine IxD.own _ (by assumption) rfl ?_
    | refine IxD.own _ (set_at (by assumption)) rfl ?_
    | refine IxD.own _ (set_at (set_at (by assumption))) rfl ?_
    | refine IxD.own _ (set_at (set_at (set_at (by assumption)))) rfl ?_
    | refine IxD.tup rfl ?_
    | refine IxD.lst rfl ?_
    | refine IntD.int ?_
    | refine IntD.bl ?_
    | refine TruD.bl ?_
    | refine TruD.int ?_
    | refine TruD.tup ?_
    | refine TruD.lst ?_
    | refine LenD.tup ?_
    | refine LenD.lst ?_
    | refine SeqD.tup ?_
    | refine SeqD.lst ?_
    | refine SlD.tup ?_
    | refine SlD.lst ?_
    | refine SeqD.own 0 rfl ?_
    | refine SeqD.own 1 rfl ?_
    | refine SeqD.own 2 rfl ?_
    | refine SeqD.own 3 rfl ?_
    | refine SeqD.own 4 rfl ?_
    | refine SeqD.own 5 rfl ?_
    | refine LenD.own 0 rfl ?_
    | refine LenD.own 1 rfl ?_
    | refine LenD.own 2 rfl ?_
    | refine LenD.own 3 rfl ?_
    | refine LenD.own 4 rfl ?_
    | refine LenD.own 5 rfl ?_)
local macro_rules | `(tactic| walk_at "e1") => `(tactic| first
    | (refine gWE ?_; walk_at "e.we")
    | (refine gBinD ?_; walk_at "e.bin")
    | (refine gWSs ?_; walk_at "e.wss")
    | (refine gWS ?_; walk_at "e.ws")
    | (refine gWT ?_; walk_at "e.wt")
    | (refine gCmpD ?_; walk_at "e.cmp")
    | (refine gWA ?_; walk_at "e.wa")
    | (refine gWW ?_; walk_at "e.ww")
    | refine iteT ?_
    | refine iteF ?_
    | walk_at "e.is")
local macro_rules | `(tactic| walk_at "e") => `(tactic| repeat (walk_at "e1"))
/-! ### the mathematics of octets -/
theorem map_at {α β : Type} {f : α → β} {l : List α} {n : Nat} {z : β} (h : (l.map f)[n]? = some z) : ∃ b, l[n]? = some b ∧ z = f b := by
  rw [List.getElem?_map] at h
  cases e : l[n]? with
  | none => rw [e] at h; cases h
  | some b => rw [e] at h; cases h; exact ⟨b, rfl, rfl⟩
theorem take_succ {α : Type} {l : List α} {i : Nat} {x : α} (h : l[i]? = some x) : l.take (i + 1) = l.take i ++ [x] := by
  rw [List.take_add_one, h]; rfl
def sumStep (s : Int × Int) (b : Int) : Int × Int := ((s.1 + b) % 65521, (s.2 + (s.1 + b) % 65521) % 65521)
def sumS (bs : List Int) : Int × Int := bs.foldl sumStep (1, 0)
theorem sumS_more {bs : List Int} {n : Nat} {b : Int} (h : bs[n]? = some b) : sumS (bs.take (n + 1)) = sumStep (sumS (bs.take n)) b := by
  rw [take_succ h]; unfold sumS; rw [List.foldl_append]; rfl
theorem sumS_range (bs : List Int) : 0 ≤ (sumS bs).1 ∧ (sumS bs).1 < 65521 ∧ 0 ≤ (sumS bs).2 ∧ (sumS bs).2 < 65521 := by
  unfold sumS
  have : ∀ (l : List Int) (s : Int × Int), 0 ≤ s.1 ∧ s.1 < 65521 ∧ 0 ≤ s.2 ∧ s.2 < 65521 → 0 ≤ (l.foldl sumStep s).1 ∧ (l.foldl sumStep s).1 < 65521 ∧ 0 ≤ (l.foldl sumStep s).2 ∧ (l.foldl sumStep s).2 < 65521 := by
    intro l
    induction l with
    | nil => intro s h; exact h
    | cons b l ih => intro s h; exact ih _ (by unfold sumStep; omega)
  exact this bs _ (by decide)
def sumL (bs : List Int) : List Int := [(sumS bs).2 / 256, (sumS bs).2 % 256, (sumS bs).1 / 256, (sumS bs).1 % 256]
/-! ### promises -/
def rawStep (s : Int × Int) (b : Int) : Int × Int := (s.1 + b, s.2 + (s.1 + b))
def rawS (bs : List Int) : Int × Int := bs.foldl rawStep (1, 0)
theorem rawS_more {bs : List Int} {n : Nat} {b : Int} (h : bs[n]? = some b) : rawS (bs.take (n + 1)) = rawStep (rawS (bs.take n)) b := by
  rw [take_succ h]; unfold rawS; rw [List.foldl_append]; rfl
theorem sumS_raw (bs : List Int) : sumS bs = ((rawS bs).1 % 65521, (rawS bs).2 % 65521) := by
  unfold sumS rawS
  have : ∀ (l : List Int) (s : Int × Int), l.foldl sumStep (s.1 % 65521, s.2 % 65521) = ((l.foldl rawStep s).1 % 65521, (l.foldl rawStep s).2 % 65521) := by
    intro l
    induction l with
    | nil => intro s; rfl
    | cons b l ih =>
      intro s
      rw [List.foldl_cons, List.foldl_cons, ← ih]
      congr 1
      unfold sumStep rawStep
      refine Prod.ext ?_ ?_
      · show (s.1 % 65521 + b) % 65521 = (s.1 + b) % 65521
        omega
      · show (s.2 % 65521 + (s.1 % 65521 + b) % 65521) % 65521 = (s.2 + (s.1 + b)) % 65521
        omega
  exact this bs (1, 0)
def S_tsums : SpD := fun ds M xr R => ∃ a b : Int, ds = [I a, I b] ∧ R M (byt [b % 65521 / 256, b % 65521 % 256, a % 65521 / 256, a % 65521 % 256])
def S_sum : SpD := fun ds M xr R => ∃ bs : List Int, (ds = [byt bs] ∨ ds = [.lst (bs.map fun i => I i)]) ∧ R M (byt (sumL bs))
def S_lsums : SpD := fun ds M xr R => ∃ bs : List Int, ds = [byt bs] ∧ R M (byt (sumL bs))
section
variable {P : Program} {w : World} {K : PySem.W.Frag} {mg : Str → Option Value} {base : Heap} {G : Hp → Prop}
theorem gf_tsums {f : Addr} {fd : FuncData} {t : Tok} (F : Fun K "told_sums" "told_sums" s_told_sums f fd) (gs : Gst G) (gB : mg "SUM_BASE" = some (.int 65521 t)) : Gf P w K mg base G 1 f [] S_tsums := by
  refine gf_of F sc_told_sums gs (F.binds fun _ _ _ _ _ _ us hl => match us, hl with | [_, _], _ => rfl) .nil (fun ds M xr R h => by obtain ⟨a, b, rfl, _⟩ := h; rfl) ?_
  rintro X W M ds xr R ⟨cdv, A, outer, s, H, E0, rfl⟩ cx ⟨a, b, rfl, hok⟩
  walk_at "e"
  refine ws_ret ?_
  walk_at "e"
  exact ⟨sz1 (by simp), hok⟩
theorem gf_sum {f fx : Addr} {fd : FuncData} (F : Fun K "sum_bytes" "sum_bytes" s_sum_bytes f fd) (gs : Gst G) (mf : mg "told_sums" = some (.ref fx)) (g1 : Gf P w K mg base G 1 fx [] S_tsums) : Gf P w K mg base G 2 f [] S_sum := by
  refine gf_of F sc_sum_bytes gs (F.binds fun _ _ _ _ _ _ us hl => match us, hl with | [_], _ => rfl) .nil (fun ds M xr R h => by obtain ⟨n, h, _⟩ := h; rcases h with rfl | rfl <;> rfl) ?_
  rintro X W M ds xr R ⟨cdv, A, outer, s, H, E0, rfl⟩ cx ⟨bs, hd, hok⟩
  rcases hd with rfl | rfl
  all_goals
    walk_at "e"
    refine ws_for cx (pgn 3 cx.nd) (gok_name 3) (fun i M' ρ' => M' = M ∧ ∃ y z, ρ' = [y, some (I (rawS (bs.take i)).1), some (I (rawS (bs.take i)).2), z]) ?_
    first | (refine wi_tup ?_; walk_at "e"; refine ⟨⟨rfl, _, none, rfl⟩, ?_, ?_⟩) | (refine wi_lst ?_; walk_at "e"; refine ⟨⟨rfl, _, none, rfl⟩, ?_, ?_⟩)
    · rintro i z hz M' ρ' ⟨rfl, y, z', rfl⟩
      obtain ⟨b, hb, rfl⟩ := map_at hz
      refine wss_cons (ws_augI (f := fun i j => i + j) 1 cx.nd ip_add ⟨_, rfl, ?_⟩)
      walk_at "e"
      refine ws_augI (f := fun i j => i + j) 2 cx.nd ip_add ⟨_, rfl, ?_⟩
      walk_at "e"
      refine ⟨rfl, y, some (I b), ?_⟩
      rw [rawS_more hb]
      rfl
    · rintro M' ρ' ⟨rfl, y, z', rfl⟩
      rw [List.length_map, List.take_length]
      refine wss_one (ws_ret (we_call cx g1 (by decide) mf rfl ?_))
      walk_at "e"
      refine ⟨_, _, rfl, ?_⟩
      have e := sumS_raw bs
      unfold sumL at hok
      rw [e] at hok
      exact hok
theorem gf_lsums {f : Addr} {fd : FuncData} (F : Fun K "_law_sums" "_law_sums" s_law_sums f fd) (gs : Gst G) : Gf P w K mg base G 1 f [] S_lsums := by
  refine gf_of F sc_law_sums gs (F.binds fun _ _ _ _ _ _ us hl => match us, hl with | [_], _ => rfl) .nil (fun ds M xr R h => by obtain ⟨n, rfl, _⟩ := h; rfl) ?_
  rintro X W M ds xr R ⟨cdv, A, outer, s, H, E0, rfl⟩ cx ⟨bs, rfl, hok⟩
  refine wss_cons (ws_asg (pg_tup cx.hc (pgs_cons (pgn 1 cx.nd) (pgs_cons (pgn 2 cx.nd) pgs_nil))) (gok_tup (gsok_cons (gok_name 1) (gsok_cons (gok_name 2) gsok_nil)) rfl) ?_)
  walk_at "e"
  refine ⟨sz1 (by simp), _, rfl, rfl, _, _, rfl, _, _, rfl, rfl, ?_⟩
  refine wss_cons (ws_for cx (pgn 3 cx.nd) (gok_name 3) (fun i M' ρ' => M' = M ∧ ∃ y z, ρ' = [y, some (I (sumS (bs.take i)).1), some (I (sumS (bs.take i)).2), z]) (wi_tup ?_))
  walk_at "e"
  refine ⟨⟨rfl, _, none, rfl⟩, ?_, ?_⟩
  · rintro i z hz M' ρ' ⟨rfl, y, z', rfl⟩
    obtain ⟨b, hb, rfl⟩ := map_at hz
    walk_at "e"
    refine ⟨rfl, y, some (I b), ?_⟩
    rw [sumS_more hb]
    rfl
  · rintro M' ρ' ⟨rfl, y, z', rfl⟩
    rw [List.length_map, List.take_length]
    refine wss_one (ws_ret ?_)
    walk_at "e"
    exact ⟨sz1 (by simp), hok⟩
end

def S_dice : SpD := fun ds M xr R => ∃ c : Int, ds = [I c] ∧ ∀ p a b m, R ((p, O.lst [I a, I b, I m]) :: M) (Rf p)
def S_roll (B : Int) : SpD := fun ds M xr R => ∃ (p : Addr) (a b m many : Int) (j : Nat), ds = [Rf p, I many] ∧ M[j]? = some (p, O.lst [I a, I b, I m]) ∧ 0 < many ∧ many ≤ B ∧ ∀ a' b' m' r, 0 ≤ r → r < many → R (M.set j (p, O.lst [I a', I b', I m'])) (I r)
/-- a script: data, a list of ours, a list that stands -/
inductive ScrD (K : PySem.W.Frag) (M : Ms) : D → List Int → Prop
  | lst {cs : List Int} : ScrD K M (.lst (cs.map fun i => I i)) cs
  | own {q : Addr} {cs : List Int} (j : Nat) (h : M[j]? = some (q, .lst (cs.map fun i => I i))) : ScrD K M (Rf q) cs
  | frz {q : Addr} {o : Obj} {cs : List Int} (j : Nat) (h : M[j]? = some (q, .frz o (cs.map fun i => I i))) : ScrD K M (Rf q) cs
  | ko {q : Addr} {cs : List Int} (h : KL K q (cs.map V.int)) : ScrD K M (Rf q) cs
def S_rounds (K : PySem.W.Frag) : SpD := fun ds M xr R => ∃ (d : D) (cs : List Int), ds = [d, I 1] ∧ ScrD K M d cs ∧ ∀ p a b m, R ((p, O.lst [I a, I b, I m]) :: M) (.lst [Rf p])
section
variable {P : Program} {w : World} {K : PySem.W.Frag} {mg : Str → Option Value} {base : Heap} {G : Hp → Prop}
theorem gf_dice {f : Addr} {fd : FuncData} (F : Fun K "_law_dice" "_law_dice" s_law_dice f fd) (gs : Gst G) (mi : mg "int" = none) (ma : mg "abs" = none) : Gf P w K mg base G 1 f [] S_dice := by
  refine gf_of F sc_law_dice gs (F.binds fun _ _ _ _ _ _ us hl => match us, hl with | [_], _ => rfl) .nil (fun ds M xr R h => by obtain ⟨n, rfl, _⟩ := h; rfl) ?_
  rintro X W M ds xr R ⟨cdv, A, outer, s, H, E0, rfl⟩ cx ⟨c, rfl, hok⟩
  have fin : WS (cxOf (L2N.CX P w) P w K mg base N_law_dice "_law_dice" (defScope s_law_dice) f cdv A outer s H E0) G W ((defBody s_law_dice).getD 1 (.Pass ⟨0, 0, 0, 0⟩)) M [some (I c)] { nx := fun M' _ => R M' N0, rt := R, bk := fun _ _ => False, ct := fun _ _ => False, xr := xr } := by
    refine ws_ret (we_lstO gs ?_)
    walk_at "e"
    exact ⟨sz1 (by simp), fun p => hok _ _ _ _⟩
  walk_at "e"
  refine ite_d (fun h => ?_) (fun h => ?_)
  · walk_at "e"
    refine ite_d (fun h2 => ?_) (fun h2 => ?_)
    · refine wss_one (ws_ret (we_lstO gs ?_))
      walk_at "e"
      exact ⟨sz1 (by simp), fun p => hok _ _ _ _⟩
    · exact wss_nil (wss_one fin)
  · exact iteF (wss_nil (wss_one fin))
theorem gf_roll {f : Addr} {fd : FuncData} {B B' : Int} {k : Nat} (F : Fun K "_law_roll" "_law_roll" s_law_roll f fd) (gs : Gst G) (mi : mg "int" = none) (mf : mg "_law_roll" = some (.ref f)) (hB : B < 1180591620717411303424) (g : B ≤ 100000000 ∨ (B / 100000000 + 1 ≤ B' ∧ 100000000 ≤ B' ∧ Gf P w K mg base G k f [] (S_roll B'))) : Gf P w K mg base G (k + 1) f [] (S_roll B) := by
  refine gf_of F sc_law_roll gs (F.binds fun _ _ _ _ _ _ us hl => match us, hl with | [_, _], _ => rfl) .nil (fun ds M xr R h => by obtain ⟨p, a, b, m, many, j, rfl, _⟩ := h; rfl) ?_
  rintro X W M ds xr R ⟨cdv, A, outer, s, H, E0, rfl⟩ cx ⟨p, a, b, m, many, j, rfl, hM, h0, hb, hok⟩
  have hmany : many < 1180591620717411303424 := by omega
  have first : ∀ nx0, WSs (cxOf (L2N.CX P w) P w K mg base N_law_roll "_law_roll" (defScope s_law_roll) f cdv A outer s H E0) G W (match (defBody s_law_roll).getD 0 (.Pass ⟨0, 0, 0, 0⟩) with | .If _ t _ _ => t | _ => []) M [some (Rf p), some (I many), none] { nx := nx0, rt := R, bk := fun _ _ => False, ct := fun _ _ => False, xr := xr } := by
    intro nx0
    walk_at "e"
    refine ⟨_, rfl, ?_⟩
    refine wss_one (ws_ret ?_)
    walk_at "e"
    exact hok _ _ _ _ (Int.emod_nonneg _ (by omega)) (Int.emod_lt_of_pos _ h0)
  have rest : WSs (cxOf (L2N.CX P w) P w K mg base N_law_roll "_law_roll" (defScope s_law_roll) f cdv A outer s H E0) G W ((defBody s_law_roll).drop 1) M [some (Rf p), some (I many), none] { nx := fun M' _ => R M' N0, rt := R, bk := fun _ _ => False, ct := fun _ _ => False, xr := xr } := by
    walk_at "e"
    refine ⟨_, rfl, ?_⟩
    walk_at "e"
    refine ite_d (fun h => ?_) (fun h => ?_)
    · rcases g with z | ⟨z1, z2, g⟩
      · omega
      · refine wss_one (ws_ret ?_)
        walk_at "e"
        refine we_call cx g (Nat.le_refl _) mf rfl ?_
        walk_at "e"
        refine ⟨p, _, _, _, _, j, rfl, set_at hM, by omega, by omega, fun a' b' m' r hr0 hr => ?_⟩
        walk_at "e"
        refine we_call cx g (Nat.le_refl _) mf rfl ?_
        walk_at "e"
        refine ⟨p, _, _, _, _, j, rfl, set_at (set_at hM), by omega, by omega, fun a2 b2 m2 r2 hr20 hr2 => ?_⟩
        walk_at "e"
        rw [set_set', set_set']
        exact hok _ _ _ _ (Int.emod_nonneg _ (by omega)) (Int.emod_lt_of_pos _ h0)
    · walk_at "e"
      refine ⟨_, rfl, ?_⟩
      walk_at "e"
      refine ⟨_, rfl, ?_⟩
      refine wss_one (ws_ret ?_)
      walk_at "e"
      rw [set_set', set_set']
      exact hok _ _ _ _ (Int.emod_nonneg _ (by omega)) (Int.emod_lt_of_pos _ h0)
  walk_at "e"
  refine ite_d (fun h => ?_) (fun h => ?_)
  · exact iteT (first _)
  · walk_at "e"
    refine ite_d (fun h1 => ?_) (fun h1 => ?_)
    · walk_at "e"
      refine ite_d (fun h2 => ?_) (fun h2 => ?_)
      · exact first _
      · exact wss_nil rest
    · refine iteF ?_
      first | exact wss_nil rest | (refine iteF ?_; exact wss_nil rest)
theorem cut1 (cs : List Int) : Wv.cutD (cs.map fun i => I i) none (some 1) = (cs.take 1).map fun i => I i := by
  unfold Wv.cutD
  simp only [HT.sIx, List.length_map]
  rw [if_neg (by omega)]
  cases cs with
  | nil => rfl
  | cons c cs => simp
theorem gf_rounds {f fd1 : Addr} {fd : FuncData} (F : Fun K "_law_rounds" "_law_rounds" s_law_rounds f fd) (gs : Gst G) (mf : mg "_law_dice" = some (.ref fd1)) (g : Gf P w K mg base G 1 fd1 [] S_dice) : Gf P w K mg base G 2 f [] (S_rounds K) := by
  refine gf_of F sc_law_rounds gs (F.binds fun _ _ _ _ _ _ us hl => match us, hl with | [_, _], _ => rfl) .nil (fun ds M xr R h => by obtain ⟨d, cs, rfl, _⟩ := h; rfl) ?_
  rintro X W M ds xr R ⟨cdv, A, outer, s, H, E0, rfl⟩ cx ⟨d, cs, rfl, hd, hok⟩
  have fin : ∀ (c : Int) nx0, WS (cxOf (L2N.CX P w) P w K mg base N_law_rounds "_law_rounds" (defScope s_law_rounds) f cdv A outer s H E0) G W ((defBody s_law_rounds).getD 2 (.Pass ⟨0, 0, 0, 0⟩)) M [some d, some (I 1), some (.lst [I c]), none] { nx := nx0, rt := R, bk := fun _ _ => False, ct := fun _ _ => False, xr := xr } := by
    intro c nx0
    refine ws_ret (we_lc cx cx.nd [("cell", 3)] (fun n M' acc => (n = 0 ∧ M' = M ∧ acc = []) ∨ (n = 1 ∧ ∃ p a b m, M' = (p, O.lst [I a, I b, I m]) :: M ∧ acc = [Rf p])) (gok_name 3) (gwipe_name 3) (fun d ρ k k' h => h _) (fun s H C cl fp => pgn 3 cx.nd) (blkOk_by (by show blkC N_law_rounds (defScope s_law_rounds) _ _ = true; decide +kernel)) (wi_lst ?_))
    walk_at "e"
    refine ⟨.inl ⟨rfl, rfl, rfl⟩, fun n z hz => ?_, fun M' acc h => ?_⟩
    · refine turn_nil (fun d ρ k k' h => h _) ?_
      rintro q M' acc h
      have hn : n = 0 := by
        rcases n with _ | n
        · rfl
        · simp at hz
      subst hn
      cases hz
      rcases h with ⟨_, rfl, rfl⟩ | ⟨h, _⟩
      · intro Y' hY' cy'
        obtain ⟨s', H', C, cl, fp, rfl⟩ := hY'
        refine we_perm (we_call cy' g (by decide) mf rfl ?_)
        walk_at "e"
        refine ⟨c, rfl, fun p a b m => ⟨_, List.Perm.swap _ _ _, _, rfl, sz2 (by decide), .inr ⟨rfl, p, a, b, m, rfl, rfl⟩⟩⟩
      · cases h
    · rcases h with ⟨h, _⟩ | ⟨_, p, a, b, m, rfl, rfl⟩
      · cases h
      · exact hok _ _ _ _
  have mid : WSs (cxOf (L2N.CX P w) P w K mg base N_law_rounds "_law_rounds" (defScope s_law_rounds) f cdv A outer s H E0) G W ((defBody s_law_rounds).drop 1) M [some d, some (I 1), some (.lst ((cs.take 1).map fun i => I i)), none] { nx := fun M' _ => R M' N0, rt := R, bk := fun _ _ => False, ct := fun _ _ => False, xr := xr } := by
    refine wss_cons (ws_if (wt_cmp cx.hu ?_))
    walk_at "e"
    refine we_lst gs (wa_nil ⟨Nat.zero_le _, ?_⟩)
    refine CmpD.eqN ?_
    refine ite_d (fun h => ?_) (fun h => ?_)
    · walk_at "e"
      refine ⟨sz1 (by simp), ?_⟩
      walk_at "e"
      exact fin 0 _
    · cases cs with
      | nil => exact absurd rfl h
      | cons c cs => exact wss_nil (wss_one (fin c _))
  refine wss_cons (ws_set 2 cx.nd (we_slice gs ?_))
  walk_at "e"
  have key := cut1 cs
  cases hd with
  | lst =>
    refine SlD.lst ?_
    rw [key]
    exact mid
  | own j h =>
    refine SlD.own j h ?_
    rw [key]
    exact mid
  | frz j h =>
    refine SlD.frz j h ?_
    rw [key]
    exact mid
  | ko h =>
    refine SlD.ko h ?_
    rw [List.map_map]
    have key2 : Wv.cutD (cs.map (D.raw ∘ V.int)) none (some 1) = (cs.take 1).map fun i => I i := key
    rw [key2]
    exact mid
end

section
variable {P : Program} {w : World} {K : PySem.W.Frag} {mg : Str → Option Value} {base : Heap} {T : List (Addr × Str)}
theorem told_ok {f CS : Addr} {fd : FuncData} (F : Fun K "_law_told" "_law_told" s_law_told f fd) (mf : mg "_law_told" = some (.ref f)) (E : ExcC K mg "OctetError" CS) (exm : PySem.W.exmOne K (.ref CS) (.ref CS) = some true) : ToldOk K mg "_law_told" "OctetError" "OctetError" CS :=
  ⟨⟨f, "what", s_law_told, fd, N_law_told, _, _, _, _, _, _, _, _, _, mf, F, rfl, F.binds fun _ _ _ _ _ _ us hl => match us, hl with | [_], _ => rfl, sc_law_told, rfl, .inl rfl, rfl, fun _ => rfl, by decide, by decide⟩, E.g, by decide, exm⟩
theorem atI_nat {α : Type} {l : List α} {k : Nat} {x : α} (h : l[k]? = some x) : atI l (k : Int) = some x := by
  have hk : k < l.length := by
    rcases Nat.lt_or_ge k l.length with q | q
    · exact q
    · rw [List.getElem?_eq_none q] at h; cases h
  unfold atI ixN
  rw [if_pos (by omega), if_pos (by omega), Int.toNat_natCast]
  exact h
end

/-! ### numbers read back -/
/-! ### sums -/
def wsum : List Int → Int
  | [] => 0
  | b :: l => ((l.length : Int) + 1) * b + wsum l
theorem sum_fold : ∀ (l : List Int) (a c : Int), l.foldl sumStep (a % 65521, c % 65521) = ((a + l.sum) % 65521, (c + l.length * a + wsum l) % 65521)
  | [], a, c => by simp [wsum]
  | b :: l, a, c => by
    rw [List.foldl_cons]
    have e : sumStep (a % 65521, c % 65521) b = ((a + b) % 65521, (c + (a + b)) % 65521) := by
      unfold sumStep
      simp only [Prod.mk.injEq]
      omega
    rw [e, sum_fold l]
    simp only [List.sum_cons, wsum, List.length_cons, Prod.mk.injEq]
    refine ⟨by rw [Int.add_assoc], ?_⟩
    congr 1
    have : ((l.length : Int) + 1) * b = l.length * b + b := by rw [Int.add_mul, Int.one_mul]
    have h2 : (((l.length + 1 : Nat) : Int)) * a = l.length * a + a := by rw [Int.natCast_add, Int.add_mul]; simp
    have h3 : (l.length : Int) * (a + b) = l.length * a + l.length * b := Int.mul_add _ _ _
    rw [this, h2, h3]
    omega
theorem sumS_is (l : List Int) : sumS l = ((1 + l.sum) % 65521, (l.length + wsum l) % 65521) := by
  have := sum_fold l 1 0
  simp only [Int.mul_one, Int.zero_add] at this
  exact this
theorem sumL_inj {l m : List Int} : sumL l = sumL m ↔ sumS l = sumS m := by
  have h1 := sumS_range l
  have h2 := sumS_range m
  constructor
  · intro h
    simp only [sumL, List.cons.injEq, and_true] at h
    refine Prod.ext ?_ ?_ <;> omega
  · intro h; unfold sumL; rw [h]
theorem sum_set : ∀ (l : List Int) (i : Nat) (v b : Int), l[i]? = some b → (l.set i v).sum = l.sum + (v - b) ∧ wsum (l.set i v) = wsum l + ((l.length : Int) - i) * (v - b)
  | [], i, v, b, h => by simp at h
  | x :: l, 0, v, b, h => by
    simp at h; subst h
    simp only [List.set_cons_zero, List.sum_cons, wsum, List.length_cons]
    refine ⟨by omega, ?_⟩
    have h1 : ((l.length : Int) + 1) * v = ((l.length : Int) + 1) * x + ((l.length : Int) + 1) * (v - x) := by rw [← Int.mul_add]; congr 1; omega
    rw [h1]
    simp
    omega
  | x :: l, i + 1, v, b, h => by
    obtain ⟨h1, h2⟩ := sum_set l i v b (by simpa using h)
    simp only [List.set_cons_succ, List.sum_cons, wsum, List.length_cons, List.length_set, h1, h2]
    refine ⟨by omega, ?_⟩
    have : ((((l.length + 1 : Nat) : Int)) - ((i + 1 : Nat) : Int)) = (l.length : Int) - i := by omega
    rw [this]
    omega
/-- a changed byte is seen -/
theorem sum_bent {l : List Int} {i : Nat} {b v : Int} (h : l[i]? = some b) (hb : 0 ≤ b ∧ b < 256) (hv : 0 ≤ v ∧ v < 256) (hne : v ≠ b) : sumL (l.set i v) ≠ sumL l := by
  rw [Ne, sumL_inj, sumS_is, sumS_is]
  intro h2
  have := (Prod.mk.inj h2).1
  rw [(sum_set l i v b h).1] at this
  omega
/-- two exchanged bytes are seen -/
theorem sum_swap {l : List Int} {i j : Nat} {b c : Int} (hl : l.length ≤ 30) (hi : l[i]? = some b) (hj : l[j]? = some c) (hb : 0 ≤ b ∧ b < 256) (hc : 0 ≤ c ∧ c < 256) : sumL ((l.set i c).set j b) = sumL l ↔ (l.set i c).set j b = l := by
  constructor
  · intro h
    by_cases hij : i = j
    · subst hij
      rw [hi] at hj; cases hj
      refine List.ext_getElem? fun n => ?_
      by_cases z : i = n
      · subst z; rw [set_at (set_at hi), hi]
      · rw [List.getElem?_set_ne z, List.getElem?_set_ne z]
    · rw [sumL_inj, sumS_is, sumS_is] at h
      have h2 := (Prod.mk.inj h).2
      have hj2 : (l.set i c)[j]? = some c := by rw [List.getElem?_set_ne hij]; exact hj
      rw [(sum_set (l.set i c) j b c hj2).2, (sum_set l i c b hi).2] at h2
      simp only [List.length_set] at h2
      have il : i < l.length := by
        rcases Nat.lt_or_ge i l.length with q | q
        · exact q
        · rw [List.getElem?_eq_none q] at hi; cases hi
      have jl : j < l.length := by
        rcases Nat.lt_or_ge j l.length with q | q
        · exact q
        · rw [List.getElem?_eq_none q] at hj; cases hj
      have e : ((l.length : Int) - i) * (c - b) + ((l.length : Int) - j) * (b - c) = ((j : Int) - i) * (c - b) := by
        have : (b - c) = -(c - b) := by omega
        rw [this, Int.mul_neg, ← Int.sub_eq_add_neg, ← Int.sub_mul]
        congr 1; omega
      have hd : (((j : Int) - i) * (c - b)).natAbs ≤ 30 * 255 := by
        rw [Int.natAbs_mul]
        exact Nat.mul_le_mul (by omega) (by omega)
      have h3 : ((j : Int) - i) * (c - b) = 0 := by
        generalize ((j : Int) - i) * (c - b) = D at e hd
        generalize ((l.length : Int) - i) * (c - b) = U at e h2
        generalize ((l.length : Int) - j) * (b - c) = V at e h2
        omega
      have h4 : c = b := by
        rcases Int.mul_eq_zero.mp h3 with z | z <;> omega
      subst h4
      refine List.ext_getElem? fun n => ?_
      by_cases z : j = n
      · subst z; rw [set_at hj2, hj]
      · rw [List.getElem?_set_ne z]
        by_cases z2 : i = n
        · subst z2; rw [set_at hi, hi]
        · rw [List.getElem?_set_ne z2]
  · intro h; rw [h]

end K02
set_option maxRecDepth 100000
set_option maxHeartbeats 4000000
namespace Wv
open PySem PySem.Spec PyProof.Rows L2 PySem.W
section
variable {X : Cx} {G : Hp → Prop} {W : WX} {M : Ms} {ρ : Rh} {xr : Value → Ms → Prop} {N : En} {a b c e e2 f o i : Expr} {es : List Expr} {pos p p2 apos cpos q : Pos} {R : Ms → D → Prop} {k j : Nat}
theorem byt_inv {K : PySem.W.Frag} {Y : List Addr} {H : Hp} {v : V} {ns : List Int} (r : Rp K Y H v (byt ns)) : ∃ a, v = .ref a ∧ TupF H a (ns.map V.int) := by
  obtain ⟨a, xs, rfl, t, l⟩ := r.tup_invH
  have e : (ns.map fun i => I i) = (ns.map V.int).map D.raw := by rw [List.map_map]; rfl
  rw [e] at l
  rw [l.raws] at t
  exact ⟨a, rfl, t⟩
/-- t.count(x), numbers -/
theorem we_tcount (h : WE X G W o M ρ xr fun M1 d => ∃ ns : List Int, d = byt ns ∧ WE X G W e M1 ρ xr fun M2 z => IsI z fun n => R M2 (I (ns.count n : Nat)))
    (hb : PE X (.Call (.Attribute o "count" apos) [e] [] pos) (tTM X.K (rCntI X.K) (eT X o) (aT X [e]))) (he : starEach [e] X.env = (false, eval e X.env) :: starEach [] X.env := by rfl) : WE X G W (.Call (.Attribute o "count" apos) [e] [] pos) M ρ xr R :=
  we_of hb fun σ H a0 b0 x Q q => by
  refine h σ H a0 b0 x _ fun M1 d v H1 h1 a1 m1 r1 => ?_
  obtain ⟨ns, rfl, h1⟩ := h1
  obtain ⟨p1, rfl, t1⟩ := byt_inv r1
  refine ⟨⟨p1, _, rfl, t1⟩, ?_⟩
  refine wa_one (RA := fun M2 ds => ∃ z, ds = [z] ∧ IsI z fun n => R M2 (I (ns.count n : Nat))) (⟨fun σ H a0 b0 x Q q => h1 σ H a0 b0 x Q fun M1 d v H1 hd a1 m1 r1 => q M1 d v H1 ⟨_, rfl, hd⟩ a1 m1 r1⟩) he σ H1 a1 (m1.sl a0 b0) (x.mv m1) _ fun M2 ds vs H2 h2 a2 m2 r2 => ?_
  obtain ⟨z, rfl, hz⟩ := h2
  obtain ⟨u, rfl, ru⟩ := r2.one
  cases hz with
  | mk hk =>
    obtain rfl := ru.raw_inv
    exact ⟨p1, ns, _, rfl, rfl, (m2.tupH a1 t1).sq, q M2 _ _ H2 hk a2 (m1.trans m2) (.raw _)⟩
/-- t.index(x), numbers -/
theorem we_tindex (h : WE X G W o M ρ xr fun M1 d => ∃ ns : List Int, d = byt ns ∧ WE X G W e M1 ρ xr fun M2 z => IsI z fun n => ∃ j : Nat, ns[j]? = some n ∧ (∀ m, m < j → ns[m]? ≠ some n) ∧ R M2 (I (j : Int)))
    (hb : PE X (.Call (.Attribute o "index" apos) [e] [] pos) (tTM X.K (rIdxI X.K) (eT X o) (aT X [e]))) (he : starEach [e] X.env = (false, eval e X.env) :: starEach [] X.env := by rfl) : WE X G W (.Call (.Attribute o "index" apos) [e] [] pos) M ρ xr R :=
  we_of hb fun σ H a0 b0 x Q q => by
  refine h σ H a0 b0 x _ fun M1 d v H1 h1 a1 m1 r1 => ?_
  obtain ⟨ns, rfl, h1⟩ := h1
  obtain ⟨p1, rfl, t1⟩ := byt_inv r1
  refine ⟨⟨p1, _, rfl, t1⟩, ?_⟩
  refine wa_one (RA := fun M2 ds => ∃ z, ds = [z] ∧ IsI z fun n => ∃ j : Nat, ns[j]? = some n ∧ (∀ m, m < j → ns[m]? ≠ some n) ∧ R M2 (I (j : Int))) (⟨fun σ H a0 b0 x Q q => h1 σ H a0 b0 x Q fun M1 d v H1 hd a1 m1 r1 => q M1 d v H1 ⟨_, rfl, hd⟩ a1 m1 r1⟩) he σ H1 a1 (m1.sl a0 b0) (x.mv m1) _ fun M2 ds vs H2 h2 a2 m2 r2 => ?_
  obtain ⟨z, rfl, hz⟩ := h2
  obtain ⟨u, rfl, ru⟩ := r2.one
  cases hz with
  | mk hk =>
    obtain ⟨j, hj, hno, hk⟩ := hk
    obtain rfl := ru.raw_inv
    exact ⟨p1, ns, _, j, rfl, rfl, (m2.tupH a1 t1).sq, hj, hno, q M2 _ _ H2 hk a2 (m1.trans m2) (.raw _)⟩
/-- t.index(x, a), numbers -/
theorem we_tindex3 (h : WE X G W o M ρ xr fun M1 d => ∃ ns : List Int, d = byt ns ∧ WA X G W [e, e2] M1 ρ xr fun M2 ds => ∃ (n : Int) (a j : Nat), ds = [I n, I (a : Int)] ∧ ns[j]? = some n ∧ a ≤ j ∧ (∀ m, a ≤ m → m < j → ns[m]? ≠ some n) ∧ R M2 (I (j : Int)))
    (hb : PE X (.Call (.Attribute o "index" apos) [e, e2] [] pos) (tTM X.K (rIdx3 X.K) (eT X o) (aT X [e, e2]))) : WE X G W (.Call (.Attribute o "index" apos) [e, e2] [] pos) M ρ xr R :=
  we_of hb fun σ H a0 b0 x Q q => by
  refine h σ H a0 b0 x _ fun M1 d v H1 h1 a1 m1 r1 => ?_
  obtain ⟨ns, rfl, h1⟩ := h1
  obtain ⟨p1, rfl, t1⟩ := byt_inv r1
  refine ⟨⟨p1, _, rfl, t1⟩, ?_⟩
  refine h1 σ H1 a1 (m1.sl a0 b0) (x.mv m1) _ fun M2 ds vs H2 h2 a2 m2 r2 => ?_
  obtain ⟨n, a, j, rfl, hj, haj, hno, hk⟩ := h2
  obtain ⟨u, u2, rfl, ru, ru2⟩ := r2.two
  obtain rfl := ru.raw_inv
  obtain rfl := ru2.raw_inv
  exact ⟨p1, ns, n, a, j, rfl, rfl, (m2.tupH a1 t1).sq, hj, haj, hno, q M2 _ _ H2 hk a2 (m1.trans m2) (.raw _)⟩
theorem we_min2 (cx : Ct X G W k) (hm : X.mg "min" = none) (hg : Gl X "min") (h : WA X G W [a, b] M ρ xr fun M1 ds => ∃ i j : Int, ds = [I i, I j] ∧ R M1 (I (if j < i then j else i))) (he : starEach [a, b] X.env = (false, eval a X.env) :: starEach [b] X.env := by rfl) (hpl : (backTo pos (starEach [b] X.env)).any (·.1) = false := by rfl) : WE X G W (.Call (.Name "min" p) [a, b] [] pos) M ρ xr R :=
  we_bi (he := he) (hpl := hpl) (call_min2 cx.hc) hm (by decide +kernel) hg h fun M1 ds vs H1 Q ⟨i, j, hds, hk⟩ a1 r1 q => by
  subst hds
  obtain ⟨v, v', rfl, rv, rv'⟩ := r1.two
  rw [rv.raw_inv, rv'.raw_inv]
  exact ⟨i, j, rfl, q M1 _ _ H1 hk a1 (Mv.refl _ _) (.raw _)⟩
end
end Wv
set_option maxRecDepth 100000
set_option maxHeartbeats 4000000

namespace K02
open PySem PySem.Spec PyProof.Rows L2 Wv
open LamX (CodeO TabS Tabs ExtN TabB lamEnv lamCx LamS)
local macro_rules | `(tactic| walk_at "e.name") => `(tactic| first
    | refine we_var 0 _ rfl (by first | exact .inl rfl | exact .inr (.inl rfl) | exact .inr (.inr rfl)) rfl ?_
    | refine we_var 1 _ rfl (by first | exact .inl rfl | exact .inr (.inl rfl) | exact .inr (.inr rfl)) rfl ?_
    | refine we_var 2 _ rfl (by first | exact .inl rfl | exact .inr (.inl rfl) | exact .inr (.inr rfl)) rfl ?_
    | refine we_var 3 _ rfl (by first | exact .inl rfl | exact .inr (.inl rfl) | exact .inr (.inr rfl)) rfl ?_
    | refine we_var 4 _ rfl (by first | exact .inl rfl | exact .inr (.inl rfl) | exact .inr (.inr rfl)) rfl ?_
    | refine we_var 5 _ rfl (by first | exact .inl rfl | exact .inr (.inl rfl) | exact .inr (.inr rfl)) rfl ?_
    | refine we_var 6 _ rfl (by first | exact .inl rfl | exact .inr (.inl rfl) | exact .inr (.inr rfl)) rfl ?_
    | refine we_var 7 _ rfl (by first | exact .inl rfl | exact .inr (.inl rfl) | exact .inr (.inr rfl)) rfl ?_
    | refine we_var 8 _ rfl (by first | exact .inl rfl | exact .inr (.inl rfl) | exact .inr (.inr rfl)) rfl ?_
    | refine we_var 9 _ rfl (by first | exact .inl rfl | exact .inr (.inl rfl) | exact .inr (.inr rfl)) rfl ?_
    | refine we_var 10 _ rfl (by first | exact .inl rfl | exact .inr (.inl rfl) | exact .inr (.inr rfl)) rfl ?_
    | refine we_var 11 _ rfl (by first | exact .inl rfl | exact .inr (.inl rfl) | exact .inr (.inr rfl)) rfl ?_
    | refine we_var 12 _ rfl (by first | exact .inl rfl | exact .inr (.inl rfl) | exact .inr (.inr rfl)) rfl ?_
    | refine we_var 13 _ rfl (by first | exact .inl rfl | exact .inr (.inl rfl) | exact .inr (.inr rfl)) rfl ?_
    | refine we_var 14 _ rfl (by first | exact .inl rfl | exact .inr (.inl rfl) | exact .inr (.inr rfl)) rfl ?_
    | refine we_var 15 _ rfl (by first | exact .inl rfl | exact .inr (.inl rfl) | exact .inr (.inr rfl)) rfl ?_
    | refine we_var 16 _ rfl (by first | exact .inl rfl | exact .inr (.inl rfl) | exact .inr (.inr rfl)) rfl ?_
    | refine we_var 17 _ rfl (by first | exact .inl rfl | exact .inr (.inl rfl) | exact .inr (.inr rfl)) rfl ?_
    | refine we_var 18 _ rfl (by first | exact .inl rfl | exact .inr (.inl rfl) | exact .inr (.inr rfl)) rfl ?_
    | refine we_var 19 _ rfl (by first | exact .inl rfl | exact .inr (.inl rfl) | exact .inr (.inr rfl)) rfl ?_
    | refine we_var 20 _ rfl (by first | exact .inl rfl | exact .inr (.inl rfl) | exact .inr (.inr rfl)) rfl ?_
    | refine we_var 21 _ rfl (by first | exact .inl rfl | exact .inr (.inl rfl) | exact .inr (.inr rfl)) rfl ?_
    | refine we_globI (by assumption) rfl ?_
    | refine we_globS (by assumption) rfl ?_)
local macro_rules | `(tactic| walk_at "e.const") => `(tactic| first
    | refine we_int ?_
    | refine we_str ?_
    | refine we_bl ?_
    | refine we_non ?_)
local macro_rules | `(tactic| walk_at "e.call") => `(tactic| first
    | refine we_len (by assumption) rfl ?_
    | refine we_int2 (by assumption) rfl ?_
    | refine we_tuple (Ct.gs (by assumption)) (by assumption) rfl ?_
    | refine we_abs (by assumption) rfl ?_
    | refine we_find ?_)
local macro_rules | `(tactic| walk_at "e.we") => `(tactic| first
    | (refine gNm ?_; walk_at "e.name")
    | (refine gConst ?_; walk_at "e.const")
    | refine we_bin (Ct.gs (by assumption)) ?_
    | (refine gCall ?_; walk_at "e.call")
    | refine we_cmp (Ct.hu (by assumption)) ?_
    | refine we_ix ?_
    | refine we_slice (Ct.gs (by assumption)) ?_
    | refine we_fld ?_
    | refine we_tup (Ct.gs (by assumption)) ?_
    | refine we_chain (Ct.hu (by assumption)) ?_
    | refine we_lst1 (Ct.gs (by assumption)) ?_
    | refine we_ifx ?_
    | refine we_and ?_
    | refine we_or ?_
    | refine we_one ?_
    | refine we_not ?_
    | refine we_neg ?_)
local macro_rules | `(tactic| walk_at "e.wt") => `(tactic| first
    | refine wt_cmp (Ct.hu (by assumption)) ?_
    | refine wt_chain (Ct.hu (by assumption)) ?_
    | refine wt_not ?_
    | refine wt_bool ?_
    | refine wt_val ?_)
local macro_rules | `(tactic| walk_at "e.ww") => `(tactic| first
    | refine ww_and ?_
    | refine ww_or ?_
    | refine ww_and1 ?_
    | refine ww_or1 ?_)
local macro_rules | `(tactic| walk_at "e.wa") => `(tactic| first
    | refine wa_nil ?_
    | refine wa_cons ?_)
local macro_rules | `(tactic| walk_at "e.wss") => `(tactic| first
    | refine wss_cons ?_
    | refine wss_nil ?_)
local macro_rules | `(tactic| walk_at "e.ws") => `(tactic| first
    | refine ws_if ?_
    | refine ws_expr (we_append (Ct.gs (by assumption)) ?_ (pe_bm PySem.F.plainAttrs_list PySem.F.slot_list_append PySem.F.type_list_append mt_append pe_wp pa_wp))
    | refine ws_expr ?_
    | refine ws_set 0 (Ct.nd (by assumption)) ?_
    | refine ws_set 1 (Ct.nd (by assumption)) ?_
    | refine ws_set 2 (Ct.nd (by assumption)) ?_
    | refine ws_set 3 (Ct.nd (by assumption)) ?_
    | refine ws_set 4 (Ct.nd (by assumption)) ?_
    | refine ws_set 5 (Ct.nd (by assumption)) ?_
    | refine ws_set 6 (Ct.nd (by assumption)) ?_
    | refine ws_set 7 (Ct.nd (by assumption)) ?_
    | refine ws_set 8 (Ct.nd (by assumption)) ?_
    | refine ws_set 9 (Ct.nd (by assumption)) ?_
    | refine ws_set 10 (Ct.nd (by assumption)) ?_
    | refine ws_set 11 (Ct.nd (by assumption)) ?_
    | refine ws_set 12 (Ct.nd (by assumption)) ?_
    | refine ws_set 13 (Ct.nd (by assumption)) ?_
    | refine ws_set 14 (Ct.nd (by assumption)) ?_
    | refine ws_set 15 (Ct.nd (by assumption)) ?_
    | refine ws_set 16 (Ct.nd (by assumption)) ?_
    | refine ws_set 17 (Ct.nd (by assumption)) ?_
    | refine ws_set 18 (Ct.nd (by assumption)) ?_
    | refine ws_set 19 (Ct.nd (by assumption)) ?_
    | refine ws_set 20 (Ct.nd (by assumption)) ?_
    | refine ws_set 21 (Ct.nd (by assumption)) ?_
    | refine ws_sub (Ct.gs (by assumption)) ?_ (fun a b => pg_sub a b set_list)
    | refine ws_fld (Ct.gs (by assumption)) ?_
    | refine ws_pass ?_
    | refine ws_break ?_
    | refine ws_cont ?_)
local macro_rules | `(tactic| walk_at "e.bin") => `(tactic| first
    | refine BinD.addI ?_
    | refine BinD.subI ?_
    | refine BinD.modI (by decide) ?_
    | refine BinD.modI (by assumption) ?_
    | refine BinD.divI (by decide) (by decide) ?_
    | refine BinD.divI (by assumption) (by assumption) ?_
    | refine BinD.mulI (by first | exact .inl ⟨by decide, by decide⟩ | exact .inr ⟨by decide, by decide⟩) ?_
    | refine BinD.xorI ?_
    | refine BinD.powI ⟨by decide, by decide, by decide⟩ ?_)
local macro_rules | `(tactic| walk_at "e.cmp") => `(tactic| first
    | refine CmpD.lt ?_
    | refine CmpD.le ?_
    | refine CmpD.gt ?_
    | refine CmpD.ge ?_
    | refine CmpD.isN ?_
    | refine CmpD.notN ?_
    | refine CmpD.neI_s ?_
    | refine CmpD.neT_s ?_
    | refine CmpD.neZ_s ?_
    | refine CmpD.eqZ_s ?_
    | refine CmpD.neN_s ?_
    | refine CmpD.eqN_s ?_
    | refine CmpD.neTZ ?_
    | refine CmpD.eqTZ ?_
    | refine CmpD.eqI ?_
    | refine CmpD.neI ?_
    | refine CmpD.eqZ ?_
    | refine CmpD.neZ ?_)
local macro_rules | `(tactic| walk_at "e.is") => `(tactic| first
    | refine IsI.mk ?_
    | refine IsT.mk ?_
    | refine IsL.mk ?_
    | refine IsZ.mk ?_
    | refine IsB.mk ?_
    | refine OwL.mk 0 rfl ?_
    | refine OwL.mk 1 rfl ?_
    | refine OwL.mk 2 rfl ?_
    | refine OwL.mk 3 rfl ?_
    | refine OwL.mk 4 rfl ?_
    | refine OwL.mk 5 rfl ?_
    | refine OwI.mk 0 rfl ?_
    | refine OwI.mk 1 rfl ?_
    | refine OwI.mk 2 rfl ?_
    | refine OwI.mk 3 rfl ?_
    | refine OwI.mk 4 rfl ?_
    | refine OwI.mk 5 rfl ?_
    | refine OwI.mk _ (by assumption) ?_
    | refine OwI.mk _ (set_at (by assumption)) ?_
    | refine OwI.mk _ (set_at (set_at (by assumption))) ?_
    | refine OwL.mk _ (by assumption) ?_
    | refine OwL.mk _ (set_at (by assumption)) ?_
    | refine OwL.mk _ (set_at (set_at (by assumption))) ?_
    | refine OwL.mk _ (set_at (set_at (set_at (by assumption)))) ?_
    | refine IxD.own 0 rfl rfl ?_
    | refine IxD.own 1 rfl rfl ?_
    | refine IxD.own 2 rfl rfl ?_
    | refine IxD.own 3 rfl rfl ?_
    | refine IxD.own 4 rfl rfl ?_
    | refine IxD.own 5 rfl rfl ?_
    | refine IxD.own _ (by assumption) rfl ?_
    | refine IxD.own _ (set_at (by assumption)) rfl ?_
    | refine IxD.own _ (set_at (set_at (by assumption))) rfl ?_
    | refine IxD.own _ (set_at (set_at (set_at (by assumption)))) rfl ?_
    | refine IxD.tup rfl ?_
    | refine IxD.lst rfl ?_
    | refine IntD.int ?_
    | refine IntD.bl ?_
    | refine TruD.bl ?_
    | refine TruD.int ?_
    | refine TruD.tup ?_
    | refine TruD.lst ?_
    | refine LenD.tup ?_
    | refine LenD.lst ?_
    | refine SeqD.tup ?_
    | refine SeqD.lst ?_
    | refine SlD.tup ?_
    | refine SlD.lst ?_
    | refine SeqD.own 0 rfl ?_
    | refine SeqD.own 1 rfl ?_
    | refine SeqD.own 2 rfl ?_
    | refine SeqD.own 3 rfl ?_
    | refine SeqD.own 4 rfl ?_
    | refine SeqD.own 5 rfl ?_
    | refine LenD.own 0 rfl ?_
    | refine LenD.own 1 rfl ?_
    | refine LenD.own 2 rfl ?_
    | refine LenD.own 3 rfl ?_
    | refine LenD.own 4 rfl ?_
    | refine LenD.own 5 rfl ?_)
local macro_rules | `(tactic| walk_at "e1") => `(tactic| first
    | (refine gWE ?_; walk_at "e.we")
    | (refine gBinD ?_; walk_at "e.bin")
    | (refine gWSs ?_; walk_at "e.wss")
    | (refine gWS ?_; walk_at "e.ws")
    | (refine gWT ?_; walk_at "e.wt")
    | (refine gCmpD ?_; walk_at "e.cmp")
    | (refine gWA ?_; walk_at "e.wa")
    | (refine gWW ?_; walk_at "e.ww")
    | refine iteT ?_
    | refine iteF ?_
    | walk_at "e.is")
local macro_rules | `(tactic| walk_at "e") => `(tactic| repeat (walk_at "e1"))
def flip (b : Int) : Int := Builtin.bitXor b 32
def stuff1 (b : Int) : List Int := if b = 126 ∨ b = 125 then [125, flip b] else [b]
def stuffL : List Int → List Int
  | [] => []
  | b :: l => stuff1 b ++ stuffL l
theorem stuffL_app : ∀ l m : List Int, stuffL (l ++ m) = stuffL l ++ stuffL m
  | [], m => rfl
  | b :: l, m => by simp only [List.cons_append, stuffL, stuffL_app l m, List.append_assoc]
theorem stuffL_len : ∀ l : List Int, (stuffL l).length ≤ 2 * l.length
  | [] => Nat.le_refl _
  | b :: l => by
    have := stuffL_len l
    have h1 : (stuff1 b).length ≤ 2 := by unfold stuff1; split <;> simp
    simp only [stuffL, List.length_append, List.length_cons]
    omega
def escL (s : Int) : List Int → List Int
  | [] => []
  | b :: l => (if b = s then [125, flip s] else [b]) ++ escL s l
theorem escL_app (s : Int) : ∀ l m : List Int, escL s (l ++ m) = escL s l ++ escL s m
  | [], m => rfl
  | b :: l, m => by simp only [List.cons_append, escL, escL_app s l m, List.append_assoc]
theorem escL_len (s : Int) : ∀ l : List Int, (escL s l).length ≤ 2 * l.length
  | [] => Nat.le_refl _
  | b :: l => by
    have := escL_len s l
    have h1 : (if b = s then [125, flip s] else [b]).length ≤ 2 := by split <;> simp
    simp only [escL, List.length_append, List.length_cons]
    omega
theorem escL_none {s : Int} : ∀ {l : List Int}, (∀ x ∈ l, x ≠ s) → escL s l = l
  | [], _ => rfl
  | b :: l, h => by
    rw [escL, if_neg (h b List.mem_cons_self), escL_none fun x hx => h x (List.mem_cons_of_mem _ hx)]
    rfl
theorem esc_stuff : ∀ l : List Int, escL 126 (escL 125 l) = stuffL l
  | [] => rfl
  | b :: l => by
    rw [escL, escL_app, esc_stuff l, stuffL]
    congr 1
    unfold stuff1
    by_cases h1 : b = 125
    · rw [if_pos h1, if_pos (.inr h1), h1]; rfl
    · rw [if_neg h1]
      by_cases h2 : b = 126
      · rw [if_pos (.inl h2), h2]; rfl
      · rw [if_neg (fun z => z.elim h2 h1)]
        show (if b = 126 then _ else _) ++ escL 126 [] = _
        rw [if_neg h2]; rfl
theorem first_at {s : Int} : ∀ {l : List Int}, 0 < l.count s → ∃ j : Nat, l[j]? = some s ∧ ∀ m : Nat, m < j → l[m]? ≠ some s
  | [], h => by simp at h
  | b :: l, h => by
    by_cases e : b = s
    · exact ⟨0, by rw [e]; rfl, fun m hm => absurd hm (Nat.not_lt_zero _)⟩
    · rw [List.count_cons, if_neg (by simp [e])] at h
      obtain ⟨j, h1, h2⟩ := first_at h
      refine ⟨j + 1, h1, fun m hm => ?_⟩
      cases m with
      | zero => simp [e]
      | succ m => exact h2 m (by omega)
theorem first_from {s : Int} {l : List Int} {p : Nat} (h : 0 < (l.drop p).count s) : ∃ j : Nat, p ≤ j ∧ l[j]? = some s ∧ (∀ m : Nat, p ≤ m → m < j → l[m]? ≠ some s) ∧ l.take j = l.take p ++ (l.drop p).take (j - p) ∧ (∀ x ∈ (l.drop p).take (j - p), x ≠ s) ∧ (l.drop p).count s = (l.drop (j + 1)).count s + 1 := by
  obtain ⟨i, h1, h2⟩ := first_at h
  have e1 : l.take (p + i) = l.take p ++ (l.drop p).take i := List.take_add ..
  have mid : ∀ x ∈ (l.drop p).take i, x ≠ s := fun x hx e => by
    obtain ⟨m, hm⟩ := List.getElem?_of_mem hx
    have hmi : m < i := by
      rcases Nat.lt_or_ge m i with q | q
      · exact q
      · rw [List.getElem?_eq_none (by rw [List.length_take]; omega)] at hm; cases hm
    rw [List.getElem?_take_of_lt hmi] at hm
    exact h2 m hmi (by rw [hm, e])
  refine ⟨p + i, by omega, by rw [← List.getElem?_drop]; exact h1, fun m hm hj => ?_, by rw [show p + i - p = i by omega]; exact e1, by rw [show p + i - p = i by omega]; exact mid, ?_⟩
  · have := h2 (m - p) (by omega)
    rw [List.getElem?_drop, show p + (m - p) = m by omega] at this
    exact this
  · have hi : i < (l.drop p).length := by
      rcases Nat.lt_or_ge i (l.drop p).length with q | q
      · exact q
      · rw [List.getElem?_eq_none q] at h1; cases h1
    have hs : l.drop p = (l.drop p).take i ++ s :: l.drop (p + i + 1) := by
      have e := List.take_append_drop i (l.drop p)
      rw [List.drop_eq_getElem_cons hi, List.drop_drop] at e
      rw [List.getElem?_eq_getElem hi] at h1
      rw [Option.some.inj h1] at e
      rw [show p + i + 1 = p + (i + 1) by omega]
      exact e.symm
    have hc : ((l.drop p).take i).count s = 0 := List.count_eq_zero.mpr fun z => mid s z rfl
    have := congrArg (List.count s) hs
    rw [List.count_append, hc, List.count_cons_self] at this
    omega
theorem esc_step {s : Int} {l : List Int} {p j : Nat} (hj : l[j]? = some s) (e : l.take j = l.take p ++ (l.drop p).take (j - p)) (mid : ∀ x ∈ (l.drop p).take (j - p), x ≠ s) : escL s (l.take (j + 1)) = escL s (l.take p) ++ (l.drop p).take (j - p) ++ [125, flip s] := by
  rw [take_succ hj, e, escL_app, escL_app, escL_none mid]
  congr 1
  show (if s = s then _ else _) ++ [] = _
  rw [if_pos rfl]
  rfl
theorem cut_any (l : List Int) (p n : Nat) (hp : p ≤ l.length) : Wv.cutD (l.map fun i => I i) (some (p : Int)) (some ((p : Int) + (n : Int))) = ((l.drop p).take n).map fun i => I i := by
  have hs : ∀ d : Nat, HT.sIx (l.map fun i => I i).length d (some ((p : Int) + (n : Int))) = min (p + n) l.length := fun d => by
    simp only [HT.sIx, List.length_map]
    rw [if_neg (by omega)]
    omega
  have hs2 : ∀ d : Nat, HT.sIx (l.map fun i => I i).length d (some (p : Int)) = p := fun d => by
    simp only [HT.sIx, List.length_map]
    rw [if_neg (by omega)]
    omega
  unfold Wv.cutD
  rw [hs, hs2, List.map_take, List.map_drop]
  by_cases q : p + n ≤ l.length
  · rw [Nat.min_eq_left q, show p + n - p = n by omega]
  · rw [Nat.min_eq_right (by omega), List.take_of_length_le (by simp), List.take_of_length_le (by simp; omega)]
theorem cut_to' (l : List Int) (p j : Nat) (hp : p ≤ j) (hj : j ≤ l.length) : Wv.cutD (l.map fun i => I i) (some (p : Int)) (some (j : Int)) = ((l.drop p).take (j - p)).map fun i => I i := by
  have := cut_any l p (j - p) (by omega)
  rw [show (p : Int) + ((j - p : Nat) : Int) = (j : Int) by omega] at this
  exact this
theorem cut_drop (l : List Int) (k : Nat) (h : k ≤ l.length) : Wv.cutD (l.map fun i => I i) (some (k : Int)) none = (l.drop k).map fun i => I i := by
  unfold Wv.cutD
  have e1 : HT.sIx (l.map fun i => I i).length 0 (some (k : Int)) = k := by
    simp only [HT.sIx, List.length_map]
    rw [if_neg (by omega)]
    omega
  have e2 : HT.sIx (l.map fun i => I i).length (l.map fun i => I i).length none = l.length := by
    simp only [HT.sIx, List.length_map]
  rw [e1, e2, List.map_drop]
  rw [List.take_of_length_le (by simp)]
theorem rng_at {n i : Nat} {z : D} (h : ((List.range n).map fun (i : Nat) => I (i : Int))[i]? = some z) : i < n ∧ z = I (i : Int) := by
  rcases Nat.lt_or_ge i n with q | q
  · rw [List.getElem?_map, List.getElem?_range q] at h
    cases h
    exact ⟨q, rfl⟩
  · rw [List.getElem?_eq_none (by rw [List.length_map, List.length_range]; exact q)] at h
    cases h
theorem at_lt {α : Type} {l : List α} {i : Nat} {x : α} (h : l[i]? = some x) : i < l.length := by
  rcases Nat.lt_or_ge i l.length with q | q
  · exact q
  · rw [List.getElem?_eq_none q] at h; cases h
def frameL (bs : List Int) : List Int := [126] ++ stuffL (bs ++ sumL bs) ++ [126]
structure DS where
  held : Option (List Int)
  esc : Bool
  dmg : Int
deriving DecidableEq
def takeS (s : DS) (b : Int) : DS := match s.held with
  | none => s
  | some h => if b = 125 ∧ s.esc = false then ⟨some h, true, s.dmg⟩ else ⟨some (if h.length ≤ 404 then h ++ [if s.esc = true then flip b else b] else h), false, s.dmg⟩
def endS (s : DS) : DS × Option (List Int) := match s.held with
  | none => (⟨some [], false, s.dmg⟩, none)
  | some h => if h = [] ∧ s.esc = false then (⟨some [], false, s.dmg⟩, none) else
    if s.esc = true ∨ 400 < (h.take (h.length - 4)).length ∨ sumL (h.take (h.length - 4)) ≠ h.drop (h.length - 4) then (⟨some [], false, s.dmg + 1⟩, none) else (⟨some [], false, s.dmg⟩, some (h.take (h.length - 4)))
def stepS (s : DS × List (List Int)) (b : Int) : DS × List (List Int) := if b = 126 then ((endS s.1).1, s.2 ++ (endS s.1).2.toList) else (takeS s.1 b, s.2)
def feedS (s : DS) (bs : List Int) : DS × List (List Int) := bs.foldl stepS (s, [])
/-! ### promises -/
def S_esc : SpD := fun ds M xr R => ∃ (bs : List Int) (s : Int), ds = [byt bs, I s] ∧ bs.length ≤ 5000 ∧ R M (byt (escL s bs))
def S_stuffed : SpD := fun ds M xr R => ∃ bs : List Int, ds = [byt bs] ∧ bs.length ≤ 1000 ∧ R M (byt (stuffL bs))
def S_frame (C : Addr) : SpD := fun ds M xr R => ∃ bs : List Int, ds = [byt bs] ∧ bs.length ≤ 900 ∧ (400 < bs.length → xr (.ref C) M) ∧ (bs.length ≤ 400 → R M (byt (frameL bs)))
/-- where a deframer lies: the object, the list that it holds -/
def dHeld (h : Option (Addr × List Int)) : D := match h with
  | none => N0
  | some (a, _) => Rf a
def dfr (C d : Addr) (h : Option (Addr × List Int)) (e : Bool) (n : Int) : Ms := (d, .ins C [("held", dHeld h), ("escaped", B e), ("damaged", I n)]) :: (match h with
  | none => []
  | some (a, l) => [(a, .lst (l.map fun i => I i))])
def S_dtake (C : Addr) : SpD := fun ds M xr R => ∃ (d : Addr) (h : Option (Addr × List Int)) (e : Bool) (n b : Int) (M0 : Ms), ds = [Rf d, I b] ∧ SP (dfr C d h e n ++ M0) M ∧ ∀ h' e' n', (⟨h'.map (·.2), e', n'⟩ : DS) = takeS ⟨h.map (·.2), e, n⟩ b → R (dfr C d h' e' n' ++ M0) N0
/-- the class of deframers -/
structure DfC (K : PySem.W.Frag) (C : Addr) : Prop where
  c : Cls K C
  nh : NoAttr K C "held"
  ne : NoAttr K C "escaped"
  nd : NoAttr K C "damaged"
section
variable {P : Program} {w : World} {K : PySem.W.Frag} {mg : Str → Option Value} {base : Heap} {G : Hp → Prop}
theorem in2 (b : Int) : ([I 126, I 125].any fun x => eqd x (I b)) = decide (b = 126 ∨ b = 125) := by
  simp only [List.any_cons, List.any_nil, eqd_int, Bool.or_false]
  rw [Bool.eq_iff_iff]
  simp only [Bool.or_eq_true, decide_eq_true_eq]
  omega
theorem gf_esc {f : Addr} {fd : FuncData} {t2 t3 : Tok} (F : Fun K "escaped_bytes" "escaped_bytes" s_escaped_bytes f fd) (gs : Gst G) (gE : mg "ESCAPE" = some (.int 125 t2)) (gF : mg "FLIPPED_BIT" = some (.int 32 t3)) (mt : mg "tuple" = none) (mr : mg "range" = none) : Gf P w K mg base G 1 f [] S_esc := by
  refine gf_of F sc_escaped_bytes gs (F.binds fun _ _ _ _ _ _ us hl => match us, hl with | [_, _], _ => rfl) .nil (fun ds M xr R h => by obtain ⟨bs, s, rfl, _⟩ := h; rfl) ?_
  rintro X W M ds xr R ⟨cdv, A, outer, s, H, E0, rfl⟩ cx ⟨bs, k, rfl, hl, hok⟩
  have hc : bs.count k ≤ bs.length := List.count_le_length
  refine wss_cons (ws_set 2 cx.nd (we_lstO gs (wa_nil ⟨Nat.zero_le _, fun p => ?_⟩)))
  walk_at "e"
  refine ws_for cx (pgn 4 cx.nd) (gok_name 4) (fun i M' ρ' => ∃ q : Nat, q ≤ bs.length ∧ bs.count k = i + (bs.drop q).count k ∧ M' = (p, O.lst ((escL k (bs.take q)).map fun i => I i)) :: M ∧ ∃ z z5, ρ' = [some (byt bs), some (I k), some (Rf p), some (I (q : Int)), z, z5]) (wi_rng1 mr rfl (wa_one (we_tcount ?_ (pe_tm PySem.F.plainAttrs_tuple PySem.F.slot_tuple_count PySem.F.type_tuple_count mt_countT pe_wp pa_wp))))
  walk_at "e"
  refine ⟨bs, rfl, ?_⟩
  walk_at "e"
  refine ⟨_, rfl, by omega, by omega, ⟨0, Nat.zero_le _, by rw [List.drop_zero]; omega, rfl, none, none, rfl⟩, ?_, ?_⟩
  · rintro i z hz M' ρ' ⟨q, hq, hcnt, rfl, y4, y5, rfl⟩
    obtain ⟨hi, rfl⟩ := rng_at hz
    have hi : i < bs.count k := by rwa [Int.toNat_natCast] at hi
    obtain ⟨j, hqj, hj, hno, et, mid, hc2⟩ := first_from (s := k) (l := bs) (p := q) (by omega)
    have hjl := at_lt hj
    have es := esc_step hj et mid
    have hlen : (escL k (bs.take q)).length ≤ 2 * bs.length := Nat.le_trans (escL_len k _) (by rw [List.length_take]; omega)
    have hml : ((bs.drop q).take (j - q)).length ≤ bs.length := by rw [List.length_take, List.length_drop]; omega
    refine wss_cons (ws_set 5 cx.nd (we_tindex3 ?_ (pe_tm PySem.F.plainAttrs_tuple PySem.F.slot_tuple_index PySem.F.type_tuple_index mt_index3 pe_wp pa_wp)))
    walk_at "e"
    refine ⟨bs, rfl, ?_⟩
    walk_at "e"
    refine ⟨k, q, j, rfl, hj, hqj, hno, ?_⟩
    refine wss_cons (ws_expr (we_extT gs ?_ (pe_bm PySem.F.plainAttrs_list PySem.F.slot_list_extend PySem.F.type_list_extend mt_extT pe_wp pa_wp)))
    walk_at "e"
    rw [cut_to' bs q j hqj (by omega)]
    walk_at "e"
    refine ⟨sz1 (by rw [List.length_map, List.length_map]; omega), ?_⟩
    refine wss_cons (ws_expr (we_extT gs ?_ (pe_bm PySem.F.plainAttrs_list PySem.F.slot_list_extend PySem.F.type_list_extend mt_extT pe_wp pa_wp)))
    walk_at "e"
    refine ⟨sz1 (by simp), ?_⟩
    walk_at "e"
    refine ⟨sz1 (by simp; omega), ?_⟩
    walk_at "e"
    refine ⟨j + 1, by omega, by omega, ?_, _, _, by rw [show ((j : Int) + 1) = ((j + 1 : Nat) : Int) by omega]; rfl⟩
    rw [es, List.map_append, List.map_append]
    rfl
  · rintro M' ρ' ⟨q, hq, hcnt, rfl, y4, y5, rfl⟩
    rw [List.length_map, List.length_range, Int.toNat_natCast] at hcnt
    have hlen : (escL k (bs.take q)).length ≤ 2 * bs.length := Nat.le_trans (escL_len k _) (by rw [List.length_take]; omega)
    have h0 : (bs.drop q).count k = 0 := by omega
    have e1 : escL k bs = escL k (bs.take q) ++ bs.drop q := by
      have := escL_app k (bs.take q) (bs.drop q)
      rw [List.take_append_drop, escL_none (l := bs.drop q) fun x hx e => by
        have := List.count_eq_zero.mp h0
        exact this (e ▸ hx)] at this
      exact this
    refine wss_one (ws_retS ?_)
    walk_at "e"
    rw [cut_drop bs q hq]
    refine BinD.addB (by rw [List.length_drop]; omega) ?_
    refine ⟨M, List.sublist_cons_self _ _, ?_⟩
    rw [← e1]
    exact hok
theorem gf_stuffed {f fx : Addr} {fd : FuncData} {t1 t2 : Tok} (F : Fun K "stuffed" "stuffed" s_stuffed f fd) (gs : Gst G) (gM : mg "MARK" = some (.int 126 t1)) (gE : mg "ESCAPE" = some (.int 125 t2)) (mt : mg "tuple" = none) (mx : mg "escaped_bytes" = some (.ref fx)) (g1 : Gf P w K mg base G 1 fx [] S_esc) : Gf P w K mg base G 2 f [] S_stuffed := by
  refine gf_of F sc_stuffed gs (F.binds fun _ _ _ _ _ _ us hl => match us, hl with | [_], _ => rfl) .nil (fun ds M xr R h => by obtain ⟨n, rfl, _⟩ := h; rfl) ?_
  rintro X W M ds xr R ⟨cdv, A, outer, s, H, E0, rfl⟩ cx ⟨bs, rfl, hl, hok⟩
  have pi : ∀ (l : List Int), ∀ x ∈ l.map (fun i => I i), Pl 60 x := fun l x hx => by
    obtain ⟨i, _, rfl⟩ := List.mem_map.mp hx
    exact .int _
  have ai : ∀ (l : List Int) (k : Int), ((l.map fun i => I i).any fun x => eqd x (I k)) = decide (k ∈ l) := fun l k => by
    rw [List.any_map, Bool.eq_iff_iff, List.any_eq_true, decide_eq_true_eq]
    refine ⟨fun ⟨x, hx, e⟩ => ?_, fun h => ⟨k, h, ?_⟩⟩
    · have := of_decide_eq_true ((eqd_int x k).symm.trans e)
      exact this ▸ hx
    · show eqd (I k) (I k) = true
      rw [eqd_int]
      exact decide_eq_true rfl
  have fin : ∀ l : List Int, l.length ≤ 2000 → escL 126 l = stuffL bs → WS (cxOf (L2N.CX P w) P w K mg base N_stuffed "stuffed" (defScope s_stuffed) f cdv A outer s H E0) G W ((defBody s_stuffed).getD 2 (.Pass ⟨0, 0, 0, 0⟩)) M [some (byt bs), some (byt l)] { nx := fun M' _ => R M' N0, rt := R, bk := fun _ _ => False, ct := fun _ _ => False, xr := xr } := by
    intro l hll he
    refine ws_ret (we_ifx (wt_cmp cx.hu ?_))
    walk_at "e"
    refine CmpD.inT (.int _) (pi l) ?_
    rw [ai]
    refine ite_d (fun h => ?_) (fun h => ?_)
    · refine we_call cx g1 (by decide) mx rfl ?_
      walk_at "e"
      refine ⟨l, 126, rfl, by omega, ?_⟩
      rw [he]
      exact hok
    · walk_at "e"
      rw [escL_none (s := 126) (l := l) fun x hx e => h (e ▸ hx)] at he
      rw [he]
      exact hok
  walk_at "e"
  refine CmpD.inT (.int _) (pi bs) ?_
  rw [ai]
  refine ite_d (fun h => ?_) (fun h => ?_)
  · refine wss_one (ws_set 1 cx.nd (we_call cx g1 (by decide) mx rfl ?_))
    walk_at "e"
    refine ⟨bs, 125, rfl, by omega, ?_⟩
    refine wss_one (fin (escL 125 bs) (Nat.le_trans (escL_len 125 bs) (by omega)) (esc_stuff bs))
  · refine wss_nil (wss_one (fin bs (by omega) ?_))
    have := esc_stuff bs
    rwa [escL_none (s := 125) (l := bs) fun x hx e => h (e ▸ hx)] at this
theorem gf_frame {f fs fu C : Addr} {fd : FuncData} {t1 t2 : Tok} (F : Fun K "frame_bytes" "frame_bytes" s_frame_bytes f fd) (gs : Gst G) (E : ExcC K mg "OctetError" C) (gM : mg "MARK" = some (.int 126 t1)) (gP : mg "MOST_PAYLOAD" = some (.int 400 t2)) (ml : mg "len" = none) (ms : mg "stuffed" = some (.ref fs)) (g1 : Gf P w K mg base G 2 fs [] S_stuffed) (mu : mg "sum_bytes" = some (.ref fu)) (g2 : Gf P w K mg base G 2 fu [] S_sum) : Gf P w K mg base G 3 f [] (S_frame C) := by
  refine gf_of F sc_frame_bytes gs (F.binds fun _ _ _ _ _ _ us hl => match us, hl with | [_], _ => rfl) .nil (fun ds M xr R h => by obtain ⟨n, rfl, _⟩ := h; rfl) ?_
  rintro X W M ds xr R ⟨cdv, A, outer, s, H, E0, rfl⟩ cx ⟨bs, rfl, hl, hbad, hok⟩
  walk_at "e"
  rw [List.length_map]
  refine ite_d (fun h => ?_) (fun h => ?_)
  · exact wss_one (ws_raiseC cx E rfl ⟨M, List.Sublist.refl _, hbad (by omega)⟩)
  · walk_at "e"
    refine ws_ret ?_
    walk_at "e"
    refine ⟨sz1 (by simp), we_call cx g1 (by decide) ms rfl ?_⟩
    walk_at "e"
    refine we_call cx g2 (by decide) mu rfl ?_
    walk_at "e"
    have hsl : (sumL bs).length = 4 := rfl
    refine ⟨bs, .inl rfl, BinD.addB (by rw [hsl]; omega) ?_⟩
    walk_at "e"
    have h2 := stuffL_len (bs ++ sumL bs)
    rw [List.length_append, hsl] at h2
    refine ⟨bs ++ sumL bs, rfl, by rw [List.length_append, hsl]; omega, BinD.addB (i := [126]) (by simp; omega) ?_⟩
    walk_at "e"
    refine ⟨sz1 (by simp), BinD.addB (j := [126]) (by simp; omega) ?_⟩
    exact hok (by omega)
theorem gf_dtake {f C : Addr} {fd : FuncData} {t1 t2 t3 : Tok} (F : Fun K "take" "Deframer.take" s_Deframer_take f fd) (gs : Gst G) (dc : DfC K C) (gE : mg "ESCAPE" = some (.int 125 t1)) (gF : mg "FLIPPED_BIT" = some (.int 32 t2)) (gP : mg "MOST_HELD" = some (.int 405 t3)) (ml : mg "len" = none) : Gf P w K mg base G 1 f [] (S_dtake C) := by
  refine gf_of F sc_Deframer_take gs (F.binds fun _ _ _ _ _ _ us hl => match us, hl with | [_, _], _ => rfl) .nil (fun ds M xr R h => by obtain ⟨d, h, e, n, b, M0, rfl, _⟩ := h; rfl) ?_
  rintro X W M ds xr R ⟨cdv, A, outer, s, H, E0, rfl⟩ cx ⟨d, h, e, n, b, M0, rfl, hsp, hok⟩
  refine wss_sp hsp ?_
  cases h with
  | none =>
    refine wss_cons (ws_if (wt_cmp cx.hu (we_fld ?_)))
    walk_at "e"
    refine ⟨dc.c, dc.nh, _, rfl, ?_⟩
    walk_at "e"
    refine ws_retN ?_
    exact hok none e n rfl
  | some q =>
    obtain ⟨a, l⟩ := q
    refine wss_cons (ws_if (wt_cmp cx.hu (we_fld ?_)))
    walk_at "e"
    refine ⟨dc.c, dc.nh, _, rfl, ?_⟩
    have hl : (l.map fun i => I i).length = l.length := List.length_map ..
    have rest : ¬ (b = 125 ∧ e = false) → WSs (cxOf (L2N.CX P w) P w K mg base N_Deframer_take "Deframer.take" (defScope s_Deframer_take) f cdv A outer s H E0) G W ((defBody s_Deframer_take).drop 2) (dfr C d (some (a, l)) e n ++ M0) (startD N_Deframer_take [Rf d, I b]) { nx := fun M' _ => R M' N0, rt := R, bk := fun _ _ => False, ct := fun _ _ => False, xr := xr } := by
      intro hne
      walk_at "e"
      refine ⟨dc.c, dc.nh, _, rfl, ?_⟩
      walk_at "e"
      rw [hl]
      refine ite_d (fun h => ?_) (fun h => ?_)
      · have fin : ∀ x : Int, x = (if e = true then flip b else b) → R ((d, O.ins C [("held", Rf a), ("escaped", B false), ("damaged", I n)]) :: (a, O.lst ((l.map fun i => I i) ++ [I x])) :: M0) N0 := fun x hx => by
          have := hok (some (a, l ++ [x])) false n (by simp only [takeS, Option.map_some]; rw [if_neg hne, if_pos (by omega), hx])
          simp only [dfr, dHeld, List.map_append, List.cons_append, List.nil_append] at this
          exact this
        walk_at "e"
        refine ⟨dc.c, dc.nh, _, rfl, ?_⟩
        walk_at "e"
        refine ⟨dc.c, dc.ne, _, rfl, ?_⟩
        walk_at "e"
        cases e with
        | true =>
          walk_at "e"
          refine ⟨sz2 (by rw [hl]; omega), wss_nil ?_⟩
          walk_at "e"
          refine ⟨dc.c, dc.ne, by simp, ?_⟩
          exact wss_nil (fin (Builtin.bitXor b 32) rfl)
        | false =>
          walk_at "e"
          refine ⟨sz2 (by rw [hl]; omega), wss_nil ?_⟩
          walk_at "e"
          refine ⟨dc.c, dc.ne, by simp, ?_⟩
          exact wss_nil (fin b rfl)
      · refine wss_nil (wss_one (ws_fld gs ?_))
        walk_at "e"
        refine ⟨dc.c, dc.ne, by simp, ?_⟩
        have := hok (some (a, l)) false n (by simp only [takeS, Option.map_some]; rw [if_neg hne, if_neg (by omega)])
        exact this
    walk_at "e"
    refine ite_d (fun h => ?_) (fun h => ?_)
    · walk_at "e"
      refine ⟨dc.c, dc.ne, _, rfl, ?_⟩
      cases e with
      | true => exact TruD.bl (iteF (wss_nil (rest fun z => by simp at z)))
      | false =>
        refine TruD.bl (iteT (wss_cons (ws_fld gs ?_)))
        walk_at "e"
        refine ⟨dc.c, dc.ne, by simp, wss_one (ws_retN ?_)⟩
        exact hok (some (a, l)) true n (by simp only [takeS, Option.map_some]; rw [if_pos (by simp [h])])
    · exact iteF (wss_nil (rest fun z => h z.1))
end

end K02
set_option maxRecDepth 100000
set_option maxHeartbeats 4000000

namespace K02
open PySem PySem.Spec PyProof.Rows L2 Wv
open LamX (CodeO TabS Tabs ExtN TabB lamEnv lamCx LamS)
local macro_rules | `(tactic| walk_at "e.name") => `(tactic| first
    | refine we_var 0 _ rfl (by first | exact .inl rfl | exact .inr (.inl rfl) | exact .inr (.inr rfl)) rfl ?_
    | refine we_var 1 _ rfl (by first | exact .inl rfl | exact .inr (.inl rfl) | exact .inr (.inr rfl)) rfl ?_
    | refine we_var 2 _ rfl (by first | exact .inl rfl | exact .inr (.inl rfl) | exact .inr (.inr rfl)) rfl ?_
    | refine we_var 3 _ rfl (by first | exact .inl rfl | exact .inr (.inl rfl) | exact .inr (.inr rfl)) rfl ?_
    | refine we_var 4 _ rfl (by first | exact .inl rfl | exact .inr (.inl rfl) | exact .inr (.inr rfl)) rfl ?_
    | refine we_var 5 _ rfl (by first | exact .inl rfl | exact .inr (.inl rfl) | exact .inr (.inr rfl)) rfl ?_
    | refine we_var 6 _ rfl (by first | exact .inl rfl | exact .inr (.inl rfl) | exact .inr (.inr rfl)) rfl ?_
    | refine we_var 7 _ rfl (by first | exact .inl rfl | exact .inr (.inl rfl) | exact .inr (.inr rfl)) rfl ?_
    | refine we_var 8 _ rfl (by first | exact .inl rfl | exact .inr (.inl rfl) | exact .inr (.inr rfl)) rfl ?_
    | refine we_var 9 _ rfl (by first | exact .inl rfl | exact .inr (.inl rfl) | exact .inr (.inr rfl)) rfl ?_
    | refine we_var 10 _ rfl (by first | exact .inl rfl | exact .inr (.inl rfl) | exact .inr (.inr rfl)) rfl ?_
    | refine we_var 11 _ rfl (by first | exact .inl rfl | exact .inr (.inl rfl) | exact .inr (.inr rfl)) rfl ?_
    | refine we_var 12 _ rfl (by first | exact .inl rfl | exact .inr (.inl rfl) | exact .inr (.inr rfl)) rfl ?_
    | refine we_var 13 _ rfl (by first | exact .inl rfl | exact .inr (.inl rfl) | exact .inr (.inr rfl)) rfl ?_
    | refine we_var 14 _ rfl (by first | exact .inl rfl | exact .inr (.inl rfl) | exact .inr (.inr rfl)) rfl ?_
    | refine we_var 15 _ rfl (by first | exact .inl rfl | exact .inr (.inl rfl) | exact .inr (.inr rfl)) rfl ?_
    | refine we_var 16 _ rfl (by first | exact .inl rfl | exact .inr (.inl rfl) | exact .inr (.inr rfl)) rfl ?_
    | refine we_var 17 _ rfl (by first | exact .inl rfl | exact .inr (.inl rfl) | exact .inr (.inr rfl)) rfl ?_
    | refine we_var 18 _ rfl (by first | exact .inl rfl | exact .inr (.inl rfl) | exact .inr (.inr rfl)) rfl ?_
    | refine we_var 19 _ rfl (by first | exact .inl rfl | exact .inr (.inl rfl) | exact .inr (.inr rfl)) rfl ?_
    | refine we_var 20 _ rfl (by first | exact .inl rfl | exact .inr (.inl rfl) | exact .inr (.inr rfl)) rfl ?_
    | refine we_var 21 _ rfl (by first | exact .inl rfl | exact .inr (.inl rfl) | exact .inr (.inr rfl)) rfl ?_
    | refine we_globI (by assumption) rfl ?_
    | refine we_globS (by assumption) rfl ?_)
local macro_rules | `(tactic| walk_at "e.const") => `(tactic| first
    | refine we_int ?_
    | refine we_str ?_
    | refine we_bl ?_
    | refine we_non ?_)
local macro_rules | `(tactic| walk_at "e.call") => `(tactic| first
    | refine we_len (by assumption) rfl ?_
    | refine we_int2 (by assumption) rfl ?_
    | refine we_tuple (Ct.gs (by assumption)) (by assumption) rfl ?_
    | refine we_abs (by assumption) rfl ?_
    | refine we_find ?_)
local macro_rules | `(tactic| walk_at "e.we") => `(tactic| first
    | (refine gNm ?_; walk_at "e.name")
    | (refine gConst ?_; walk_at "e.const")
    | refine we_bin (Ct.gs (by assumption)) ?_
    | (refine gCall ?_; walk_at "e.call")
    | refine we_cmp (Ct.hu (by assumption)) ?_
    | refine we_ix ?_
    | refine we_slice (Ct.gs (by assumption)) ?_
    | refine we_fld ?_
    | refine we_tup (Ct.gs (by assumption)) ?_
    | refine we_chain (Ct.hu (by assumption)) ?_
    | refine we_lst1 (Ct.gs (by assumption)) ?_
    | refine we_ifx ?_
    | refine we_and ?_
    | refine we_or ?_
    | refine we_one ?_
    | refine we_not ?_
    | refine we_neg ?_)
local macro_rules | `(tactic| walk_at "e.wt") => `(tactic| first
    | refine wt_cmp (Ct.hu (by assumption)) ?_
    | refine wt_chain (Ct.hu (by assumption)) ?_
    | refine wt_not ?_
    | refine wt_bool ?_
    | refine wt_val ?_)
local macro_rules | `(tactic| walk_at "e.ww") => `(tactic| first
    | refine ww_and ?_
    | refine ww_or ?_
    | refine ww_and1 ?_
    | refine ww_or1 ?_)
local macro_rules | `(tactic| walk_at "e.wa") => `(tactic| first
    | refine wa_nil ?_
    | refine wa_cons ?_)
local macro_rules | `(tactic| walk_at "e.wss") => `(tactic| first
    | refine wss_cons ?_
    | refine wss_nil ?_)
local macro_rules | `(tactic| walk_at "e.ws") => `(tactic| first
    | refine ws_if ?_
    | refine ws_expr (we_append (Ct.gs (by assumption)) ?_ (pe_bm PySem.F.plainAttrs_list PySem.F.slot_list_append PySem.F.type_list_append mt_append pe_wp pa_wp))
    | refine ws_expr ?_
    | refine ws_set 0 (Ct.nd (by assumption)) ?_
    | refine ws_set 1 (Ct.nd (by assumption)) ?_
    | refine ws_set 2 (Ct.nd (by assumption)) ?_
    | refine ws_set 3 (Ct.nd (by assumption)) ?_
    | refine ws_set 4 (Ct.nd (by assumption)) ?_
    | refine ws_set 5 (Ct.nd (by assumption)) ?_
    | refine ws_set 6 (Ct.nd (by assumption)) ?_
    | refine ws_set 7 (Ct.nd (by assumption)) ?_
    | refine ws_set 8 (Ct.nd (by assumption)) ?_
    | refine ws_set 9 (Ct.nd (by assumption)) ?_
    | refine ws_set 10 (Ct.nd (by assumption)) ?_
    | refine ws_set 11 (Ct.nd (by assumption)) ?_
    | refine ws_set 12 (Ct.nd (by assumption)) ?_
    | refine ws_set 13 (Ct.nd (by assumption)) ?_
    | refine ws_set 14 (Ct.nd (by assumption)) ?_
    | refine ws_set 15 (Ct.nd (by assumption)) ?_
    | refine ws_set 16 (Ct.nd (by assumption)) ?_
    | refine ws_set 17 (Ct.nd (by assumption)) ?_
    | refine ws_set 18 (Ct.nd (by assumption)) ?_
    | refine ws_set 19 (Ct.nd (by assumption)) ?_
    | refine ws_set 20 (Ct.nd (by assumption)) ?_
    | refine ws_set 21 (Ct.nd (by assumption)) ?_
    | refine ws_sub (Ct.gs (by assumption)) ?_ (fun a b => pg_sub a b set_list)
    | refine ws_fld (Ct.gs (by assumption)) ?_
    | refine ws_pass ?_
    | refine ws_break ?_
    | refine ws_cont ?_)
local macro_rules | `(tactic| walk_at "e.bin") => `(tactic| first
    | refine BinD.addI ?_
    | refine BinD.subI ?_
    | refine BinD.modI (by decide) ?_
    | refine BinD.modI (by assumption) ?_
    | refine BinD.divI (by decide) (by decide) ?_
    | refine BinD.divI (by assumption) (by assumption) ?_
    | refine BinD.mulI (by first | exact .inl ⟨by decide, by decide⟩ | exact .inr ⟨by decide, by decide⟩) ?_
    | refine BinD.xorI ?_
    | refine BinD.powI ⟨by decide, by decide, by decide⟩ ?_)
local macro_rules | `(tactic| walk_at "e.cmp") => `(tactic| first
    | refine CmpD.lt ?_
    | refine CmpD.le ?_
    | refine CmpD.gt ?_
    | refine CmpD.ge ?_
    | refine CmpD.isN ?_
    | refine CmpD.notN ?_
    | refine CmpD.neI_s ?_
    | refine CmpD.neT_s ?_
    | refine CmpD.neZ_s ?_
    | refine CmpD.eqZ_s ?_
    | refine CmpD.neN_s ?_
    | refine CmpD.eqN_s ?_
    | refine CmpD.neTZ ?_
    | refine CmpD.eqTZ ?_
    | refine CmpD.eqI ?_
    | refine CmpD.neI ?_
    | refine CmpD.eqZ ?_
    | refine CmpD.neZ ?_)
local macro_rules | `(tactic| walk_at "e.is") => `(tactic| first
    | refine IsI.mk ?_
    | refine IsT.mk ?_
    | refine IsL.mk ?_
    | refine IsZ.mk ?_
    | refine IsB.mk ?_
    | refine OwL.mk 0 rfl ?_
    | refine OwL.mk 1 rfl ?_
    | refine OwL.mk 2 rfl ?_
    | refine OwL.mk 3 rfl ?_
    | refine OwL.mk 4 rfl ?_
    | refine OwL.mk 5 rfl ?_
    | refine OwI.mk 0 rfl ?_
    | refine OwI.mk 1 rfl ?_
    | refine OwI.mk 2 rfl ?_
    | refine OwI.mk 3 rfl ?_
    | refine OwI.mk 4 rfl ?_
    | refine OwI.mk 5 rfl ?_
    | refine OwI.mk _ (by assumption) ?_
    | refine OwI.mk _ (set_at (by assumption)) ?_
    | refine OwI.mk _ (set_at (set_at (by assumption))) ?_
    | refine OwL.mk _ (by assumption) ?_
    | refine OwL.mk _ (set_at (by assumption)) ?_
    | refine OwL.mk _ (set_at (set_at (by assumption))) ?_
    | refine OwL.mk _ (set_at (set_at (set_at (by assumption)))) ?_
    | refine IxD.own 0 rfl rfl ?_
    | refine IxD.own 1 rfl rfl ?_
    | refine IxD.own 2 rfl rfl ?_
    | refine IxD.own 3 rfl rfl ?_
    | refine IxD.own 4 rfl rfl ?_
    | refine IxD.own 5 rfl rfl ?_
    | refine IxD.own _ (by assumption) rfl ?_
    | refine IxD.own _ (set_at (by assumption)) rfl ?_
    | refine IxD.own _ (set_at (set_at (by assumption))) rfl ?_
    | refine IxD.own _ (set_at (set_at (set_at (by assumption)))) rfl ?_
    | refine IxD.tup rfl ?_
    | refine IxD.lst rfl ?_
    | refine IntD.int ?_
    | refine IntD.bl ?_
    | refine TruD.bl ?_
    | refine TruD.int ?_
    | refine TruD.tup ?_
    | refine TruD.lst ?_
    | refine LenD.tup ?_
    | refine LenD.lst ?_
    | refine SeqD.tup ?_
    | refine SeqD.lst ?_
    | refine SlD.tup ?_
    | refine SlD.lst ?_
    | refine SeqD.own 0 rfl ?_
    | refine SeqD.own 1 rfl ?_
    | refine SeqD.own 2 rfl ?_
    | refine SeqD.own 3 rfl ?_
    | refine SeqD.own 4 rfl ?_
    | refine SeqD.own 5 rfl ?_
    | refine LenD.own 0 rfl ?_
    | refine LenD.own 1 rfl ?_
    | refine LenD.own 2 rfl ?_
    | refine LenD.own 3 rfl ?_
    | refine LenD.own 4 rfl ?_
    | refine LenD.own 5 rfl ?_)
local macro_rules | `(tactic| walk_at "e1") => `(tactic| first
    | (refine gWE ?_; walk_at "e.we")
    | (refine gBinD ?_; walk_at "e.bin")
    | (refine gWSs ?_; walk_at "e.wss")
    | (refine gWS ?_; walk_at "e.ws")
    | (refine gWT ?_; walk_at "e.wt")
    | (refine gCmpD ?_; walk_at "e.cmp")
    | (refine gWA ?_; walk_at "e.wa")
    | (refine gWW ?_; walk_at "e.ww")
    | refine iteT ?_
    | refine iteF ?_
    | walk_at "e.is")
local macro_rules | `(tactic| walk_at "e") => `(tactic| repeat (walk_at "e1"))
theorem putD_len (f : Str) (v : D) : ∀ fs : List (Str × D), (putD f v fs).length ≤ fs.length + 1
  | [] => by simp [putD]
  | (g, x) :: r => by
    unfold putD
    split
    · simp
    · have := putD_len f v r
      simp only [List.length_cons]
      omega
theorem pl1 {f : Str} {v : D} {fs : List (Str × D)} (h : fs.length < 900) : (putD f v fs).length < 1000 := Nat.lt_of_le_of_lt (putD_len f v fs) (by omega)
theorem pl2 {f : Str} {v : D} {fs : List (Str × D)} (h : fs.length < 800) : (putD f v fs).length < 900 := Nat.lt_of_le_of_lt (putD_len f v fs) (by omega)
def S_dinit (C : Addr) : SpD := fun ds M xr R => ∃ (d : Addr) (M0 : Ms), ds = [Rf d] ∧ M = (d, .ins C []) :: M0 ∧ R (dfr C d none false 0 ++ M0) N0
def outD (o : Option (List Int)) : D := match o with
  | none => N0
  | some pl => byt pl
theorem cut_take (l : List Int) (k : Nat) (h : k ≤ l.length) : Wv.cutD (l.map fun i => I i) none (some (k : Int)) = (l.take k).map fun i => I i := by
  unfold Wv.cutD
  have e1 : HT.sIx (l.map fun i => I i).length 0 none = 0 := rfl
  have e2 : HT.sIx (l.map fun i => I i).length (l.map fun i => I i).length (some (k : Int)) = k := by
    simp only [HT.sIx, List.length_map]
    rw [if_neg (by omega)]
    omega
  rw [e1, e2, List.map_take]
  rfl
theorem cut_tail (x : D) (l : List D) : Wv.cutD (x :: l) (some 1) none = l := by
  unfold Wv.cutD
  have e1 : HT.sIx (x :: l).length 0 (some 1) = 1 := by
    simp only [HT.sIx, List.length_cons]
    rw [if_neg (by decide)]
    omega
  have e2 : HT.sIx (x :: l).length (x :: l).length none = (x :: l).length := rfl
  rw [e1, e2]
  simp
theorem any_in (l : List Int) (k : Int) : ((l.map fun i => I i).any fun x => eqd x (I k)) = decide (k ∈ l) := by
  rw [List.any_map, Bool.eq_iff_iff, List.any_eq_true, decide_eq_true_eq]
  refine ⟨fun ⟨x, hx, e⟩ => ?_, fun h => ⟨k, h, ?_⟩⟩
  · have := of_decide_eq_true ((eqd_int x k).symm.trans e)
    exact this ▸ hx
  · show eqd (I k) (I k) = true
    rw [eqd_int]
    exact decide_eq_true rfl
def takeAllS (s : DS) (bs : List Int) : DS := bs.foldl takeS s
def DsOk (s : DS) : Prop := ∀ l, s.held = some l → l.length ≤ 405
theorem take_ok {s : DS} (h : DsOk s) (b : Int) : DsOk (takeS s b) := by
  unfold takeS
  cases e : s.held with
  | none => simp only; exact h
  | some l =>
    have hl := h l e
    simp only
    split
    · intro m hm; cases hm; exact hl
    · intro m hm
      cases hm
      split
      · rw [List.length_append]; show l.length + 1 ≤ 405; omega
      · exact hl
theorem takeAll_ok {bs : List Int} : ∀ {s : DS}, DsOk s → DsOk (takeAllS s bs) := by
  induction bs with
  | nil => intro s h; exact h
  | cons b bs ih => intro s h; exact ih (take_ok h b)
theorem end_ok (s : DS) : DsOk (endS s).1 := by
  unfold endS
  cases s.held with
  | none => intro l hl; cases hl; exact Nat.zero_le _
  | some q =>
    simp only
    split
    · intro l hl; cases hl; exact Nat.zero_le _
    · split <;> (intro l hl; cases hl; exact Nat.zero_le _)
theorem step_ok {s : DS × List (List Int)} (h : DsOk s.1) (b : Int) : DsOk (stepS s b).1 := by
  unfold stepS
  split
  · exact end_ok _
  · exact take_ok h b
theorem fold_ok : ∀ (bs : List Int) {s : DS × List (List Int)}, DsOk s.1 → DsOk (bs.foldl stepS s).1
  | [], _, h => h
  | b :: bs, s, h => fold_ok bs (s := stepS s b) (step_ok h b)
theorem feed_ok {bs : List Int} {s : DS} (h : DsOk s) : DsOk (feedS s bs).1 := fold_ok bs (s := (s, [])) h
theorem none_ok {e : Bool} {n : Int} : DsOk ⟨none, e, n⟩ := fun _ h => by cases h
theorem take_some {l : List Int} {e : Bool} {n b : Int} : ∃ l' e', takeS ⟨some l, e, n⟩ b = ⟨some l', e', n⟩ := by
  unfold takeS
  simp only
  split
  · exact ⟨_, _, rfl⟩
  · exact ⟨_, _, rfl⟩
theorem takeAll_some : ∀ {bs l : List Int} {e : Bool} {n : Int}, ∃ l' e', takeAllS ⟨some l, e, n⟩ bs = ⟨some l', e', n⟩
  | [], l, e, n => ⟨l, e, rfl⟩
  | b :: bs, l, e, n => by
    obtain ⟨l1, e1, h⟩ := take_some (l := l) (e := e) (n := n) (b := b)
    obtain ⟨l2, e2, h2⟩ := takeAll_some (bs := bs) (l := l1) (e := e1) (n := n)
    exact ⟨l2, e2, by show takeAllS (takeS _ b) bs = _; rw [h, h2]⟩
theorem takeAll_none : ∀ (bs : List Int) {e : Bool} {n : Int}, takeAllS ⟨none, e, n⟩ bs = ⟨none, e, n⟩
  | [], _, _ => rfl
  | b :: bs, e, n => takeAll_none bs
/-- bytes that are no escapes are held as they come -/
theorem take_run : ∀ {seg q : List Int} {n : Int}, (∀ x ∈ seg, x ≠ 125) → q.length ≤ 405 → takeAllS ⟨some q, false, n⟩ seg = ⟨some (q ++ seg.take (405 - q.length)), false, n⟩
  | [], q, n, _, _ => by simp [takeAllS]
  | b :: seg, q, n, h, hq => by
    have hb := h b List.mem_cons_self
    show takeAllS (takeS ⟨some q, false, n⟩ b) seg = _
    have e : takeS ⟨some q, false, n⟩ b = ⟨some (if q.length ≤ 404 then q ++ [b] else q), false, n⟩ := by
      show (if b = 125 ∧ false = false then _ else _) = _
      rw [if_neg fun z => hb z.1]
      rfl
    rw [e]
    by_cases z : q.length ≤ 404
    · rw [if_pos z, take_run (fun x hx => h x (List.mem_cons_of_mem _ hx)) (by rw [List.length_append]; show q.length + 1 ≤ 405; omega), List.length_append, List.append_assoc]
      show (⟨some (q ++ ([b] ++ seg.take (405 - (q.length + 1)))), false, n⟩ : DS) = _
      rw [show 405 - q.length = (405 - (q.length + 1)) + 1 by omega]
      rfl
    · rw [if_neg z, take_run (fun x hx => h x (List.mem_cons_of_mem _ hx)) hq, show 405 - q.length = 0 by omega]
      rfl
theorem feedS_app (s : DS) (l m : List Int) : feedS s (l ++ m) = ((feedS (feedS s l).1 m).1, (feedS s l).2 ++ (feedS (feedS s l).1 m).2) := by
  have key : ∀ (m : List Int) (s : DS) (f : List (List Int)), m.foldl stepS (s, f) = ((m.foldl stepS (s, [])).1, f ++ (m.foldl stepS (s, [])).2) := by
    intro m
    induction m with
    | nil => intro s f; simp
    | cons b m ih =>
      intro s f
      simp only [List.foldl_cons]
      have e : ∀ (s : DS) (f : List (List Int)), stepS (s, f) b = ((stepS (s, []) b).1, f ++ (stepS (s, []) b).2) := fun s f => by
        unfold stepS
        split <;> simp
      rw [e s f, ih _ (f ++ _), ih (stepS (s, []) b).1 (stepS (s, []) b).2]
      simp [List.append_assoc]
  unfold feedS
  rw [List.foldl_append]
  generalize hq : l.foldl stepS (s, []) = q
  obtain ⟨s1, f1⟩ := q
  exact key m s1 f1
theorem feed_seg : ∀ {seg : List Int} {s : DS} {f : List (List Int)}, (∀ x ∈ seg, x ≠ 126) → seg.foldl stepS (s, f) = (takeAllS s seg, f)
  | [], _, _, _ => rfl
  | b :: seg, s, f, h => by
    have e : stepS (s, f) b = (takeS s b, f) := by
      unfold stepS
      rw [if_neg (h b List.mem_cons_self)]
    rw [List.foldl_cons, e, feed_seg fun x hx => h x (List.mem_cons_of_mem _ hx)]
    rfl
theorem feed_end {seg : List Int} {s : DS} (h : ∀ x ∈ seg, x ≠ 126) : feedS s (seg ++ [126]) = ((endS (takeAllS s seg)).1, (endS (takeAllS s seg)).2.toList) := by
  unfold feedS
  rw [List.foldl_append, feed_seg h]
  rfl
def S_tall (C : Addr) : SpD := fun ds M xr R => ∃ (d : Addr) (h : Option (Addr × List Int)) (e : Bool) (n : Int) (bs : List Int) (M0 : Ms), ds = [Rf d, byt bs] ∧ bs.length ≤ 100000 ∧ DsOk ⟨h.map (·.2), e, n⟩ ∧ SP (dfr C d h e n ++ M0) M ∧
  ∀ h' e' n', (⟨h'.map (·.2), e', n'⟩ : DS) = takeAllS ⟨h.map (·.2), e, n⟩ bs → R (dfr C d h' e' n' ++ M0) N0
def S_begin (C : Addr) : SpD := fun ds M xr R => ∃ (d : Addr) (h : Option (Addr × List Int)) (e : Bool) (n : Int) (M0 : Ms), ds = [Rf d] ∧ SP (dfr C d h e n ++ M0) M ∧
  ∀ a', R (dfr C d (some (a', [])) false n ++ ((match h with | none => [] | some (a, l) => [(a, O.lst (l.map fun i => I i))]) ++ M0)) N0
def S_dend (C : Addr) : SpD := fun ds M xr R => ∃ (d : Addr) (h : Option (Addr × List Int)) (e : Bool) (n : Int) (bs : List Int) (M0 : Ms), ds = [Rf d, byt bs] ∧ bs.length ≤ 100000 ∧ DsOk ⟨h.map (·.2), e, n⟩ ∧ SP (dfr C d h e n ++ M0) M ∧
  ∀ a', R (dfr C d (some (a', [])) false (endS (takeAllS ⟨h.map (·.2), e, n⟩ bs)).1.dmg ++ M0) (outD (endS (takeAllS ⟨h.map (·.2), e, n⟩ bs)).2)
def S_feed (C : Addr) : SpD := fun ds M xr R => ∃ (d : Addr) (h : Option (Addr × List Int)) (e : Bool) (n : Int) (bs : List Int) (M0 : Ms), ds = [Rf d, byt bs] ∧ bs.length ≤ 100000 ∧ DsOk ⟨h.map (·.2), e, n⟩ ∧ SP (dfr C d h e n ++ M0) M ∧
  ∀ h' e' n', (⟨h'.map (·.2), e', n'⟩ : DS) = (feedS ⟨h.map (·.2), e, n⟩ bs).1 → R (dfr C d h' e' n' ++ M0) (.tup ((feedS ⟨h.map (·.2), e, n⟩ bs).2.map byt))
def S_pin : SpD := fun ds M xr R => ∃ bs : List Int, ds = [byt bs] ∧ bs.length ≤ 100000 ∧ R M (.tup ((feedS ⟨none, false, 0⟩ bs).2.map byt))
theorem init_ret {C : Addr} : ∀ ds M xr R, S_dinit C ds M xr R → S_dinit C ds M xr fun M' d => R M' d ∧ d = N0 := fun ds M xr R ⟨d, M0, h1, h2, h3⟩ => ⟨d, M0, h1, h2, h3, rfl⟩
theorem feedS_more {s : DS} {bs : List Int} {i : Nat} {b : Int} (h : bs[i]? = some b) : feedS s (bs.take (i + 1)) = stepS (feedS s (bs.take i)) b := by
  rw [take_succ h]; unfold feedS; rw [List.foldl_append]; rfl
theorem fold_len : ∀ (l : List Int) (s : DS × List (List Int)), (l.foldl stepS s).2.length ≤ s.2.length + l.length
  | [], s => by simp
  | b :: l, s => by
    have h1 := fold_len l (stepS s b)
    have h2 : (stepS s b).2.length ≤ s.2.length + 1 := by
      unfold stepS
      split
      · simp only [List.length_append]
        cases (endS s.1).2 <;> simp
      · simp
    simp only [List.foldl_cons, List.length_cons]
    omega
theorem cut_to (l : List Int) : Wv.cutD (l.map fun i => I i) none (some (-4)) = (l.take (l.length - 4)).map fun i => I i := by
  unfold Wv.cutD
  have e1 : HT.sIx (l.map fun i => I i).length 0 none = 0 := rfl
  have e2 : HT.sIx (l.map fun i => I i).length (l.map fun i => I i).length (some (-4)) = l.length - 4 := by
    simp only [HT.sIx, List.length_map]
    rw [if_pos (by decide)]
    omega
  rw [e1, e2, List.map_take]
  rfl
theorem cut_from (l : List Int) : Wv.cutD (l.map fun i => I i) (some (-4)) none = (l.drop (l.length - 4)).map fun i => I i := by
  unfold Wv.cutD
  have e1 : HT.sIx (l.map fun i => I i).length 0 (some (-4)) = l.length - 4 := by
    simp only [HT.sIx, List.length_map]
    rw [if_pos (by decide)]
    omega
  have e2 : HT.sIx (l.map fun i => I i).length (l.map fun i => I i).length none = l.length := by
    simp only [HT.sIx, List.length_map]
  rw [e1, e2, List.map_drop]
  rw [List.take_of_length_le (by simp)]
section
variable {P : Program} {w : World} {K : PySem.W.Frag} {mg : Str → Option Value} {base : Heap} {G : Hp → Prop}
theorem gf_dinit {f C : Addr} {fd : FuncData} (F : Fun K "__init__" "Deframer.__init__" s_Deframer_init f fd) (gs : Gst G) (dc : DfC K C) : Gf P w K mg base G 1 f [] (S_dinit C) := by
  refine gf_of F sc_Deframer_init gs (F.binds fun _ _ _ _ _ _ us hl => match us, hl with | [_], _ => rfl) .nil (fun ds M xr R h => by obtain ⟨d, M0, rfl, _⟩ := h; rfl) ?_
  rintro X W M ds xr R ⟨cdv, A, outer, s, H, E0, rfl⟩ cx ⟨d, M0, rfl, rfl, hok⟩
  walk_at "e"
  refine ⟨dc.c, dc.nh, by simp, ?_⟩
  walk_at "e"
  refine ⟨dc.c, dc.ne, pl1 (by simp), ?_⟩
  walk_at "e"
  refine ⟨dc.c, dc.nd, pl1 (pl2 (by simp)), ?_⟩
  refine wss_nil ?_
  exact hok
def ifT' (s : Stmt) : List Stmt := match s with
  | .If _ t _ _ => t
  | _ => []
def ifE' (s : Stmt) : List Stmt := match s with
  | .If _ _ e _ => e
  | _ => []
def whB (s : Stmt) : Stmt := match s with
  | .While _ b _ _ => b.getD 0 (.Pass ⟨0, 0, 0, 0⟩)
  | _ => .Pass ⟨0, 0, 0, 0⟩
theorem gf_begin {f C : Addr} {fd : FuncData} (F : Fun K "begin" "Deframer.begin" s_Deframer_begin f fd) (gs : Gst G) (dc : DfC K C) : Gf P w K mg base G 1 f [] (S_begin C) := by
  refine gf_of F sc_Deframer_begin gs (F.binds fun _ _ _ _ _ _ us hl => match us, hl with | [_], _ => rfl) .nil (fun ds M xr R h => by obtain ⟨d, h, e, n, M0, rfl, _⟩ := h; rfl) ?_
  rintro X W M ds xr R ⟨cdv, A, outer, s, H, E0, rfl⟩ cx ⟨d, h, e, n, M0, rfl, hsp, hok⟩
  refine wss_sp hsp ?_
  refine wss_cons (ws_fld gs (we_lstO gs (wa_nil ⟨Nat.zero_le _, fun a' => ?_⟩)))
  walk_at "e"
  cases h with
  | none =>
    refine ⟨dc.c, dc.nh, by simp, ?_⟩
    walk_at "e"
    refine ⟨dc.c, dc.ne, pl1 (by simp), ?_⟩
    exact wss_sp (M0 := dfr C d (some (a', [])) false n ++ ([] ++ M0)) ⟨_, List.Perm.swap _ _ _, List.Sublist.refl _⟩ (wss_nil (hok a'))
  | some q =>
    obtain ⟨a, l⟩ := q
    refine ⟨dc.c, dc.nh, by simp, ?_⟩
    walk_at "e"
    refine ⟨dc.c, dc.ne, pl1 (by simp), ?_⟩
    exact wss_sp (M0 := dfr C d (some (a', [])) false n ++ ([(a, O.lst (l.map fun i => I i))] ++ M0)) ⟨_, List.Perm.swap _ _ _, List.Sublist.refl _⟩ (wss_nil (hok a'))
theorem gf_tall {f ft C : Addr} {fd : FuncData} {t1 t2 : Tok} (F : Fun K "take_all" "Deframer.take_all" s_Deframer_take_all f fd) (gs : Gst G) (dc : DfC K C) (gE : mg "ESCAPE" = some (.int 125 t1)) (gP : mg "MOST_HELD" = some (.int 405 t2)) (ml : mg "len" = none) (mm : mg "min" = none) (Mt : Meth K C "take" ft) (g1 : Gf P w K mg base G 1 ft [] (S_dtake C)) : Gf P w K mg base G 2 f [] (S_tall C) := by
  refine gf_of F sc_Deframer_take_all gs (F.binds fun _ _ _ _ _ _ us hl => match us, hl with | [_, _], _ => rfl) .nil (fun ds M xr R h => by obtain ⟨d, h, e, n, bs, M0, rfl, _⟩ := h; rfl) ?_
  rintro X W M ds xr R ⟨cdv, A, outer, s, H, E0, rfl⟩ cx ⟨d, h, e, n, bs, M0, rfl, hl, ho, hsp, hok⟩
  refine wss_sp hsp ?_
  cases h with
  | none =>
    refine wss_cons (ws_if (wt_cmp cx.hu (we_fld ?_)))
    walk_at "e"
    refine ⟨dc.c, dc.nh, _, rfl, ?_⟩
    walk_at "e"
    refine ws_retN ?_
    exact hok none e n (takeAll_none bs).symm
  | some q0 =>
    obtain ⟨a0, l0⟩ := q0
    refine wss_cons (ws_if (wt_cmp cx.hu (we_fld ?_)))
    walk_at "e"
    refine ⟨dc.c, dc.nh, _, rfl, ?_⟩
    walk_at "e"
    refine ws_while cx (fun m M' ρ' => ∃ (r : List Int) (a : Addr) (l : List Int) (e' : Bool), m = r.length ∧ r.length ≤ bs.length ∧ DsOk ⟨some l, e', n⟩ ∧ takeAllS ⟨some l, e', n⟩ r = takeAllS ⟨some l0, e, n⟩ bs ∧ M' = dfr C d (some (a, l)) e' n ++ M0 ∧ ∃ z, ρ' = [some (Rf d), some (byt bs), some (byt r), z]) ?_ ?_
    · exact ⟨_, bs, a0, l0, e, rfl, Nat.le_refl _, ho, rfl, rfl, _, rfl⟩
    · rintro m M' ρ' ⟨r, a, l, e', rfl, hr, ok, ht, rfl, z3, rfl⟩
      have hll := ok l rfl
      walk_at "e"
      refine ⟨Nat.zero_le _, CmpD.neT (j := []) (ite_nd (fun hne => ?_) (fun hz => ?_))⟩
      · obtain ⟨x, r', hx⟩ : ∃ x r', r = x :: r' := by
          cases r with
          | nil => exact absurd rfl hne
          | cons x r' => exact ⟨x, r', rfl⟩
        have h0 : atI (r.map fun i => I i) 0 = some (I x) := by rw [hx]; exact atI_nat (k := 0) rfl
        have brA : ∀ N' : En, (∀ (a2 : Addr) (l2 : List Int) (e2 : Bool), DsOk ⟨some l2, e2, n⟩ → takeAllS ⟨some l2, e2, n⟩ r' = takeAllS ⟨some l0, e, n⟩ bs → N'.nx (dfr C d (some (a2, l2)) e2 n ++ M0) [some (Rf d), some (byt bs), some (byt r'), z3]) → WSs (cxOf (L2N.CX P w) P w K mg base N_Deframer_take_all "Deframer.take_all" (defScope s_Deframer_take_all) f cdv A outer s H E0) G W (ifT' (whB ((defBody s_Deframer_take_all).getD 2 (.Pass ⟨0, 0, 0, 0⟩)))) (dfr C d (some (a, l)) e' n ++ M0) [some (Rf d), some (byt bs), some (byt r), z3] N' := by
          intro N' hN
          refine wss_cons (ws_expr (we_meth cx g1 (by decide) dc.c Mt ?_))
          walk_at "e"
          refine ⟨rfl, rfl, ?_⟩
          walk_at "e"
          refine .tup (d := I x) h0 ?_
          walk_at "e"
          refine ⟨d, some (a, l), e', n, x, M0, rfl, ⟨_, List.Perm.refl _, List.Sublist.refl _⟩, fun h2 e2 n2 heq => ?_⟩
          obtain ⟨l3, e3, ht3⟩ := take_some (l := l) (e := e') (n := n) (b := x)
          rw [Option.map_some, ht3] at heq
          cases h2 with
          | none => cases heq
          | some q2 =>
            obtain ⟨a2, l2⟩ := q2
            cases heq
            refine wss_one (ws_set 2 cx.nd (we_slice gs ?_))
            walk_at "e"
            have ec : Wv.cutD (r.map fun i => I i) (some 1) none = r'.map fun i => I i := by rw [hx]; exact cut_tail _ _
            rw [ec]
            refine hN a2 l2 e2 ?_ ?_
            · have := take_ok ok x
              rw [ht3] at this
              exact this
            · rw [← ht, hx]
              show _ = takeAllS (takeS _ x) r'
              rw [ht3]
        have nxA : ∀ (a2 : Addr) (l2 : List Int) (e2 : Bool), DsOk ⟨some l2, e2, n⟩ → takeAllS ⟨some l2, e2, n⟩ r' = takeAllS ⟨some l0, e, n⟩ bs → ∃ m', m' < r.length ∧ ∃ (r : List Int) (a : Addr) (l : List Int) (e' : Bool), m' = r.length ∧ r.length ≤ bs.length ∧ DsOk ⟨some l, e', n⟩ ∧ takeAllS ⟨some l, e', n⟩ r = takeAllS ⟨some l0, e, n⟩ bs ∧ (dfr C d (some (a2, l2)) e2 n ++ M0) = dfr C d (some (a, l)) e' n ++ M0 ∧ ∃ z, [some (Rf d), some (byt bs), some (byt r'), z3] = [some (Rf d), some (byt bs), some (byt r), z] := fun a2 l2 e2 o2 t2 =>
          ⟨r'.length, by rw [hx]; simp, r', a2, l2, e2, rfl, by rw [hx] at hr; simp at hr; omega, o2, t2, rfl, z3, rfl⟩
        refine wss_one (ws_if (wt_bool (ww_or ?_)))
        walk_at "e"
        refine ⟨dc.c, dc.ne, _, rfl, ?_⟩
        cases e' with
        | true => exact TruD.bl (iteT (brA _ nxA))
        | false =>
          refine TruD.bl (iteF (ww_or1 (wt_cmp cx.hu ?_)))
          walk_at "e"
          refine .tup (d := I x) h0 ?_
          walk_at "e"
          refine ite_d (fun _ => brA _ nxA) (fun hx5 => ?_)
          have key : ∀ (N' : En) (j : Nat), 0 < j → j ≤ r.length → (∀ y ∈ r.take j, y ≠ 125) → (∀ (l2 r2 : List Int), r2.length < r.length → DsOk ⟨some l2, false, n⟩ → takeAllS ⟨some l2, false, n⟩ r2 = takeAllS ⟨some l0, e, n⟩ bs → ∀ z, N'.nx (dfr C d (some (a, l2)) false n ++ M0) [some (Rf d), some (byt bs), some (byt r2), z]) → WSs (cxOf (L2N.CX P w) P w K mg base N_Deframer_take_all "Deframer.take_all" (defScope s_Deframer_take_all) f cdv A outer s H E0) G W ((ifE' (whB ((defBody s_Deframer_take_all).getD 2 (.Pass ⟨0, 0, 0, 0⟩)))).drop 1) (dfr C d (some (a, l)) false n ++ M0) [some (Rf d), some (byt bs), some (byt r), some (I (j : Int))] N' := by
            intro N' j j0 jr no hN
            have hb : (if ((405 : Int) - (((l.map fun i => I i).length : Nat) : Int)) < (j : Int) then ((405 : Int) - (((l.map fun i => I i).length : Nat) : Int)) else (j : Int)) = ((min j (405 - l.length) : Nat) : Int) := by
              rw [List.length_map]
              split <;> omega
            refine wss_cons (ws_expr (we_extT gs ?_ (pe_bm PySem.F.plainAttrs_list PySem.F.slot_list_extend PySem.F.type_list_extend mt_extT pe_wp pa_wp)))
            walk_at "e"
            refine ⟨dc.c, dc.nh, _, rfl, ?_⟩
            walk_at "e"
            refine we_min2 cx mm rfl ?_
            walk_at "e"
            refine ⟨dc.c, dc.nh, _, rfl, ?_⟩
            walk_at "e"
            refine ⟨_, _, rfl, ?_⟩
            rw [hb]
            walk_at "e"
            rw [cut_take r _ (by omega)]
            walk_at "e"
            refine ⟨sz1 (by rw [List.length_map, List.length_map, List.length_take]; omega), ?_⟩
            refine wss_one (ws_set 2 cx.nd (we_slice gs ?_))
            walk_at "e"
            rw [cut_drop r j jr]
            have tr := take_run (seg := r.take j) (q := l) (n := n) no hll
            rw [List.take_take, Nat.min_comm] at tr
            have et : takeAllS ⟨some l, false, n⟩ r = takeAllS (takeAllS ⟨some l, false, n⟩ (r.take j)) (r.drop j) := by
              show r.foldl takeS _ = (r.drop j).foldl takeS ((r.take j).foldl takeS _)
              rw [← List.foldl_append, List.take_append_drop]
            rw [tr] at et
            have := hN (l ++ r.take (min j (405 - l.length))) (r.drop j) (by rw [List.length_drop]; omega) (by
              have := takeAll_ok (bs := r.take j) ok
              rw [tr] at this
              exact this) (by rw [← et, ht]) (some (I (j : Int)))
            simp only [dfr, dHeld, List.map_append] at this
            exact this
          have nxB : ∀ (l2 r2 : List Int), r2.length < r.length → DsOk ⟨some l2, false, n⟩ → takeAllS ⟨some l2, false, n⟩ r2 = takeAllS ⟨some l0, e, n⟩ bs → ∀ z, ∃ m', m' < r.length ∧ ∃ (r : List Int) (a' : Addr) (l : List Int) (e' : Bool), m' = r.length ∧ r.length ≤ bs.length ∧ DsOk ⟨some l, e', n⟩ ∧ takeAllS ⟨some l, e', n⟩ r = takeAllS ⟨some l0, e, n⟩ bs ∧ (dfr C d (some (a, l2)) false n ++ M0) = dfr C d (some (a', l)) e' n ++ M0 ∧ ∃ z', [some (Rf d), some (byt bs), some (byt r2), z] = [some (Rf d), some (byt bs), some (byt r), z'] := fun l2 r2 lt o2 t2 z =>
            ⟨r2.length, lt, r2, a, l2, false, rfl, by omega, o2, t2, rfl, z, rfl⟩
          refine wss_cons (ws_set 3 cx.nd (we_ifx (wt_cmp cx.hu ?_)))
          walk_at "e"
          refine CmpD.inT (.int _) (fun y hy => by obtain ⟨i, _, rfl⟩ := List.mem_map.mp hy; exact .int _) ?_
          rw [any_in]
          refine ite_d (fun hin => ?_) (fun hin => ?_)
          · obtain ⟨j, hj, hno⟩ := first_at (s := 125) (l := r) (List.count_pos_iff.mpr hin)
            have hjl := at_lt hj
            have j0 : 0 < j := by
              rcases Nat.eq_zero_or_pos j with q | q
              · subst q
                rw [hx] at hj
                exact absurd (Option.some.inj hj) hx5
              · exact q
            refine we_tindex ?_ (pe_tm PySem.F.plainAttrs_tuple PySem.F.slot_tuple_index PySem.F.type_tuple_index mt_indexT pe_wp pa_wp)
            walk_at "e"
            refine ⟨r, rfl, ?_⟩
            walk_at "e"
            refine ⟨j, hj, hno, key _ j j0 (by omega) (fun y hy e => ?_) nxB⟩
            obtain ⟨m, hm⟩ := List.getElem?_of_mem hy
            have hmj : m < j := by have := at_lt hm; rw [List.length_take] at this; omega
            rw [List.getElem?_take_of_lt hmj] at hm
            exact hno m hmj (by rw [hm, e])
          · refine we_len ml rfl ?_
            walk_at "e1"
            refine LenD.tup ?_
            rw [List.length_map]
            refine key _ r.length ?_ ?_ ?_ ?_
            · rw [hx]; simp
            · exact Nat.le_refl _
            · exact fun y hy e => hin (e ▸ List.mem_of_mem_take hy)
            · exact nxB
      · subst hz
        exact wss_nil (hok (some (a, l)) e' n ht)
theorem gf_dend {f fu fb fa C : Addr} {fd : FuncData} {t3 t4 : Tok} (F : Fun K "end_frame" "Deframer.end_frame" s_Deframer_end_frame f fd) (gs : Gst G) (dc : DfC K C) (gP : mg "MOST_PAYLOAD" = some (.int 400 t3)) (gS : mg "SUM_SIZE" = some (.int 4 t4)) (ml : mg "len" = none) (mt : mg "tuple" = none) (mu : mg "sum_bytes" = some (.ref fu)) (g2 : Gf P w K mg base G 2 fu [] S_sum) (Mb : Meth K C "begin" fb) (gb : Gf P w K mg base G 1 fb [] (S_begin C)) (Ma : Meth K C "take_all" fa) (ga : Gf P w K mg base G 2 fa [] (S_tall C)) : Gf P w K mg base G 3 f [] (S_dend C) := by
  refine gf_of F sc_Deframer_end_frame gs (F.binds fun _ _ _ _ _ _ us hl => match us, hl with | [_, _], _ => rfl) .nil (fun ds M xr R h => by obtain ⟨d, h, e, n, bs, M0, rfl, _⟩ := h; rfl) ?_
  rintro X W M ds xr R ⟨cdv, A, outer, s, H, E0, rfl⟩ cx ⟨d, h, e, n, bs, M0, rfl, hl, ho, hsp, hok⟩
  refine wss_sp hsp ?_
  cases h with
  | none =>
    refine wss_cons (ws_if (wt_cmp cx.hu (we_fld ?_)))
    walk_at "e"
    refine ⟨dc.c, dc.nh, _, rfl, ?_⟩
    walk_at "e"
    refine we_meth0 cx gb (by decide) dc.c Mb ?_
    walk_at "e"
    refine ⟨rfl, rfl, d, none, e, n, M0, rfl, ⟨_, List.Perm.refl _, List.Sublist.refl _⟩, fun a' => ?_⟩
    walk_at "e"
    refine ws_ret ?_
    walk_at "e"
    have := hok a'
    rw [Option.map_none, takeAll_none] at this
    exact this
  | some q0 =>
    obtain ⟨a0, l0⟩ := q0
    refine wss_cons (ws_if (wt_cmp cx.hu (we_fld ?_)))
    walk_at "e"
    refine ⟨dc.c, dc.nh, _, rfl, ?_⟩
    walk_at "e"
    refine we_meth cx ga (by decide) dc.c Ma ?_
    walk_at "e"
    refine ⟨rfl, rfl, ?_⟩
    walk_at "e"
    refine ⟨d, some (a0, l0), e, n, bs, M0, rfl, hl, ho, ⟨_, List.Perm.refl _, List.Sublist.refl _⟩, fun h2 e2 n2 heq => ?_⟩
    obtain ⟨l3, e3, h3⟩ := takeAll_some (bs := bs) (l := l0) (e := e) (n := n)
    rw [Option.map_some, h3] at heq
    cases h2 with
    | none => cases heq
    | some q2 =>
    obtain ⟨a, l⟩ := q2
    cases heq
    have hok : ∀ a', R (dfr C d (some (a', [])) false (endS ⟨some l, e2, n⟩).1.dmg ++ M0) (outD (endS ⟨some l, e2, n⟩).2) := fun a' => by
      have := hok a'
      rw [Option.map_some, h3] at this
      exact this
    walk_at "e"
    refine ⟨dc.c, dc.nh, _, rfl, ?_⟩
    walk_at "e"
    refine ⟨dc.c, dc.ne, _, rfl, ?_⟩
    walk_at "e"
    refine we_meth0 cx gb (by decide) dc.c Mb ?_
    walk_at "e"
    refine ⟨rfl, rfl, d, some (a, l), e2, n, M0, rfl, ⟨_, List.Perm.refl _, List.Sublist.refl _⟩, fun a' => ?_⟩
    refine wss_freeze 2 2 rfl rfl ?_
    have cont : ¬ (l = [] ∧ e2 = false) → WSs (cxOf (L2N.CX P w) P w K mg base N_Deframer_end_frame "Deframer.end_frame" (defScope s_Deframer_end_frame) f cdv A outer s H E0) G W ((defBody s_Deframer_end_frame).drop 6) (dfr C d (some (a', [])) false n ++ M0) [some (Rf d), some (byt bs), some (.lst (l.map fun i => I i)), some (B e2), none, none] { nx := fun M' _ => R M' N0, rt := R, bk := fun _ _ => False, ct := fun _ _ => False, xr := xr } := by
      intro hne
      have bad : (e2 = true ∨ 400 < (l.take (l.length - 4)).length ∨ sumL (l.take (l.length - 4)) ≠ l.drop (l.length - 4)) → R (dfr C d (some (a', [])) false (n + 1) ++ M0) N0 := fun z => by
        have := hok a'
        have e1 : endS ⟨some l, e2, n⟩ = (⟨some [], false, n + 1⟩, none) := by
          simp only [endS]
          rw [if_neg hne, if_pos z]
        rw [e1] at this
        exact this
      have good : ¬ (e2 = true ∨ 400 < (l.take (l.length - 4)).length ∨ sumL (l.take (l.length - 4)) ≠ l.drop (l.length - 4)) → R (dfr C d (some (a', [])) false n ++ M0) (byt (l.take (l.length - 4))) := fun z => by
        have := hok a'
        have e1 : endS ⟨some l, e2, n⟩ = (⟨some [], false, n⟩, some (l.take (l.length - 4))) := by
          simp only [endS]
          rw [if_neg hne, if_neg z]
        rw [e1] at this
        exact this
      walk_at "e"
      refine ⟨4, rfl, ?_⟩
      walk_at "e"
      rw [show -(4 : Int) = -4 from rfl, cut_to]
      walk_at "e"
      refine ⟨4, rfl, ?_⟩
      walk_at "e"
      rw [show -(4 : Int) = -4 from rfl, cut_from]
      have raise : (e2 = true ∨ 400 < (l.take (l.length - 4)).length ∨ sumL (l.take (l.length - 4)) ≠ l.drop (l.length - 4)) → ∀ nx0, WSs (cxOf (L2N.CX P w) P w K mg base N_Deframer_end_frame "Deframer.end_frame" (defScope s_Deframer_end_frame) f cdv A outer s H E0) G W (match (defBody s_Deframer_end_frame).getD 8 (.Pass ⟨0, 0, 0, 0⟩) with | .If _ t _ _ => t | _ => []) (dfr C d (some (a', [])) false n ++ M0) [some (Rf d), some (byt bs), some (.lst (l.map fun i => I i)), some (B e2), some (byt (l.take (l.length - 4))), some (byt (l.drop (l.length - 4)))] { nx := nx0, rt := R, bk := fun _ _ => False, ct := fun _ _ => False, xr := xr } := by
        intro z nx0
        refine wss_cons (ws_fldAdd gs ?_)
        walk_at "e"
        refine ⟨dc.c, dc.nd, n, rfl, ?_⟩
        walk_at "e"
        refine ⟨rfl, by simp, ?_⟩
        refine wss_one (ws_ret ?_)
        walk_at "e"
        exact bad z
      walk_at "e"
      cases e2 with
      | true => exact iteT (raise (.inl rfl) _)
      | false =>
        walk_at "e"
        rw [List.length_map]
        refine ite_d (fun h2 => ?_) (fun h2 => ?_)
        · exact iteT (raise (.inr (.inl (by omega))) _)
        · refine ww_or1 (wt_cmp cx.hu (we_call cx g2 (by decide) mu rfl ?_))
          walk_at "e"
          refine ⟨l.take (l.length - 4), .inl rfl, ?_⟩
          walk_at "e"
          refine CmpD.neT ?_
          refine ite_nd (fun h3 => ?_) (fun h3 => ?_)
          · exact raise (.inr (.inr h3)) _
          · refine wss_nil (wss_one (ws_ret ?_))
            walk_at "e"
            exact good fun z => z.elim (fun z => by cases z) fun z => z.elim (fun z => by omega) fun z => z h3
    refine wss_cons (ws_if (wt_bool (ww_and (wt_cmp cx.hu ?_))))
    walk_at "e"
    refine we_lst gs (wa_nil ⟨Nat.zero_le _, CmpD.eqN ?_⟩)
    refine ite_d (fun h1 => ?_) (fun h1 => ?_)
    · walk_at "e"
      cases e2 with
      | true => exact iteF (wss_nil (cont fun z => by simp at z))
      | false =>
        refine iteT (wss_one (ws_ret ?_))
        walk_at "e"
        have := hok a'
        have e1 : endS ⟨some l, false, n⟩ = (⟨some [], false, n⟩, none) := by
          simp only [endS]
          rw [if_pos (by simp [h1])]
        rw [e1] at this
        exact this
    · exact iteF (wss_nil (cont fun z => h1 z.1))
end

end K02
set_option maxRecDepth 100000
set_option maxHeartbeats 4000000

namespace K02
open PySem PySem.Spec PyProof.Rows L2 Wv
open LamX (CodeO TabS Tabs ExtN TabB lamEnv lamCx LamS)
local macro_rules | `(tactic| walk_at "e.name") => `(tactic| first
    | refine we_var 0 _ rfl (by first | exact .inl rfl | exact .inr (.inl rfl) | exact .inr (.inr rfl)) rfl ?_
    | refine we_var 1 _ rfl (by first | exact .inl rfl | exact .inr (.inl rfl) | exact .inr (.inr rfl)) rfl ?_
    | refine we_var 2 _ rfl (by first | exact .inl rfl | exact .inr (.inl rfl) | exact .inr (.inr rfl)) rfl ?_
    | refine we_var 3 _ rfl (by first | exact .inl rfl | exact .inr (.inl rfl) | exact .inr (.inr rfl)) rfl ?_
    | refine we_var 4 _ rfl (by first | exact .inl rfl | exact .inr (.inl rfl) | exact .inr (.inr rfl)) rfl ?_
    | refine we_var 5 _ rfl (by first | exact .inl rfl | exact .inr (.inl rfl) | exact .inr (.inr rfl)) rfl ?_
    | refine we_var 6 _ rfl (by first | exact .inl rfl | exact .inr (.inl rfl) | exact .inr (.inr rfl)) rfl ?_
    | refine we_var 7 _ rfl (by first | exact .inl rfl | exact .inr (.inl rfl) | exact .inr (.inr rfl)) rfl ?_
    | refine we_var 8 _ rfl (by first | exact .inl rfl | exact .inr (.inl rfl) | exact .inr (.inr rfl)) rfl ?_
    | refine we_var 9 _ rfl (by first | exact .inl rfl | exact .inr (.inl rfl) | exact .inr (.inr rfl)) rfl ?_
    | refine we_var 10 _ rfl (by first | exact .inl rfl | exact .inr (.inl rfl) | exact .inr (.inr rfl)) rfl ?_
    | refine we_var 11 _ rfl (by first | exact .inl rfl | exact .inr (.inl rfl) | exact .inr (.inr rfl)) rfl ?_
    | refine we_var 12 _ rfl (by first | exact .inl rfl | exact .inr (.inl rfl) | exact .inr (.inr rfl)) rfl ?_
    | refine we_var 13 _ rfl (by first | exact .inl rfl | exact .inr (.inl rfl) | exact .inr (.inr rfl)) rfl ?_
    | refine we_var 14 _ rfl (by first | exact .inl rfl | exact .inr (.inl rfl) | exact .inr (.inr rfl)) rfl ?_
    | refine we_var 15 _ rfl (by first | exact .inl rfl | exact .inr (.inl rfl) | exact .inr (.inr rfl)) rfl ?_
    | refine we_var 16 _ rfl (by first | exact .inl rfl | exact .inr (.inl rfl) | exact .inr (.inr rfl)) rfl ?_
    | refine we_var 17 _ rfl (by first | exact .inl rfl | exact .inr (.inl rfl) | exact .inr (.inr rfl)) rfl ?_
    | refine we_var 18 _ rfl (by first | exact .inl rfl | exact .inr (.inl rfl) | exact .inr (.inr rfl)) rfl ?_
    | refine we_var 19 _ rfl (by first | exact .inl rfl | exact .inr (.inl rfl) | exact .inr (.inr rfl)) rfl ?_
    | refine we_var 20 _ rfl (by first | exact .inl rfl | exact .inr (.inl rfl) | exact .inr (.inr rfl)) rfl ?_
    | refine we_var 21 _ rfl (by first | exact .inl rfl | exact .inr (.inl rfl) | exact .inr (.inr rfl)) rfl ?_
    | refine we_globI (by assumption) rfl ?_
    | refine we_globS (by assumption) rfl ?_)
local macro_rules | `(tactic| walk_at "e.const") => `(tactic| first
    | refine we_int ?_
    | refine we_str ?_
    | refine we_bl ?_
    | refine we_non ?_)
local macro_rules | `(tactic| walk_at "e.call") => `(tactic| first
    | refine we_len (by assumption) rfl ?_
    | refine we_int2 (by assumption) rfl ?_
    | refine we_tuple (Ct.gs (by assumption)) (by assumption) rfl ?_
    | refine we_abs (by assumption) rfl ?_
    | refine we_find ?_)
local macro_rules | `(tactic| walk_at "e.we") => `(tactic| first
    | (refine gNm ?_; walk_at "e.name")
    | (refine gConst ?_; walk_at "e.const")
    | refine we_bin (Ct.gs (by assumption)) ?_
    | (refine gCall ?_; walk_at "e.call")
    | refine we_cmp (Ct.hu (by assumption)) ?_
    | refine we_ix ?_
    | refine we_slice (Ct.gs (by assumption)) ?_
    | refine we_fld ?_
    | refine we_tup (Ct.gs (by assumption)) ?_
    | refine we_chain (Ct.hu (by assumption)) ?_
    | refine we_lst1 (Ct.gs (by assumption)) ?_
    | refine we_ifx ?_
    | refine we_and ?_
    | refine we_or ?_
    | refine we_one ?_
    | refine we_not ?_
    | refine we_neg ?_)
local macro_rules | `(tactic| walk_at "e.wt") => `(tactic| first
    | refine wt_cmp (Ct.hu (by assumption)) ?_
    | refine wt_chain (Ct.hu (by assumption)) ?_
    | refine wt_not ?_
    | refine wt_bool ?_
    | refine wt_val ?_)
local macro_rules | `(tactic| walk_at "e.ww") => `(tactic| first
    | refine ww_and ?_
    | refine ww_or ?_
    | refine ww_and1 ?_
    | refine ww_or1 ?_)
local macro_rules | `(tactic| walk_at "e.wa") => `(tactic| first
    | refine wa_nil ?_
    | refine wa_cons ?_)
local macro_rules | `(tactic| walk_at "e.wss") => `(tactic| first
    | refine wss_cons ?_
    | refine wss_nil ?_)
local macro_rules | `(tactic| walk_at "e.ws") => `(tactic| first
    | refine ws_if ?_
    | refine ws_expr (we_append (Ct.gs (by assumption)) ?_ (pe_bm PySem.F.plainAttrs_list PySem.F.slot_list_append PySem.F.type_list_append mt_append pe_wp pa_wp))
    | refine ws_expr ?_
    | refine ws_set 0 (Ct.nd (by assumption)) ?_
    | refine ws_set 1 (Ct.nd (by assumption)) ?_
    | refine ws_set 2 (Ct.nd (by assumption)) ?_
    | refine ws_set 3 (Ct.nd (by assumption)) ?_
    | refine ws_set 4 (Ct.nd (by assumption)) ?_
    | refine ws_set 5 (Ct.nd (by assumption)) ?_
    | refine ws_set 6 (Ct.nd (by assumption)) ?_
    | refine ws_set 7 (Ct.nd (by assumption)) ?_
    | refine ws_set 8 (Ct.nd (by assumption)) ?_
    | refine ws_set 9 (Ct.nd (by assumption)) ?_
    | refine ws_set 10 (Ct.nd (by assumption)) ?_
    | refine ws_set 11 (Ct.nd (by assumption)) ?_
    | refine ws_set 12 (Ct.nd (by assumption)) ?_
    | refine ws_set 13 (Ct.nd (by assumption)) ?_
    | refine ws_set 14 (Ct.nd (by assumption)) ?_
    | refine ws_set 15 (Ct.nd (by assumption)) ?_
    | refine ws_set 16 (Ct.nd (by assumption)) ?_
    | refine ws_set 17 (Ct.nd (by assumption)) ?_
    | refine ws_set 18 (Ct.nd (by assumption)) ?_
    | refine ws_set 19 (Ct.nd (by assumption)) ?_
    | refine ws_set 20 (Ct.nd (by assumption)) ?_
    | refine ws_set 21 (Ct.nd (by assumption)) ?_
    | refine ws_sub (Ct.gs (by assumption)) ?_ (fun a b => pg_sub a b set_list)
    | refine ws_fld (Ct.gs (by assumption)) ?_
    | refine ws_pass ?_
    | refine ws_break ?_
    | refine ws_cont ?_)
local macro_rules | `(tactic| walk_at "e.bin") => `(tactic| first
    | refine BinD.addI ?_
    | refine BinD.subI ?_
    | refine BinD.modI (by decide) ?_
    | refine BinD.modI (by assumption) ?_
    | refine BinD.divI (by decide) (by decide) ?_
    | refine BinD.divI (by assumption) (by assumption) ?_
    | refine BinD.mulI (by first | exact .inl ⟨by decide, by decide⟩ | exact .inr ⟨by decide, by decide⟩) ?_
    | refine BinD.xorI ?_
    | refine BinD.powI ⟨by decide, by decide, by decide⟩ ?_)
local macro_rules | `(tactic| walk_at "e.cmp") => `(tactic| first
    | refine CmpD.lt ?_
    | refine CmpD.le ?_
    | refine CmpD.gt ?_
    | refine CmpD.ge ?_
    | refine CmpD.isN ?_
    | refine CmpD.notN ?_
    | refine CmpD.neI_s ?_
    | refine CmpD.neT_s ?_
    | refine CmpD.neZ_s ?_
    | refine CmpD.eqZ_s ?_
    | refine CmpD.neN_s ?_
    | refine CmpD.eqN_s ?_
    | refine CmpD.neTZ ?_
    | refine CmpD.eqTZ ?_
    | refine CmpD.eqI ?_
    | refine CmpD.neI ?_
    | refine CmpD.eqZ ?_
    | refine CmpD.neZ ?_)
local macro_rules | `(tactic| walk_at "e.is") => `(tactic| first
    | refine IsI.mk ?_
    | refine IsT.mk ?_
    | refine IsL.mk ?_
    | refine IsZ.mk ?_
    | refine IsB.mk ?_
    | refine OwL.mk 0 rfl ?_
    | refine OwL.mk 1 rfl ?_
    | refine OwL.mk 2 rfl ?_
    | refine OwL.mk 3 rfl ?_
    | refine OwL.mk 4 rfl ?_
    | refine OwL.mk 5 rfl ?_
    | refine OwI.mk 0 rfl ?_
    | refine OwI.mk 1 rfl ?_
    | refine OwI.mk 2 rfl ?_
    | refine OwI.mk 3 rfl ?_
    | refine OwI.mk 4 rfl ?_
    | refine OwI.mk 5 rfl ?_
    | refine OwI.mk _ (by assumption) ?_
    | refine OwI.mk _ (set_at (by assumption)) ?_
    | refine OwI.mk _ (set_at (set_at (by assumption))) ?_
    | refine OwL.mk _ (by assumption) ?_
    | refine OwL.mk _ (set_at (by assumption)) ?_
    | refine OwL.mk _ (set_at (set_at (by assumption))) ?_
    | refine OwL.mk _ (set_at (set_at (set_at (by assumption)))) ?_
    | refine IxD.own 0 rfl rfl ?_
    | refine IxD.own 1 rfl rfl ?_
    | refine IxD.own 2 rfl rfl ?_
    | refine IxD.own 3 rfl rfl ?_
    | refine IxD.own 4 rfl rfl ?_
    | refine IxD.own 5 rfl rfl ?_
    | refine IxD.own _ (by assumption) rfl ?_
    | refine IxD.own _ (set_at (by assumption)) rfl ?_
    | refine IxD.own _ (set_at (set_at (by assumption))) rfl ?_
    | refine IxD.own _ (set_at (set_at (set_at (by assumption)))) rfl ?_
    | refine IxD.tup rfl ?_
    | refine IxD.lst rfl ?_
    | refine IntD.int ?_
    | refine IntD.bl ?_
    | refine TruD.bl ?_
    | refine TruD.int ?_
    | refine TruD.tup ?_
    | refine TruD.lst ?_
    | refine LenD.tup ?_
    | refine LenD.lst ?_
    | refine SeqD.tup ?_
    | refine SeqD.lst ?_
    | refine SlD.tup ?_
    | refine SlD.lst ?_
    | refine SeqD.own 0 rfl ?_
    | refine SeqD.own 1 rfl ?_
    | refine SeqD.own 2 rfl ?_
    | refine SeqD.own 3 rfl ?_
    | refine SeqD.own 4 rfl ?_
    | refine SeqD.own 5 rfl ?_
    | refine LenD.own 0 rfl ?_
    | refine LenD.own 1 rfl ?_
    | refine LenD.own 2 rfl ?_
    | refine LenD.own 3 rfl ?_
    | refine LenD.own 4 rfl ?_
    | refine LenD.own 5 rfl ?_)
local macro_rules | `(tactic| walk_at "e1") => `(tactic| first
    | (refine gWE ?_; walk_at "e.we")
    | (refine gBinD ?_; walk_at "e.bin")
    | (refine gWSs ?_; walk_at "e.wss")
    | (refine gWS ?_; walk_at "e.ws")
    | (refine gWT ?_; walk_at "e.wt")
    | (refine gCmpD ?_; walk_at "e.cmp")
    | (refine gWA ?_; walk_at "e.wa")
    | (refine gWW ?_; walk_at "e.ww")
    | refine iteT ?_
    | refine iteF ?_
    | walk_at "e.is")
local macro_rules | `(tactic| walk_at "e") => `(tactic| repeat (walk_at "e1"))
section
variable {P : Program} {w : World} {K : PySem.W.Frag} {mg : Str → Option Value} {base : Heap} {G : Hp → Prop}
theorem end_form (s : DS) : ∃ nn oo, endS s = (⟨some [], false, nn⟩, oo) := by
  unfold endS
  cases s.held with
  | none => exact ⟨_, _, rfl⟩
  | some q =>
    simp only
    split
    · exact ⟨_, _, rfl⟩
    · split <;> exact ⟨_, _, rfl⟩
theorem gf_feed {f fe fa C : Addr} {fd : FuncData} {t1 : Tok} (F : Fun K "feed" "Deframer.feed" s_Deframer_feed f fd) (gs : Gst G) (dc : DfC K C) (gM : mg "MARK" = some (.int 126 t1)) (mt : mg "tuple" = none) (mr : mg "range" = none) (Me : Meth K C "end_frame" fe) (g3 : Gf P w K mg base G 3 fe [] (S_dend C)) (Ma : Meth K C "take_all" fa) (ga : Gf P w K mg base G 2 fa [] (S_tall C)) : Gf P w K mg base G 4 f [] (S_feed C) := by
  refine gf_of F sc_Deframer_feed gs (F.binds fun _ _ _ _ _ _ us hl => match us, hl with | [_, _], _ => rfl) .nil (fun ds M xr R h => by obtain ⟨d, h, e, n, bs, M0, rfl, _⟩ := h; rfl) ?_
  rintro X W M ds xr R ⟨cdv, A, outer, s, H, E0, rfl⟩ cx ⟨d, h, e, n, bs, M0, rfl, hl, ho, hsp, hok⟩
  refine wss_sp hsp ?_
  have hc : bs.count 126 ≤ bs.length := List.count_le_length
  refine wss_cons (ws_set 2 cx.nd (we_lstO gs (wa_nil ⟨Nat.zero_le _, fun p => ?_⟩)))
  have hfl : ∀ i, (feedS ⟨h.map (·.2), e, n⟩ (bs.take i)).2.length ≤ bs.length := fun i => by
    have h1 := fold_len (bs.take i) (⟨h.map (·.2), e, n⟩, [])
    have h2 : (bs.take i).length ≤ bs.length := by rw [List.length_take]; omega
    unfold feedS
    simp only [List.length_nil] at h1
    omega
  refine wss_sp (M0 := dfr C d h e n ++ ((p, O.lst []) :: M0)) ⟨_, (List.perm_middle).symm, List.Sublist.refl _⟩ ?_
  walk_at "e"
  refine ws_for cx (pgn 4 cx.nd) (gok_name 4) (fun i M' ρ' => ∃ (q : Nat) (h' : Option (Addr × List Int)) (e' : Bool) (n' : Int) (fs : List (List Int)), q ≤ bs.length ∧ bs.count 126 = i + (bs.drop q).count 126 ∧ M' = dfr C d h' e' n' ++ ((p, O.lst (fs.map byt)) :: M0) ∧ (⟨h'.map (·.2), e', n'⟩, fs) = feedS ⟨h.map (·.2), e, n⟩ (bs.take q) ∧ ∃ z4 z5 z6, ρ' = [some (Rf d), some (byt bs), some (Rf p), some (I (q : Int)), z4, z5, z6]) (wi_rng1 mr rfl (wa_one (we_tcount ?_ (pe_tm PySem.F.plainAttrs_tuple PySem.F.slot_tuple_count PySem.F.type_tuple_count mt_countT pe_wp pa_wp))))
  walk_at "e"
  refine ⟨bs, rfl, ?_⟩
  walk_at "e"
  refine ⟨_, rfl, by omega, by omega, ⟨0, h, e, n, [], Nat.zero_le _, by rw [List.drop_zero]; omega, rfl, rfl, none, none, none, rfl⟩, ?_, ?_⟩
  · rintro i z hz M' ρ' ⟨q, h', e', n', fs, hq, hcnt, rfl, hs, y4, y5, y6, rfl⟩
    obtain ⟨hi, rfl⟩ := rng_at hz
    have hi : i < bs.count 126 := by rwa [Int.toNat_natCast] at hi
    obtain ⟨j, hqj, hj, hno, et, mid, hc2⟩ := first_from (s := 126) (l := bs) (p := q) (by omega)
    have hjl := at_lt hj
    have hlen : fs.length ≤ 100000 := by
      have := hfl q
      rw [← hs] at this
      exact Nat.le_trans this hl
    have ok' : DsOk ⟨h'.map (·.2), e', n'⟩ := by
      have := feed_ok (bs := bs.take q) ho
      rw [← hs] at this
      exact this
    refine wss_cons (ws_set 5 cx.nd (we_tindex3 ?_ (pe_tm PySem.F.plainAttrs_tuple PySem.F.slot_tuple_index PySem.F.type_tuple_index mt_index3 pe_wp pa_wp)))
    walk_at "e"
    refine ⟨bs, rfl, ?_⟩
    walk_at "e"
    refine ⟨126, q, j, rfl, hj, hqj, hno, ?_⟩
    refine wss_cons (ws_set 6 cx.nd (we_meth cx g3 (by decide) dc.c Me ?_))
    walk_at "e"
    refine ⟨rfl, rfl, ?_⟩
    walk_at "e"
    rw [cut_to' bs q j hqj (by omega)]
    refine ⟨d, h', e', n', (bs.drop q).take (j - q), (p, O.lst (fs.map byt)) :: M0, rfl, by rw [List.length_take, List.length_drop]; omega, ok', ⟨_, List.Perm.refl _, List.Sublist.refl _⟩, fun a' => ?_⟩
    obtain ⟨nn, oo, hh⟩ := end_form (takeAllS ⟨h'.map (·.2), e', n'⟩ ((bs.drop q).take (j - q)))
    rw [hh]
    have hd : feedS ⟨h.map (·.2), e, n⟩ (bs.take (j + 1)) = (⟨some [], false, nn⟩, fs ++ oo.toList) := by
      rw [take_succ hj, et, List.append_assoc, feedS_app, ← hs]
      simp only
      rw [feed_end mid, hh]
    cases oo with
    | none =>
      walk_at "e"
      refine ⟨j + 1, some (a', []), false, nn, fs, by omega, by omega, rfl, ?_, _, _, _, by rw [show ((j : Int) + 1) = ((j + 1 : Nat) : Int) by omega]; rfl⟩
      rw [hd]
      simp
    | some pl =>
      walk_at "e"
      refine ⟨sz2 (by rw [List.length_map]; omega), wss_nil ?_⟩
      walk_at "e"
      refine ⟨j + 1, some (a', []), false, nn, fs ++ [pl], by omega, by omega, ?_, ?_, _, _, _, by rw [show ((j : Int) + 1) = ((j + 1 : Nat) : Int) by omega]; rfl⟩
      · rw [List.map_append]
        rfl
      · rw [hd]
        rfl
  · rintro M' ρ' ⟨q, h', e', n', fs, hq, hcnt, rfl, hs, y4, y5, y6, rfl⟩
    rw [List.length_map, List.length_range, Int.toNat_natCast] at hcnt
    have h0 : (bs.drop q).count 126 = 0 := by omega
    have ok' : DsOk ⟨h'.map (·.2), e', n'⟩ := by
      have := feed_ok (bs := bs.take q) ho
      rw [← hs] at this
      exact this
    have hall : feedS ⟨h.map (·.2), e, n⟩ bs = (takeAllS ⟨h'.map (·.2), e', n'⟩ (bs.drop q), fs) := by
      have e1 := feedS_app ⟨h.map (·.2), e, n⟩ (bs.take q) (bs.drop q)
      rw [List.take_append_drop, ← hs] at e1
      simp only at e1
      rw [e1]
      have e2 : feedS ⟨h'.map (·.2), e', n'⟩ (bs.drop q) = (takeAllS ⟨h'.map (·.2), e', n'⟩ (bs.drop q), []) := by
        unfold feedS
        exact feed_seg fun x hx e => List.count_eq_zero.mp h0 (e ▸ hx)
      rw [e2, List.append_nil]
    refine wss_cons (ws_expr (we_meth cx ga (by decide) dc.c Ma ?_))
    walk_at "e"
    refine ⟨rfl, rfl, ?_⟩
    walk_at "e"
    rw [cut_drop bs q hq]
    refine ⟨d, h', e', n', bs.drop q, (p, O.lst (fs.map byt)) :: M0, rfl, by rw [List.length_drop]; omega, ok', ⟨_, List.Perm.refl _, List.Sublist.refl _⟩, fun h2 e2 n2 heq => ?_⟩
    refine wss_one (ws_ret (we_sp ?_))
    have hf : fs = (feedS ⟨h.map (·.2), e, n⟩ bs).2 := by rw [hall]
    have hst : (⟨h2.map (·.2), e2, n2⟩ : DS) = (feedS ⟨h.map (·.2), e, n⟩ bs).1 := by rw [hall]; exact heq
    have fin := hok h2 e2 n2 hst
    rw [← hf] at fin
    cases h2 with
    | none =>
      walk_at "e"
      exact ⟨_, ⟨_, List.Perm.refl _, (List.sublist_cons_self _ _).cons_cons _⟩, fin⟩
    | some q2 =>
      obtain ⟨a, l⟩ := q2
      walk_at "e"
      exact ⟨_, ⟨_, List.Perm.refl _, ((List.sublist_cons_self _ _).cons_cons _).cons_cons _⟩, fin⟩
theorem gf_pin {f fi ff C : Addr} {fd : FuncData} (F : Fun K "payloads_in" "payloads_in" s_payloads_in f fd) (gs : Gst G) (dc : DfC K C) (mD : mg "Deframer" = some (.ref C)) (mk : Mk K C fi) (gi : Gf P w K mg base G 1 fi [] (S_dinit C)) (Mf : Meth K C "feed" ff) (g4 : Gf P w K mg base G 4 ff [] (S_feed C)) : Gf P w K mg base G 5 f [] S_pin := by
  refine gf_of F sc_payloads_in gs (F.binds fun _ _ _ _ _ _ us hl => match us, hl with | [_], _ => rfl) .nil (fun ds M xr R h => by obtain ⟨bs, rfl, _⟩ := h; rfl) ?_
  rintro X W M ds xr R ⟨cdv, A, outer, s, H, E0, rfl⟩ cx ⟨bs, rfl, hl, hok⟩
  refine wss_one (ws_ret (we_sp (we_meth cx g4 (by decide) dc.c Mf (we_make0 cx gi (by decide) mk mD rfl ?_ init_ret))))
  refine fun d => ⟨d, M, rfl, rfl, ?_⟩
  refine OwI.mk 0 rfl ⟨rfl, rfl, ?_⟩
  walk_at "e"
  refine ⟨d, none, false, 0, bs, M, rfl, hl, none_ok, ⟨_, List.Perm.refl _, List.Sublist.refl _⟩, fun h' e' n' _ => ?_⟩
  refine ⟨M, ⟨_, List.Perm.refl _, List.sublist_append_right _ _⟩, hok⟩
end

end K02
set_option maxRecDepth 100000
set_option maxHeartbeats 4000000

namespace K02
open PySem PySem.Spec PyProof.Rows L2 Wv
open LamX (CodeO TabS Tabs ExtN TabB lamEnv lamCx LamS)
local macro_rules | `(tactic| walk_at "e.name") => `(tactic| first
    | refine we_var 0 _ rfl (by first | exact .inl rfl | exact .inr (.inl rfl) | exact .inr (.inr rfl)) rfl ?_
    | refine we_var 1 _ rfl (by first | exact .inl rfl | exact .inr (.inl rfl) | exact .inr (.inr rfl)) rfl ?_
    | refine we_var 2 _ rfl (by first | exact .inl rfl | exact .inr (.inl rfl) | exact .inr (.inr rfl)) rfl ?_
    | refine we_var 3 _ rfl (by first | exact .inl rfl | exact .inr (.inl rfl) | exact .inr (.inr rfl)) rfl ?_
    | refine we_var 4 _ rfl (by first | exact .inl rfl | exact .inr (.inl rfl) | exact .inr (.inr rfl)) rfl ?_
    | refine we_var 5 _ rfl (by first | exact .inl rfl | exact .inr (.inl rfl) | exact .inr (.inr rfl)) rfl ?_
    | refine we_var 6 _ rfl (by first | exact .inl rfl | exact .inr (.inl rfl) | exact .inr (.inr rfl)) rfl ?_
    | refine we_var 7 _ rfl (by first | exact .inl rfl | exact .inr (.inl rfl) | exact .inr (.inr rfl)) rfl ?_
    | refine we_var 8 _ rfl (by first | exact .inl rfl | exact .inr (.inl rfl) | exact .inr (.inr rfl)) rfl ?_
    | refine we_var 9 _ rfl (by first | exact .inl rfl | exact .inr (.inl rfl) | exact .inr (.inr rfl)) rfl ?_
    | refine we_var 10 _ rfl (by first | exact .inl rfl | exact .inr (.inl rfl) | exact .inr (.inr rfl)) rfl ?_
    | refine we_var 11 _ rfl (by first | exact .inl rfl | exact .inr (.inl rfl) | exact .inr (.inr rfl)) rfl ?_
    | refine we_var 12 _ rfl (by first | exact .inl rfl | exact .inr (.inl rfl) | exact .inr (.inr rfl)) rfl ?_
    | refine we_var 13 _ rfl (by first | exact .inl rfl | exact .inr (.inl rfl) | exact .inr (.inr rfl)) rfl ?_
    | refine we_var 14 _ rfl (by first | exact .inl rfl | exact .inr (.inl rfl) | exact .inr (.inr rfl)) rfl ?_
    | refine we_var 15 _ rfl (by first | exact .inl rfl | exact .inr (.inl rfl) | exact .inr (.inr rfl)) rfl ?_
    | refine we_var 16 _ rfl (by first | exact .inl rfl | exact .inr (.inl rfl) | exact .inr (.inr rfl)) rfl ?_
    | refine we_var 17 _ rfl (by first | exact .inl rfl | exact .inr (.inl rfl) | exact .inr (.inr rfl)) rfl ?_
    | refine we_var 18 _ rfl (by first | exact .inl rfl | exact .inr (.inl rfl) | exact .inr (.inr rfl)) rfl ?_
    | refine we_var 19 _ rfl (by first | exact .inl rfl | exact .inr (.inl rfl) | exact .inr (.inr rfl)) rfl ?_
    | refine we_var 20 _ rfl (by first | exact .inl rfl | exact .inr (.inl rfl) | exact .inr (.inr rfl)) rfl ?_
    | refine we_var 21 _ rfl (by first | exact .inl rfl | exact .inr (.inl rfl) | exact .inr (.inr rfl)) rfl ?_
    | refine we_globI (by assumption) rfl ?_
    | refine we_globS (by assumption) rfl ?_)
local macro_rules | `(tactic| walk_at "e.const") => `(tactic| first
    | refine we_int ?_
    | refine we_str ?_
    | refine we_bl ?_
    | refine we_non ?_)
local macro_rules | `(tactic| walk_at "e.call") => `(tactic| first
    | refine we_len (by assumption) rfl ?_
    | refine we_int2 (by assumption) rfl ?_
    | refine we_tuple (Ct.gs (by assumption)) (by assumption) rfl ?_
    | refine we_abs (by assumption) rfl ?_
    | refine we_find ?_)
local macro_rules | `(tactic| walk_at "e.we") => `(tactic| first
    | (refine gNm ?_; walk_at "e.name")
    | (refine gConst ?_; walk_at "e.const")
    | refine we_bin (Ct.gs (by assumption)) ?_
    | (refine gCall ?_; walk_at "e.call")
    | refine we_cmp (Ct.hu (by assumption)) ?_
    | refine we_ix ?_
    | refine we_slice (Ct.gs (by assumption)) ?_
    | refine we_fld ?_
    | refine we_tup (Ct.gs (by assumption)) ?_
    | refine we_chain (Ct.hu (by assumption)) ?_
    | refine we_lst1 (Ct.gs (by assumption)) ?_
    | refine we_ifx ?_
    | refine we_and ?_
    | refine we_or ?_
    | refine we_one ?_
    | refine we_not ?_
    | refine we_neg ?_)
local macro_rules | `(tactic| walk_at "e.wt") => `(tactic| first
    | refine wt_cmp (Ct.hu (by assumption)) ?_
    | refine wt_chain (Ct.hu (by assumption)) ?_
    | refine wt_not ?_
    | refine wt_bool ?_
    | refine wt_val ?_)
local macro_rules | `(tactic| walk_at "e.ww") => `(tactic| first
    | refine ww_and ?_
    | refine ww_or ?_
    | refine ww_and1 ?_
    | refine ww_or1 ?_)
local macro_rules | `(tactic| walk_at "e.wa") => `(tactic| first
    | refine wa_nil ?_
    | refine wa_cons ?_)
local macro_rules | `(tactic| walk_at "e.wss") => `(tactic| first
    | refine wss_cons ?_
    | refine wss_nil ?_)
local macro_rules | `(tactic| walk_at "e.ws") => `(tactic| first
    | refine ws_if ?_
    | refine ws_expr (we_append (Ct.gs (by assumption)) ?_ (pe_bm PySem.F.plainAttrs_list PySem.F.slot_list_append PySem.F.type_list_append mt_append pe_wp pa_wp))
    | refine ws_expr ?_
    | refine ws_set 0 (Ct.nd (by assumption)) ?_
    | refine ws_set 1 (Ct.nd (by assumption)) ?_
    | refine ws_set 2 (Ct.nd (by assumption)) ?_
    | refine ws_set 3 (Ct.nd (by assumption)) ?_
    | refine ws_set 4 (Ct.nd (by assumption)) ?_
    | refine ws_set 5 (Ct.nd (by assumption)) ?_
    | refine ws_set 6 (Ct.nd (by assumption)) ?_
    | refine ws_set 7 (Ct.nd (by assumption)) ?_
    | refine ws_set 8 (Ct.nd (by assumption)) ?_
    | refine ws_set 9 (Ct.nd (by assumption)) ?_
    | refine ws_set 10 (Ct.nd (by assumption)) ?_
    | refine ws_set 11 (Ct.nd (by assumption)) ?_
    | refine ws_set 12 (Ct.nd (by assumption)) ?_
    | refine ws_set 13 (Ct.nd (by assumption)) ?_
    | refine ws_set 14 (Ct.nd (by assumption)) ?_
    | refine ws_set 15 (Ct.nd (by assumption)) ?_
    | refine ws_set 16 (Ct.nd (by assumption)) ?_
    | refine ws_set 17 (Ct.nd (by assumption)) ?_
    | refine ws_set 18 (Ct.nd (by assumption)) ?_
    | refine ws_set 19 (Ct.nd (by assumption)) ?_
    | refine ws_set 20 (Ct.nd (by assumption)) ?_
    | refine ws_set 21 (Ct.nd (by assumption)) ?_
    | refine ws_sub (Ct.gs (by assumption)) ?_ (fun a b => pg_sub a b set_list)
    | refine ws_fld (Ct.gs (by assumption)) ?_
    | refine ws_pass ?_
    | refine ws_break ?_
    | refine ws_cont ?_)
local macro_rules | `(tactic| walk_at "e.bin") => `(tactic| first
    | refine BinD.addI ?_
    | refine BinD.subI ?_
    | refine BinD.modI (by decide) ?_
    | refine BinD.modI (by assumption) ?_
    | refine BinD.divI (by decide) (by decide) ?_
    | refine BinD.divI (by assumption) (by assumption) ?_
    | refine BinD.mulI (by first | exact .inl ⟨by decide, by decide⟩ | exact .inr ⟨by decide, by decide⟩) ?_
    | refine BinD.xorI ?_
    | refine BinD.powI ⟨by decide, by decide, by decide⟩ ?_)
local macro_rules | `(tactic| walk_at "e.cmp") => `(tactic| first
    | refine CmpD.lt ?_
    | refine CmpD.le ?_
    | refine CmpD.gt ?_
    | refine CmpD.ge ?_
    | refine CmpD.isN ?_
    | refine CmpD.notN ?_
    | refine CmpD.neI_s ?_
    | refine CmpD.neT_s ?_
    | refine CmpD.neZ_s ?_
    | refine CmpD.eqZ_s ?_
    | refine CmpD.neN_s ?_
    | refine CmpD.eqN_s ?_
    | refine CmpD.neTZ ?_
    | refine CmpD.eqTZ ?_
    | refine CmpD.eqI ?_
    | refine CmpD.neI ?_
    | refine CmpD.eqZ ?_
    | refine CmpD.neZ ?_)
local macro_rules | `(tactic| walk_at "e.is") => `(tactic| first
    | refine IsI.mk ?_
    | refine IsT.mk ?_
    | refine IsL.mk ?_
    | refine IsZ.mk ?_
    | refine IsB.mk ?_
    | refine OwL.mk 0 rfl ?_
    | refine OwL.mk 1 rfl ?_
    | refine OwL.mk 2 rfl ?_
    | refine OwL.mk 3 rfl ?_
    | refine OwL.mk 4 rfl ?_
    | refine OwL.mk 5 rfl ?_
    | refine OwI.mk 0 rfl ?_
    | refine OwI.mk 1 rfl ?_
    | refine OwI.mk 2 rfl ?_
    | refine OwI.mk 3 rfl ?_
    | refine OwI.mk 4 rfl ?_
    | refine OwI.mk 5 rfl ?_
    | refine OwI.mk _ (by assumption) ?_
    | refine OwI.mk _ (set_at (by assumption)) ?_
    | refine OwI.mk _ (set_at (set_at (by assumption))) ?_
    | refine OwL.mk _ (by assumption) ?_
    | refine OwL.mk _ (set_at (by assumption)) ?_
    | refine OwL.mk _ (set_at (set_at (by assumption))) ?_
    | refine OwL.mk _ (set_at (set_at (set_at (by assumption)))) ?_
    | refine IxD.own 0 rfl rfl ?_
    | refine IxD.own 1 rfl rfl ?_
    | refine IxD.own 2 rfl rfl ?_
    | refine IxD.own 3 rfl rfl ?_
    | refine IxD.own 4 rfl rfl ?_
    | refine IxD.own 5 rfl rfl ?_
    | refine IxD.own _ (by assumption) rfl ?_
    | refine IxD.own _ (set_at (by assumption)) rfl ?_
    | refine IxD.own _ (set_at (set_at (by assumption))) rfl ?_
    | refine IxD.own _ (set_at (set_at (set_at (by assumption)))) rfl ?_
    | refine IxD.tup rfl ?_
    | refine IxD.lst rfl ?_
    | refine IntD.int ?_
    | refine IntD.bl ?_
    | refine TruD.bl ?_
    | refine TruD.int ?_
    | refine TruD.tup ?_
    | refine TruD.lst ?_
    | refine LenD.tup ?_
    | refine LenD.lst ?_
    | refine SeqD.tup ?_
    | refine SeqD.lst ?_
    | refine SlD.tup ?_
    | refine SlD.lst ?_
    | refine SeqD.own 0 rfl ?_
    | refine SeqD.own 1 rfl ?_
    | refine SeqD.own 2 rfl ?_
    | refine SeqD.own 3 rfl ?_
    | refine SeqD.own 4 rfl ?_
    | refine SeqD.own 5 rfl ?_
    | refine LenD.own 0 rfl ?_
    | refine LenD.own 1 rfl ?_
    | refine LenD.own 2 rfl ?_
    | refine LenD.own 3 rfl ?_
    | refine LenD.own 4 rfl ?_
    | refine LenD.own 5 rfl ?_)
local macro_rules | `(tactic| walk_at "e1") => `(tactic| first
    | (refine gWE ?_; walk_at "e.we")
    | (refine gBinD ?_; walk_at "e.bin")
    | (refine gWSs ?_; walk_at "e.wss")
    | (refine gWS ?_; walk_at "e.ws")
    | (refine gWT ?_; walk_at "e.wt")
    | (refine gCmpD ?_; walk_at "e.cmp")
    | (refine gWA ?_; walk_at "e.wa")
    | (refine gWW ?_; walk_at "e.ww")
    | refine iteT ?_
    | refine iteF ?_
    | walk_at "e.is")
local macro_rules | `(tactic| walk_at "e") => `(tactic| repeat (walk_at "e1"))
def S_lframe : SpD := fun ds M xr R => ∃ bs : List Int, ds = [byt bs] ∧ bs.length ≤ 900 ∧ R M (byt (frameL bs))
theorem step_esc {h : List Int} {n : Int} {f : List (List Int)} : stepS (⟨some h, false, n⟩, f) 125 = (⟨some h, true, n⟩, f) := by
  unfold stepS
  rw [if_neg (by decide)]
  rfl
theorem step_byte {h : List Int} {e : Bool} {n b : Int} {f : List (List Int)} (hb : b ≠ 126) (he : ¬ (b = 125 ∧ e = false)) (hl : h.length ≤ 404) : stepS (⟨some h, e, n⟩, f) b = (⟨some (h ++ [if e = true then flip b else b]), false, n⟩, f) := by
  unfold stepS
  rw [if_neg hb]
  show (if b = 125 ∧ e = false then _ else _, f) = _
  rw [if_neg he, if_pos hl]
theorem flip_of {b : Int} (z : b = 126 ∨ b = 125) : flip (flip b) = b ∧ flip b ≠ 126 ∧ flip b ≠ 125 := by
  rcases z with rfl | rfl <;> exact ⟨by decide, by decide, by decide⟩
theorem end_good {bs : List Int} {n : Int} (hl : bs.length ≤ 400) : endS ⟨some (bs ++ sumL bs), false, n⟩ = (⟨some [], false, n⟩, some bs) := by
  have h4 : (sumL bs).length = 4 := rfl
  have hn : ¬ (bs ++ sumL bs = [] ∧ false = false) := by
    rintro ⟨z, _⟩
    have := congrArg List.length z
    rw [List.length_append, h4] at this
    simp at this
  have e3 : (bs ++ sumL bs).length - 4 = bs.length := by rw [List.length_append, h4]; omega
  show (if bs ++ sumL bs = [] ∧ false = false then _ else if _ then _ else _) = _
  rw [if_neg hn, e3, List.take_left, List.drop_left]
  exact if_neg fun z => z.elim (fun z => by cases z) fun z => z.elim (fun z => by omega) fun z => z rfl
/-- what is between two marks is held as it was -/
theorem feed_plain : ∀ (bs h : List Int) (n : Int), (∀ b ∈ bs, 0 ≤ b ∧ b < 256) → h.length + bs.length ≤ 405 → feedS ⟨some h, false, n⟩ (stuffL bs) = (⟨some (h ++ bs), false, n⟩, [])
  | [], h, n, _, _ => by simp [stuffL, feedS]
  | b :: bs, h, n, hr, hl => by
    have hb := hr b List.mem_cons_self
    rw [List.length_cons] at hl
    have ih := feed_plain bs (h ++ [b]) n (fun x hx => hr x (List.mem_cons_of_mem _ hx)) (by rw [List.length_append, List.length_singleton]; omega)
    have e1 : feedS ⟨some h, false, n⟩ (stuff1 b) = (⟨some (h ++ [b]), false, n⟩, []) := by
      unfold stuff1 feedS
      by_cases z : b = 126 ∨ b = 125
      · rw [if_pos z]
        obtain ⟨f2, f3, f4⟩ := flip_of z
        show stepS (stepS _ 125) (flip b) = _
        rw [step_esc, step_byte f3 (fun q => f4 q.1) (by omega), if_pos rfl, f2]
      · rw [if_neg z]
        show stepS _ b = _
        rw [step_byte (fun q => z (.inl q)) (fun q => z (.inr q.1)) (by omega), if_neg (by decide)]
    rw [stuffL, feedS_app, e1]
    simp only
    rw [ih]
    simp [List.append_assoc]
theorem sumL_range (bs : List Int) : ∀ b ∈ sumL bs, 0 ≤ b ∧ b < 256 := by
  have h := sumS_range bs
  intro b hb
  simp only [sumL, List.mem_cons, List.not_mem_nil, or_false] at hb
  rcases hb with rfl | rfl | rfl | rfl <;> omega
/-- a frame gives its payload -/
theorem feed_frame {bs : List Int} {s : DS} (hr : ∀ b ∈ bs, 0 ≤ b ∧ b < 256) (hl : bs.length ≤ 400) : feedS s (frameL bs) = (⟨some [], false, (endS s).1.dmg⟩, (endS s).2.toList ++ [bs]) := by
  have h4 : (sumL bs).length = 4 := rfl
  have e1 : feedS s [126] = (⟨some [], false, (endS s).1.dmg⟩, (endS s).2.toList) := by
    have : (endS s).1 = ⟨some [], false, (endS s).1.dmg⟩ := by
      unfold endS
      cases s.held with
      | none => rfl
      | some h =>
        simp only
        split
        · rfl
        · split <;> rfl
    unfold feedS
    simp only [List.foldl_cons, List.foldl_nil, stepS, if_true, List.nil_append]
    rw [← this]
  unfold frameL
  rw [feedS_app, feedS_app, e1]
  simp only
  rw [feed_plain (bs ++ sumL bs) [] _ (fun b hb => by
    rcases List.mem_append.mp hb with z | z
    · exact hr b z
    · exact sumL_range bs b z) (by rw [List.length_append, h4, List.length_nil]; omega)]
  simp only [List.nil_append, List.append_nil]
  have e2 : feedS ⟨some (bs ++ sumL bs), false, (endS s).1.dmg⟩ [126] = (⟨some [], false, (endS s).1.dmg⟩, [bs]) := by
    unfold feedS
    simp only [List.foldl_cons, List.foldl_nil, stepS, if_true, List.nil_append]
    rw [end_good hl]
    rfl
  rw [e2]
section
variable {P : Program} {w : World} {K : PySem.W.Frag} {mg : Str → Option Value} {base : Heap} {G : Hp → Prop}
theorem in2' (b : Int) : ([I 125, I 126].any fun x => eqd x (I b)) = decide (b = 126 ∨ b = 125) := by
  simp only [List.any_cons, List.any_nil, eqd_int, Bool.or_false]
  rw [Bool.eq_iff_iff]
  simp only [Bool.or_eq_true, decide_eq_true_eq]
  omega
theorem gf_lframe {f fl : Addr} {fd : FuncData} (F : Fun K "_law_frame" "_law_frame" s_law_frame f fd) (gs : Gst G) (ml : mg "_law_sums" = some (.ref fl)) (g1 : Gf P w K mg base G 1 fl [] S_lsums) : Gf P w K mg base G 2 f [] S_lframe := by
  refine gf_of F sc_law_frame gs (F.binds fun _ _ _ _ _ _ us hl => match us, hl with | [_], _ => rfl) .nil (fun ds M xr R h => by obtain ⟨bs, rfl, _⟩ := h; rfl) ?_
  rintro X W M ds xr R ⟨cdv, A, outer, s, H, E0, rfl⟩ cx ⟨bs, rfl, hl, hok⟩
  have hsl : (sumL bs).length = 4 := rfl
  walk_at "e"
  refine ⟨Nat.zero_le _, ?_⟩
  refine wss_cons (ws_for cx (pgn 2 cx.nd) (gok_name 2) (fun i M' ρ' => M' = M ∧ ∃ z, ρ' = [some (byt bs), some (byt (stuffL ((bs ++ sumL bs).take i))), z]) (wi_tup ?_))
  walk_at "e"
  refine we_call cx g1 (by decide) ml rfl ?_
  walk_at "e"
  refine ⟨bs, rfl, BinD.addB (by rw [hsl]; omega) ?_⟩
  walk_at "e"
  refine ⟨⟨rfl, none, rfl⟩, ?_, ?_⟩
  · rintro i z hz M' ρ' ⟨rfl, y, rfl⟩
    obtain ⟨b, hb, rfl⟩ := map_at hz
    have hlen : (stuffL ((bs ++ sumL bs).take i)).length ≤ 2000 := by
      have h1 := stuffL_len ((bs ++ sumL bs).take i)
      have h2 : ((bs ++ sumL bs).take i).length ≤ (bs ++ sumL bs).length := by rw [List.length_take]; omega
      rw [List.length_append, hsl] at h2
      omega
    have hs : stuffL ((bs ++ sumL bs).take (i + 1)) = stuffL ((bs ++ sumL bs).take i) ++ stuff1 b := by
      rw [take_succ hb, stuffL_app]
      simp [stuffL]
    walk_at "e"
    refine ⟨sz1 (by simp), CmpD.inL (.int _) (fun x hx => ?_) ?_⟩
    · simp only [List.mem_cons, List.not_mem_nil, or_false] at hx
      rcases hx with rfl | rfl <;> exact .int _
    · rw [in2']
      refine ite_d (fun h => ?_) (fun h => ?_)
      · walk_at "e"
        have h32 : b / 32 % 2 = 1 := by rcases h with rfl | rfl <;> decide
        rw [decide_eq_true h32]
        walk_at "e"
        have hfl : b - 32 = flip b := by rcases h with rfl | rfl <;> decide
        refine ⟨sz1 (by simp), BinD.addB (j := [125, b - 32]) (by simp; omega) ?_⟩
        refine wss_nil ⟨rfl, some (I b), ?_⟩
        rw [hs, stuff1, if_pos h, hfl]
        rfl
      · walk_at "e"
        refine ⟨sz1 (by simp), BinD.addB (j := [b]) (by simp; omega) ?_⟩
        refine wss_nil ⟨rfl, some (I b), ?_⟩
        rw [hs, stuff1, if_neg h]
        rfl
  · rintro M' ρ' ⟨rfl, y, rfl⟩
    rw [List.length_map, List.take_length]
    have h2 := stuffL_len (bs ++ sumL bs)
    rw [List.length_append, hsl] at h2
    refine wss_one (ws_ret ?_)
    walk_at "e"
    refine ⟨sz1 (by simp), ?_⟩
    walk_at "e"
    refine BinD.addB (i := [126]) (by simp; omega) ?_
    walk_at "e"
    refine ⟨sz1 (by simp), BinD.addB (j := [126]) (by simp; omega) ?_⟩
    exact hok
end

end K02
set_option maxRecDepth 100000
set_option maxHeartbeats 4000000

namespace K02
open PySem PySem.Spec PyProof.Rows L2 Wv
open LamX (CodeO TabS Tabs ExtN TabB lamEnv lamCx LamS)
local macro_rules | `(tactic| walk_at "e.name") => `(tactic| first
    | refine we_var 0 _ rfl (by first | exact .inl rfl | exact .inr (.inl rfl) | exact .inr (.inr rfl)) rfl ?_
    | refine we_var 1 _ rfl (by first | exact .inl rfl | exact .inr (.inl rfl) | exact .inr (.inr rfl)) rfl ?_
    | refine we_var 2 _ rfl (by first | exact .inl rfl | exact .inr (.inl rfl) | exact .inr (.inr rfl)) rfl ?_
    | refine we_var 3 _ rfl (by first | exact .inl rfl | exact .inr (.inl rfl) | exact .inr (.inr rfl)) rfl ?_
    | refine we_var 4 _ rfl (by first | exact .inl rfl | exact .inr (.inl rfl) | exact .inr (.inr rfl)) rfl ?_
    | refine we_var 5 _ rfl (by first | exact .inl rfl | exact .inr (.inl rfl) | exact .inr (.inr rfl)) rfl ?_
    | refine we_var 6 _ rfl (by first | exact .inl rfl | exact .inr (.inl rfl) | exact .inr (.inr rfl)) rfl ?_
    | refine we_var 7 _ rfl (by first | exact .inl rfl | exact .inr (.inl rfl) | exact .inr (.inr rfl)) rfl ?_
    | refine we_var 8 _ rfl (by first | exact .inl rfl | exact .inr (.inl rfl) | exact .inr (.inr rfl)) rfl ?_
    | refine we_var 9 _ rfl (by first | exact .inl rfl | exact .inr (.inl rfl) | exact .inr (.inr rfl)) rfl ?_
    | refine we_var 10 _ rfl (by first | exact .inl rfl | exact .inr (.inl rfl) | exact .inr (.inr rfl)) rfl ?_
    | refine we_var 11 _ rfl (by first | exact .inl rfl | exact .inr (.inl rfl) | exact .inr (.inr rfl)) rfl ?_
    | refine we_var 12 _ rfl (by first | exact .inl rfl | exact .inr (.inl rfl) | exact .inr (.inr rfl)) rfl ?_
    | refine we_var 13 _ rfl (by first | exact .inl rfl | exact .inr (.inl rfl) | exact .inr (.inr rfl)) rfl ?_
    | refine we_var 14 _ rfl (by first | exact .inl rfl | exact .inr (.inl rfl) | exact .inr (.inr rfl)) rfl ?_
    | refine we_var 15 _ rfl (by first | exact .inl rfl | exact .inr (.inl rfl) | exact .inr (.inr rfl)) rfl ?_
    | refine we_var 16 _ rfl (by first | exact .inl rfl | exact .inr (.inl rfl) | exact .inr (.inr rfl)) rfl ?_
    | refine we_var 17 _ rfl (by first | exact .inl rfl | exact .inr (.inl rfl) | exact .inr (.inr rfl)) rfl ?_
    | refine we_var 18 _ rfl (by first | exact .inl rfl | exact .inr (.inl rfl) | exact .inr (.inr rfl)) rfl ?_
    | refine we_var 19 _ rfl (by first | exact .inl rfl | exact .inr (.inl rfl) | exact .inr (.inr rfl)) rfl ?_
    | refine we_var 20 _ rfl (by first | exact .inl rfl | exact .inr (.inl rfl) | exact .inr (.inr rfl)) rfl ?_
    | refine we_var 21 _ rfl (by first | exact .inl rfl | exact .inr (.inl rfl) | exact .inr (.inr rfl)) rfl ?_
    | refine we_globI (by assumption) rfl ?_
    | refine we_globS (by assumption) rfl ?_)
local macro_rules | `(tactic| walk_at "e.const") => `(tactic| first
    | refine we_int ?_
    | refine we_str ?_
    | refine we_bl ?_
    | refine we_non ?_)
local macro_rules | `(tactic| walk_at "e.call") => `(tactic| first
    | refine we_len (by assumption) rfl ?_
    | refine we_int2 (by assumption) rfl ?_
    | refine we_tuple (Ct.gs (by assumption)) (by assumption) rfl ?_
    | refine we_abs (by assumption) rfl ?_
    | refine we_find ?_)
local macro_rules | `(tactic| walk_at "e.we") => `(tactic| first
    | (refine gNm ?_; walk_at "e.name")
    | (refine gConst ?_; walk_at "e.const")
    | refine we_bin (Ct.gs (by assumption)) ?_
    | (refine gCall ?_; walk_at "e.call")
    | refine we_cmp (Ct.hu (by assumption)) ?_
    | refine we_ix ?_
    | refine we_slice (Ct.gs (by assumption)) ?_
    | refine we_fld ?_
    | refine we_tup (Ct.gs (by assumption)) ?_
    | refine we_chain (Ct.hu (by assumption)) ?_
    | refine we_lst1 (Ct.gs (by assumption)) ?_
    | refine we_ifx ?_
    | refine we_and ?_
    | refine we_or ?_
    | refine we_one ?_
    | refine we_not ?_
    | refine we_neg ?_)
local macro_rules | `(tactic| walk_at "e.wt") => `(tactic| first
    | refine wt_cmp (Ct.hu (by assumption)) ?_
    | refine wt_chain (Ct.hu (by assumption)) ?_
    | refine wt_not ?_
    | refine wt_bool ?_
    | refine wt_val ?_)
local macro_rules | `(tactic| walk_at "e.ww") => `(tactic| first
    | refine ww_and ?_
    | refine ww_or ?_
    | refine ww_and1 ?_
    | refine ww_or1 ?_)
local macro_rules | `(tactic| walk_at "e.wa") => `(tactic| first
    | refine wa_nil ?_
    | refine wa_cons ?_)
local macro_rules | `(tactic| walk_at "e.wss") => `(tactic| first
    | refine wss_cons ?_
    | refine wss_nil ?_)
local macro_rules | `(tactic| walk_at "e.ws") => `(tactic| first
    | refine ws_if ?_
    | refine ws_expr (we_append (Ct.gs (by assumption)) ?_ (pe_bm PySem.F.plainAttrs_list PySem.F.slot_list_append PySem.F.type_list_append mt_append pe_wp pa_wp))
    | refine ws_expr ?_
    | refine ws_set 0 (Ct.nd (by assumption)) ?_
    | refine ws_set 1 (Ct.nd (by assumption)) ?_
    | refine ws_set 2 (Ct.nd (by assumption)) ?_
    | refine ws_set 3 (Ct.nd (by assumption)) ?_
    | refine ws_set 4 (Ct.nd (by assumption)) ?_
    | refine ws_set 5 (Ct.nd (by assumption)) ?_
    | refine ws_set 6 (Ct.nd (by assumption)) ?_
    | refine ws_set 7 (Ct.nd (by assumption)) ?_
    | refine ws_set 8 (Ct.nd (by assumption)) ?_
    | refine ws_set 9 (Ct.nd (by assumption)) ?_
    | refine ws_set 10 (Ct.nd (by assumption)) ?_
    | refine ws_set 11 (Ct.nd (by assumption)) ?_
    | refine ws_set 12 (Ct.nd (by assumption)) ?_
    | refine ws_set 13 (Ct.nd (by assumption)) ?_
    | refine ws_set 14 (Ct.nd (by assumption)) ?_
    | refine ws_set 15 (Ct.nd (by assumption)) ?_
    | refine ws_set 16 (Ct.nd (by assumption)) ?_
    | refine ws_set 17 (Ct.nd (by assumption)) ?_
    | refine ws_set 18 (Ct.nd (by assumption)) ?_
    | refine ws_set 19 (Ct.nd (by assumption)) ?_
    | refine ws_set 20 (Ct.nd (by assumption)) ?_
    | refine ws_set 21 (Ct.nd (by assumption)) ?_
    | refine ws_sub (Ct.gs (by assumption)) ?_ (fun a b => pg_sub a b set_list)
    | refine ws_fld (Ct.gs (by assumption)) ?_
    | refine ws_pass ?_
    | refine ws_break ?_
    | refine ws_cont ?_)
local macro_rules | `(tactic| walk_at "e.bin") => `(tactic| first
    | refine BinD.addI ?_
    | refine BinD.subI ?_
    | refine BinD.modI (by decide) ?_
    | refine BinD.modI (by assumption) ?_
    | refine BinD.divI (by decide) (by decide) ?_
    | refine BinD.divI (by assumption) (by assumption) ?_
    | refine BinD.mulI (by first | exact .inl ⟨by decide, by decide⟩ | exact .inr ⟨by decide, by decide⟩) ?_
    | refine BinD.xorI ?_
    | refine BinD.powI ⟨by decide, by decide, by decide⟩ ?_)
local macro_rules | `(tactic| walk_at "e.cmp") => `(tactic| first
    | refine CmpD.lt ?_
    | refine CmpD.le ?_
    | refine CmpD.gt ?_
    | refine CmpD.ge ?_
    | refine CmpD.isN ?_
    | refine CmpD.notN ?_
    | refine CmpD.neI_s ?_
    | refine CmpD.neT_s ?_
    | refine CmpD.neZ_s ?_
    | refine CmpD.eqZ_s ?_
    | refine CmpD.neN_s ?_
    | refine CmpD.eqN_s ?_
    | refine CmpD.neTZ ?_
    | refine CmpD.eqTZ ?_
    | refine CmpD.eqI ?_
    | refine CmpD.neI ?_
    | refine CmpD.eqZ ?_
    | refine CmpD.neZ ?_)
local macro_rules | `(tactic| walk_at "e.is") => `(tactic| first
    | refine IsI.mk ?_
    | refine IsT.mk ?_
    | refine IsL.mk ?_
    | refine IsZ.mk ?_
    | refine IsB.mk ?_
    | refine OwL.mk 0 rfl ?_
    | refine OwL.mk 1 rfl ?_
    | refine OwL.mk 2 rfl ?_
    | refine OwL.mk 3 rfl ?_
    | refine OwL.mk 4 rfl ?_
    | refine OwL.mk 5 rfl ?_
    | refine OwI.mk 0 rfl ?_
    | refine OwI.mk 1 rfl ?_
    | refine OwI.mk 2 rfl ?_
    | refine OwI.mk 3 rfl ?_
    | refine OwI.mk 4 rfl ?_
    | refine OwI.mk 5 rfl ?_
    | refine OwI.mk _ (by assumption) ?_
    | refine OwI.mk _ (set_at (by assumption)) ?_
    | refine OwI.mk _ (set_at (set_at (by assumption))) ?_
    | refine OwL.mk _ (by assumption) ?_
    | refine OwL.mk _ (set_at (by assumption)) ?_
    | refine OwL.mk _ (set_at (set_at (by assumption))) ?_
    | refine OwL.mk _ (set_at (set_at (set_at (by assumption)))) ?_
    | refine IxD.own 0 rfl rfl ?_
    | refine IxD.own 1 rfl rfl ?_
    | refine IxD.own 2 rfl rfl ?_
    | refine IxD.own 3 rfl rfl ?_
    | refine IxD.own 4 rfl rfl ?_
    | refine IxD.own 5 rfl rfl ?_
    | refine IxD.own _ (by assumption) rfl ?_
    | refine IxD.own _ (set_at (by assumption)) rfl ?_
    | refine IxD.own _ (set_at (set_at (by assumption))) rfl ?_
    | refine IxD.own _ (set_at (set_at (set_at (by assumption)))) rfl ?_
    | refine IxD.tup rfl ?_
    | refine IxD.lst rfl ?_
    | refine IntD.int ?_
    | refine IntD.bl ?_
    | refine TruD.bl ?_
    | refine TruD.int ?_
    | refine TruD.tup ?_
    | refine TruD.lst ?_
    | refine LenD.tup ?_
    | refine LenD.lst ?_
    | refine SeqD.tup ?_
    | refine SeqD.lst ?_
    | refine SlD.tup ?_
    | refine SlD.lst ?_
    | refine SeqD.own 0 rfl ?_
    | refine SeqD.own 1 rfl ?_
    | refine SeqD.own 2 rfl ?_
    | refine SeqD.own 3 rfl ?_
    | refine SeqD.own 4 rfl ?_
    | refine SeqD.own 5 rfl ?_
    | refine LenD.own 0 rfl ?_
    | refine LenD.own 1 rfl ?_
    | refine LenD.own 2 rfl ?_
    | refine LenD.own 3 rfl ?_
    | refine LenD.own 4 rfl ?_
    | refine LenD.own 5 rfl ?_)
local macro_rules | `(tactic| walk_at "e1") => `(tactic| first
    | (refine gWE ?_; walk_at "e.we")
    | (refine gBinD ?_; walk_at "e.bin")
    | (refine gWSs ?_; walk_at "e.wss")
    | (refine gWS ?_; walk_at "e.ws")
    | (refine gWT ?_; walk_at "e.wt")
    | (refine gCmpD ?_; walk_at "e.cmp")
    | (refine gWA ?_; walk_at "e.wa")
    | (refine gWW ?_; walk_at "e.ww")
    | refine iteT ?_
    | refine iteF ?_
    | walk_at "e.is")
local macro_rules | `(tactic| walk_at "e") => `(tactic| repeat (walk_at "e1"))
structure LawH (P : Program) (w : World) (K : PySem.W.Frag) (mg : Str → Option Value) (base : Heap) (T : List (Addr × Str)) (C CR : Addr) : Prop where
  E : ExcC K mg "OctetError" C
  told : ToldOk K mg "_law_told" "OctetError" "OctetError" C
  stuffed : ∃ f, mg "stuffed" = some (.ref f) ∧ Gf P w K mg base (Tabs T) 2 f [] S_stuffed
  frame : ∃ f, mg "frame_bytes" = some (.ref f) ∧ Gf P w K mg base (Tabs T) 3 f [] (S_frame C)
  pin : ∃ f, mg "payloads_in" = some (.ref f) ∧ Gf P w K mg base (Tabs T) 5 f [] S_pin
  roll : ∃ f, mg "_law_roll" = some (.ref f) ∧ Gf P w K mg base (Tabs T) 3 f [] (S_roll 1000000000000000000)
  rounds : ∃ f, mg "_law_rounds" = some (.ref f) ∧ Gf P w K mg base (Tabs T) 2 f [] (S_rounds K)
  lframe : ∃ f, mg "_law_frame" = some (.ref f) ∧ Gf P w K mg base (Tabs T) 2 f [] S_lframe
  dr : mg "Deframer" = some (.ref CR)
  dc : DfC K CR
  mkr : ∃ f, Mk K CR f ∧ Gf P w K mg base (Tabs T) 1 f [] (S_dinit CR)
  feed : ∃ f, Meth K CR "feed" f ∧ Gf P w K mg base (Tabs T) 4 f [] (S_feed CR)
  len : mg "len" = none
  range : mg "range" = none
  tuple : mg "tuple" = none
  list : mg "list" = none
def S_law (K : PySem.W.Frag) : SpD := fun ds M xr R => ∃ (d : D) (cs : List Int), ds = [d] ∧ ScrD K M d cs ∧ ∀ M', R M' (B true)
abbrev XL (P : Program) (w : World) (K : PySem.W.Frag) (mg : Str → Option Value) (base : Heap) (f c : Addr) (A : Around) (outer : List Env) (s : Shared) (H : Hp) (E0 : XK) : Cx := cxOf (L2N.CX P w) P w K mg base N_law "law" (defScope s_law) f (.ref c) A outer s H E0
def rub1 : List Int := [126] ++ List.replicate 405 5 ++ [126]
def rub2 : List Int := [126, 5, 6, 7, 8, 9, 125, 126]
theorem rub_fed1 : feedS ⟨none, false, 0⟩ (rub1 ++ frameL [9]) = (⟨some [], false, 1⟩, [[9]]) := by decide +kernel
theorem rub_fed2 : feedS ⟨none, false, 0⟩ (rub2 ++ frameL [9]) = (⟨some [], false, 1⟩, [[9]]) := by decide +kernel
theorem marks3 : feedS ⟨none, false, 0⟩ [126, 126, 126] = (⟨some [], false, 0⟩, []) := by decide +kernel
section
variable {P : Program} {w : World} {K : PySem.W.Frag} {mg : Str → Option Value} {base : Heap} {T : List (Addr × Str)} {f c C CR : Addr} {A : Around} {outer : List Env} {s : Shared} {H : Hp} {E0 : XK} {W : WX} {M : Ms} {N : En} {z0 z1 z2 z3 z4 z5 z6 z7 z8 z9 z10 z11 z12 z13 z14 z15 z16 z17 z18 z19 z20 z21 : Option D}
theorem st_Y (L : LawH P w K mg base T C CR) (cx : Ct (XL P w K mg base f c A outer s H E0) (Tabs T) W 7) (TX : TabX (XL P w K mg base f c A outer s H E0) T "<lambda>") (hR : ∀ M', N.rt M' (B true)) :
    WSs (XL P w K mg base f c A outer s H E0) (Tabs T) W ((defBody s_law).drop 2) M [z0, z1, z2, z3, z4, z5, z6, z7, z8, z9, z10, z11, z12, z13, z14, z15, z16, z17, z18, z19, z20, z21] N := by
  obtain ⟨ff, mf, gf⟩ := L.frame
  obtain ⟨fp, mp, gp⟩ := L.pin
  walk_at "e"
  refine ⟨sz1 (by simp), ?_⟩
  walk_at "e"
  refine BinD.repB (n := 401) (by decide) (by decide) ?_
  refine wss_one (ws_ret (we_and (we_cmp cx.hu (we_told cx TX rfl L.told (LamX.lamS_by (by show LamX.lamSB (defScope s_law) _ = true; decide +kernel)) ?_))))
  rintro Y E ⟨A', outer', s', H0, f', c', rfl⟩ cy
  refine we_call cy gf (by decide) mf rfl ?_
  walk_at "e"
  refine ⟨List.replicate 401 1, rfl, by simp, fun _ => ⟨rfl, ?_⟩, fun h => absurd h (by simp)⟩
  walk_at "e"
  refine ⟨true, rfl, iteT (we_and (we_cmp cx.hu (we_list cx.gs L.list rfl (we_call cx gp (by decide) mp rfl ?_))))⟩
  refine wa_cons (we_call cx gf (by decide) mf rfl ?_)
  walk_at "e"
  refine ⟨sz1 (by simp), ?_⟩
  walk_at "e"
  refine BinD.repB (n := 400) (by decide) (by decide) ?_
  walk_at "e"
  refine ⟨List.replicate 400 7, rfl, by simp, fun h => absurd h (by simp), fun _ => ?_⟩
  walk_at "e"
  have hl : (frameL (List.replicate 400 7)).length ≤ 100000 := by
    have h1 := stuffL_len (List.replicate 400 7 ++ sumL (List.replicate 400 7))
    have h2 : (sumL (List.replicate 400 7)).length = 4 := rfl
    rw [List.length_append, h2, List.length_replicate] at h1
    unfold frameL
    simp only [List.length_append, List.length_singleton]
    omega
  have hf : (feedS ⟨none, false, 0⟩ (frameL (List.replicate 400 7))).2 = [List.replicate 400 7] := by
    rw [feed_frame (fun b hb => by rw [List.eq_of_mem_replicate hb]; decide) (by simp)]
    rfl
  refine ⟨frameL (List.replicate 400 7), rfl, hl, SeqD.tup ?_⟩
  rw [hf]
  walk_at "e"
  refine ⟨sz1 (by simp), ?_⟩
  walk_at "e"
  refine BinD.repB (n := 400) (by decide) (by decide) ?_
  walk_at "e"
  refine ⟨sz1 (by simp), CmpD.eq_s (pl_lbyts [List.replicate 400 7]) ⟨true, rfl, iteT (we_one (we_cmp cx.hu (we_call cx gp (by decide) mp rfl ?_)))⟩⟩
  walk_at "e"
  refine ⟨sz1 (by simp), ?_⟩
  walk_at "e"
  refine ⟨[126, 126, 126], rfl, by simp, ?_⟩
  rw [marks3]
  walk_at "e"
  exact ⟨Nat.zero_le _, CmpD.eq_s (pl_byts []) (hR _)⟩
theorem st_X (L : LawH P w K mg base T C CR) (cx : Ct (XL P w K mg base f c A outer s H E0) (Tabs T) W 7) (TX : TabX (XL P w K mg base f c A outer s H E0) T "<lambda>") (hR : ∀ M', N.rt M' (B true)) :
    WSs (XL P w K mg base f c A outer s H E0) (Tabs T) W ((defBody s_law).drop 1) M [z0, z1, z2, z3, z4, z5, z6, z7, z8, z9, z10, z11, z12, z13, z14, z15, z16, z17, z18, z19, z20, z21] N := by
  obtain ⟨ff, mf, gf⟩ := L.frame
  obtain ⟨fi, mk, gi⟩ := L.mkr
  obtain ⟨fe, Me, ge⟩ := L.feed
  have dc := L.dc
  have hf9 : (frameL [9]).length ≤ 500 := by decide +kernel
  refine wss_cons (ws_for cx (pgn 17 cx.nd) (gok_name 17) (fun i M' ρ' => ∃ z16 z17, ρ' = [z0, z1, z2, z3, z4, z5, z6, z7, z8, z9, z10, z11, z12, z13, z14, z15, z16, z17, z18, z19, z20, z21]) (wi_lst ?_))
  walk_at "e"
  refine ⟨sz1 (by simp), ?_⟩
  walk_at "e"
  refine ⟨sz1 (by simp), ?_⟩
  walk_at "e"
  refine BinD.repB (n := 405) (by decide) (by decide) ?_
  refine BinD.addB (i := [126]) (by simp) ?_
  walk_at "e"
  refine ⟨sz1 (by simp), BinD.addB (j := [126]) (by simp) ?_⟩
  walk_at "e"
  refine ⟨sz1 (by simp), ?_⟩
  walk_at "e"
  refine ⟨sz1 (by simp), ⟨z16, z17, rfl⟩, ?_, ?_⟩
  · rintro i z hz M' ρ' ⟨y16, y17, rfl⟩
    obtain ⟨rb, rfl, hfed, hlen⟩ : ∃ rb : List Int, z = byt rb ∧ feedS ⟨none, false, 0⟩ (rb ++ frameL [9]) = (⟨some [], false, 1⟩, [[9]]) ∧ rb.length ≤ 500 := by
      rcases i with _ | _ | i
      · cases hz; exact ⟨rub1, rfl, rub_fed1, by decide +kernel⟩
      · cases hz; exact ⟨rub2, rfl, rub_fed2, by decide +kernel⟩
      · cases hz
    refine wss_cons (ws_set 16 cx.nd (we_make0 cx gi (by decide) mk L.dr rfl ?_ init_ret))
    refine fun q => ⟨q, M', rfl, rfl, ?_⟩
    refine wss_one (ws_if (wt_bool (ww_or (wt_cmp cx.hu (we_meth cx ge (by decide) dc.c Me ?_)))))
    walk_at "e"
    refine ⟨rfl, rfl, ?_⟩
    walk_at "e"
    refine we_call cx gf (by decide) mf rfl ?_
    walk_at "e"
    refine ⟨sz1 (by simp), ?_⟩
    walk_at "e"
    refine ⟨[9], rfl, by simp, fun h => absurd h (by simp), fun _ => BinD.addB (by omega) ?_⟩
    walk_at "e"
    refine ⟨q, none, false, 0, rb ++ frameL [9], M', rfl, by rw [List.length_append]; omega, none_ok, ⟨_, List.Perm.refl _, List.Sublist.refl _⟩, fun h' e' n' heq => ?_⟩
    simp only [Option.map_none, hfed] at heq ⊢
    obtain ⟨he1, he2, rfl⟩ := DS.mk.inj heq
    walk_at "e"
    refine ⟨sz1 (by simp), ?_⟩
    walk_at "e"
    refine ⟨sz1 (by simp), CmpD.ne_s (pl_byts [[9]]) (iteF (ww_or1 (wt_cmp cx.hu (we_fld ?_))))⟩
    walk_at "e"
    refine ⟨dc.c, dc.nd, _, rfl, ?_⟩
    walk_at "e"
    skip
    exact ⟨_, _, rfl⟩
  · rintro M' ρ' ⟨y16, y17, rfl⟩
    exact st_Y L cx TX hR
end

end K02
set_option maxRecDepth 100000
set_option maxHeartbeats 4000000

namespace K02
open PySem PySem.Spec PyProof.Rows L2 Wv
open LamX (CodeO TabS Tabs ExtN TabB lamEnv lamCx LamS)
local macro_rules | `(tactic| walk_at "e.name") => `(tactic| first
    | refine we_var 0 _ rfl (by first | exact .inl rfl | exact .inr (.inl rfl) | exact .inr (.inr rfl)) rfl ?_
    | refine we_var 1 _ rfl (by first | exact .inl rfl | exact .inr (.inl rfl) | exact .inr (.inr rfl)) rfl ?_
    | refine we_var 2 _ rfl (by first | exact .inl rfl | exact .inr (.inl rfl) | exact .inr (.inr rfl)) rfl ?_
    | refine we_var 3 _ rfl (by first | exact .inl rfl | exact .inr (.inl rfl) | exact .inr (.inr rfl)) rfl ?_
    | refine we_var 4 _ rfl (by first | exact .inl rfl | exact .inr (.inl rfl) | exact .inr (.inr rfl)) rfl ?_
    | refine we_var 5 _ rfl (by first | exact .inl rfl | exact .inr (.inl rfl) | exact .inr (.inr rfl)) rfl ?_
    | refine we_var 6 _ rfl (by first | exact .inl rfl | exact .inr (.inl rfl) | exact .inr (.inr rfl)) rfl ?_
    | refine we_var 7 _ rfl (by first | exact .inl rfl | exact .inr (.inl rfl) | exact .inr (.inr rfl)) rfl ?_
    | refine we_var 8 _ rfl (by first | exact .inl rfl | exact .inr (.inl rfl) | exact .inr (.inr rfl)) rfl ?_
    | refine we_var 9 _ rfl (by first | exact .inl rfl | exact .inr (.inl rfl) | exact .inr (.inr rfl)) rfl ?_
    | refine we_var 10 _ rfl (by first | exact .inl rfl | exact .inr (.inl rfl) | exact .inr (.inr rfl)) rfl ?_
    | refine we_var 11 _ rfl (by first | exact .inl rfl | exact .inr (.inl rfl) | exact .inr (.inr rfl)) rfl ?_
    | refine we_var 12 _ rfl (by first | exact .inl rfl | exact .inr (.inl rfl) | exact .inr (.inr rfl)) rfl ?_
    | refine we_var 13 _ rfl (by first | exact .inl rfl | exact .inr (.inl rfl) | exact .inr (.inr rfl)) rfl ?_
    | refine we_var 14 _ rfl (by first | exact .inl rfl | exact .inr (.inl rfl) | exact .inr (.inr rfl)) rfl ?_
    | refine we_var 15 _ rfl (by first | exact .inl rfl | exact .inr (.inl rfl) | exact .inr (.inr rfl)) rfl ?_
    | refine we_var 16 _ rfl (by first | exact .inl rfl | exact .inr (.inl rfl) | exact .inr (.inr rfl)) rfl ?_
    | refine we_var 17 _ rfl (by first | exact .inl rfl | exact .inr (.inl rfl) | exact .inr (.inr rfl)) rfl ?_
    | refine we_var 18 _ rfl (by first | exact .inl rfl | exact .inr (.inl rfl) | exact .inr (.inr rfl)) rfl ?_
    | refine we_var 19 _ rfl (by first | exact .inl rfl | exact .inr (.inl rfl) | exact .inr (.inr rfl)) rfl ?_
    | refine we_var 20 _ rfl (by first | exact .inl rfl | exact .inr (.inl rfl) | exact .inr (.inr rfl)) rfl ?_
    | refine we_var 21 _ rfl (by first | exact .inl rfl | exact .inr (.inl rfl) | exact .inr (.inr rfl)) rfl ?_
    | refine we_globI (by assumption) rfl ?_
    | refine we_globS (by assumption) rfl ?_)
local macro_rules | `(tactic| walk_at "e.const") => `(tactic| first
    | refine we_int ?_
    | refine we_str ?_
    | refine we_bl ?_
    | refine we_non ?_)
local macro_rules | `(tactic| walk_at "e.call") => `(tactic| first
    | refine we_len (by assumption) rfl ?_
    | refine we_int2 (by assumption) rfl ?_
    | refine we_tuple (Ct.gs (by assumption)) (by assumption) rfl ?_
    | refine we_abs (by assumption) rfl ?_
    | refine we_find ?_)
local macro_rules | `(tactic| walk_at "e.we") => `(tactic| first
    | (refine gNm ?_; walk_at "e.name")
    | (refine gConst ?_; walk_at "e.const")
    | refine we_bin (Ct.gs (by assumption)) ?_
    | (refine gCall ?_; walk_at "e.call")
    | refine we_cmp (Ct.hu (by assumption)) ?_
    | refine we_ix ?_
    | refine we_slice (Ct.gs (by assumption)) ?_
    | refine we_fld ?_
    | refine we_tup (Ct.gs (by assumption)) ?_
    | refine we_chain (Ct.hu (by assumption)) ?_
    | refine we_lst1 (Ct.gs (by assumption)) ?_
    | refine we_ifx ?_
    | refine we_and ?_
    | refine we_or ?_
    | refine we_one ?_
    | refine we_not ?_
    | refine we_neg ?_)
local macro_rules | `(tactic| walk_at "e.wt") => `(tactic| first
    | refine wt_cmp (Ct.hu (by assumption)) ?_
    | refine wt_chain (Ct.hu (by assumption)) ?_
    | refine wt_not ?_
    | refine wt_bool ?_
    | refine wt_val ?_)
local macro_rules | `(tactic| walk_at "e.ww") => `(tactic| first
    | refine ww_and ?_
    | refine ww_or ?_
    | refine ww_and1 ?_
    | refine ww_or1 ?_)
local macro_rules | `(tactic| walk_at "e.wa") => `(tactic| first
    | refine wa_nil ?_
    | refine wa_cons ?_)
local macro_rules | `(tactic| walk_at "e.wss") => `(tactic| first
    | refine wss_cons ?_
    | refine wss_nil ?_)
local macro_rules | `(tactic| walk_at "e.ws") => `(tactic| first
    | refine ws_if ?_
    | refine ws_expr (we_append (Ct.gs (by assumption)) ?_ (pe_bm PySem.F.plainAttrs_list PySem.F.slot_list_append PySem.F.type_list_append mt_append pe_wp pa_wp))
    | refine ws_expr ?_
    | refine ws_set 0 (Ct.nd (by assumption)) ?_
    | refine ws_set 1 (Ct.nd (by assumption)) ?_
    | refine ws_set 2 (Ct.nd (by assumption)) ?_
    | refine ws_set 3 (Ct.nd (by assumption)) ?_
    | refine ws_set 4 (Ct.nd (by assumption)) ?_
    | refine ws_set 5 (Ct.nd (by assumption)) ?_
    | refine ws_set 6 (Ct.nd (by assumption)) ?_
    | refine ws_set 7 (Ct.nd (by assumption)) ?_
    | refine ws_set 8 (Ct.nd (by assumption)) ?_
    | refine ws_set 9 (Ct.nd (by assumption)) ?_
    | refine ws_set 10 (Ct.nd (by assumption)) ?_
    | refine ws_set 11 (Ct.nd (by assumption)) ?_
    | refine ws_set 12 (Ct.nd (by assumption)) ?_
    | refine ws_set 13 (Ct.nd (by assumption)) ?_
    | refine ws_set 14 (Ct.nd (by assumption)) ?_
    | refine ws_set 15 (Ct.nd (by assumption)) ?_
    | refine ws_set 16 (Ct.nd (by assumption)) ?_
    | refine ws_set 17 (Ct.nd (by assumption)) ?_
    | refine ws_set 18 (Ct.nd (by assumption)) ?_
    | refine ws_set 19 (Ct.nd (by assumption)) ?_
    | refine ws_set 20 (Ct.nd (by assumption)) ?_
    | refine ws_set 21 (Ct.nd (by assumption)) ?_
    | refine ws_sub (Ct.gs (by assumption)) ?_ (fun a b => pg_sub a b set_list)
    | refine ws_fld (Ct.gs (by assumption)) ?_
    | refine ws_pass ?_
    | refine ws_break ?_
    | refine ws_cont ?_)
local macro_rules | `(tactic| walk_at "e.bin") => `(tactic| first
    | refine BinD.addI ?_
    | refine BinD.subI ?_
    | refine BinD.modI (by decide) ?_
    | refine BinD.modI (by assumption) ?_
    | refine BinD.divI (by decide) (by decide) ?_
    | refine BinD.divI (by assumption) (by assumption) ?_
    | refine BinD.mulI (by first | exact .inl ⟨by decide, by decide⟩ | exact .inr ⟨by decide, by decide⟩) ?_
    | refine BinD.xorI ?_
    | refine BinD.powI ⟨by decide, by decide, by decide⟩ ?_)
local macro_rules | `(tactic| walk_at "e.cmp") => `(tactic| first
    | refine CmpD.lt ?_
    | refine CmpD.le ?_
    | refine CmpD.gt ?_
    | refine CmpD.ge ?_
    | refine CmpD.isN ?_
    | refine CmpD.notN ?_
    | refine CmpD.neI_s ?_
    | refine CmpD.neT_s ?_
    | refine CmpD.neZ_s ?_
    | refine CmpD.eqZ_s ?_
    | refine CmpD.neN_s ?_
    | refine CmpD.eqN_s ?_
    | refine CmpD.neTZ ?_
    | refine CmpD.eqTZ ?_
    | refine CmpD.eqI ?_
    | refine CmpD.neI ?_
    | refine CmpD.eqZ ?_
    | refine CmpD.neZ ?_)
local macro_rules | `(tactic| walk_at "e.is") => `(tactic| first
    | refine IsI.mk ?_
    | refine IsT.mk ?_
    | refine IsL.mk ?_
    | refine IsZ.mk ?_
    | refine IsB.mk ?_
    | refine OwL.mk 0 rfl ?_
    | refine OwL.mk 1 rfl ?_
    | refine OwL.mk 2 rfl ?_
    | refine OwL.mk 3 rfl ?_
    | refine OwL.mk 4 rfl ?_
    | refine OwL.mk 5 rfl ?_
    | refine OwI.mk 0 rfl ?_
    | refine OwI.mk 1 rfl ?_
    | refine OwI.mk 2 rfl ?_
    | refine OwI.mk 3 rfl ?_
    | refine OwI.mk 4 rfl ?_
    | refine OwI.mk 5 rfl ?_
    | refine OwI.mk _ (by assumption) ?_
    | refine OwI.mk _ (set_at (by assumption)) ?_
    | refine OwI.mk _ (set_at (set_at (by assumption))) ?_
    | refine OwL.mk _ (by assumption) ?_
    | refine OwL.mk _ (set_at (by assumption)) ?_
    | refine OwL.mk _ (set_at (set_at (by assumption))) ?_
    | refine OwL.mk _ (set_at (set_at (set_at (by assumption)))) ?_
    | refine IxD.own 0 rfl rfl ?_
    | refine IxD.own 1 rfl rfl ?_
    | refine IxD.own 2 rfl rfl ?_
    | refine IxD.own 3 rfl rfl ?_
    | refine IxD.own 4 rfl rfl ?_
    | refine IxD.own 5 rfl rfl ?_
    | refine IxD.own _ (by assumption) rfl ?_
    | refine IxD.own _ (set_at (by assumption)) rfl ?_
    | refine IxD.own _ (set_at (set_at (by assumption))) rfl ?_
    | refine IxD.own _ (set_at (set_at (set_at (by assumption)))) rfl ?_
    | refine IxD.tup rfl ?_
    | refine IxD.lst rfl ?_
    | refine IntD.int ?_
    | refine IntD.bl ?_
    | refine TruD.bl ?_
    | refine TruD.int ?_
    | refine TruD.tup ?_
    | refine TruD.lst ?_
    | refine LenD.tup ?_
    | refine LenD.lst ?_
    | refine SeqD.tup ?_
    | refine SeqD.lst ?_
    | refine SlD.tup ?_
    | refine SlD.lst ?_
    | refine SeqD.own 0 rfl ?_
    | refine SeqD.own 1 rfl ?_
    | refine SeqD.own 2 rfl ?_
    | refine SeqD.own 3 rfl ?_
    | refine SeqD.own 4 rfl ?_
    | refine SeqD.own 5 rfl ?_
    | refine LenD.own 0 rfl ?_
    | refine LenD.own 1 rfl ?_
    | refine LenD.own 2 rfl ?_
    | refine LenD.own 3 rfl ?_
    | refine LenD.own 4 rfl ?_
    | refine LenD.own 5 rfl ?_)
local macro_rules | `(tactic| walk_at "e1") => `(tactic| first
    | (refine gWE ?_; walk_at "e.we")
    | (refine gBinD ?_; walk_at "e.bin")
    | (refine gWSs ?_; walk_at "e.wss")
    | (refine gWS ?_; walk_at "e.ws")
    | (refine gWT ?_; walk_at "e.wt")
    | (refine gCmpD ?_; walk_at "e.cmp")
    | (refine gWA ?_; walk_at "e.wa")
    | (refine gWW ?_; walk_at "e.ww")
    | refine iteT ?_
    | refine iteF ?_
    | walk_at "e.is")
local macro_rules | `(tactic| walk_at "e") => `(tactic| repeat (walk_at "e1"))
theorem stuff_126 : ∀ bs : List Int, ∀ x ∈ stuffL bs, x ≠ 126
  | [], x, h => by cases h
  | b :: bs, x, h => by
    rcases List.mem_append.mp h with h | h
    · unfold stuff1 at h
      by_cases z : b = 126 ∨ b = 125
      · rw [if_pos z] at h
        simp only [List.mem_cons, List.not_mem_nil, or_false] at h
        rcases h with rfl | rfl
        · decide
        · exact (flip_of z).2.1
      · rw [if_neg z] at h
        simp only [List.mem_cons, List.not_mem_nil, or_false] at h
        subst h
        exact fun q => z (.inl q)
    · exact stuff_126 bs x h
/-- what a row of frames gives -/
def rowL (pls : List (List Int)) : List Int := (pls.map frameL).flatten
theorem rowL_app (pls : List (List Int)) (bs : List Int) : rowL (pls ++ [bs]) = rowL pls ++ frameL bs := by
  unfold rowL
  rw [List.map_append, List.flatten_append]
  simp
theorem frameL_len {bs : List Int} : (frameL bs).length ≤ 2 * bs.length + 10 := by
  have h1 := stuffL_len (bs ++ sumL bs)
  have h2 : (sumL bs).length = 4 := rfl
  rw [List.length_append, h2] at h1
  unfold frameL
  simp only [List.length_append, List.length_singleton]
  omega
/-- all payloads of a row of frames, from any state in which nothing but a mark's emptiness may be held -/
theorem feed_row : ∀ (pls : List (List Int)) (s : DS), (∀ bs ∈ pls, bs.length ≤ 400 ∧ ∀ b ∈ bs, 0 ≤ b ∧ b < 256) → (endS s).2 = none → (endS s).1.dmg = s.dmg → (feedS s (rowL pls)).2 = pls ∧ (feedS s (rowL pls)).1.dmg = s.dmg
  | [], s, _, _, _ => ⟨rfl, rfl⟩
  | bs :: pls, s, hr, he, hd => by
    have h1 := hr bs List.mem_cons_self
    have e : rowL (bs :: pls) = frameL bs ++ rowL pls := rfl
    rw [e, feedS_app, feed_frame h1.2 h1.1, he, hd]
    simp only [Option.toList_none, List.nil_append]
    obtain ⟨i1, i2⟩ := feed_row pls ⟨some [], false, s.dmg⟩ (fun x hx => hr x (List.mem_cons_of_mem _ hx)) (by rfl) (by rfl)
    rw [i1, i2]
    exact ⟨rfl, rfl⟩
/-- in pieces -/
theorem feed_piece (s : DS) (row : List Int) (i n : Nat) : feedS s (row.take (i + n)) = ((feedS (feedS s (row.take i)).1 ((row.drop i).take n)).1, (feedS s (row.take i)).2 ++ (feedS (feedS s (row.take i)).1 ((row.drop i).take n)).2) := by
  rw [List.take_add, feedS_app]

end K02
set_option maxRecDepth 100000
set_option maxHeartbeats 4000000

namespace K02
open PySem PySem.Spec PyProof.Rows L2 Wv
open LamX (CodeO TabS Tabs ExtN TabB lamEnv lamCx LamS)
local macro_rules | `(tactic| walk_at "e.name") => `(tactic| first
    | refine we_var 0 _ rfl (by first | exact .inl rfl | exact .inr (.inl rfl) | exact .inr (.inr rfl)) rfl ?_
    | refine we_var 1 _ rfl (by first | exact .inl rfl | exact .inr (.inl rfl) | exact .inr (.inr rfl)) rfl ?_
    | refine we_var 2 _ rfl (by first | exact .inl rfl | exact .inr (.inl rfl) | exact .inr (.inr rfl)) rfl ?_
    | refine we_var 3 _ rfl (by first | exact .inl rfl | exact .inr (.inl rfl) | exact .inr (.inr rfl)) rfl ?_
    | refine we_var 4 _ rfl (by first | exact .inl rfl | exact .inr (.inl rfl) | exact .inr (.inr rfl)) rfl ?_
    | refine we_var 5 _ rfl (by first | exact .inl rfl | exact .inr (.inl rfl) | exact .inr (.inr rfl)) rfl ?_
    | refine we_var 6 _ rfl (by first | exact .inl rfl | exact .inr (.inl rfl) | exact .inr (.inr rfl)) rfl ?_
    | refine we_var 7 _ rfl (by first | exact .inl rfl | exact .inr (.inl rfl) | exact .inr (.inr rfl)) rfl ?_
    | refine we_var 8 _ rfl (by first | exact .inl rfl | exact .inr (.inl rfl) | exact .inr (.inr rfl)) rfl ?_
    | refine we_var 9 _ rfl (by first | exact .inl rfl | exact .inr (.inl rfl) | exact .inr (.inr rfl)) rfl ?_
    | refine we_var 10 _ rfl (by first | exact .inl rfl | exact .inr (.inl rfl) | exact .inr (.inr rfl)) rfl ?_
    | refine we_var 11 _ rfl (by first | exact .inl rfl | exact .inr (.inl rfl) | exact .inr (.inr rfl)) rfl ?_
    | refine we_var 12 _ rfl (by first | exact .inl rfl | exact .inr (.inl rfl) | exact .inr (.inr rfl)) rfl ?_
    | refine we_var 13 _ rfl (by first | exact .inl rfl | exact .inr (.inl rfl) | exact .inr (.inr rfl)) rfl ?_
    | refine we_var 14 _ rfl (by first | exact .inl rfl | exact .inr (.inl rfl) | exact .inr (.inr rfl)) rfl ?_
    | refine we_var 15 _ rfl (by first | exact .inl rfl | exact .inr (.inl rfl) | exact .inr (.inr rfl)) rfl ?_
    | refine we_var 16 _ rfl (by first | exact .inl rfl | exact .inr (.inl rfl) | exact .inr (.inr rfl)) rfl ?_
    | refine we_var 17 _ rfl (by first | exact .inl rfl | exact .inr (.inl rfl) | exact .inr (.inr rfl)) rfl ?_
    | refine we_var 18 _ rfl (by first | exact .inl rfl | exact .inr (.inl rfl) | exact .inr (.inr rfl)) rfl ?_
    | refine we_var 19 _ rfl (by first | exact .inl rfl | exact .inr (.inl rfl) | exact .inr (.inr rfl)) rfl ?_
    | refine we_var 20 _ rfl (by first | exact .inl rfl | exact .inr (.inl rfl) | exact .inr (.inr rfl)) rfl ?_
    | refine we_var 21 _ rfl (by first | exact .inl rfl | exact .inr (.inl rfl) | exact .inr (.inr rfl)) rfl ?_
    | refine we_globI (by assumption) rfl ?_
    | refine we_globS (by assumption) rfl ?_)
local macro_rules | `(tactic| walk_at "e.const") => `(tactic| first
    | refine we_int ?_
    | refine we_str ?_
    | refine we_bl ?_
    | refine we_non ?_)
local macro_rules | `(tactic| walk_at "e.call") => `(tactic| first
    | refine we_len (by assumption) rfl ?_
    | refine we_int2 (by assumption) rfl ?_
    | refine we_tuple (Ct.gs (by assumption)) (by assumption) rfl ?_
    | refine we_abs (by assumption) rfl ?_
    | refine we_find ?_)
local macro_rules | `(tactic| walk_at "e.we") => `(tactic| first
    | (refine gNm ?_; walk_at "e.name")
    | (refine gConst ?_; walk_at "e.const")
    | refine we_bin (Ct.gs (by assumption)) ?_
    | (refine gCall ?_; walk_at "e.call")
    | refine we_cmp (Ct.hu (by assumption)) ?_
    | refine we_ix ?_
    | refine we_slice (Ct.gs (by assumption)) ?_
    | refine we_fld ?_
    | refine we_tup (Ct.gs (by assumption)) ?_
    | refine we_chain (Ct.hu (by assumption)) ?_
    | refine we_lst1 (Ct.gs (by assumption)) ?_
    | refine we_ifx ?_
    | refine we_and ?_
    | refine we_or ?_
    | refine we_one ?_
    | refine we_not ?_
    | refine we_neg ?_)
local macro_rules | `(tactic| walk_at "e.wt") => `(tactic| first
    | refine wt_cmp (Ct.hu (by assumption)) ?_
    | refine wt_chain (Ct.hu (by assumption)) ?_
    | refine wt_not ?_
    | refine wt_bool ?_
    | refine wt_val ?_)
local macro_rules | `(tactic| walk_at "e.ww") => `(tactic| first
    | refine ww_and ?_
    | refine ww_or ?_
    | refine ww_and1 ?_
    | refine ww_or1 ?_)
local macro_rules | `(tactic| walk_at "e.wa") => `(tactic| first
    | refine wa_nil ?_
    | refine wa_cons ?_)
local macro_rules | `(tactic| walk_at "e.wss") => `(tactic| first
    | refine wss_cons ?_
    | refine wss_nil ?_)
local macro_rules | `(tactic| walk_at "e.ws") => `(tactic| first
    | refine ws_if ?_
    | refine ws_expr (we_append (Ct.gs (by assumption)) ?_ (pe_bm PySem.F.plainAttrs_list PySem.F.slot_list_append PySem.F.type_list_append mt_append pe_wp pa_wp))
    | refine ws_expr ?_
    | refine ws_set 0 (Ct.nd (by assumption)) ?_
    | refine ws_set 1 (Ct.nd (by assumption)) ?_
    | refine ws_set 2 (Ct.nd (by assumption)) ?_
    | refine ws_set 3 (Ct.nd (by assumption)) ?_
    | refine ws_set 4 (Ct.nd (by assumption)) ?_
    | refine ws_set 5 (Ct.nd (by assumption)) ?_
    | refine ws_set 6 (Ct.nd (by assumption)) ?_
    | refine ws_set 7 (Ct.nd (by assumption)) ?_
    | refine ws_set 8 (Ct.nd (by assumption)) ?_
    | refine ws_set 9 (Ct.nd (by assumption)) ?_
    | refine ws_set 10 (Ct.nd (by assumption)) ?_
    | refine ws_set 11 (Ct.nd (by assumption)) ?_
    | refine ws_set 12 (Ct.nd (by assumption)) ?_
    | refine ws_set 13 (Ct.nd (by assumption)) ?_
    | refine ws_set 14 (Ct.nd (by assumption)) ?_
    | refine ws_set 15 (Ct.nd (by assumption)) ?_
    | refine ws_set 16 (Ct.nd (by assumption)) ?_
    | refine ws_set 17 (Ct.nd (by assumption)) ?_
    | refine ws_set 18 (Ct.nd (by assumption)) ?_
    | refine ws_set 19 (Ct.nd (by assumption)) ?_
    | refine ws_set 20 (Ct.nd (by assumption)) ?_
    | refine ws_set 21 (Ct.nd (by assumption)) ?_
    | refine ws_sub (Ct.gs (by assumption)) ?_ (fun a b => pg_sub a b set_list)
    | refine ws_fld (Ct.gs (by assumption)) ?_
    | refine ws_pass ?_
    | refine ws_break ?_
    | refine ws_cont ?_)
local macro_rules | `(tactic| walk_at "e.bin") => `(tactic| first
    | refine BinD.addI ?_
    | refine BinD.subI ?_
    | refine BinD.modI (by decide) ?_
    | refine BinD.modI (by assumption) ?_
    | refine BinD.divI (by decide) (by decide) ?_
    | refine BinD.divI (by assumption) (by assumption) ?_
    | refine BinD.mulI (by first | exact .inl ⟨by decide, by decide⟩ | exact .inr ⟨by decide, by decide⟩) ?_
    | refine BinD.xorI ?_
    | refine BinD.powI ⟨by decide, by decide, by decide⟩ ?_)
local macro_rules | `(tactic| walk_at "e.cmp") => `(tactic| first
    | refine CmpD.lt ?_
    | refine CmpD.le ?_
    | refine CmpD.gt ?_
    | refine CmpD.ge ?_
    | refine CmpD.isN ?_
    | refine CmpD.notN ?_
    | refine CmpD.neI_s ?_
    | refine CmpD.neT_s ?_
    | refine CmpD.neZ_s ?_
    | refine CmpD.eqZ_s ?_
    | refine CmpD.neN_s ?_
    | refine CmpD.eqN_s ?_
    | refine CmpD.neTZ ?_
    | refine CmpD.eqTZ ?_
    | refine CmpD.eqI ?_
    | refine CmpD.neI ?_
    | refine CmpD.eqZ ?_
    | refine CmpD.neZ ?_)
local macro_rules | `(tactic| walk_at "e.is") => `(tactic| first
    | refine IsI.mk ?_
    | refine IsT.mk ?_
    | refine IsL.mk ?_
    | refine IsZ.mk ?_
    | refine IsB.mk ?_
    | refine OwL.mk 0 rfl ?_
    | refine OwL.mk 1 rfl ?_
    | refine OwL.mk 2 rfl ?_
    | refine OwL.mk 3 rfl ?_
    | refine OwL.mk 4 rfl ?_
    | refine OwL.mk 5 rfl ?_
    | refine OwI.mk 0 rfl ?_
    | refine OwI.mk 1 rfl ?_
    | refine OwI.mk 2 rfl ?_
    | refine OwI.mk 3 rfl ?_
    | refine OwI.mk 4 rfl ?_
    | refine OwI.mk 5 rfl ?_
    | refine OwI.mk _ (by assumption) ?_
    | refine OwI.mk _ (set_at (by assumption)) ?_
    | refine OwI.mk _ (set_at (set_at (by assumption))) ?_
    | refine OwL.mk _ (by assumption) ?_
    | refine OwL.mk _ (set_at (by assumption)) ?_
    | refine OwL.mk _ (set_at (set_at (by assumption))) ?_
    | refine OwL.mk _ (set_at (set_at (set_at (by assumption)))) ?_
    | refine IxD.own 0 rfl rfl ?_
    | refine IxD.own 1 rfl rfl ?_
    | refine IxD.own 2 rfl rfl ?_
    | refine IxD.own 3 rfl rfl ?_
    | refine IxD.own 4 rfl rfl ?_
    | refine IxD.own 5 rfl rfl ?_
    | refine IxD.own _ (by assumption) rfl ?_
    | refine IxD.own _ (set_at (by assumption)) rfl ?_
    | refine IxD.own _ (set_at (set_at (by assumption))) rfl ?_
    | refine IxD.own _ (set_at (set_at (set_at (by assumption)))) rfl ?_
    | refine IxD.tup rfl ?_
    | refine IxD.lst rfl ?_
    | refine IntD.int ?_
    | refine IntD.bl ?_
    | refine TruD.bl ?_
    | refine TruD.int ?_
    | refine TruD.tup ?_
    | refine TruD.lst ?_
    | refine LenD.tup ?_
    | refine LenD.lst ?_
    | refine SeqD.tup ?_
    | refine SeqD.lst ?_
    | refine SlD.tup ?_
    | refine SlD.lst ?_
    | refine SeqD.own 0 rfl ?_
    | refine SeqD.own 1 rfl ?_
    | refine SeqD.own 2 rfl ?_
    | refine SeqD.own 3 rfl ?_
    | refine SeqD.own 4 rfl ?_
    | refine SeqD.own 5 rfl ?_
    | refine LenD.own 0 rfl ?_
    | refine LenD.own 1 rfl ?_
    | refine LenD.own 2 rfl ?_
    | refine LenD.own 3 rfl ?_
    | refine LenD.own 4 rfl ?_
    | refine LenD.own 5 rfl ?_)
local macro_rules | `(tactic| walk_at "e1") => `(tactic| first
    | (refine gWE ?_; walk_at "e.we")
    | (refine gBinD ?_; walk_at "e.bin")
    | (refine gWSs ?_; walk_at "e.wss")
    | (refine gWS ?_; walk_at "e.ws")
    | (refine gWT ?_; walk_at "e.wt")
    | (refine gCmpD ?_; walk_at "e.cmp")
    | (refine gWA ?_; walk_at "e.wa")
    | (refine gWW ?_; walk_at "e.ww")
    | refine iteT ?_
    | refine iteF ?_
    | walk_at "e.is")
local macro_rules | `(tactic| walk_at "e") => `(tactic| repeat (walk_at "e1"))
def lb : List Stmt := match (defBody s_law).getD 0 (.Pass ⟨0, 0, 0, 0⟩) with
  | .For _ _ b _ _ => b
  | _ => []
section
variable {P : Program} {w : World} {K : PySem.W.Frag} {mg : Str → Option Value} {base : Heap} {T : List (Addr × Str)} {f c C CR : Addr} {A : Around} {outer : List Env} {s : Shared} {H : Hp} {E0 : XK} {W : WX} {M : Ms} {N : En} {p : Addr} {a b m : Int} {z0 z2 z3 z4 z5 z6 z7 z8 z9 z10 z11 z12 z13 z14 z15 z16 z17 z18 z19 z20 z21 : Option D}
/-- payloads as the law rolls them -/
def PlOk (pls : List (List Int)) : Prop := pls.length ≤ 7 ∧ ∀ bs ∈ pls, 1 ≤ bs.length ∧ bs.length ≤ 20 ∧ ∀ b ∈ bs, 0 ≤ b ∧ b < 256
theorem rowL_len : ∀ {pls : List (List Int)}, (∀ bs ∈ pls, bs.length ≤ 20) → (rowL pls).length ≤ 50 * pls.length
  | [], _ => Nat.zero_le _
  | bs :: pls, h => by
    have e : rowL (bs :: pls) = frameL bs ++ rowL pls := rfl
    have h1 := h bs List.mem_cons_self
    have h2 := frameL_len (bs := bs)
    have h3 := rowL_len (pls := pls) fun x hx => h x (List.mem_cons_of_mem _ hx)
    rw [e, List.length_append, List.length_cons]
    omega
theorem st_A (L : LawH P w K mg base T C CR) (cx : Ct (XL P w K mg base f c A outer s H E0) (Tabs T) W 7)
    (hnext : ∀ pls a b m z4 z5, PlOk pls → WSs (XL P w K mg base f c A outer s H E0) (Tabs T) W (lb.drop 2) ((p, O.lst [I a, I b, I m]) :: M) [z0, some (Rf p), some (.lst (pls.map byt)), some (byt (rowL pls)), z4, z5, z6, z7, z8, z9, z10, z11, z12, z13, z14, z15, z16, z17, z18, z19, z20, z21] N) :
    WSs (XL P w K mg base f c A outer s H E0) (Tabs T) W lb ((p, O.lst [I a, I b, I m]) :: M) [z0, some (Rf p), z2, z3, z4, z5, z6, z7, z8, z9, z10, z11, z12, z13, z14, z15, z16, z17, z18, z19, z20, z21] N := by
  obtain ⟨fr, mr, gr⟩ := L.roll
  obtain ⟨fu, mu, gu⟩ := L.stuffed
  obtain ⟨ff, mf, gf⟩ := L.frame
  obtain ⟨fl, ml, gl⟩ := L.lframe
  refine wss_cons (ws_par 2 3 cx.hc cx.nd ?_ (ps_par cx.hc cx.nd rfl rfl (by decide) rfl rfl pa_wp rfl))
  refine wa_cons (we_lst cx.gs (wa_nil ⟨Nat.zero_le _, ?_⟩))
  refine wa_cons (we_tup cx.gs (wa_nil ⟨Nat.zero_le _, wa_nil ?_⟩))
  refine ⟨_, _, rfl, ?_⟩
  refine wss_cons (ws_for cx (pgn 4 cx.nd) (gok_name 4) (fun i M' ρ' => ∃ (pls : List (List Int)) (a b m : Int) (z4 z5 : Option D), M' = (p, O.lst [I a, I b, I m]) :: M ∧ PlOk pls ∧ pls.length = i ∧ ρ' = [z0, some (Rf p), some (.lst (pls.map byt)), some (byt (rowL pls)), z4, z5, z6, z7, z8, z9, z10, z11, z12, z13, z14, z15, z16, z17, z18, z19, z20, z21]) (wi_rng1 L.range rfl ?_))
  refine wa_cons (we_call cx gr (by decide) mr rfl ?_)
  walk_at "e"
  refine ⟨p, a, b, m, _, 0, rfl, rfl, by decide, by decide, fun a b m r h0 h1 => ?_⟩
  refine wa_nil ⟨r, rfl, by omega, by omega, ⟨[], a, b, m, z4, z5, rfl, ⟨by simp, fun x hx => by cases hx⟩, rfl, rfl⟩, ?_, ?_⟩
  · rintro i z hz M' ρ' ⟨pls, a, b, m, y4, y5, rfl, hpl, hi, rfl⟩
    have hi7 : pls.length < 7 := by
      rcases Nat.lt_or_ge i ((List.range r.toNat).map fun (i : Nat) => I (i : Int)).length with q | q
      · rw [List.length_map, List.length_range] at q; omega
      · rw [List.getElem?_eq_none q] at hz; cases hz
    refine wss_cons (ws_set 5 cx.nd (we_tuple cx.gs L.tuple rfl (we_lc cx cx.nd [("j", 21)] (fun n M' acc => ∃ (a b m : Int) (bs : List Int), M' = (p, O.lst [I a, I b, I m]) :: M ∧ acc = bs.map (fun i => I i) ∧ bs.length = n ∧ ∀ b ∈ bs, 0 ≤ b ∧ b < 256) (gok_name 21) (gwipe_name 21) (fun d ρ k k' h => h _) (fun s H C cl fp => pgn 21 cx.nd) (blkOk_by (by show blkC N_law (defScope s_law) _ _ = true; decide +kernel)) (wi_rng1 L.range rfl ?_))))
    walk_at "e"
    refine we_call cx gr (by decide) mr rfl ?_
    walk_at "e"
    refine ⟨p, a, b, m, _, 0, rfl, rfl, by decide, by decide, fun a b m r2 h2 h3 => ?_⟩
    walk_at "e"
    refine ⟨_, rfl, by omega, by omega, ⟨a, b, m, [], rfl, rfl, rfl, fun x hx => by cases hx⟩, fun n z hz => turn_nil (fun d ρ k k' h => h _) ?_, ?_⟩
    · rintro q M' acc ⟨a, b, m, bs, rfl, rfl, hn, hbs⟩
      have hn2 : n < 20 := by
        rcases Nat.lt_or_ge n ((List.range (1 + r2).toNat).map fun (i : Nat) => I (i : Int)).length with q | q
        · rw [List.length_map, List.length_range] at q; omega
        · rw [List.getElem?_eq_none q] at hz; cases hz
      intro Y' hY' cy'
      obtain ⟨s', H', C', cl, fp, rfl⟩ := hY'
      walk_at "e"
      refine we_call cy' gr (by decide) mr rfl ?_
      walk_at "e"
      refine ⟨p, a, b, m, _, 1, rfl, rfl, by decide, by decide, fun a b m v h4 h5 => ?_⟩
      walk_at "e"
      refine ⟨sz1 (by simp), we_call cy' gr (by decide) mr rfl ?_⟩
      walk_at "e"
      refine ⟨p, a, b, m, _, 1, rfl, rfl, by decide, by decide, fun a b m x h6 h7 => ?_⟩
      walk_at "e"
      have fin : ∀ y : Int, 0 ≤ y ∧ y < 256 → ∃ M4, ((q, O.lst (bs.map fun i => I i)) :: (p, O.lst [I a, I b, I m]) :: M) = (q, O.lst (bs.map fun i => I i)) :: M4 ∧ (bs.map fun i => I i).length < sizeLine ∧ ∃ (a b m : Int) (bs' : List Int), M4 = (p, O.lst [I a, I b, I m]) :: M ∧ (bs.map (fun i => I i)) ++ [I y] = bs'.map (fun i => I i) ∧ bs'.length = n + 1 ∧ ∀ b ∈ bs', 0 ≤ b ∧ b < 256 := fun y hy => ⟨_, rfl, sz2 (by rw [List.length_map]; omega), a, b, m, bs ++ [y], rfl, by simp, by simp [hn], fun b hb => by
        rcases List.mem_append.mp hb with z | z
        · exact hbs b z
        · simp at z; subst z; exact hy⟩
      obtain ⟨k, rfl⟩ : ∃ k : Nat, x = (k : Int) := ⟨x.toNat, by omega⟩
      rcases k with _ | _ | _ | _ | _ | _ | _ | k
      · exact IxD.lst rfl (fin 126 (by decide))
      · exact IxD.lst rfl (fin 125 (by decide))
      · exact IxD.lst rfl (fin 93 (by decide))
      · exact IxD.lst rfl (fin 94 (by decide))
      · exact IxD.lst rfl (fin 0 (by decide))
      · exact IxD.lst rfl (fin 32 (by decide))
      · exact IxD.lst rfl (fin v (by omega))
      · omega
    · rintro M' acc ⟨a, b, m, bs, rfl, rfl, hn, hbs⟩
      rw [List.length_map, List.length_range] at hn
      walk_at "e"
      refine we_call cx gf (by decide) mf rfl ?_
      walk_at "e"
      refine ⟨bs, rfl, by omega, fun h => absurd h (by omega), fun _ => we_call cx gl (by decide) ml rfl ?_⟩
      walk_at "e"
      refine ⟨bs, rfl, by omega, ?_⟩
      walk_at "e"
      refine we_call cx gu (by decide) mu rfl ?_
      walk_at "e"
      refine ⟨bs, rfl, by omega, CmpD.inT (.int _) (fun x hx => ?_) ?_⟩
      · obtain ⟨y, _, rfl⟩ := List.mem_map.mp hx
        exact .int _
      · have hno : ((stuffL bs).map fun i => I i).any (fun x => eqd x (I 126)) = false := by
          rw [List.any_map, List.any_eq_false]
          intro x hx
          show ¬ eqd (I x) (I 126) = true
          rw [eqd_int, decide_eq_true_eq]
          exact stuff_126 bs x hx
        rw [hno]
        refine iteF (wss_nil ?_)
        walk_at "e"
        refine ⟨sz1 (by simp), BinD.addL (sz1 (by simp; omega)) ?_⟩
        walk_at "e"
        refine we_call cx gf (by decide) mf rfl ?_
        walk_at "e"
        have h8 := rowL_len (pls := pls) fun x hx => (hpl.2 x hx).2.1
        have h9 := frameL_len (bs := bs)
        refine ⟨bs, rfl, by omega, fun h => absurd h (by omega), fun _ => BinD.addB (by omega) (wss_nil ?_)⟩
        refine ⟨pls ++ [bs], a, b, m, some z, some (byt bs), rfl, ⟨by simp; omega, fun x hx => ?_⟩, by simp [hi], ?_⟩
        · rcases List.mem_append.mp hx with q | q
          · exact hpl.2 x q
          · simp at q; subst q; exact ⟨by omega, by omega, hbs⟩
        · rw [rowL_app, List.map_append]
          rfl
  · rintro M' ρ' ⟨pls, a, b, m, y4, y5, rfl, hpl, hi, rfl⟩
    exact hnext pls a b m y4 y5 hpl
end

end K02
set_option maxRecDepth 100000
set_option maxHeartbeats 4000000

namespace K02
open PySem PySem.Spec PyProof.Rows L2 Wv
open LamX (CodeO TabS Tabs ExtN TabB lamEnv lamCx LamS)
local macro_rules | `(tactic| walk_at "e.name") => `(tactic| first
    | refine we_var 0 _ rfl (by first | exact .inl rfl | exact .inr (.inl rfl) | exact .inr (.inr rfl)) rfl ?_
    | refine we_var 1 _ rfl (by first | exact .inl rfl | exact .inr (.inl rfl) | exact .inr (.inr rfl)) rfl ?_
    | refine we_var 2 _ rfl (by first | exact .inl rfl | exact .inr (.inl rfl) | exact .inr (.inr rfl)) rfl ?_
    | refine we_var 3 _ rfl (by first | exact .inl rfl | exact .inr (.inl rfl) | exact .inr (.inr rfl)) rfl ?_
    | refine we_var 4 _ rfl (by first | exact .inl rfl | exact .inr (.inl rfl) | exact .inr (.inr rfl)) rfl ?_
    | refine we_var 5 _ rfl (by first | exact .inl rfl | exact .inr (.inl rfl) | exact .inr (.inr rfl)) rfl ?_
    | refine we_var 6 _ rfl (by first | exact .inl rfl | exact .inr (.inl rfl) | exact .inr (.inr rfl)) rfl ?_
    | refine we_var 7 _ rfl (by first | exact .inl rfl | exact .inr (.inl rfl) | exact .inr (.inr rfl)) rfl ?_
    | refine we_var 8 _ rfl (by first | exact .inl rfl | exact .inr (.inl rfl) | exact .inr (.inr rfl)) rfl ?_
    | refine we_var 9 _ rfl (by first | exact .inl rfl | exact .inr (.inl rfl) | exact .inr (.inr rfl)) rfl ?_
    | refine we_var 10 _ rfl (by first | exact .inl rfl | exact .inr (.inl rfl) | exact .inr (.inr rfl)) rfl ?_
    | refine we_var 11 _ rfl (by first | exact .inl rfl | exact .inr (.inl rfl) | exact .inr (.inr rfl)) rfl ?_
    | refine we_var 12 _ rfl (by first | exact .inl rfl | exact .inr (.inl rfl) | exact .inr (.inr rfl)) rfl ?_
    | refine we_var 13 _ rfl (by first | exact .inl rfl | exact .inr (.inl rfl) | exact .inr (.inr rfl)) rfl ?_
    | refine we_var 14 _ rfl (by first | exact .inl rfl | exact .inr (.inl rfl) | exact .inr (.inr rfl)) rfl ?_
    | refine we_var 15 _ rfl (by first | exact .inl rfl | exact .inr (.inl rfl) | exact .inr (.inr rfl)) rfl ?_
    | refine we_var 16 _ rfl (by first | exact .inl rfl | exact .inr (.inl rfl) | exact .inr (.inr rfl)) rfl ?_
    | refine we_var 17 _ rfl (by first | exact .inl rfl | exact .inr (.inl rfl) | exact .inr (.inr rfl)) rfl ?_
    | refine we_var 18 _ rfl (by first | exact .inl rfl | exact .inr (.inl rfl) | exact .inr (.inr rfl)) rfl ?_
    | refine we_var 19 _ rfl (by first | exact .inl rfl | exact .inr (.inl rfl) | exact .inr (.inr rfl)) rfl ?_
    | refine we_var 20 _ rfl (by first | exact .inl rfl | exact .inr (.inl rfl) | exact .inr (.inr rfl)) rfl ?_
    | refine we_var 21 _ rfl (by first | exact .inl rfl | exact .inr (.inl rfl) | exact .inr (.inr rfl)) rfl ?_
    | refine we_globI (by assumption) rfl ?_
    | refine we_globS (by assumption) rfl ?_)
local macro_rules | `(tactic| walk_at "e.const") => `(tactic| first
    | refine we_int ?_
    | refine we_str ?_
    | refine we_bl ?_
    | refine we_non ?_)
local macro_rules | `(tactic| walk_at "e.call") => `(tactic| first
    | refine we_len (by assumption) rfl ?_
    | refine we_int2 (by assumption) rfl ?_
    | refine we_tuple (Ct.gs (by assumption)) (by assumption) rfl ?_
    | refine we_abs (by assumption) rfl ?_
    | refine we_find ?_)
local macro_rules | `(tactic| walk_at "e.we") => `(tactic| first
    | (refine gNm ?_; walk_at "e.name")
    | (refine gConst ?_; walk_at "e.const")
    | refine we_bin (Ct.gs (by assumption)) ?_
    | (refine gCall ?_; walk_at "e.call")
    | refine we_cmp (Ct.hu (by assumption)) ?_
    | refine we_ix ?_
    | refine we_slice (Ct.gs (by assumption)) ?_
    | refine we_fld ?_
    | refine we_tup (Ct.gs (by assumption)) ?_
    | refine we_chain (Ct.hu (by assumption)) ?_
    | refine we_lst1 (Ct.gs (by assumption)) ?_
    | refine we_ifx ?_
    | refine we_and ?_
    | refine we_or ?_
    | refine we_one ?_
    | refine we_not ?_
    | refine we_neg ?_)
local macro_rules | `(tactic| walk_at "e.wt") => `(tactic| first
    | refine wt_cmp (Ct.hu (by assumption)) ?_
    | refine wt_chain (Ct.hu (by assumption)) ?_
    | refine wt_not ?_
    | refine wt_bool ?_
    | refine wt_val ?_)
local macro_rules | `(tactic| walk_at "e.ww") => `(tactic| first
    | refine ww_and ?_
    | refine ww_or ?_
    | refine ww_and1 ?_
    | refine ww_or1 ?_)
local macro_rules | `(tactic| walk_at "e.wa") => `(tactic| first
    | refine wa_nil ?_
    | refine wa_cons ?_)
local macro_rules | `(tactic| walk_at "e.wss") => `(tactic| first
    | refine wss_cons ?_
    | refine wss_nil ?_)
local macro_rules | `(tactic| walk_at "e.ws") => `(tactic| first
    | refine ws_if ?_
    | refine ws_expr (we_append (Ct.gs (by assumption)) ?_ (pe_bm PySem.F.plainAttrs_list PySem.F.slot_list_append PySem.F.type_list_append mt_append pe_wp pa_wp))
    | refine ws_expr ?_
    | refine ws_set 0 (Ct.nd (by assumption)) ?_
    | refine ws_set 1 (Ct.nd (by assumption)) ?_
    | refine ws_set 2 (Ct.nd (by assumption)) ?_
    | refine ws_set 3 (Ct.nd (by assumption)) ?_
    | refine ws_set 4 (Ct.nd (by assumption)) ?_
    | refine ws_set 5 (Ct.nd (by assumption)) ?_
    | refine ws_set 6 (Ct.nd (by assumption)) ?_
    | refine ws_set 7 (Ct.nd (by assumption)) ?_
    | refine ws_set 8 (Ct.nd (by assumption)) ?_
    | refine ws_set 9 (Ct.nd (by assumption)) ?_
    | refine ws_set 10 (Ct.nd (by assumption)) ?_
    | refine ws_set 11 (Ct.nd (by assumption)) ?_
    | refine ws_set 12 (Ct.nd (by assumption)) ?_
    | refine ws_set 13 (Ct.nd (by assumption)) ?_
    | refine ws_set 14 (Ct.nd (by assumption)) ?_
    | refine ws_set 15 (Ct.nd (by assumption)) ?_
    | refine ws_set 16 (Ct.nd (by assumption)) ?_
    | refine ws_set 17 (Ct.nd (by assumption)) ?_
    | refine ws_set 18 (Ct.nd (by assumption)) ?_
    | refine ws_set 19 (Ct.nd (by assumption)) ?_
    | refine ws_set 20 (Ct.nd (by assumption)) ?_
    | refine ws_set 21 (Ct.nd (by assumption)) ?_
    | refine ws_sub (Ct.gs (by assumption)) ?_ (fun a b => pg_sub a b set_list)
    | refine ws_fld (Ct.gs (by assumption)) ?_
    | refine ws_pass ?_
    | refine ws_break ?_
    | refine ws_cont ?_)
local macro_rules | `(tactic| walk_at "e.bin") => `(tactic| first
    | refine BinD.addI ?_
    | refine BinD.subI ?_
    | refine BinD.modI (by decide) ?_
    | refine BinD.modI (by assumption) ?_
    | refine BinD.divI (by decide) (by decide) ?_
    | refine BinD.divI (by assumption) (by assumption) ?_
    | refine BinD.mulI (by first | exact .inl ⟨by decide, by decide⟩ | exact .inr ⟨by decide, by decide⟩) ?_
    | refine BinD.xorI ?_
    | refine BinD.powI ⟨by decide, by decide, by decide⟩ ?_)
local macro_rules | `(tactic| walk_at "e.cmp") => `(tactic| first
    | refine CmpD.lt ?_
    | refine CmpD.le ?_
    | refine CmpD.gt ?_
    | refine CmpD.ge ?_
    | refine CmpD.isN ?_
    | refine CmpD.notN ?_
    | refine CmpD.neI_s ?_
    | refine CmpD.neT_s ?_
    | refine CmpD.neZ_s ?_
    | refine CmpD.eqZ_s ?_
    | refine CmpD.neN_s ?_
    | refine CmpD.eqN_s ?_
    | refine CmpD.neTZ ?_
    | refine CmpD.eqTZ ?_
    | refine CmpD.eqI ?_
    | refine CmpD.neI ?_
    | refine CmpD.eqZ ?_
    | refine CmpD.neZ ?_)
local macro_rules | `(tactic| walk_at "e.is") => `(tactic| first
    | refine IsI.mk ?_
    | refine IsT.mk ?_
    | refine IsL.mk ?_
    | refine IsZ.mk ?_
    | refine IsB.mk ?_
    | refine OwL.mk 0 rfl ?_
    | refine OwL.mk 1 rfl ?_
    | refine OwL.mk 2 rfl ?_
    | refine OwL.mk 3 rfl ?_
    | refine OwL.mk 4 rfl ?_
    | refine OwL.mk 5 rfl ?_
    | refine OwI.mk 0 rfl ?_
    | refine OwI.mk 1 rfl ?_
    | refine OwI.mk 2 rfl ?_
    | refine OwI.mk 3 rfl ?_
    | refine OwI.mk 4 rfl ?_
    | refine OwI.mk 5 rfl ?_
    | refine OwI.mk _ (by assumption) ?_
    | refine OwI.mk _ (set_at (by assumption)) ?_
    | refine OwI.mk _ (set_at (set_at (by assumption))) ?_
    | refine OwL.mk _ (by assumption) ?_
    | refine OwL.mk _ (set_at (by assumption)) ?_
    | refine OwL.mk _ (set_at (set_at (by assumption))) ?_
    | refine OwL.mk _ (set_at (set_at (set_at (by assumption)))) ?_
    | refine IxD.own 0 rfl rfl ?_
    | refine IxD.own 1 rfl rfl ?_
    | refine IxD.own 2 rfl rfl ?_
    | refine IxD.own 3 rfl rfl ?_
    | refine IxD.own 4 rfl rfl ?_
    | refine IxD.own 5 rfl rfl ?_
    | refine IxD.own _ (by assumption) rfl ?_
    | refine IxD.own _ (set_at (by assumption)) rfl ?_
    | refine IxD.own _ (set_at (set_at (by assumption))) rfl ?_
    | refine IxD.own _ (set_at (set_at (set_at (by assumption)))) rfl ?_
    | refine IxD.tup rfl ?_
    | refine IxD.lst rfl ?_
    | refine IntD.int ?_
    | refine IntD.bl ?_
    | refine TruD.bl ?_
    | refine TruD.int ?_
    | refine TruD.tup ?_
    | refine TruD.lst ?_
    | refine LenD.tup ?_
    | refine LenD.lst ?_
    | refine SeqD.tup ?_
    | refine SeqD.lst ?_
    | refine SlD.tup ?_
    | refine SlD.lst ?_
    | refine SeqD.own 0 rfl ?_
    | refine SeqD.own 1 rfl ?_
    | refine SeqD.own 2 rfl ?_
    | refine SeqD.own 3 rfl ?_
    | refine SeqD.own 4 rfl ?_
    | refine SeqD.own 5 rfl ?_
    | refine LenD.own 0 rfl ?_
    | refine LenD.own 1 rfl ?_
    | refine LenD.own 2 rfl ?_
    | refine LenD.own 3 rfl ?_
    | refine LenD.own 4 rfl ?_
    | refine LenD.own 5 rfl ?_)
local macro_rules | `(tactic| walk_at "e1") => `(tactic| first
    | (refine gWE ?_; walk_at "e.we")
    | (refine gBinD ?_; walk_at "e.bin")
    | (refine gWSs ?_; walk_at "e.wss")
    | (refine gWS ?_; walk_at "e.ws")
    | (refine gWT ?_; walk_at "e.wt")
    | (refine gCmpD ?_; walk_at "e.cmp")
    | (refine gWA ?_; walk_at "e.wa")
    | (refine gWW ?_; walk_at "e.ww")
    | refine iteT ?_
    | refine iteF ?_
    | walk_at "e.is")
local macro_rules | `(tactic| walk_at "e") => `(tactic| repeat (walk_at "e1"))
section
variable {P : Program} {w : World} {K : PySem.W.Frag} {mg : Str → Option Value} {base : Heap} {T : List (Addr × Str)} {f c C CR : Addr} {A : Around} {outer : List Env} {s : Shared} {H : Hp} {E0 : XK} {W : WX} {M : Ms} {N : En} {p : Addr} {a b m : Int} {row : List Int} {z0 z2 z4 z5 z6 z7 z8 z9 z10 z11 z12 z13 z14 z15 z16 z17 z18 z19 z20 z21 : Option D}
theorem st_B (L : LawH P w K mg base T C CR) (cx : Ct (XL P w K mg base f c A outer s H E0) (Tabs T) W 7) (hrow : row.length ≤ 1000)
    (hnext : ∀ q h e n a b m pl z9, (⟨Option.map (·.2) h, e, n⟩ : DS) = (feedS ⟨none, false, 0⟩ row).1 → WSs (XL P w K mg base f c A outer s H E0) (Tabs T) W (lb.drop 4) ((p, O.lst [I a, I b, I m]) :: (dfr CR q h e n ++ M)) [z0, some (Rf p), z2, some (byt row), z4, z5, some (Rf q), some (.lst ((feedS ⟨none, false, 0⟩ row).2.map byt)), some (I pl), z9, z10, z11, z12, z13, z14, z15, z16, z17, z18, z19, z20, z21] N) :
    WSs (XL P w K mg base f c A outer s H E0) (Tabs T) W (lb.drop 2) ((p, O.lst [I a, I b, I m]) :: M) [z0, some (Rf p), z2, some (byt row), z4, z5, z6, z7, z8, z9, z10, z11, z12, z13, z14, z15, z16, z17, z18, z19, z20, z21] N := by
  obtain ⟨fr, mr, gr⟩ := L.roll
  obtain ⟨fi, mk, gi⟩ := L.mkr
  obtain ⟨fe, Me, ge⟩ := L.feed
  have dc := L.dc
  have q_len := L.len
  refine wss_cons (ws_par3 6 7 8 ?_ (ps_par3 cx.hc cx.nd rfl rfl rfl (by decide) (by decide) (by decide) rfl rfl rfl pa_wp rfl))
  refine wa_cons (we_make0 cx gi (by decide) mk L.dr rfl ?_ init_ret)
  refine fun q => ⟨q, _, rfl, rfl, ?_⟩
  refine wa_cons (we_lst cx.gs (wa_nil ⟨Nat.zero_le _, ?_⟩))
  walk_at "e"
  refine ⟨_, _, _, rfl, ?_⟩
  refine wss_sp (M0 := (p, O.lst [I a, I b, I m]) :: (dfr CR q none false 0 ++ M)) ⟨_, List.Perm.swap _ _ _, List.Sublist.refl _⟩ ?_
  have hfl : ∀ l : List Int, (feedS ⟨none, false, 0⟩ l).2.length ≤ l.length := fun l => by
    have := fold_len l (⟨none, false, 0⟩, [])
    simpa [feedS] using this
  refine wss_cons (ws_while cx (fun k M' ρ' => ∃ (h : Option (Addr × List Int)) (e : Bool) (n a b m : Int) (i : Nat) (z9 : Option D), M' = (p, O.lst [I a, I b, I m]) :: (dfr CR q h e n ++ M) ∧ (⟨Option.map (·.2) h, e, n⟩ : DS) = (feedS ⟨none, false, 0⟩ (row.take i)).1 ∧ k = row.length - i ∧ ρ' = [z0, some (Rf p), z2, some (byt row), z4, z5, some (Rf q), some (.lst ((feedS ⟨none, false, 0⟩ (row.take i)).2.map byt)), some (I (i : Int)), z9, z10, z11, z12, z13, z14, z15, z16, z17, z18, z19, z20, z21]) ?_ ?_)
  · exact ⟨_, none, false, 0, a, b, m, 0, z9, rfl, rfl, rfl, rfl⟩
  · rintro k M' ρ' ⟨h, e, n, a, b, m, i, z9, rfl, hs, rfl, rfl⟩
    walk_at "e"
    rw [List.length_map]
    refine ite_d (fun hlt => ?_) (fun hlt => ?_)
    · walk_at "e"
      refine we_call cx gr (by decide) mr rfl ?_
      walk_at "e"
      refine ⟨p, a, b, m, _, 0, rfl, rfl, by decide, by decide, fun a b m r h0 h1 => ?_⟩
      obtain ⟨v, rfl⟩ : ∃ v : Nat, r = (v : Int) := ⟨r.toNat, by omega⟩
      walk_at "e"
      refine we_list cx.gs L.list rfl (we_meth cx ge (by decide) dc.c Me ?_)
      walk_at "e"
      refine ⟨rfl, rfl, ?_⟩
      walk_at "e"
      have ec := cut_any row i (1 + v) (by omega)
      have ev : ((i : Int) + (1 + (v : Int))) = (i : Int) + ((1 + v : Nat) : Int) := by omega
      rw [ev, ec]
      walk_at "e"
      refine ⟨q, h, e, n, (row.drop i).take (1 + v), (p, O.lst [I a, I b, I m]) :: M, rfl, by simp; omega, (by rw [hs]; exact feed_ok none_ok), ⟨_, (List.perm_middle).symm, List.Sublist.refl _⟩, fun h' e' n' heq => ?_⟩
      rw [hs] at heq ⊢
      have hp := feed_piece ⟨none, false, 0⟩ row i (1 + v)
      have hlen : ((feedS ⟨none, false, 0⟩ (row.take i)).2 ++ (feedS (feedS ⟨none, false, 0⟩ (row.take i)).1 ((row.drop i).take (1 + v))).2).length ≤ 1000 := by
        have h8 := hfl (row.take (i + (1 + v)))
        rw [hp] at h8
        exact Nat.le_trans h8 (Nat.le_trans (by rw [List.length_take]; exact Nat.min_le_right _ _) hrow)
      rw [List.length_append] at hlen
      refine SeqD.tup (BinD.addL (sz1 (by rw [List.length_map, List.length_map]; omega)) ?_)
      refine wss_sp (M0 := (p, O.lst [I a, I b, I m]) :: (dfr CR q h' e' n' ++ M)) ⟨_, List.perm_middle, List.Sublist.refl _⟩ ?_
      walk_at "e"
      refine ⟨row.length - (i + (1 + v)), by omega, h', e', n', a, b, m, i + (1 + v), some (I (1 + (v : Int))), rfl, by rw [hp]; exact heq, rfl, ?_⟩
      rw [hp, List.map_append]
      rfl
    · have et : row.take i = row := List.take_of_length_le (by omega)
      rw [et] at hs ⊢
      exact hnext q h e n a b m i z9 hs
end

end K02
set_option maxRecDepth 100000
set_option maxHeartbeats 4000000

namespace K02
open PySem PySem.Spec PyProof.Rows L2 Wv
open LamX (CodeO TabS Tabs ExtN TabB lamEnv lamCx LamS)
local macro_rules | `(tactic| walk_at "e.name") => `(tactic| first
    | refine we_var 0 _ rfl (by first | exact .inl rfl | exact .inr (.inl rfl) | exact .inr (.inr rfl)) rfl ?_
    | refine we_var 1 _ rfl (by first | exact .inl rfl | exact .inr (.inl rfl) | exact .inr (.inr rfl)) rfl ?_
    | refine we_var 2 _ rfl (by first | exact .inl rfl | exact .inr (.inl rfl) | exact .inr (.inr rfl)) rfl ?_
    | refine we_var 3 _ rfl (by first | exact .inl rfl | exact .inr (.inl rfl) | exact .inr (.inr rfl)) rfl ?_
    | refine we_var 4 _ rfl (by first | exact .inl rfl | exact .inr (.inl rfl) | exact .inr (.inr rfl)) rfl ?_
    | refine we_var 5 _ rfl (by first | exact .inl rfl | exact .inr (.inl rfl) | exact .inr (.inr rfl)) rfl ?_
    | refine we_var 6 _ rfl (by first | exact .inl rfl | exact .inr (.inl rfl) | exact .inr (.inr rfl)) rfl ?_
    | refine we_var 7 _ rfl (by first | exact .inl rfl | exact .inr (.inl rfl) | exact .inr (.inr rfl)) rfl ?_
    | refine we_var 8 _ rfl (by first | exact .inl rfl | exact .inr (.inl rfl) | exact .inr (.inr rfl)) rfl ?_
    | refine we_var 9 _ rfl (by first | exact .inl rfl | exact .inr (.inl rfl) | exact .inr (.inr rfl)) rfl ?_
    | refine we_var 10 _ rfl (by first | exact .inl rfl | exact .inr (.inl rfl) | exact .inr (.inr rfl)) rfl ?_
    | refine we_var 11 _ rfl (by first | exact .inl rfl | exact .inr (.inl rfl) | exact .inr (.inr rfl)) rfl ?_
    | refine we_var 12 _ rfl (by first | exact .inl rfl | exact .inr (.inl rfl) | exact .inr (.inr rfl)) rfl ?_
    | refine we_var 13 _ rfl (by first | exact .inl rfl | exact .inr (.inl rfl) | exact .inr (.inr rfl)) rfl ?_
    | refine we_var 14 _ rfl (by first | exact .inl rfl | exact .inr (.inl rfl) | exact .inr (.inr rfl)) rfl ?_
    | refine we_var 15 _ rfl (by first | exact .inl rfl | exact .inr (.inl rfl) | exact .inr (.inr rfl)) rfl ?_
    | refine we_var 16 _ rfl (by first | exact .inl rfl | exact .inr (.inl rfl) | exact .inr (.inr rfl)) rfl ?_
    | refine we_var 17 _ rfl (by first | exact .inl rfl | exact .inr (.inl rfl) | exact .inr (.inr rfl)) rfl ?_
    | refine we_var 18 _ rfl (by first | exact .inl rfl | exact .inr (.inl rfl) | exact .inr (.inr rfl)) rfl ?_
    | refine we_var 19 _ rfl (by first | exact .inl rfl | exact .inr (.inl rfl) | exact .inr (.inr rfl)) rfl ?_
    | refine we_var 20 _ rfl (by first | exact .inl rfl | exact .inr (.inl rfl) | exact .inr (.inr rfl)) rfl ?_
    | refine we_var 21 _ rfl (by first | exact .inl rfl | exact .inr (.inl rfl) | exact .inr (.inr rfl)) rfl ?_
    | refine we_globI (by assumption) rfl ?_
    | refine we_globS (by assumption) rfl ?_)
local macro_rules | `(tactic| walk_at "e.const") => `(tactic| first
    | refine we_int ?_
    | refine we_str ?_
    | refine we_bl ?_
    | refine we_non ?_)
local macro_rules | `(tactic| walk_at "e.call") => `(tactic| first
    | refine we_len (by assumption) rfl ?_
    | refine we_int2 (by assumption) rfl ?_
    | refine we_tuple (Ct.gs (by assumption)) (by assumption) rfl ?_
    | refine we_abs (by assumption) rfl ?_
    | refine we_find ?_)
local macro_rules | `(tactic| walk_at "e.we") => `(tactic| first
    | (refine gNm ?_; walk_at "e.name")
    | (refine gConst ?_; walk_at "e.const")
    | refine we_bin (Ct.gs (by assumption)) ?_
    | (refine gCall ?_; walk_at "e.call")
    | refine we_cmp (Ct.hu (by assumption)) ?_
    | refine we_ix ?_
    | refine we_slice (Ct.gs (by assumption)) ?_
    | refine we_fld ?_
    | refine we_tup (Ct.gs (by assumption)) ?_
    | refine we_chain (Ct.hu (by assumption)) ?_
    | refine we_lst1 (Ct.gs (by assumption)) ?_
    | refine we_ifx ?_
    | refine we_and ?_
    | refine we_or ?_
    | refine we_one ?_
    | refine we_not ?_
    | refine we_neg ?_)
local macro_rules | `(tactic| walk_at "e.wt") => `(tactic| first
    | refine wt_cmp (Ct.hu (by assumption)) ?_
    | refine wt_chain (Ct.hu (by assumption)) ?_
    | refine wt_not ?_
    | refine wt_bool ?_
    | refine wt_val ?_)
local macro_rules | `(tactic| walk_at "e.ww") => `(tactic| first
    | refine ww_and ?_
    | refine ww_or ?_
    | refine ww_and1 ?_
    | refine ww_or1 ?_)
local macro_rules | `(tactic| walk_at "e.wa") => `(tactic| first
    | refine wa_nil ?_
    | refine wa_cons ?_)
local macro_rules | `(tactic| walk_at "e.wss") => `(tactic| first
    | refine wss_cons ?_
    | refine wss_nil ?_)
local macro_rules | `(tactic| walk_at "e.ws") => `(tactic| first
    | refine ws_if ?_
    | refine ws_expr (we_append (Ct.gs (by assumption)) ?_ (pe_bm PySem.F.plainAttrs_list PySem.F.slot_list_append PySem.F.type_list_append mt_append pe_wp pa_wp))
    | refine ws_expr ?_
    | refine ws_set 0 (Ct.nd (by assumption)) ?_
    | refine ws_set 1 (Ct.nd (by assumption)) ?_
    | refine ws_set 2 (Ct.nd (by assumption)) ?_
    | refine ws_set 3 (Ct.nd (by assumption)) ?_
    | refine ws_set 4 (Ct.nd (by assumption)) ?_
    | refine ws_set 5 (Ct.nd (by assumption)) ?_
    | refine ws_set 6 (Ct.nd (by assumption)) ?_
    | refine ws_set 7 (Ct.nd (by assumption)) ?_
    | refine ws_set 8 (Ct.nd (by assumption)) ?_
    | refine ws_set 9 (Ct.nd (by assumption)) ?_
    | refine ws_set 10 (Ct.nd (by assumption)) ?_
    | refine ws_set 11 (Ct.nd (by assumption)) ?_
    | refine ws_set 12 (Ct.nd (by assumption)) ?_
    | refine ws_set 13 (Ct.nd (by assumption)) ?_
    | refine ws_set 14 (Ct.nd (by assumption)) ?_
    | refine ws_set 15 (Ct.nd (by assumption)) ?_
    | refine ws_set 16 (Ct.nd (by assumption)) ?_
    | refine ws_set 17 (Ct.nd (by assumption)) ?_
    | refine ws_set 18 (Ct.nd (by assumption)) ?_
    | refine ws_set 19 (Ct.nd (by assumption)) ?_
    | refine ws_set 20 (Ct.nd (by assumption)) ?_
    | refine ws_set 21 (Ct.nd (by assumption)) ?_
    | refine ws_sub (Ct.gs (by assumption)) ?_ (fun a b => pg_sub a b set_list)
    | refine ws_fld (Ct.gs (by assumption)) ?_
    | refine ws_pass ?_
    | refine ws_break ?_
    | refine ws_cont ?_)
local macro_rules | `(tactic| walk_at "e.bin") => `(tactic| first
    | refine BinD.addI ?_
    | refine BinD.subI ?_
    | refine BinD.modI (by decide) ?_
    | refine BinD.modI (by assumption) ?_
    | refine BinD.divI (by decide) (by decide) ?_
    | refine BinD.divI (by assumption) (by assumption) ?_
    | refine BinD.mulI (by first | exact .inl ⟨by decide, by decide⟩ | exact .inr ⟨by decide, by decide⟩) ?_
    | refine BinD.xorI ?_
    | refine BinD.powI ⟨by decide, by decide, by decide⟩ ?_)
local macro_rules | `(tactic| walk_at "e.cmp") => `(tactic| first
    | refine CmpD.lt ?_
    | refine CmpD.le ?_
    | refine CmpD.gt ?_
    | refine CmpD.ge ?_
    | refine CmpD.isN ?_
    | refine CmpD.notN ?_
    | refine CmpD.neI_s ?_
    | refine CmpD.neT_s ?_
    | refine CmpD.neZ_s ?_
    | refine CmpD.eqZ_s ?_
    | refine CmpD.neN_s ?_
    | refine CmpD.eqN_s ?_
    | refine CmpD.neTZ ?_
    | refine CmpD.eqTZ ?_
    | refine CmpD.eqI ?_
    | refine CmpD.neI ?_
    | refine CmpD.eqZ ?_
    | refine CmpD.neZ ?_)
local macro_rules | `(tactic| walk_at "e.is") => `(tactic| first
    | refine IsI.mk ?_
    | refine IsT.mk ?_
    | refine IsL.mk ?_
    | refine IsZ.mk ?_
    | refine IsB.mk ?_
    | refine OwL.mk 0 rfl ?_
    | refine OwL.mk 1 rfl ?_
    | refine OwL.mk 2 rfl ?_
    | refine OwL.mk 3 rfl ?_
    | refine OwL.mk 4 rfl ?_
    | refine OwL.mk 5 rfl ?_
    | refine OwI.mk 0 rfl ?_
    | refine OwI.mk 1 rfl ?_
    | refine OwI.mk 2 rfl ?_
    | refine OwI.mk 3 rfl ?_
    | refine OwI.mk 4 rfl ?_
    | refine OwI.mk 5 rfl ?_
    | refine OwI.mk _ (by assumption) ?_
    | refine OwI.mk _ (set_at (by assumption)) ?_
    | refine OwI.mk _ (set_at (set_at (by assumption))) ?_
    | refine OwL.mk _ (by assumption) ?_
    | refine OwL.mk _ (set_at (by assumption)) ?_
    | refine OwL.mk _ (set_at (set_at (by assumption))) ?_
    | refine OwL.mk _ (set_at (set_at (set_at (by assumption)))) ?_
    | refine IxD.own 0 rfl rfl ?_
    | refine IxD.own 1 rfl rfl ?_
    | refine IxD.own 2 rfl rfl ?_
    | refine IxD.own 3 rfl rfl ?_
    | refine IxD.own 4 rfl rfl ?_
    | refine IxD.own 5 rfl rfl ?_
    | refine IxD.own _ (by assumption) rfl ?_
    | refine IxD.own _ (set_at (by assumption)) rfl ?_
    | refine IxD.own _ (set_at (set_at (by assumption))) rfl ?_
    | refine IxD.own _ (set_at (set_at (set_at (by assumption)))) rfl ?_
    | refine IxD.tup rfl ?_
    | refine IxD.lst rfl ?_
    | refine IntD.int ?_
    | refine IntD.bl ?_
    | refine TruD.bl ?_
    | refine TruD.int ?_
    | refine TruD.tup ?_
    | refine TruD.lst ?_
    | refine LenD.tup ?_
    | refine LenD.lst ?_
    | refine SeqD.tup ?_
    | refine SeqD.lst ?_
    | refine SlD.tup ?_
    | refine SlD.lst ?_
    | refine SeqD.own 0 rfl ?_
    | refine SeqD.own 1 rfl ?_
    | refine SeqD.own 2 rfl ?_
    | refine SeqD.own 3 rfl ?_
    | refine SeqD.own 4 rfl ?_
    | refine SeqD.own 5 rfl ?_
    | refine LenD.own 0 rfl ?_
    | refine LenD.own 1 rfl ?_
    | refine LenD.own 2 rfl ?_
    | refine LenD.own 3 rfl ?_
    | refine LenD.own 4 rfl ?_
    | refine LenD.own 5 rfl ?_)
local macro_rules | `(tactic| walk_at "e1") => `(tactic| first
    | (refine gWE ?_; walk_at "e.we")
    | (refine gBinD ?_; walk_at "e.bin")
    | (refine gWSs ?_; walk_at "e.wss")
    | (refine gWS ?_; walk_at "e.ws")
    | (refine gWT ?_; walk_at "e.wt")
    | (refine gCmpD ?_; walk_at "e.cmp")
    | (refine gWA ?_; walk_at "e.wa")
    | (refine gWW ?_; walk_at "e.ww")
    | refine iteT ?_
    | refine iteF ?_
    | walk_at "e.is")
local macro_rules | `(tactic| walk_at "e") => `(tactic| repeat (walk_at "e1"))
section
variable {P : Program} {w : World} {K : PySem.W.Frag} {mg : Str → Option Value} {base : Heap} {T : List (Addr × Str)} {f c C CR : Addr} {A : Around} {outer : List Env} {s : Shared} {H : Hp} {E0 : XK} {W : WX} {M : Ms} {N : En} {p q : Addr} {a b m n pl : Int} {h : Option (Addr × List Int)} {e : Bool} {pls : List (List Int)} {z0 z4 z5 z9 z10 z11 z12 z13 z14 z15 z16 z17 z18 z19 z20 z21 : Option D}
theorem st_C (L : LawH P w K mg base T C CR) (cx : Ct (XL P w K mg base f c A outer s H E0) (Tabs T) W 7) (hp : PlOk pls) (hs : (⟨Option.map (·.2) h, e, n⟩ : DS) = (feedS ⟨none, false, 0⟩ (rowL pls)).1)
    (hnext : WSs (XL P w K mg base f c A outer s H E0) (Tabs T) W (lb.drop 5) ((p, O.lst [I a, I b, I m]) :: M) [z0, some (Rf p), some (.lst (pls.map byt)), some (byt (rowL pls)), z4, z5, none, none, none, z9, z10, z11, z12, z13, z14, z15, z16, z17, z18, z19, z20, z21] N) :
    WSs (XL P w K mg base f c A outer s H E0) (Tabs T) W (lb.drop 4) ((p, O.lst [I a, I b, I m]) :: (dfr CR q h e n ++ M)) [z0, some (Rf p), some (.lst (pls.map byt)), some (byt (rowL pls)), z4, z5, some (Rf q), some (.lst ((feedS ⟨none, false, 0⟩ (rowL pls)).2.map byt)), some (I pl), z9, z10, z11, z12, z13, z14, z15, z16, z17, z18, z19, z20, z21] N := by
  obtain ⟨fp, mp, gp⟩ := L.pin
  have dc := L.dc
  obtain ⟨f1, f2⟩ := feed_row pls ⟨none, false, 0⟩ (fun bs hb => ⟨by have := (hp.2 bs hb).2.1; omega, (hp.2 bs hb).2.2⟩) rfl rfl
  have hn : n = 0 := by
    have := congrArg DS.dmg hs
    simp only at this
    rw [this, f2]
  subst hn
  rw [f1]
  have hrow := rowL_len (pls := pls) fun x hx => (hp.2 x hx).2.1
  have h7 := hp.1
  refine wss_cons (ws_if (wt_bool (ww_or (wt_cmp cx.hu ?_))))
  walk_at "e"
  refine CmpD.ne_s (pl_lbyts pls) (iteF (ww_or (wt_cmp cx.hu (we_list cx.gs L.list rfl (we_call cx gp (by decide) mp rfl ?_)))))
  walk_at "e"
  refine ⟨rowL pls, rfl, by omega, SeqD.tup ?_⟩
  rw [f1]
  walk_at "e"
  refine CmpD.ne_s (pl_lbyts pls) (iteF (ww_or1 (wt_cmp cx.hu (we_fld ?_))))
  walk_at "e"
  refine ⟨dc.c, dc.nd, _, rfl, we_int (CmpD.neI_s (iteF (wss_nil ?_)))⟩
  refine wss_sp (M0 := (p, O.lst [I a, I b, I m]) :: M) ⟨_, List.Perm.refl _, (List.sublist_append_right _ _).cons_cons _⟩ ?_
  exact wss_forget 6 (wss_forget 7 (wss_forget 8 hnext))
end

end K02
set_option maxRecDepth 100000
set_option maxHeartbeats 4000000

namespace K02
open PySem PySem.Spec PyProof.Rows L2 Wv
open LamX (CodeO TabS Tabs ExtN TabB lamEnv lamCx LamS)
local macro_rules | `(tactic| walk_at "e.name") => `(tactic| first
    | refine we_var 0 _ rfl (by first | exact .inl rfl | exact .inr (.inl rfl) | exact .inr (.inr rfl)) rfl ?_
    | refine we_var 1 _ rfl (by first | exact .inl rfl | exact .inr (.inl rfl) | exact .inr (.inr rfl)) rfl ?_
    | refine we_var 2 _ rfl (by first | exact .inl rfl | exact .inr (.inl rfl) | exact .inr (.inr rfl)) rfl ?_
    | refine we_var 3 _ rfl (by first | exact .inl rfl | exact .inr (.inl rfl) | exact .inr (.inr rfl)) rfl ?_
    | refine we_var 4 _ rfl (by first | exact .inl rfl | exact .inr (.inl rfl) | exact .inr (.inr rfl)) rfl ?_
    | refine we_var 5 _ rfl (by first | exact .inl rfl | exact .inr (.inl rfl) | exact .inr (.inr rfl)) rfl ?_
    | refine we_var 6 _ rfl (by first | exact .inl rfl | exact .inr (.inl rfl) | exact .inr (.inr rfl)) rfl ?_
    | refine we_var 7 _ rfl (by first | exact .inl rfl | exact .inr (.inl rfl) | exact .inr (.inr rfl)) rfl ?_
    | refine we_var 8 _ rfl (by first | exact .inl rfl | exact .inr (.inl rfl) | exact .inr (.inr rfl)) rfl ?_
    | refine we_var 9 _ rfl (by first | exact .inl rfl | exact .inr (.inl rfl) | exact .inr (.inr rfl)) rfl ?_
    | refine we_var 10 _ rfl (by first | exact .inl rfl | exact .inr (.inl rfl) | exact .inr (.inr rfl)) rfl ?_
    | refine we_var 11 _ rfl (by first | exact .inl rfl | exact .inr (.inl rfl) | exact .inr (.inr rfl)) rfl ?_
    | refine we_var 12 _ rfl (by first | exact .inl rfl | exact .inr (.inl rfl) | exact .inr (.inr rfl)) rfl ?_
    | refine we_var 13 _ rfl (by first | exact .inl rfl | exact .inr (.inl rfl) | exact .inr (.inr rfl)) rfl ?_
    | refine we_var 14 _ rfl (by first | exact .inl rfl | exact .inr (.inl rfl) | exact .inr (.inr rfl)) rfl ?_
    | refine we_var 15 _ rfl (by first | exact .inl rfl | exact .inr (.inl rfl) | exact .inr (.inr rfl)) rfl ?_
    | refine we_var 16 _ rfl (by first | exact .inl rfl | exact .inr (.inl rfl) | exact .inr (.inr rfl)) rfl ?_
    | refine we_var 17 _ rfl (by first | exact .inl rfl | exact .inr (.inl rfl) | exact .inr (.inr rfl)) rfl ?_
    | refine we_var 18 _ rfl (by first | exact .inl rfl | exact .inr (.inl rfl) | exact .inr (.inr rfl)) rfl ?_
    | refine we_var 19 _ rfl (by first | exact .inl rfl | exact .inr (.inl rfl) | exact .inr (.inr rfl)) rfl ?_
    | refine we_var 20 _ rfl (by first | exact .inl rfl | exact .inr (.inl rfl) | exact .inr (.inr rfl)) rfl ?_
    | refine we_var 21 _ rfl (by first | exact .inl rfl | exact .inr (.inl rfl) | exact .inr (.inr rfl)) rfl ?_
    | refine we_globI (by assumption) rfl ?_
    | refine we_globS (by assumption) rfl ?_)
local macro_rules | `(tactic| walk_at "e.const") => `(tactic| first
    | refine we_int ?_
    | refine we_str ?_
    | refine we_bl ?_
    | refine we_non ?_)
local macro_rules | `(tactic| walk_at "e.call") => `(tactic| first
    | refine we_len (by assumption) rfl ?_
    | refine we_int2 (by assumption) rfl ?_
    | refine we_tuple (Ct.gs (by assumption)) (by assumption) rfl ?_
    | refine we_abs (by assumption) rfl ?_
    | refine we_find ?_)
local macro_rules | `(tactic| walk_at "e.we") => `(tactic| first
    | (refine gNm ?_; walk_at "e.name")
    | (refine gConst ?_; walk_at "e.const")
    | refine we_bin (Ct.gs (by assumption)) ?_
    | (refine gCall ?_; walk_at "e.call")
    | refine we_cmp (Ct.hu (by assumption)) ?_
    | refine we_ix ?_
    | refine we_slice (Ct.gs (by assumption)) ?_
    | refine we_fld ?_
    | refine we_tup (Ct.gs (by assumption)) ?_
    | refine we_chain (Ct.hu (by assumption)) ?_
    | refine we_lst1 (Ct.gs (by assumption)) ?_
    | refine we_ifx ?_
    | refine we_and ?_
    | refine we_or ?_
    | refine we_one ?_
    | refine we_not ?_
    | refine we_neg ?_)
local macro_rules | `(tactic| walk_at "e.wt") => `(tactic| first
    | refine wt_cmp (Ct.hu (by assumption)) ?_
    | refine wt_chain (Ct.hu (by assumption)) ?_
    | refine wt_not ?_
    | refine wt_bool ?_
    | refine wt_val ?_)
local macro_rules | `(tactic| walk_at "e.ww") => `(tactic| first
    | refine ww_and ?_
    | refine ww_or ?_
    | refine ww_and1 ?_
    | refine ww_or1 ?_)
local macro_rules | `(tactic| walk_at "e.wa") => `(tactic| first
    | refine wa_nil ?_
    | refine wa_cons ?_)
local macro_rules | `(tactic| walk_at "e.wss") => `(tactic| first
    | refine wss_cons ?_
    | refine wss_nil ?_)
local macro_rules | `(tactic| walk_at "e.ws") => `(tactic| first
    | refine ws_if ?_
    | refine ws_expr (we_append (Ct.gs (by assumption)) ?_ (pe_bm PySem.F.plainAttrs_list PySem.F.slot_list_append PySem.F.type_list_append mt_append pe_wp pa_wp))
    | refine ws_expr ?_
    | refine ws_set 0 (Ct.nd (by assumption)) ?_
    | refine ws_set 1 (Ct.nd (by assumption)) ?_
    | refine ws_set 2 (Ct.nd (by assumption)) ?_
    | refine ws_set 3 (Ct.nd (by assumption)) ?_
    | refine ws_set 4 (Ct.nd (by assumption)) ?_
    | refine ws_set 5 (Ct.nd (by assumption)) ?_
    | refine ws_set 6 (Ct.nd (by assumption)) ?_
    | refine ws_set 7 (Ct.nd (by assumption)) ?_
    | refine ws_set 8 (Ct.nd (by assumption)) ?_
    | refine ws_set 9 (Ct.nd (by assumption)) ?_
    | refine ws_set 10 (Ct.nd (by assumption)) ?_
    | refine ws_set 11 (Ct.nd (by assumption)) ?_
    | refine ws_set 12 (Ct.nd (by assumption)) ?_
    | refine ws_set 13 (Ct.nd (by assumption)) ?_
    | refine ws_set 14 (Ct.nd (by assumption)) ?_
    | refine ws_set 15 (Ct.nd (by assumption)) ?_
    | refine ws_set 16 (Ct.nd (by assumption)) ?_
    | refine ws_set 17 (Ct.nd (by assumption)) ?_
    | refine ws_set 18 (Ct.nd (by assumption)) ?_
    | refine ws_set 19 (Ct.nd (by assumption)) ?_
    | refine ws_set 20 (Ct.nd (by assumption)) ?_
    | refine ws_set 21 (Ct.nd (by assumption)) ?_
    | refine ws_sub (Ct.gs (by assumption)) ?_ (fun a b => pg_sub a b set_list)
    | refine ws_fld (Ct.gs (by assumption)) ?_
    | refine ws_pass ?_
    | refine ws_break ?_
    | refine ws_cont ?_)
local macro_rules | `(tactic| walk_at "e.bin") => `(tactic| first
    | refine BinD.addI ?_
    | refine BinD.subI ?_
    | refine BinD.modI (by decide) ?_
    | refine BinD.modI (by assumption) ?_
    | refine BinD.divI (by decide) (by decide) ?_
    | refine BinD.divI (by assumption) (by assumption) ?_
    | refine BinD.mulI (by first | exact .inl ⟨by decide, by decide⟩ | exact .inr ⟨by decide, by decide⟩) ?_
    | refine BinD.xorI ?_
    | refine BinD.powI ⟨by decide, by decide, by decide⟩ ?_)
local macro_rules | `(tactic| walk_at "e.cmp") => `(tactic| first
    | refine CmpD.lt ?_
    | refine CmpD.le ?_
    | refine CmpD.gt ?_
    | refine CmpD.ge ?_
    | refine CmpD.isN ?_
    | refine CmpD.notN ?_
    | refine CmpD.neI_s ?_
    | refine CmpD.neT_s ?_
    | refine CmpD.neZ_s ?_
    | refine CmpD.eqZ_s ?_
    | refine CmpD.neN_s ?_
    | refine CmpD.eqN_s ?_
    | refine CmpD.neTZ ?_
    | refine CmpD.eqTZ ?_
    | refine CmpD.eqI ?_
    | refine CmpD.neI ?_
    | refine CmpD.eqZ ?_
    | refine CmpD.neZ ?_)
local macro_rules | `(tactic| walk_at "e.is") => `(tactic| first
    | refine IsI.mk ?_
    | refine IsT.mk ?_
    | refine IsL.mk ?_
    | refine IsZ.mk ?_
    | refine IsB.mk ?_
    | refine OwL.mk 0 rfl ?_
    | refine OwL.mk 1 rfl ?_
    | refine OwL.mk 2 rfl ?_
    | refine OwL.mk 3 rfl ?_
    | refine OwL.mk 4 rfl ?_
    | refine OwL.mk 5 rfl ?_
    | refine OwI.mk 0 rfl ?_
    | refine OwI.mk 1 rfl ?_
    | refine OwI.mk 2 rfl ?_
    | refine OwI.mk 3 rfl ?_
    | refine OwI.mk 4 rfl ?_
    | refine OwI.mk 5 rfl ?_
    | refine OwI.mk _ (by assumption) ?_
    | refine OwI.mk _ (set_at (by assumption)) ?_
    | refine OwI.mk _ (set_at (set_at (by assumption))) ?_
    | refine OwL.mk _ (by assumption) ?_
    | refine OwL.mk _ (set_at (by assumption)) ?_
    | refine OwL.mk _ (set_at (set_at (by assumption))) ?_
    | refine OwL.mk _ (set_at (set_at (set_at (by assumption)))) ?_
    | refine IxD.own 0 rfl rfl ?_
    | refine IxD.own 1 rfl rfl ?_
    | refine IxD.own 2 rfl rfl ?_
    | refine IxD.own 3 rfl rfl ?_
    | refine IxD.own 4 rfl rfl ?_
    | refine IxD.own 5 rfl rfl ?_
    | refine IxD.own _ (by assumption) rfl ?_
    | refine IxD.own _ (set_at (by assumption)) rfl ?_
    | refine IxD.own _ (set_at (set_at (by assumption))) rfl ?_
    | refine IxD.own _ (set_at (set_at (set_at (by assumption)))) rfl ?_
    | refine IxD.tup rfl ?_
    | refine IxD.lst rfl ?_
    | refine IntD.int ?_
    | refine IntD.bl ?_
    | refine TruD.bl ?_
    | refine TruD.int ?_
    | refine TruD.tup ?_
    | refine TruD.lst ?_
    | refine LenD.tup ?_
    | refine LenD.lst ?_
    | refine SeqD.tup ?_
    | refine SeqD.lst ?_
    | refine SlD.tup ?_
    | refine SlD.lst ?_
    | refine SeqD.own 0 rfl ?_
    | refine SeqD.own 1 rfl ?_
    | refine SeqD.own 2 rfl ?_
    | refine SeqD.own 3 rfl ?_
    | refine SeqD.own 4 rfl ?_
    | refine SeqD.own 5 rfl ?_
    | refine LenD.own 0 rfl ?_
    | refine LenD.own 1 rfl ?_
    | refine LenD.own 2 rfl ?_
    | refine LenD.own 3 rfl ?_
    | refine LenD.own 4 rfl ?_
    | refine LenD.own 5 rfl ?_)
local macro_rules | `(tactic| walk_at "e1") => `(tactic| first
    | (refine gWE ?_; walk_at "e.we")
    | (refine gBinD ?_; walk_at "e.bin")
    | (refine gWSs ?_; walk_at "e.wss")
    | (refine gWS ?_; walk_at "e.ws")
    | (refine gWT ?_; walk_at "e.wt")
    | (refine gCmpD ?_; walk_at "e.cmp")
    | (refine gWA ?_; walk_at "e.wa")
    | (refine gWW ?_; walk_at "e.ww")
    | refine iteT ?_
    | refine iteF ?_
    | walk_at "e.is")
local macro_rules | `(tactic| walk_at "e") => `(tactic| repeat (walk_at "e1"))
/-- one plain byte of what is stuffed, changed -/
theorem bent_stuff : ∀ (c : List Int) (i : Nat) (x y : Int), (stuffL c)[i]? = some x → ¬ (x = 126 ∨ x = 125) → ¬ (y = 126 ∨ y = 125) → (i = 0 ∨ (stuffL c)[i - 1]? ≠ some 125) → ∃ j : Nat, c[j]? = some x ∧ (stuffL c).set i y = stuffL (c.set j y)
  | [], i, x, y, h, _, _, _ => by simp [stuffL] at h
  | b :: l, i, x, y, h, hx, hy, hp => by
    by_cases z : b = 126 ∨ b = 125
    · have e : stuffL (b :: l) = 125 :: flip b :: stuffL l := by rw [stuffL, stuff1, if_pos z]; rfl
      rw [e] at h hp ⊢
      rcases i with _ | _ | i
      · simp at h; exact absurd (.inr h.symm) hx
      · simp at hp
      · have h' : (stuffL l)[i]? = some x := by simpa using h
        have hp' : i = 0 ∨ (stuffL l)[i - 1]? ≠ some 125 := by
          rcases i with _ | i
          · exact .inl rfl
          · exact .inr (by simpa using hp)
        obtain ⟨j, j1, j2⟩ := bent_stuff l i x y h' hx hy hp'
        refine ⟨j + 1, by simpa using j1, ?_⟩
        simp only [List.set_cons_succ, j2]
        rw [stuffL, stuff1, if_pos z]; rfl
    · have e : stuffL (b :: l) = b :: stuffL l := by rw [stuffL, stuff1, if_neg z]; rfl
      rw [e] at h hp ⊢
      rcases i with _ | i
      · simp at h; subst h
        refine ⟨0, rfl, ?_⟩
        simp only [List.set_cons_zero]
        rw [stuffL, stuff1, if_neg hy]; rfl
      · have h' : (stuffL l)[i]? = some x := by simpa using h
        have hp' : i = 0 ∨ (stuffL l)[i - 1]? ≠ some 125 := by
          rcases i with _ | i
          · exact .inl rfl
          · exact .inr (by simpa using hp)
        obtain ⟨j, j1, j2⟩ := bent_stuff l i x y h' hx hy hp'
        refine ⟨j + 1, by simpa using j1, ?_⟩
        simp only [List.set_cons_succ, j2]
        rw [stuffL, stuff1, if_neg z]; rfl
/-- a content with one byte changed is damaged -/
theorem end_bent {bs : List Int} {n x y : Int} {j : Nat} (hr : ∀ b ∈ bs, 0 ≤ b ∧ b < 256) (h : (bs ++ sumL bs)[j]? = some x) (hy : 0 ≤ y ∧ y < 256) (hne : y ≠ x) : endS ⟨some ((bs ++ sumL bs).set j y), false, n⟩ = (⟨some [], false, n + 1⟩, none) := by
  have h4 : (sumL bs).length = 4 := rfl
  have hl : ((bs ++ sumL bs).set j y).length - 4 = bs.length := by rw [List.length_set, List.length_append, h4]; omega
  have hn : ¬ ((bs ++ sumL bs).set j y = [] ∧ false = false) := by
    rintro ⟨z, _⟩
    have := congrArg List.length z
    rw [List.length_set, List.length_append, h4] at this
    simp at this
  show (if (bs ++ sumL bs).set j y = [] ∧ false = false then _ else if _ then _ else _) = _
  rw [if_neg hn, hl]
  refine if_pos (.inr (.inr ?_))
  by_cases hj : j < bs.length
  · have e1 : ((bs ++ sumL bs).set j y).take bs.length = bs.set j y := by rw [List.set_append_left _ _ hj, List.take_left' (by simp)]
    have e2 : ((bs ++ sumL bs).set j y).drop bs.length = sumL bs := by rw [List.set_append_left _ _ hj, List.drop_left' (by simp)]
    rw [e1, e2]
    have hx : bs[j]? = some x := by rw [List.getElem?_append_left hj] at h; exact h
    exact sum_bent hx (hr x (List.mem_of_getElem? hx)) hy hne
  · have hj' : bs.length ≤ j := by omega
    have e1 : ((bs ++ sumL bs).set j y).take bs.length = bs := by rw [List.set_append_right _ _ hj', List.take_left]
    have e2 : ((bs ++ sumL bs).set j y).drop bs.length = (sumL bs).set (j - bs.length) y := by rw [List.set_append_right _ _ hj', List.drop_left]
    rw [e1, e2]
    have hx : (sumL bs)[j - bs.length]? = some x := by rw [List.getElem?_append_right hj'] at h; exact h
    intro z
    have := set_at hx (x := y)
    rw [← z, hx] at this
    cases this
    exact hne rfl
theorem feed_bent {bs : List Int} {i : Nat} {x y : Int} (hr : ∀ b ∈ bs, 0 ≤ b ∧ b < 256) (hl : bs.length ≤ 400) (h : (stuffL (bs ++ sumL bs))[i]? = some x) (hx : ¬ (x = 126 ∨ x = 125)) (hy : ¬ (y = 126 ∨ y = 125)) (hp : i = 0 ∨ (stuffL (bs ++ sumL bs))[i - 1]? ≠ some 125) (hyr : 0 ≤ y ∧ y < 256) (hne : y ≠ x) :
    feedS ⟨none, false, 0⟩ ([126] ++ (stuffL (bs ++ sumL bs)).set i y ++ [126]) = (⟨some [], false, 1⟩, []) := by
  obtain ⟨j, j1, j2⟩ := bent_stuff _ i x y h hx hy hp
  have h4 : (sumL bs).length = 4 := rfl
  rw [j2, feedS_app, feedS_app]
  have e1 : feedS ⟨none, false, 0⟩ [126] = (⟨some [], false, 0⟩, []) := rfl
  rw [e1]
  simp only
  rw [feed_plain ((bs ++ sumL bs).set j y) [] 0 (fun b hb => by
    rcases List.mem_or_eq_of_mem_set hb with z | z
    · rcases List.mem_append.mp z with z | z
      · exact hr b z
      · exact sumL_range bs b z
    · subst z; exact hyr) (by rw [List.length_set, List.length_append, h4, List.length_nil]; omega)]
  simp only [List.nil_append, List.append_nil]
  have e2 := end_bent (n := 0) hr j1 hyr hne
  have e3 : feedS ⟨some ((bs ++ sumL bs).set j y), false, 0⟩ [126] = (⟨some [], false, 1⟩, []) := by
    unfold feedS
    simp only [List.foldl_cons, List.foldl_nil, stepS, if_true, List.nil_append]
    rw [e2]
    rfl
  rw [e3]
theorem frame_set {bs : List Int} {i : Nat} {y : Int} (h : i < (stuffL (bs ++ sumL bs)).length) : (frameL bs).set (1 + i) y = [126] ++ (stuffL (bs ++ sumL bs)).set i y ++ [126] := by
  unfold frameL
  rw [List.append_assoc, Nat.add_comm 1 i, List.singleton_append, List.set_cons_succ, List.set_append_left _ _ h]
  rfl
theorem frame_at {bs : List Int} {i : Nat} (h : i < (stuffL (bs ++ sumL bs)).length) : (frameL bs)[1 + i]? = (stuffL (bs ++ sumL bs))[i]? := by
  unfold frameL
  rw [List.append_assoc, Nat.add_comm 1 i, List.singleton_append, List.getElem?_cons_succ, List.getElem?_append_left h]
theorem ne_nil {a : D} {l : List D} {k : Bool → Prop} (p : ∀ x ∈ a :: l, Pl 59 x) (h : k true) : CmpD .NotEq (.lst (a :: l)) (.lst []) k := .ne (.lst p) (.lst fun _ h => by cases h) (by
  have : eqd (.lst (a :: l)) (.lst []) = false := by unfold eqd pyD; simp [PyData.eqv, PyData.eqvAll, pyDs]
  rw [this]; exact h)
def lc : List Stmt := match lb.getD 5 (.Pass ⟨0, 0, 0, 0⟩) with
  | .If _ t _ _ => t
  | _ => []

end K02
set_option maxRecDepth 100000
set_option maxHeartbeats 4000000

namespace K02
open PySem PySem.Spec PyProof.Rows L2 Wv
open LamX (CodeO TabS Tabs ExtN TabB lamEnv lamCx LamS)
local macro_rules | `(tactic| walk_at "e.name") => `(tactic| first
    | refine we_var 0 _ rfl (by first | exact .inl rfl | exact .inr (.inl rfl) | exact .inr (.inr rfl)) rfl ?_
    | refine we_var 1 _ rfl (by first | exact .inl rfl | exact .inr (.inl rfl) | exact .inr (.inr rfl)) rfl ?_
    | refine we_var 2 _ rfl (by first | exact .inl rfl | exact .inr (.inl rfl) | exact .inr (.inr rfl)) rfl ?_
    | refine we_var 3 _ rfl (by first | exact .inl rfl | exact .inr (.inl rfl) | exact .inr (.inr rfl)) rfl ?_
    | refine we_var 4 _ rfl (by first | exact .inl rfl | exact .inr (.inl rfl) | exact .inr (.inr rfl)) rfl ?_
    | refine we_var 5 _ rfl (by first | exact .inl rfl | exact .inr (.inl rfl) | exact .inr (.inr rfl)) rfl ?_
    | refine we_var 6 _ rfl (by first | exact .inl rfl | exact .inr (.inl rfl) | exact .inr (.inr rfl)) rfl ?_
    | refine we_var 7 _ rfl (by first | exact .inl rfl | exact .inr (.inl rfl) | exact .inr (.inr rfl)) rfl ?_
    | refine we_var 8 _ rfl (by first | exact .inl rfl | exact .inr (.inl rfl) | exact .inr (.inr rfl)) rfl ?_
    | refine we_var 9 _ rfl (by first | exact .inl rfl | exact .inr (.inl rfl) | exact .inr (.inr rfl)) rfl ?_
    | refine we_var 10 _ rfl (by first | exact .inl rfl | exact .inr (.inl rfl) | exact .inr (.inr rfl)) rfl ?_
    | refine we_var 11 _ rfl (by first | exact .inl rfl | exact .inr (.inl rfl) | exact .inr (.inr rfl)) rfl ?_
    | refine we_var 12 _ rfl (by first | exact .inl rfl | exact .inr (.inl rfl) | exact .inr (.inr rfl)) rfl ?_
    | refine we_var 13 _ rfl (by first | exact .inl rfl | exact .inr (.inl rfl) | exact .inr (.inr rfl)) rfl ?_
    | refine we_var 14 _ rfl (by first | exact .inl rfl | exact .inr (.inl rfl) | exact .inr (.inr rfl)) rfl ?_
    | refine we_var 15 _ rfl (by first | exact .inl rfl | exact .inr (.inl rfl) | exact .inr (.inr rfl)) rfl ?_
    | refine we_var 16 _ rfl (by first | exact .inl rfl | exact .inr (.inl rfl) | exact .inr (.inr rfl)) rfl ?_
    | refine we_var 17 _ rfl (by first | exact .inl rfl | exact .inr (.inl rfl) | exact .inr (.inr rfl)) rfl ?_
    | refine we_var 18 _ rfl (by first | exact .inl rfl | exact .inr (.inl rfl) | exact .inr (.inr rfl)) rfl ?_
    | refine we_var 19 _ rfl (by first | exact .inl rfl | exact .inr (.inl rfl) | exact .inr (.inr rfl)) rfl ?_
    | refine we_var 20 _ rfl (by first | exact .inl rfl | exact .inr (.inl rfl) | exact .inr (.inr rfl)) rfl ?_
    | refine we_var 21 _ rfl (by first | exact .inl rfl | exact .inr (.inl rfl) | exact .inr (.inr rfl)) rfl ?_
    | refine we_globI (by assumption) rfl ?_
    | refine we_globS (by assumption) rfl ?_)
local macro_rules | `(tactic| walk_at "e.const") => `(tactic| first
    | refine we_int ?_
    | refine we_str ?_
    | refine we_bl ?_
    | refine we_non ?_)
local macro_rules | `(tactic| walk_at "e.call") => `(tactic| first
    | refine we_len (by assumption) rfl ?_
    | refine we_int2 (by assumption) rfl ?_
    | refine we_tuple (Ct.gs (by assumption)) (by assumption) rfl ?_
    | refine we_abs (by assumption) rfl ?_
    | refine we_find ?_)
local macro_rules | `(tactic| walk_at "e.we") => `(tactic| first
    | (refine gNm ?_; walk_at "e.name")
    | (refine gConst ?_; walk_at "e.const")
    | refine we_bin (Ct.gs (by assumption)) ?_
    | (refine gCall ?_; walk_at "e.call")
    | refine we_cmp (Ct.hu (by assumption)) ?_
    | refine we_ix ?_
    | refine we_slice (Ct.gs (by assumption)) ?_
    | refine we_fld ?_
    | refine we_tup (Ct.gs (by assumption)) ?_
    | refine we_chain (Ct.hu (by assumption)) ?_
    | refine we_lst1 (Ct.gs (by assumption)) ?_
    | refine we_ifx ?_
    | refine we_and ?_
    | refine we_or ?_
    | refine we_one ?_
    | refine we_not ?_
    | refine we_neg ?_)
local macro_rules | `(tactic| walk_at "e.wt") => `(tactic| first
    | refine wt_cmp (Ct.hu (by assumption)) ?_
    | refine wt_chain (Ct.hu (by assumption)) ?_
    | refine wt_not ?_
    | refine wt_bool ?_
    | refine wt_val ?_)
local macro_rules | `(tactic| walk_at "e.ww") => `(tactic| first
    | refine ww_and ?_
    | refine ww_or ?_
    | refine ww_and1 ?_
    | refine ww_or1 ?_)
local macro_rules | `(tactic| walk_at "e.wa") => `(tactic| first
    | refine wa_nil ?_
    | refine wa_cons ?_)
local macro_rules | `(tactic| walk_at "e.wss") => `(tactic| first
    | refine wss_cons ?_
    | refine wss_nil ?_)
local macro_rules | `(tactic| walk_at "e.ws") => `(tactic| first
    | refine ws_if ?_
    | refine ws_expr (we_append (Ct.gs (by assumption)) ?_ (pe_bm PySem.F.plainAttrs_list PySem.F.slot_list_append PySem.F.type_list_append mt_append pe_wp pa_wp))
    | refine ws_expr ?_
    | refine ws_set 0 (Ct.nd (by assumption)) ?_
    | refine ws_set 1 (Ct.nd (by assumption)) ?_
    | refine ws_set 2 (Ct.nd (by assumption)) ?_
    | refine ws_set 3 (Ct.nd (by assumption)) ?_
    | refine ws_set 4 (Ct.nd (by assumption)) ?_
    | refine ws_set 5 (Ct.nd (by assumption)) ?_
    | refine ws_set 6 (Ct.nd (by assumption)) ?_
    | refine ws_set 7 (Ct.nd (by assumption)) ?_
    | refine ws_set 8 (Ct.nd (by assumption)) ?_
    | refine ws_set 9 (Ct.nd (by assumption)) ?_
    | refine ws_set 10 (Ct.nd (by assumption)) ?_
    | refine ws_set 11 (Ct.nd (by assumption)) ?_
    | refine ws_set 12 (Ct.nd (by assumption)) ?_
    | refine ws_set 13 (Ct.nd (by assumption)) ?_
    | refine ws_set 14 (Ct.nd (by assumption)) ?_
    | refine ws_set 15 (Ct.nd (by assumption)) ?_
    | refine ws_set 16 (Ct.nd (by assumption)) ?_
    | refine ws_set 17 (Ct.nd (by assumption)) ?_
    | refine ws_set 18 (Ct.nd (by assumption)) ?_
    | refine ws_set 19 (Ct.nd (by assumption)) ?_
    | refine ws_set 20 (Ct.nd (by assumption)) ?_
    | refine ws_set 21 (Ct.nd (by assumption)) ?_
    | refine ws_sub (Ct.gs (by assumption)) ?_ (fun a b => pg_sub a b set_list)
    | refine ws_fld (Ct.gs (by assumption)) ?_
    | refine ws_pass ?_
    | refine ws_break ?_
    | refine ws_cont ?_)
local macro_rules | `(tactic| walk_at "e.bin") => `(tactic| first
    | refine BinD.addI ?_
    | refine BinD.subI ?_
    | refine BinD.modI (by decide) ?_
    | refine BinD.modI (by assumption) ?_
    | refine BinD.divI (by decide) (by decide) ?_
    | refine BinD.divI (by assumption) (by assumption) ?_
    | refine BinD.mulI (by first | exact .inl ⟨by decide, by decide⟩ | exact .inr ⟨by decide, by decide⟩) ?_
    | refine BinD.xorI ?_
    | refine BinD.powI ⟨by decide, by decide, by decide⟩ ?_)
local macro_rules | `(tactic| walk_at "e.cmp") => `(tactic| first
    | refine CmpD.lt ?_
    | refine CmpD.le ?_
    | refine CmpD.gt ?_
    | refine CmpD.ge ?_
    | refine CmpD.isN ?_
    | refine CmpD.notN ?_
    | refine CmpD.neI_s ?_
    | refine CmpD.neT_s ?_
    | refine CmpD.neZ_s ?_
    | refine CmpD.eqZ_s ?_
    | refine CmpD.neN_s ?_
    | refine CmpD.eqN_s ?_
    | refine CmpD.neTZ ?_
    | refine CmpD.eqTZ ?_
    | refine CmpD.eqI ?_
    | refine CmpD.neI ?_
    | refine CmpD.eqZ ?_
    | refine CmpD.neZ ?_)
local macro_rules | `(tactic| walk_at "e.is") => `(tactic| first
    | refine IsI.mk ?_
    | refine IsT.mk ?_
    | refine IsL.mk ?_
    | refine IsZ.mk ?_
    | refine IsB.mk ?_
    | refine OwL.mk 0 rfl ?_
    | refine OwL.mk 1 rfl ?_
    | refine OwL.mk 2 rfl ?_
    | refine OwL.mk 3 rfl ?_
    | refine OwL.mk 4 rfl ?_
    | refine OwL.mk 5 rfl ?_
    | refine OwI.mk 0 rfl ?_
    | refine OwI.mk 1 rfl ?_
    | refine OwI.mk 2 rfl ?_
    | refine OwI.mk 3 rfl ?_
    | refine OwI.mk 4 rfl ?_
    | refine OwI.mk 5 rfl ?_
    | refine OwI.mk _ (by assumption) ?_
    | refine OwI.mk _ (set_at (by assumption)) ?_
    | refine OwI.mk _ (set_at (set_at (by assumption))) ?_
    | refine OwL.mk _ (by assumption) ?_
    | refine OwL.mk _ (set_at (by assumption)) ?_
    | refine OwL.mk _ (set_at (set_at (by assumption))) ?_
    | refine OwL.mk _ (set_at (set_at (set_at (by assumption)))) ?_
    | refine IxD.own 0 rfl rfl ?_
    | refine IxD.own 1 rfl rfl ?_
    | refine IxD.own 2 rfl rfl ?_
    | refine IxD.own 3 rfl rfl ?_
    | refine IxD.own 4 rfl rfl ?_
    | refine IxD.own 5 rfl rfl ?_
    | refine IxD.own _ (by assumption) rfl ?_
    | refine IxD.own _ (set_at (by assumption)) rfl ?_
    | refine IxD.own _ (set_at (set_at (by assumption))) rfl ?_
    | refine IxD.own _ (set_at (set_at (set_at (by assumption)))) rfl ?_
    | refine IxD.tup rfl ?_
    | refine IxD.lst rfl ?_
    | refine IntD.int ?_
    | refine IntD.bl ?_
    | refine TruD.bl ?_
    | refine TruD.int ?_
    | refine TruD.tup ?_
    | refine TruD.lst ?_
    | refine LenD.tup ?_
    | refine LenD.lst ?_
    | refine SeqD.tup ?_
    | refine SeqD.lst ?_
    | refine SlD.tup ?_
    | refine SlD.lst ?_
    | refine SeqD.own 0 rfl ?_
    | refine SeqD.own 1 rfl ?_
    | refine SeqD.own 2 rfl ?_
    | refine SeqD.own 3 rfl ?_
    | refine SeqD.own 4 rfl ?_
    | refine SeqD.own 5 rfl ?_
    | refine LenD.own 0 rfl ?_
    | refine LenD.own 1 rfl ?_
    | refine LenD.own 2 rfl ?_
    | refine LenD.own 3 rfl ?_
    | refine LenD.own 4 rfl ?_
    | refine LenD.own 5 rfl ?_)
local macro_rules | `(tactic| walk_at "e1") => `(tactic| first
    | (refine gWE ?_; walk_at "e.we")
    | (refine gBinD ?_; walk_at "e.bin")
    | (refine gWSs ?_; walk_at "e.wss")
    | (refine gWS ?_; walk_at "e.ws")
    | (refine gWT ?_; walk_at "e.wt")
    | (refine gCmpD ?_; walk_at "e.cmp")
    | (refine gWA ?_; walk_at "e.wa")
    | (refine gWW ?_; walk_at "e.ww")
    | refine iteT ?_
    | refine iteF ?_
    | walk_at "e.is")
local macro_rules | `(tactic| walk_at "e") => `(tactic| repeat (walk_at "e1"))
theorem feed_none : ∀ (l : List Int), (∀ x ∈ l, x ≠ 126) → feedS ⟨none, false, 0⟩ l = (⟨none, false, 0⟩, [])
  | [], _ => rfl
  | x :: l, h => by
    have e : x :: l = [x] ++ l := rfl
    have e1 : feedS ⟨none, false, 0⟩ [x] = (⟨none, false, 0⟩, []) := by
      unfold feedS
      simp only [List.foldl_cons, List.foldl_nil, stepS]
      rw [if_neg (h x List.mem_cons_self)]
      rfl
    rw [e, feedS_app, e1]
    simp only
    rw [feed_none l fun y hy => h y (List.mem_cons_of_mem _ hy)]
    rfl
theorem feed_nomark : ∀ (l : List Int) (s : DS), (∀ x ∈ l, x ≠ 126) → (feedS s l).2 = []
  | [], _, _ => rfl
  | x :: l, s, h => by
    have e : x :: l = [x] ++ l := rfl
    have e1 : (feedS s [x]).2 = [] := by
      unfold feedS
      simp only [List.foldl_cons, List.foldl_nil, stepS]
      rw [if_neg (h x List.mem_cons_self)]
    rw [e, feedS_app]
    simp only
    rw [e1, feed_nomark l _ fun y hy => h y (List.mem_cons_of_mem _ hy)]
    rfl
theorem endS_dmg (s : DS) : (endS s).1 = ⟨some [], false, (endS s).1.dmg⟩ := by
  unfold endS
  cases s.held with
  | none => rfl
  | some h =>
    simp only
    split
    · rfl
    · split <;> rfl
theorem feed_mark (s : DS) : feedS s [126] = (⟨some [], false, (endS s).1.dmg⟩, (endS s).2.toList) := by
  unfold feedS
  simp only [List.foldl_cons, List.foldl_nil, stepS, if_true, List.nil_append]
  rw [← endS_dmg]
theorem cut_last (a b : List D) (h : b ≠ []) : Wv.cutD (a ++ b) (some (-(b.length : Int))) none = b := by
  unfold Wv.cutD
  have hl : 0 < b.length := List.length_pos_iff.mpr h
  have e1 : HT.sIx (a ++ b).length 0 (some (-(b.length : Int))) = a.length := by
    simp only [HT.sIx, List.length_append]
    rw [if_pos (by omega)]
    omega
  have e2 : HT.sIx (a ++ b).length (a ++ b).length none = (a ++ b).length := rfl
  rw [e1, e2, List.drop_left, List.take_of_length_le (by simp)]
theorem pl_sub {l : List (List Int)} {L : List D} (h : ∀ x ∈ L, x ∈ l.map byt) : Pl 60 (.lst L) := .lst fun x hx => by
  obtain ⟨y, _, rfl⟩ := List.mem_map.mp (h x hx)
  exact pl_byt _
section
variable {P : Program} {w : World} {K : PySem.W.Frag} {mg : Str → Option Value} {base : Heap} {T : List (Addr × Str)} {f c C CR : Addr} {A : Around} {outer : List Env} {s : Shared} {H : Hp} {E0 : XK} {W : WX} {M : Ms} {N : En} {p : Addr} {a b m y : Int} {i : Nat} {bs : List Int} {tl : List (List Int)} {z0 z4 z5 z6 z7 z8 z9 z13 z14 z15 z16 z17 z18 z19 z20 z21 : Option D}
theorem st_D2 (L : LawH P w K mg base T C CR) (cx : Ct (XL P w K mg base f c A outer s H E0) (Tabs T) W 7) (hp : PlOk (bs :: tl)) (hi : 1 + i + 1 < (frameL bs).length) (hN : ∀ M' ρ', ρ'.length = 22 → N.nx M' ρ') :
    WSs (XL P w K mg base f c A outer s H E0) (Tabs T) W (lc.drop 7) ((p, O.lst [I a, I b, I m]) :: M) [z0, some (Rf p), some (.lst ((bs :: tl).map byt)), some (byt (frameL bs ++ rowL tl)), z4, z5, z6, z7, z8, z9, some (byt (frameL bs)), some (byt (rowL tl)), some (I ((1 + i : Nat) : Int)), z13, z14, z15, z16, z17, z18, z19, z20, z21] N := by
  obtain ⟨fr, mr, gr⟩ := L.roll
  obtain ⟨fi, mk, gi⟩ := L.mkr
  obtain ⟨fe, Me, ge⟩ := L.feed
  have dc := L.dc
  have q_len := L.len
  have hrow := rowL_len (pls := bs :: tl) fun z hz => (hp.2 z hz).2.1
  have hrl : rowL (bs :: tl) = frameL bs ++ rowL tl := rfl
  have h7 := hp.1
  have okr : ∀ x ∈ bs :: tl, x.length ≤ 400 ∧ ∀ b ∈ x, 0 ≤ b ∧ b < 256 := fun z hz => ⟨by have := (hp.2 z hz).2.1; omega, (hp.2 z hz).2.2⟩
  refine wss_cons (ws_set 17 cx.nd (we_tuple cx.gs L.tuple rfl (we_lc cx cx.nd [("k", 4)] (fun n M' acc => ∃ (a b m : Int) (rb : List Int), M' = (p, O.lst [I a, I b, I m]) :: M ∧ acc = rb.map (fun i => I i) ∧ rb.length = n ∧ ∀ b ∈ rb, 0 ≤ b ∧ b < 120) (gok_name 4) (gwipe_name 4) (fun d ρ k k' h => h _) (fun s H C cl fp => pgn 4 cx.nd) (blkOk_by (by show blkC N_law (defScope s_law) _ _ = true; decide +kernel)) (wi_rng1 L.range rfl ?_))))
  refine wa_cons (we_call cx gr (by decide) mr rfl ?_)
  walk_at "e"
  refine ⟨p, a, b, m, _, 0, rfl, rfl, by decide, by decide, fun a b m r h0 h1 => ?_⟩
  refine wa_nil ⟨r, rfl, by omega, by omega, ⟨a, b, m, [], rfl, rfl, rfl, fun x hx => by cases hx⟩, fun n z hz => turn_nil (fun d ρ k k' h => h _) ?_, ?_⟩
  · rintro q M' acc ⟨a, b, m, rb, rfl, rfl, hn, hbs⟩
    have hn2 : n < 9 := by
      rcases Nat.lt_or_ge n ((List.range r.toNat).map fun (i : Nat) => I (i : Int)).length with q | q
      · rw [List.length_map, List.length_range] at q; omega
      · rw [List.getElem?_eq_none q] at hz; cases hz
    intro Y' hY' cy'
    obtain ⟨s', H', C', cl, fp, rfl⟩ := hY'
    refine we_call cy' gr (by decide) mr rfl ?_
    walk_at "e"
    refine ⟨p, a, b, m, _, 1, rfl, rfl, by decide, by decide, fun a b m v h4 h5 => ⟨_, rfl, sz2 (by rw [List.length_map]; omega), a, b, m, rb ++ [v], rfl, by simp, by simp [hn], fun b hb => ?_⟩⟩
    rcases List.mem_append.mp hb with z | z
    · exact hbs b z
    · simp at z; subst z; exact ⟨h4, h5⟩
  · rintro M' acc ⟨a, b, m, rb, rfl, rfl, hn, hbs⟩
    rw [List.length_map, List.length_range] at hn
    refine SeqD.lst ?_
    have f1 : feedS ⟨none, false, 0⟩ (rb ++ (frameL bs ++ rowL tl)) = ((feedS ⟨none, false, 0⟩ (rowL (bs :: tl))).1, bs :: tl) := by
      rw [feedS_app, feed_none rb fun x hx => by have := hbs x hx; omega, ← hrl]
      simp only [List.nil_append]
      rw [(feed_row (bs :: tl) ⟨none, false, 0⟩ okr rfl rfl).1]
    refine wss_cons (ws_set 18 cx.nd (we_make0 cx gi (by decide) mk L.dr rfl ?_ init_ret))
    refine fun q => ⟨q, _, rfl, rfl, ?_⟩
    refine wss_cons (ws_if (wt_cmp cx.hu (we_list cx.gs L.list rfl (we_meth cx ge (by decide) dc.c Me ?_))))
    walk_at "e"
    refine ⟨rfl, rfl, ?_⟩
    walk_at "e"
    refine BinD.addB (by rw [← hrl]; omega) ?_
    walk_at "e"
    refine ⟨q, none, false, 0, rb ++ (frameL bs ++ rowL tl), _, rfl, by rw [List.length_append, ← hrl]; omega, none_ok, ⟨_, List.Perm.refl _, List.Sublist.refl _⟩, fun h' e' n' heq => ?_⟩
    simp only [Option.map_none, f1] at heq ⊢
    refine SeqD.tup (we_var 2 _ rfl (by first | exact .inl rfl | exact .inr (.inl rfl) | exact .inr (.inr rfl)) rfl (CmpD.ne_s (pl_lbyts (bs :: tl)) (iteF (wss_nil ?_))))
    refine wss_sp (M0 := (p, O.lst [I a, I b, I m]) :: M) ⟨_, List.Perm.refl _, List.sublist_append_right _ _⟩ ?_
    have g1 : (feedS ⟨none, false, 0⟩ ((frameL bs).take (1 + i))).2 = [] := by
      have e1 : (frameL bs).take (1 + i) = [126] ++ (stuffL (bs ++ sumL bs)).take i := by
        have hl : (frameL bs).length = (stuffL (bs ++ sumL bs)).length + 2 := by unfold frameL; simp
        unfold frameL
        rw [List.append_assoc, Nat.add_comm 1 i, List.singleton_append, List.take_succ_cons, List.take_append_of_le_length (by omega)]
        rfl
      rw [e1, feedS_app, feed_mark]
      simp only
      rw [feed_nomark _ _ fun x hx => stuff_126 _ x (List.mem_of_mem_take hx)]
      rfl
    refine wss_cons (ws_set 19 cx.nd (we_make0 cx gi (by decide) mk L.dr rfl ?_ init_ret))
    refine fun q2 => ⟨q2, _, rfl, rfl, ?_⟩
    refine wss_one (ws_if (wt_bool (ww_or (wt_cmp cx.hu (we_list cx.gs L.list rfl (we_meth cx ge (by decide) dc.c Me ?_))))))
    walk_at "e"
    refine ⟨rfl, rfl, ?_⟩
    walk_at "e"
    rw [cut_take _ _ (by omega)]
    walk_at "e"
    refine ⟨q2, none, false, 0, (frameL bs).take (1 + i), _, rfl, by rw [List.length_take]; have := frameL_len (bs := bs); have := (hp.2 bs List.mem_cons_self).2.1; omega, none_ok, ⟨_, List.Perm.refl _, List.Sublist.refl _⟩, fun h2 e2 n2 heq2 => ?_⟩
    simp only [Option.map_none, g1] at ⊢
    refine SeqD.tup (we_lst cx.gs (wa_nil ⟨Nat.zero_le _, CmpD.ne_s (pl_lbyts []) (iteF (ww_or1 (wt_bool (ww_and (wt_cmp cx.hu ?_)))))⟩))
    have g2 : (feedS ⟨h2.map (·.2), e2, n2⟩ ([126] ++ rowL tl)).2 = (endS ⟨h2.map (·.2), e2, n2⟩).2.toList ++ tl := by
      rw [feedS_app, feed_mark]
      simp only
      rw [(feed_row tl ⟨some [], false, _⟩ (fun z hz => okr z (List.mem_cons_of_mem _ hz)) rfl rfl).1]
    refine we_slice cx.gs (we_list cx.gs L.list rfl (we_meth cx ge (by decide) dc.c Me ?_))
    walk_at "e"
    refine ⟨rfl, rfl, ?_⟩
    walk_at "e"
    refine ⟨sz1 (by simp), ?_⟩
    walk_at "e"
    refine BinD.addB (i := [126]) (j := rowL tl) (by have := rowL_len (pls := tl) fun z hz => (hp.2 z (List.mem_cons_of_mem _ hz)).2.1; have := hp.1; simp at this ⊢; omega) ?_
    walk_at "e"
    refine ⟨q2, h2, e2, n2, [126] ++ rowL tl, _, rfl, by have := rowL_len (pls := tl) fun z hz => (hp.2 z (List.mem_cons_of_mem _ hz)).2.1; have := hp.1; simp at this ⊢; omega, (by rw [heq2]; exact feed_ok none_ok), ⟨_, List.Perm.refl _, List.Sublist.refl _⟩, fun h3 e3 n3 heq3 => ?_⟩
    simp only [g2]
    refine SeqD.tup (show WE _ _ _ _ _ _ _ _ from ?_)
    walk_at "e"
    refine ⟨_, rfl, ?_⟩
    walk_at "e"
    have hneg : (-((List.map byt (bs :: tl)).length : Int) + 1) = -((tl.map byt).length : Int) := by simp; omega
    rw [hneg]
    rw [List.map_cons, cut_tail, List.map_append]
    cases tl with
    | nil =>
      refine CmpD.ne (pl_sub (l := (endS { held := Option.map (fun x => x.snd) h2, esc := e2, dmg := n2 }).snd.toList) fun x hx => by simpa using List.mem_of_mem_drop (List.mem_of_mem_take hx)) (pl_lbyts []) ?_
      generalize (!eqd _ _) = kk
      cases kk with
      | false => exact iteF (iteF (wss_nil (hN _ _ rfl)))
      | true =>
        refine iteT (ww_and1 ?_)
        walk_at "e"
        exact hN _ _ rfl
    | cons b2 t2 =>
      rw [cut_last _ _ (by simp)]
      refine CmpD.ne_s (pl_lbyts (b2 :: t2)) (iteF (iteF (wss_nil (hN _ _ rfl))))
end

end K02
set_option maxRecDepth 100000
set_option maxHeartbeats 4000000

namespace K02
open PySem PySem.Spec PyProof.Rows L2 Wv
open LamX (CodeO TabS Tabs ExtN TabB lamEnv lamCx LamS)
local macro_rules | `(tactic| walk_at "e.name") => `(tactic| first
    | refine we_var 0 _ rfl (by first | exact .inl rfl | exact .inr (.inl rfl) | exact .inr (.inr rfl)) rfl ?_
    | refine we_var 1 _ rfl (by first | exact .inl rfl | exact .inr (.inl rfl) | exact .inr (.inr rfl)) rfl ?_
    | refine we_var 2 _ rfl (by first | exact .inl rfl | exact .inr (.inl rfl) | exact .inr (.inr rfl)) rfl ?_
    | refine we_var 3 _ rfl (by first | exact .inl rfl | exact .inr (.inl rfl) | exact .inr (.inr rfl)) rfl ?_
    | refine we_var 4 _ rfl (by first | exact .inl rfl | exact .inr (.inl rfl) | exact .inr (.inr rfl)) rfl ?_
    | refine we_var 5 _ rfl (by first | exact .inl rfl | exact .inr (.inl rfl) | exact .inr (.inr rfl)) rfl ?_
    | refine we_var 6 _ rfl (by first | exact .inl rfl | exact .inr (.inl rfl) | exact .inr (.inr rfl)) rfl ?_
    | refine we_var 7 _ rfl (by first | exact .inl rfl | exact .inr (.inl rfl) | exact .inr (.inr rfl)) rfl ?_
    | refine we_var 8 _ rfl (by first | exact .inl rfl | exact .inr (.inl rfl) | exact .inr (.inr rfl)) rfl ?_
    | refine we_var 9 _ rfl (by first | exact .inl rfl | exact .inr (.inl rfl) | exact .inr (.inr rfl)) rfl ?_
    | refine we_var 10 _ rfl (by first | exact .inl rfl | exact .inr (.inl rfl) | exact .inr (.inr rfl)) rfl ?_
    | refine we_var 11 _ rfl (by first | exact .inl rfl | exact .inr (.inl rfl) | exact .inr (.inr rfl)) rfl ?_
    | refine we_var 12 _ rfl (by first | exact .inl rfl | exact .inr (.inl rfl) | exact .inr (.inr rfl)) rfl ?_
    | refine we_var 13 _ rfl (by first | exact .inl rfl | exact .inr (.inl rfl) | exact .inr (.inr rfl)) rfl ?_
    | refine we_var 14 _ rfl (by first | exact .inl rfl | exact .inr (.inl rfl) | exact .inr (.inr rfl)) rfl ?_
    | refine we_var 15 _ rfl (by first | exact .inl rfl | exact .inr (.inl rfl) | exact .inr (.inr rfl)) rfl ?_
    | refine we_var 16 _ rfl (by first | exact .inl rfl | exact .inr (.inl rfl) | exact .inr (.inr rfl)) rfl ?_
    | refine we_var 17 _ rfl (by first | exact .inl rfl | exact .inr (.inl rfl) | exact .inr (.inr rfl)) rfl ?_
    | refine we_var 18 _ rfl (by first | exact .inl rfl | exact .inr (.inl rfl) | exact .inr (.inr rfl)) rfl ?_
    | refine we_var 19 _ rfl (by first | exact .inl rfl | exact .inr (.inl rfl) | exact .inr (.inr rfl)) rfl ?_
    | refine we_var 20 _ rfl (by first | exact .inl rfl | exact .inr (.inl rfl) | exact .inr (.inr rfl)) rfl ?_
    | refine we_var 21 _ rfl (by first | exact .inl rfl | exact .inr (.inl rfl) | exact .inr (.inr rfl)) rfl ?_
    | refine we_globI (by assumption) rfl ?_
    | refine we_globS (by assumption) rfl ?_)
local macro_rules | `(tactic| walk_at "e.const") => `(tactic| first
    | refine we_int ?_
    | refine we_str ?_
    | refine we_bl ?_
    | refine we_non ?_)
local macro_rules | `(tactic| walk_at "e.call") => `(tactic| first
    | refine we_len (by assumption) rfl ?_
    | refine we_int2 (by assumption) rfl ?_
    | refine we_tuple (Ct.gs (by assumption)) (by assumption) rfl ?_
    | refine we_abs (by assumption) rfl ?_
    | refine we_find ?_)
local macro_rules | `(tactic| walk_at "e.we") => `(tactic| first
    | (refine gNm ?_; walk_at "e.name")
    | (refine gConst ?_; walk_at "e.const")
    | refine we_bin (Ct.gs (by assumption)) ?_
    | (refine gCall ?_; walk_at "e.call")
    | refine we_cmp (Ct.hu (by assumption)) ?_
    | refine we_ix ?_
    | refine we_slice (Ct.gs (by assumption)) ?_
    | refine we_fld ?_
    | refine we_tup (Ct.gs (by assumption)) ?_
    | refine we_chain (Ct.hu (by assumption)) ?_
    | refine we_lst1 (Ct.gs (by assumption)) ?_
    | refine we_ifx ?_
    | refine we_and ?_
    | refine we_or ?_
    | refine we_one ?_
    | refine we_not ?_
    | refine we_neg ?_)
local macro_rules | `(tactic| walk_at "e.wt") => `(tactic| first
    | refine wt_cmp (Ct.hu (by assumption)) ?_
    | refine wt_chain (Ct.hu (by assumption)) ?_
    | refine wt_not ?_
    | refine wt_bool ?_
    | refine wt_val ?_)
local macro_rules | `(tactic| walk_at "e.ww") => `(tactic| first
    | refine ww_and ?_
    | refine ww_or ?_
    | refine ww_and1 ?_
    | refine ww_or1 ?_)
local macro_rules | `(tactic| walk_at "e.wa") => `(tactic| first
    | refine wa_nil ?_
    | refine wa_cons ?_)
local macro_rules | `(tactic| walk_at "e.wss") => `(tactic| first
    | refine wss_cons ?_
    | refine wss_nil ?_)
local macro_rules | `(tactic| walk_at "e.ws") => `(tactic| first
    | refine ws_if ?_
    | refine ws_expr (we_append (Ct.gs (by assumption)) ?_ (pe_bm PySem.F.plainAttrs_list PySem.F.slot_list_append PySem.F.type_list_append mt_append pe_wp pa_wp))
    | refine ws_expr ?_
    | refine ws_set 0 (Ct.nd (by assumption)) ?_
    | refine ws_set 1 (Ct.nd (by assumption)) ?_
    | refine ws_set 2 (Ct.nd (by assumption)) ?_
    | refine ws_set 3 (Ct.nd (by assumption)) ?_
    | refine ws_set 4 (Ct.nd (by assumption)) ?_
    | refine ws_set 5 (Ct.nd (by assumption)) ?_
    | refine ws_set 6 (Ct.nd (by assumption)) ?_
    | refine ws_set 7 (Ct.nd (by assumption)) ?_
    | refine ws_set 8 (Ct.nd (by assumption)) ?_
    | refine ws_set 9 (Ct.nd (by assumption)) ?_
    | refine ws_set 10 (Ct.nd (by assumption)) ?_
    | refine ws_set 11 (Ct.nd (by assumption)) ?_
    | refine ws_set 12 (Ct.nd (by assumption)) ?_
    | refine ws_set 13 (Ct.nd (by assumption)) ?_
    | refine ws_set 14 (Ct.nd (by assumption)) ?_
    | refine ws_set 15 (Ct.nd (by assumption)) ?_
    | refine ws_set 16 (Ct.nd (by assumption)) ?_
    | refine ws_set 17 (Ct.nd (by assumption)) ?_
    | refine ws_set 18 (Ct.nd (by assumption)) ?_
    | refine ws_set 19 (Ct.nd (by assumption)) ?_
    | refine ws_set 20 (Ct.nd (by assumption)) ?_
    | refine ws_set 21 (Ct.nd (by assumption)) ?_
    | refine ws_sub (Ct.gs (by assumption)) ?_ (fun a b => pg_sub a b set_list)
    | refine ws_fld (Ct.gs (by assumption)) ?_
    | refine ws_pass ?_
    | refine ws_break ?_
    | refine ws_cont ?_)
local macro_rules | `(tactic| walk_at "e.bin") => `(tactic| first
    | refine BinD.addI ?_
    | refine BinD.subI ?_
    | refine BinD.modI (by decide) ?_
    | refine BinD.modI (by assumption) ?_
    | refine BinD.divI (by decide) (by decide) ?_
    | refine BinD.divI (by assumption) (by assumption) ?_
    | refine BinD.mulI (by first | exact .inl ⟨by decide, by decide⟩ | exact .inr ⟨by decide, by decide⟩) ?_
    | refine BinD.xorI ?_
    | refine BinD.powI ⟨by decide, by decide, by decide⟩ ?_)
local macro_rules | `(tactic| walk_at "e.cmp") => `(tactic| first
    | refine CmpD.lt ?_
    | refine CmpD.le ?_
    | refine CmpD.gt ?_
    | refine CmpD.ge ?_
    | refine CmpD.isN ?_
    | refine CmpD.notN ?_
    | refine CmpD.neI_s ?_
    | refine CmpD.neT_s ?_
    | refine CmpD.neZ_s ?_
    | refine CmpD.eqZ_s ?_
    | refine CmpD.neN_s ?_
    | refine CmpD.eqN_s ?_
    | refine CmpD.neTZ ?_
    | refine CmpD.eqTZ ?_
    | refine CmpD.eqI ?_
    | refine CmpD.neI ?_
    | refine CmpD.eqZ ?_
    | refine CmpD.neZ ?_)
local macro_rules | `(tactic| walk_at "e.is") => `(tactic| first
    | refine IsI.mk ?_
    | refine IsT.mk ?_
    | refine IsL.mk ?_
    | refine IsZ.mk ?_
    | refine IsB.mk ?_
    | refine OwL.mk 0 rfl ?_
    | refine OwL.mk 1 rfl ?_
    | refine OwL.mk 2 rfl ?_
    | refine OwL.mk 3 rfl ?_
    | refine OwL.mk 4 rfl ?_
    | refine OwL.mk 5 rfl ?_
    | refine OwI.mk 0 rfl ?_
    | refine OwI.mk 1 rfl ?_
    | refine OwI.mk 2 rfl ?_
    | refine OwI.mk 3 rfl ?_
    | refine OwI.mk 4 rfl ?_
    | refine OwI.mk 5 rfl ?_
    | refine OwI.mk _ (by assumption) ?_
    | refine OwI.mk _ (set_at (by assumption)) ?_
    | refine OwI.mk _ (set_at (set_at (by assumption))) ?_
    | refine OwL.mk _ (by assumption) ?_
    | refine OwL.mk _ (set_at (by assumption)) ?_
    | refine OwL.mk _ (set_at (set_at (by assumption))) ?_
    | refine OwL.mk _ (set_at (set_at (set_at (by assumption)))) ?_
    | refine IxD.own 0 rfl rfl ?_
    | refine IxD.own 1 rfl rfl ?_
    | refine IxD.own 2 rfl rfl ?_
    | refine IxD.own 3 rfl rfl ?_
    | refine IxD.own 4 rfl rfl ?_
    | refine IxD.own 5 rfl rfl ?_
    | refine IxD.own _ (by assumption) rfl ?_
    | refine IxD.own _ (set_at (by assumption)) rfl ?_
    | refine IxD.own _ (set_at (set_at (by assumption))) rfl ?_
    | refine IxD.own _ (set_at (set_at (set_at (by assumption)))) rfl ?_
    | refine IxD.tup rfl ?_
    | refine IxD.lst rfl ?_
    | refine IntD.int ?_
    | refine IntD.bl ?_
    | refine TruD.bl ?_
    | refine TruD.int ?_
    | refine TruD.tup ?_
    | refine TruD.lst ?_
    | refine LenD.tup ?_
    | refine LenD.lst ?_
    | refine SeqD.tup ?_
    | refine SeqD.lst ?_
    | refine SlD.tup ?_
    | refine SlD.lst ?_
    | refine SeqD.own 0 rfl ?_
    | refine SeqD.own 1 rfl ?_
    | refine SeqD.own 2 rfl ?_
    | refine SeqD.own 3 rfl ?_
    | refine SeqD.own 4 rfl ?_
    | refine SeqD.own 5 rfl ?_
    | refine LenD.own 0 rfl ?_
    | refine LenD.own 1 rfl ?_
    | refine LenD.own 2 rfl ?_
    | refine LenD.own 3 rfl ?_
    | refine LenD.own 4 rfl ?_
    | refine LenD.own 5 rfl ?_)
local macro_rules | `(tactic| walk_at "e1") => `(tactic| first
    | (refine gWE ?_; walk_at "e.we")
    | (refine gBinD ?_; walk_at "e.bin")
    | (refine gWSs ?_; walk_at "e.wss")
    | (refine gWS ?_; walk_at "e.ws")
    | (refine gWT ?_; walk_at "e.wt")
    | (refine gCmpD ?_; walk_at "e.cmp")
    | (refine gWA ?_; walk_at "e.wa")
    | (refine gWW ?_; walk_at "e.ww")
    | refine iteT ?_
    | refine iteF ?_
    | walk_at "e.is")
local macro_rules | `(tactic| walk_at "e") => `(tactic| repeat (walk_at "e1"))
section
variable {P : Program} {w : World} {K : PySem.W.Frag} {mg : Str → Option Value} {base : Heap} {T : List (Addr × Str)} {f c C CR : Addr} {A : Around} {outer : List Env} {s : Shared} {H : Hp} {E0 : XK} {W : WX} {M : Ms} {N : En} {p : Addr} {a b m : Int} {pls : List (List Int)} {z0 z4 z5 z6 z7 z8 z9 z10 z11 z12 z13 z14 z15 z16 z17 z18 z19 z20 z21 : Option D}
theorem st_D (L : LawH P w K mg base T C CR) (cx : Ct (XL P w K mg base f c A outer s H E0) (Tabs T) W 7) (hp : PlOk pls) (hN : ∀ M' ρ', ρ'.length = 22 → N.nx M' ρ') :
    WSs (XL P w K mg base f c A outer s H E0) (Tabs T) W (lb.drop 5) ((p, O.lst [I a, I b, I m]) :: M) [z0, some (Rf p), some (.lst (pls.map byt)), some (byt (rowL pls)), z4, z5, z6, z7, z8, z9, z10, z11, z12, z13, z14, z15, z16, z17, z18, z19, z20, z21] N := by
  obtain ⟨fr, mr, gr⟩ := L.roll
  obtain ⟨ff, mf, gf⟩ := L.frame
  obtain ⟨fi, mk, gi⟩ := L.mkr
  obtain ⟨fe, Me, ge⟩ := L.feed
  have dc := L.dc
  have q_len := L.len
  have q_tuple := L.tuple
  refine wss_one (ws_if (wt_cmp cx.hu ?_))
  walk_at "e"
  refine we_lst cx.gs (wa_nil ⟨Nat.zero_le _, ?_⟩)
  cases pls with
  | nil => exact CmpD.neN_s (iteF (wss_nil (hN _ _ rfl)))
  | cons bs tl =>
    refine ne_nil (fun x hx => by obtain ⟨y, _, rfl⟩ := List.mem_map.mp (show x ∈ (bs :: tl).map byt from hx); exact pl_byt _) (iteT ?_)
    obtain ⟨hb1, hb2, hb3⟩ := hp.2 bs List.mem_cons_self
    have hrl : rowL (bs :: tl) = frameL bs ++ rowL tl := rfl
    have hfl := frameL_len (bs := bs)
    have hf6 : 6 ≤ (frameL bs).length := by
      unfold frameL
      have : 4 ≤ (stuffL (bs ++ sumL bs)).length := by
        have h4 : (sumL bs).length = 4 := rfl
        have : ∀ l : List Int, l.length ≤ (stuffL l).length := fun l => by
          induction l with
          | nil => exact Nat.le_refl _
          | cons x l ih =>
            have : 1 ≤ (stuff1 x).length := by unfold stuff1; split <;> simp
            simp only [stuffL, List.length_append, List.length_cons]
            omega
        have := this (bs ++ sumL bs)
        rw [List.length_append, h4] at this
        omega
      simp only [List.length_append, List.length_singleton]
      omega
    refine wss_cons (ws_par 10 11 cx.hc cx.nd ?_ (ps_par cx.hc cx.nd rfl rfl (by decide) rfl rfl pa_wp rfl))
    refine wa_cons (we_call cx gf (by decide) mf rfl ?_)
    walk_at "e"
    refine IxD.lst (d := byt bs) (atI_nat (k := 0) rfl) ?_
    walk_at "e"
    refine ⟨bs, rfl, by omega, fun h => absurd h (by omega), fun _ => ?_⟩
    walk_at "e"
    refine we_call cx gf (by decide) mf rfl ?_
    walk_at "e"
    refine IxD.lst (d := byt bs) (atI_nat (k := 0) rfl) ?_
    walk_at "e"
    refine ⟨bs, rfl, by omega, fun h => absurd h (by omega), fun _ => ?_⟩
    walk_at "e"
    rw [List.length_map, hrl, cut_drop _ _ (by rw [List.length_append]; omega), List.drop_left]
    refine ⟨_, _, rfl, ?_⟩
    walk_at "e"
    refine we_call cx gr (by decide) mr rfl ?_
    walk_at "e"
    rw [List.length_map]
    refine ⟨p, a, b, m, _, 0, rfl, rfl, by omega, by omega, fun a b m r h0 h1 => ?_⟩
    obtain ⟨i, rfl⟩ : ∃ i : Nat, r = (i : Int) := ⟨r.toNat, by omega⟩
    obtain ⟨x, ex⟩ : ∃ x, (frameL bs)[1 + i]? = some x := ⟨_, List.getElem?_eq_getElem (by omega)⟩
    walk_at "e"
    refine IxD.tup (atI_nat (l := (frameL bs).map fun i => I i) (k := 1 + i) (by rw [List.getElem?_map, ex]; rfl)) ?_
    walk_at "e"
    refine we_call cx gr (by decide) mr rfl ?_
    walk_at "e"
    refine ⟨p, a, b, m, _, 0, rfl, rfl, by decide, by decide, fun a b m r2 h2 h3 => ?_⟩
    obtain ⟨x', ex'⟩ : ∃ x, (frameL bs)[i]? = some x := ⟨_, List.getElem?_eq_getElem (by omega)⟩
    generalize hy : (x + 1 + r2) % 256 = y
    have plx : ∀ z ∈ [I 125, I 126], Pl 60 z := fun z hz => by
      simp only [List.mem_cons, List.not_mem_nil, or_false] at hz
      rcases hz with rfl | rfl <;> exact .int _
    have rest : ∀ pb : Bool, (pb = true → ¬ (x = 126 ∨ x = 125) ∧ ¬ (y = 126 ∨ y = 125) ∧ x' ≠ 125) → WSs (XL P w K mg base f c A outer s H E0) (Tabs T) W (lc.drop 4) ((p, O.lst [I a, I b, I m]) :: M) [z0, some (Rf p), some (.lst ((bs :: tl).map byt)), some (byt (frameL bs ++ rowL tl)), z4, z5, z6, z7, z8, z9, some (byt (frameL bs)), some (byt (rowL tl)), some (I (1 + (i : Int))), some (I y), some (B pb), z15, z16, z17, z18, z19, z20, z21] N := by
      intro pb hpb
      have e1 : (1 + (i : Int)) = ((1 + i : Nat) : Int) := by omega
      have e2 : (((1 + i : Nat) : Int)) + 1 = ((1 + i + 1 : Nat) : Int) := by omega
      have rest2 := fun z13 z14 z15 z16 => st_D2 (f := f) (c := c) (A := A) (outer := outer) (s := s) (H := H) (E0 := E0) (W := W) (M := M) (N := N) (p := p) (a := a) (b := b) (m := m) (i := i) (bs := bs) (tl := tl) (z0 := z0) (z4 := z4) (z5 := z5) (z6 := z6) (z7 := z7) (z8 := z8) (z9 := z9) (z13 := z13) (z14 := z14) (z15 := z15) (z16 := z16) (z17 := z17) (z18 := z18) (z19 := z19) (z20 := z20) (z21 := z21) L cx hp (by omega) hN
      rw [e1]
      walk_at "e"
      refine ⟨sz1 (by simp), ?_⟩
      rw [cut_take _ _ (by omega)]
      refine BinD.addB (j := [y]) (by simp; omega) ?_
      walk_at "e"
      rw [e2, cut_drop _ _ (by omega)]
      refine BinD.addB (by simp; omega) ?_
      have eb : (frameL bs).take (1 + i) ++ [y] ++ (frameL bs).drop (1 + i + 1) = (frameL bs).set (1 + i) y := by
        rw [List.set_eq_take_append_cons_drop, if_pos (by omega)]
        simp
      rw [eb]
      refine wss_cons (ws_set 16 cx.nd (we_make0 cx gi (by decide) mk L.dr rfl ?_ init_ret))
      refine fun q => ⟨q, _, rfl, rfl, ?_⟩
      cases pb with
      | false =>
        refine wss_cons (ws_if (wt_bool (ww_and (wt_val (we_var 14 _ rfl (by first | exact .inl rfl | exact .inr (.inl rfl) | exact .inr (.inr rfl)) rfl (TruD.bl (iteF (iteF (wss_nil ?_)))))))))
        refine wss_sp sp_cons ?_
        exact rest2 _ _ _ _
      | true =>
        obtain ⟨hx, hy', hx'⟩ := hpb rfl
        have hil : i < (stuffL (bs ++ sumL bs)).length := by
          have : (frameL bs).length = (stuffL (bs ++ sumL bs)).length + 2 := by unfold frameL; simp
          omega
        have ex2 : (stuffL (bs ++ sumL bs))[i]? = some x := by rw [← frame_at hil]; exact ex
        have hp' : i = 0 ∨ (stuffL (bs ++ sumL bs))[i - 1]? ≠ some 125 := by
          rcases i with _ | i'
          · exact .inl rfl
          · refine .inr ?_
            rw [Nat.add_sub_cancel, ← frame_at (by omega), Nat.add_comm, ex']
            simpa using hx'
        have yr : 0 ≤ y ∧ y < 256 := by omega
        have xr' : 0 ≤ x ∧ x < 256 := by
          obtain ⟨j, j1, _⟩ := bent_stuff _ i x y ex2 hx hy' hp'
          rcases List.mem_append.mp (List.mem_of_getElem? j1) with z | z
          · exact hb3 x z
          · exact sumL_range bs x z
        have fb := feed_bent hb3 (by omega) ex2 hx hy' hp' yr (by omega)
        rw [← frame_set hil] at fb
        obtain ⟨t1, t2⟩ := feed_row tl ⟨some [], false, 1⟩ (fun z hz => ⟨by have := (hp.2 z (List.mem_cons_of_mem _ hz)).2.1; omega, (hp.2 z (List.mem_cons_of_mem _ hz)).2.2⟩) rfl rfl
        have hrt := rowL_len (pls := tl) fun z hz => (hp.2 z (List.mem_cons_of_mem _ hz)).2.1
        have htl : tl.length ≤ 7 := by have := hp.1; simp at this; omega
        have fr : feedS ⟨none, false, 0⟩ ((frameL bs).set (1 + i) y ++ rowL tl) = ((feedS ⟨some [], false, 1⟩ (rowL tl)).1, tl) := by
          rw [feedS_app, fb]
          simp only [List.nil_append]
          rw [t1]
        refine wss_cons (ws_if (wt_bool (ww_and (wt_val (we_var 14 _ rfl (by first | exact .inl rfl | exact .inr (.inl rfl) | exact .inr (.inr rfl)) rfl (TruD.bl (iteT (ww_and1 (wt_bool (ww_or (wt_cmp cx.hu (we_list cx.gs L.list rfl (we_meth cx ge (by decide) dc.c Me ?_)))))))))))))
        walk_at "e"
        refine ⟨rfl, rfl, ?_⟩
        walk_at "e"
        refine BinD.addB (by rw [List.length_set]; omega) ?_
        walk_at "e"
        refine ⟨q, none, false, 0, (frameL bs).set (1 + i) y ++ rowL tl, (p, O.lst [I a, I b, I m]) :: M, rfl, by rw [List.length_append, List.length_set]; omega, none_ok, ⟨_, List.Perm.refl _, List.Sublist.refl _⟩, fun h' e' n' heq => ?_⟩
        simp only [Option.map_none, fr] at heq ⊢
        have hn' : n' = 1 := by
          have := congrArg DS.dmg heq
          simp only at this
          rw [this, t2]
        subst hn'
        refine SeqD.tup ?_
        walk_at "e"
        rw [List.map_cons, cut_tail]
        refine CmpD.ne_s (pl_lbyts tl) (iteF (ww_or1 (wt_cmp cx.hu (we_fld ?_))))
        walk_at "e"
        refine ⟨dc.c, dc.nd, _, rfl, we_int (CmpD.neI_s (iteF (wss_nil ?_)))⟩
        refine wss_sp (M0 := (p, O.lst [I a, I b, I m]) :: M) ⟨_, List.Perm.refl _, List.sublist_append_right _ _⟩ ?_
        exact rest2 _ _ _ _
    walk_at "e"
    rw [hy]
    refine IxD.tup (atI_nat (l := (frameL bs).map fun i => I i) (k := 1 + i) (by rw [List.getElem?_map, ex]; rfl)) ?_
    walk_at "e"
    refine ⟨sz1 (by simp), CmpD.notInL (.int _) plx ?_⟩
    rw [in2']
    refine ⟨_, rfl, ite_nd (fun hx => ?_) (fun hx => ?_)⟩
    · refine we_and (we_cmp cx.hu ?_)
      walk_at "e"
      refine ⟨sz1 (by simp), CmpD.notInL (.int _) plx ?_⟩
      rw [in2']
      refine ⟨_, rfl, ite_nd (fun hx2 => ?_) (fun hx2 => ?_)⟩
      · refine we_one (we_cmp cx.hu ?_)
        walk_at "e"
        rw [show (1 + (i : Int) - 1) = (i : Int) by omega]
        refine IxD.tup (atI_nat (l := (frameL bs).map fun i => I i) (k := i) (by rw [List.getElem?_map, ex']; rfl)) ?_
        refine we_int (CmpD.neI ?_)
        exact rest _ (fun z => ⟨hx, hx2, by simpa using z⟩)
      · exact rest false (fun z => by cases z)
    · exact rest false (fun z => by cases z)
end

end K02
set_option maxRecDepth 100000
set_option maxHeartbeats 4000000

namespace K02
open PySem PySem.Spec PyProof.Rows L2 Wv
open LamX (CodeO TabS Tabs ExtN TabB lamEnv lamCx LamS)
local macro_rules | `(tactic| walk_at "e.name") => `(tactic| first
    | refine we_var 0 _ rfl (by first | exact .inl rfl | exact .inr (.inl rfl) | exact .inr (.inr rfl)) rfl ?_
    | refine we_var 1 _ rfl (by first | exact .inl rfl | exact .inr (.inl rfl) | exact .inr (.inr rfl)) rfl ?_
    | refine we_var 2 _ rfl (by first | exact .inl rfl | exact .inr (.inl rfl) | exact .inr (.inr rfl)) rfl ?_
    | refine we_var 3 _ rfl (by first | exact .inl rfl | exact .inr (.inl rfl) | exact .inr (.inr rfl)) rfl ?_
    | refine we_var 4 _ rfl (by first | exact .inl rfl | exact .inr (.inl rfl) | exact .inr (.inr rfl)) rfl ?_
    | refine we_var 5 _ rfl (by first | exact .inl rfl | exact .inr (.inl rfl) | exact .inr (.inr rfl)) rfl ?_
    | refine we_var 6 _ rfl (by first | exact .inl rfl | exact .inr (.inl rfl) | exact .inr (.inr rfl)) rfl ?_
    | refine we_var 7 _ rfl (by first | exact .inl rfl | exact .inr (.inl rfl) | exact .inr (.inr rfl)) rfl ?_
    | refine we_var 8 _ rfl (by first | exact .inl rfl | exact .inr (.inl rfl) | exact .inr (.inr rfl)) rfl ?_
    | refine we_var 9 _ rfl (by first | exact .inl rfl | exact .inr (.inl rfl) | exact .inr (.inr rfl)) rfl ?_
    | refine we_var 10 _ rfl (by first | exact .inl rfl | exact .inr (.inl rfl) | exact .inr (.inr rfl)) rfl ?_
    | refine we_var 11 _ rfl (by first | exact .inl rfl | exact .inr (.inl rfl) | exact .inr (.inr rfl)) rfl ?_
    | refine we_var 12 _ rfl (by first | exact .inl rfl | exact .inr (.inl rfl) | exact .inr (.inr rfl)) rfl ?_
    | refine we_var 13 _ rfl (by first | exact .inl rfl | exact .inr (.inl rfl) | exact .inr (.inr rfl)) rfl ?_
    | refine we_var 14 _ rfl (by first | exact .inl rfl | exact .inr (.inl rfl) | exact .inr (.inr rfl)) rfl ?_
    | refine we_var 15 _ rfl (by first | exact .inl rfl | exact .inr (.inl rfl) | exact .inr (.inr rfl)) rfl ?_
    | refine we_var 16 _ rfl (by first | exact .inl rfl | exact .inr (.inl rfl) | exact .inr (.inr rfl)) rfl ?_
    | refine we_var 17 _ rfl (by first | exact .inl rfl | exact .inr (.inl rfl) | exact .inr (.inr rfl)) rfl ?_
    | refine we_var 18 _ rfl (by first | exact .inl rfl | exact .inr (.inl rfl) | exact .inr (.inr rfl)) rfl ?_
    | refine we_var 19 _ rfl (by first | exact .inl rfl | exact .inr (.inl rfl) | exact .inr (.inr rfl)) rfl ?_
    | refine we_var 20 _ rfl (by first | exact .inl rfl | exact .inr (.inl rfl) | exact .inr (.inr rfl)) rfl ?_
    | refine we_var 21 _ rfl (by first | exact .inl rfl | exact .inr (.inl rfl) | exact .inr (.inr rfl)) rfl ?_
    | refine we_globI (by assumption) rfl ?_
    | refine we_globS (by assumption) rfl ?_)
local macro_rules | `(tactic| walk_at "e.const") => `(tactic| first
    | refine we_int ?_
    | refine we_str ?_
    | refine we_bl ?_
    | refine we_non ?_)
local macro_rules | `(tactic| walk_at "e.call") => `(tactic| first
    | refine we_len (by assumption) rfl ?_
    | refine we_int2 (by assumption) rfl ?_
    | refine we_tuple (Ct.gs (by assumption)) (by assumption) rfl ?_
    | refine we_abs (by assumption) rfl ?_
    | refine we_find ?_)
local macro_rules | `(tactic| walk_at "e.we") => `(tactic| first
    | (refine gNm ?_; walk_at "e.name")
    | (refine gConst ?_; walk_at "e.const")
    | refine we_bin (Ct.gs (by assumption)) ?_
    | (refine gCall ?_; walk_at "e.call")
    | refine we_cmp (Ct.hu (by assumption)) ?_
    | refine we_ix ?_
    | refine we_slice (Ct.gs (by assumption)) ?_
    | refine we_fld ?_
    | refine we_tup (Ct.gs (by assumption)) ?_
    | refine we_chain (Ct.hu (by assumption)) ?_
    | refine we_lst1 (Ct.gs (by assumption)) ?_
    | refine we_ifx ?_
    | refine we_and ?_
    | refine we_or ?_
    | refine we_one ?_
    | refine we_not ?_
    | refine we_neg ?_)
local macro_rules | `(tactic| walk_at "e.wt") => `(tactic| first
    | refine wt_cmp (Ct.hu (by assumption)) ?_
    | refine wt_chain (Ct.hu (by assumption)) ?_
    | refine wt_not ?_
    | refine wt_bool ?_
    | refine wt_val ?_)
local macro_rules | `(tactic| walk_at "e.ww") => `(tactic| first
    | refine ww_and ?_
    | refine ww_or ?_
    | refine ww_and1 ?_
    | refine ww_or1 ?_)
local macro_rules | `(tactic| walk_at "e.wa") => `(tactic| first
    | refine wa_nil ?_
    | refine wa_cons ?_)
local macro_rules | `(tactic| walk_at "e.wss") => `(tactic| first
    | refine wss_cons ?_
    | refine wss_nil ?_)
local macro_rules | `(tactic| walk_at "e.ws") => `(tactic| first
    | refine ws_if ?_
    | refine ws_expr (we_append (Ct.gs (by assumption)) ?_ (pe_bm PySem.F.plainAttrs_list PySem.F.slot_list_append PySem.F.type_list_append mt_append pe_wp pa_wp))
    | refine ws_expr ?_
    | refine ws_set 0 (Ct.nd (by assumption)) ?_
    | refine ws_set 1 (Ct.nd (by assumption)) ?_
    | refine ws_set 2 (Ct.nd (by assumption)) ?_
    | refine ws_set 3 (Ct.nd (by assumption)) ?_
    | refine ws_set 4 (Ct.nd (by assumption)) ?_
    | refine ws_set 5 (Ct.nd (by assumption)) ?_
    | refine ws_set 6 (Ct.nd (by assumption)) ?_
    | refine ws_set 7 (Ct.nd (by assumption)) ?_
    | refine ws_set 8 (Ct.nd (by assumption)) ?_
    | refine ws_set 9 (Ct.nd (by assumption)) ?_
    | refine ws_set 10 (Ct.nd (by assumption)) ?_
    | refine ws_set 11 (Ct.nd (by assumption)) ?_
    | refine ws_set 12 (Ct.nd (by assumption)) ?_
    | refine ws_set 13 (Ct.nd (by assumption)) ?_
    | refine ws_set 14 (Ct.nd (by assumption)) ?_
    | refine ws_set 15 (Ct.nd (by assumption)) ?_
    | refine ws_set 16 (Ct.nd (by assumption)) ?_
    | refine ws_set 17 (Ct.nd (by assumption)) ?_
    | refine ws_set 18 (Ct.nd (by assumption)) ?_
    | refine ws_set 19 (Ct.nd (by assumption)) ?_
    | refine ws_set 20 (Ct.nd (by assumption)) ?_
    | refine ws_set 21 (Ct.nd (by assumption)) ?_
    | refine ws_sub (Ct.gs (by assumption)) ?_ (fun a b => pg_sub a b set_list)
    | refine ws_fld (Ct.gs (by assumption)) ?_
    | refine ws_pass ?_
    | refine ws_break ?_
    | refine ws_cont ?_)
local macro_rules | `(tactic| walk_at "e.bin") => `(tactic| first
    | refine BinD.addI ?_
    | refine BinD.subI ?_
    | refine BinD.modI (by decide) ?_
    | refine BinD.modI (by assumption) ?_
    | refine BinD.divI (by decide) (by decide) ?_
    | refine BinD.divI (by assumption) (by assumption) ?_
    | refine BinD.mulI (by first | exact .inl ⟨by decide, by decide⟩ | exact .inr ⟨by decide, by decide⟩) ?_
    | refine BinD.xorI ?_
    | refine BinD.powI ⟨by decide, by decide, by decide⟩ ?_)
local macro_rules | `(tactic| walk_at "e.cmp") => `(tactic| first
    | refine CmpD.lt ?_
    | refine CmpD.le ?_
    | refine CmpD.gt ?_
    | refine CmpD.ge ?_
    | refine CmpD.isN ?_
    | refine CmpD.notN ?_
    | refine CmpD.neI_s ?_
    | refine CmpD.neT_s ?_
    | refine CmpD.neZ_s ?_
    | refine CmpD.eqZ_s ?_
    | refine CmpD.neN_s ?_
    | refine CmpD.eqN_s ?_
    | refine CmpD.neTZ ?_
    | refine CmpD.eqTZ ?_
    | refine CmpD.eqI ?_
    | refine CmpD.neI ?_
    | refine CmpD.eqZ ?_
    | refine CmpD.neZ ?_)
local macro_rules | `(tactic| walk_at "e.is") => `(tactic| first
    | refine IsI.mk ?_
    | refine IsT.mk ?_
    | refine IsL.mk ?_
    | refine IsZ.mk ?_
    | refine IsB.mk ?_
    | refine OwL.mk 0 rfl ?_
    | refine OwL.mk 1 rfl ?_
    | refine OwL.mk 2 rfl ?_
    | refine OwL.mk 3 rfl ?_
    | refine OwL.mk 4 rfl ?_
    | refine OwL.mk 5 rfl ?_
    | refine OwI.mk 0 rfl ?_
    | refine OwI.mk 1 rfl ?_
    | refine OwI.mk 2 rfl ?_
    | refine OwI.mk 3 rfl ?_
    | refine OwI.mk 4 rfl ?_
    | refine OwI.mk 5 rfl ?_
    | refine OwI.mk _ (by assumption) ?_
    | refine OwI.mk _ (set_at (by assumption)) ?_
    | refine OwI.mk _ (set_at (set_at (by assumption))) ?_
    | refine OwL.mk _ (by assumption) ?_
    | refine OwL.mk _ (set_at (by assumption)) ?_
    | refine OwL.mk _ (set_at (set_at (by assumption))) ?_
    | refine OwL.mk _ (set_at (set_at (set_at (by assumption)))) ?_
    | refine IxD.own 0 rfl rfl ?_
    | refine IxD.own 1 rfl rfl ?_
    | refine IxD.own 2 rfl rfl ?_
    | refine IxD.own 3 rfl rfl ?_
    | refine IxD.own 4 rfl rfl ?_
    | refine IxD.own 5 rfl rfl ?_
    | refine IxD.own _ (by assumption) rfl ?_
    | refine IxD.own _ (set_at (by assumption)) rfl ?_
    | refine IxD.own _ (set_at (set_at (by assumption))) rfl ?_
    | refine IxD.own _ (set_at (set_at (set_at (by assumption)))) rfl ?_
    | refine IxD.tup rfl ?_
    | refine IxD.lst rfl ?_
    | refine IntD.int ?_
    | refine IntD.bl ?_
    | refine TruD.bl ?_
    | refine TruD.int ?_
    | refine TruD.tup ?_
    | refine TruD.lst ?_
    | refine LenD.tup ?_
    | refine LenD.lst ?_
    | refine SeqD.tup ?_
    | refine SeqD.lst ?_
    | refine SlD.tup ?_
    | refine SlD.lst ?_
    | refine SeqD.own 0 rfl ?_
    | refine SeqD.own 1 rfl ?_
    | refine SeqD.own 2 rfl ?_
    | refine SeqD.own 3 rfl ?_
    | refine SeqD.own 4 rfl ?_
    | refine SeqD.own 5 rfl ?_
    | refine LenD.own 0 rfl ?_
    | refine LenD.own 1 rfl ?_
    | refine LenD.own 2 rfl ?_
    | refine LenD.own 3 rfl ?_
    | refine LenD.own 4 rfl ?_
    | refine LenD.own 5 rfl ?_)
local macro_rules | `(tactic| walk_at "e1") => `(tactic| first
    | (refine gWE ?_; walk_at "e.we")
    | (refine gBinD ?_; walk_at "e.bin")
    | (refine gWSs ?_; walk_at "e.wss")
    | (refine gWS ?_; walk_at "e.ws")
    | (refine gWT ?_; walk_at "e.wt")
    | (refine gCmpD ?_; walk_at "e.cmp")
    | (refine gWA ?_; walk_at "e.wa")
    | (refine gWW ?_; walk_at "e.ww")
    | refine iteT ?_
    | refine iteF ?_
    | walk_at "e.is")
local macro_rules | `(tactic| walk_at "e") => `(tactic| repeat (walk_at "e1"))
theorem fn_law {P : Program} {w : World} {K : PySem.W.Frag} {mg : Str → Option Value} {base : Heap} {T : List (Addr × Str)} {f c Pt C CR : Addr} {fd : FuncData} (F : FunT K "law" "law" s_law f fd c) (L : LawH P w K mg base T C CR) (TB : TabB base mg c Pt) (hT : (Pt, Str.ofString "law.<locals>.<lambda>") ∈ T) (hu : ∀ p ∈ T, p.1 = Pt → p.2 = Str.ofString "law.<locals>.<lambda>") : FnOk P w K mg base (L2N.CX P w) 8 f fd ["script"] (spOf (Tabs T) K (S_law K)) := by
  refine fnok_ofT F sc_law (gst_tabs T) (fun ds M xr R h => by obtain ⟨d, cs, rfl, _⟩ := h; rfl) ?_
  rintro X W M ds xr R ⟨A, outer, s, H, E0, rfl⟩ cx ⟨d, cs, rfl, hd, hok⟩
  have TX : TabX (XL P w K mg base f c A outer s H E0) T "<lambda>" := ⟨c, Pt, TB, rfl, hT, hu⟩
  obtain ⟨fo, mo, go⟩ := L.rounds
  refine wss_cons (ws_forL cx (pgn 1 cx.nd) (gok_name 1) (fun l i M' ρ' => (i = 0 ∧ (∃ p a b m, l = [Rf p] ∧ M' = (p, O.lst [I a, I b, I m]) :: M ∧ ρ' = startD N_law [d])) ∨ (i = 1 ∧ ρ'.length = 22)) (wi_lst ?_))
  refine we_call cx go (by decide) mo rfl ?_
  walk_at "e"
  refine ⟨d, cs, rfl, hd, fun p a b m => ?_⟩
  refine IsL.mk ⟨.inl ⟨rfl, p, a, b, m, rfl, rfl, rfl⟩, ?_, ?_⟩
  · rintro i z hz M' ρ' hj
    rcases hj with ⟨rfl, p', a, b, m, hl, rfl, rfl⟩ | ⟨rfl, _⟩
    · cases hl
      cases hz
      refine st_A L cx fun pls a b m z4 z5 hp => ?_
      refine st_B L cx ?_ fun q h e n a b m pl z9 hs => ?_
      · have := rowL_len (pls := pls) fun x hx => (hp.2 x hx).2.1
        have := hp.1
        omega
      · exact st_C L cx hp hs (st_D L cx hp fun M' ρ' h => .inr ⟨rfl, h⟩)
    · cases hz
  · rintro M' ρ' hj
    rcases hj with ⟨hz, _⟩ | ⟨_, hl⟩
    · cases hz
    · obtain ⟨z0, z1, z2, z3, z4, z5, z6, z7, z8, z9, z10, z11, z12, z13, z14, z15, z16, z17, z18, z19, z20, z21, rfl⟩ : ∃ z0 z1 z2 z3 z4 z5 z6 z7 z8 z9 z10 z11 z12 z13 z14 z15 z16 z17 z18 z19 z20 z21, ρ' = [z0, z1, z2, z3, z4, z5, z6, z7, z8, z9, z10, z11, z12, z13, z14, z15, z16, z17, z18, z19, z20, z21] := by
        rcases ρ' with _ | ⟨z0, _ | ⟨z1, _ | ⟨z2, _ | ⟨z3, _ | ⟨z4, _ | ⟨z5, _ | ⟨z6, _ | ⟨z7, _ | ⟨z8, _ | ⟨z9, _ | ⟨z10, _ | ⟨z11, _ | ⟨z12, _ | ⟨z13, _ | ⟨z14, _ | ⟨z15, _ | ⟨z16, _ | ⟨z17, _ | ⟨z18, _ | ⟨z19, _ | ⟨z20, _ | ⟨z21, _ | ⟨z22, r⟩⟩⟩⟩⟩⟩⟩⟩⟩⟩⟩⟩⟩⟩⟩⟩⟩⟩⟩⟩⟩⟩⟩ <;> simp at hl
        exact ⟨_, _, _, _, _, _, _, _, _, _, _, _, _, _, _, _, _, _, _, _, _, _, rfl⟩
      exact st_X L cx TX hok

end K02
set_option maxRecDepth 100000
set_option maxHeartbeats 4000000

namespace K02
open PySem PySem.Spec PyProof.Rows L2 Wv
open LamX (CodeO TabS Tabs ExtN TabB lamEnv lamCx LamS)
local macro_rules | `(tactic| walk_at "e.name") => `(tactic| first
    | refine we_var 0 _ rfl (by first | exact .inl rfl | exact .inr (.inl rfl) | exact .inr (.inr rfl)) rfl ?_
    | refine we_var 1 _ rfl (by first | exact .inl rfl | exact .inr (.inl rfl) | exact .inr (.inr rfl)) rfl ?_
    | refine we_var 2 _ rfl (by first | exact .inl rfl | exact .inr (.inl rfl) | exact .inr (.inr rfl)) rfl ?_
    | refine we_var 3 _ rfl (by first | exact .inl rfl | exact .inr (.inl rfl) | exact .inr (.inr rfl)) rfl ?_
    | refine we_var 4 _ rfl (by first | exact .inl rfl | exact .inr (.inl rfl) | exact .inr (.inr rfl)) rfl ?_
    | refine we_var 5 _ rfl (by first | exact .inl rfl | exact .inr (.inl rfl) | exact .inr (.inr rfl)) rfl ?_
    | refine we_var 6 _ rfl (by first | exact .inl rfl | exact .inr (.inl rfl) | exact .inr (.inr rfl)) rfl ?_
    | refine we_var 7 _ rfl (by first | exact .inl rfl | exact .inr (.inl rfl) | exact .inr (.inr rfl)) rfl ?_
    | refine we_var 8 _ rfl (by first | exact .inl rfl | exact .inr (.inl rfl) | exact .inr (.inr rfl)) rfl ?_
    | refine we_var 9 _ rfl (by first | exact .inl rfl | exact .inr (.inl rfl) | exact .inr (.inr rfl)) rfl ?_
    | refine we_var 10 _ rfl (by first | exact .inl rfl | exact .inr (.inl rfl) | exact .inr (.inr rfl)) rfl ?_
    | refine we_var 11 _ rfl (by first | exact .inl rfl | exact .inr (.inl rfl) | exact .inr (.inr rfl)) rfl ?_
    | refine we_var 12 _ rfl (by first | exact .inl rfl | exact .inr (.inl rfl) | exact .inr (.inr rfl)) rfl ?_
    | refine we_var 13 _ rfl (by first | exact .inl rfl | exact .inr (.inl rfl) | exact .inr (.inr rfl)) rfl ?_
    | refine we_var 14 _ rfl (by first | exact .inl rfl | exact .inr (.inl rfl) | exact .inr (.inr rfl)) rfl ?_
    | refine we_var 15 _ rfl (by first | exact .inl rfl | exact .inr (.inl rfl) | exact .inr (.inr rfl)) rfl ?_
    | refine we_var 16 _ rfl (by first | exact .inl rfl | exact .inr (.inl rfl) | exact .inr (.inr rfl)) rfl ?_
    | refine we_var 17 _ rfl (by first | exact .inl rfl | exact .inr (.inl rfl) | exact .inr (.inr rfl)) rfl ?_
    | refine we_var 18 _ rfl (by first | exact .inl rfl | exact .inr (.inl rfl) | exact .inr (.inr rfl)) rfl ?_
    | refine we_var 19 _ rfl (by first | exact .inl rfl | exact .inr (.inl rfl) | exact .inr (.inr rfl)) rfl ?_
    | refine we_var 20 _ rfl (by first | exact .inl rfl | exact .inr (.inl rfl) | exact .inr (.inr rfl)) rfl ?_
    | refine we_var 21 _ rfl (by first | exact .inl rfl | exact .inr (.inl rfl) | exact .inr (.inr rfl)) rfl ?_
    | refine we_globI (by assumption) rfl ?_
    | refine we_globS (by assumption) rfl ?_)
local macro_rules | `(tactic| walk_at "e.const") => `(tactic| first
    | refine we_int ?_
    | refine we_str ?_
    | refine we_bl ?_
    | refine we_non ?_)
local macro_rules | `(tactic| walk_at "e.call") => `(tactic| first
    | refine we_len (by assumption) rfl ?_
    | refine we_int2 (by assumption) rfl ?_
    | refine we_tuple (Ct.gs (by assumption)) (by assumption) rfl ?_
    | refine we_abs (by assumption) rfl ?_
    | refine we_find ?_)
local macro_rules | `(tactic| walk_at "e.we") => `(tactic| first
    | (refine gNm ?_; walk_at "e.name")
    | (refine gConst ?_; walk_at "e.const")
    | refine we_bin (Ct.gs (by assumption)) ?_
    | (refine gCall ?_; walk_at "e.call")
    | refine we_cmp (Ct.hu (by assumption)) ?_
    | refine we_ix ?_
    | refine we_slice (Ct.gs (by assumption)) ?_
    | refine we_fld ?_
    | refine we_tup (Ct.gs (by assumption)) ?_
    | refine we_chain (Ct.hu (by assumption)) ?_
    | refine we_lst1 (Ct.gs (by assumption)) ?_
    | refine we_ifx ?_
    | refine we_and ?_
    | refine we_or ?_
    | refine we_one ?_
    | refine we_not ?_
    | refine we_neg ?_)
local macro_rules | `(tactic| walk_at "e.wt") => `(tactic| first
    | refine wt_cmp (Ct.hu (by assumption)) ?_
    | refine wt_chain (Ct.hu (by assumption)) ?_
    | refine wt_not ?_
    | refine wt_bool ?_
    | refine wt_val ?_)
local macro_rules | `(tactic| walk_at "e.ww") => `(tactic| first
    | refine ww_and ?_
    | refine ww_or ?_
    | refine ww_and1 ?_
    | refine ww_or1 ?_)
local macro_rules | `(tactic| walk_at "e.wa") => `(tactic| first
    | refine wa_nil ?_
    | refine wa_cons ?_)
local macro_rules | `(tactic| walk_at "e.wss") => `(tactic| first
    | refine wss_cons ?_
    | refine wss_nil ?_)
local macro_rules | `(tactic| walk_at "e.ws") => `(tactic| first
    | refine ws_if ?_
    | refine ws_expr (we_append (Ct.gs (by assumption)) ?_ (pe_bm PySem.F.plainAttrs_list PySem.F.slot_list_append PySem.F.type_list_append mt_append pe_wp pa_wp))
    | refine ws_expr ?_
    | refine ws_set 0 (Ct.nd (by assumption)) ?_
    | refine ws_set 1 (Ct.nd (by assumption)) ?_
    | refine ws_set 2 (Ct.nd (by assumption)) ?_
    | refine ws_set 3 (Ct.nd (by assumption)) ?_
    | refine ws_set 4 (Ct.nd (by assumption)) ?_
    | refine ws_set 5 (Ct.nd (by assumption)) ?_
    | refine ws_set 6 (Ct.nd (by assumption)) ?_
    | refine ws_set 7 (Ct.nd (by assumption)) ?_
    | refine ws_set 8 (Ct.nd (by assumption)) ?_
    | refine ws_set 9 (Ct.nd (by assumption)) ?_
    | refine ws_set 10 (Ct.nd (by assumption)) ?_
    | refine ws_set 11 (Ct.nd (by assumption)) ?_
    | refine ws_set 12 (Ct.nd (by assumption)) ?_
    | refine ws_set 13 (Ct.nd (by assumption)) ?_
    | refine ws_set 14 (Ct.nd (by assumption)) ?_
    | refine ws_set 15 (Ct.nd (by assumption)) ?_
    | refine ws_set 16 (Ct.nd (by assumption)) ?_
    | refine ws_set 17 (Ct.nd (by assumption)) ?_
    | refine ws_set 18 (Ct.nd (by assumption)) ?_
    | refine ws_set 19 (Ct.nd (by assumption)) ?_
    | refine ws_set 20 (Ct.nd (by assumption)) ?_
    | refine ws_set 21 (Ct.nd (by assumption)) ?_
    | refine ws_sub (Ct.gs (by assumption)) ?_ (fun a b => pg_sub a b set_list)
    | refine ws_fld (Ct.gs (by assumption)) ?_
    | refine ws_pass ?_
    | refine ws_break ?_
    | refine ws_cont ?_)
local macro_rules | `(tactic| walk_at "e.bin") => `(tactic| first
    | refine BinD.addI ?_
    | refine BinD.subI ?_
    | refine BinD.modI (by decide) ?_
    | refine BinD.modI (by assumption) ?_
    | refine BinD.divI (by decide) (by decide) ?_
    | refine BinD.divI (by assumption) (by assumption) ?_
    | refine BinD.mulI (by first | exact .inl ⟨by decide, by decide⟩ | exact .inr ⟨by decide, by decide⟩) ?_
    | refine BinD.xorI ?_
    | refine BinD.powI ⟨by decide, by decide, by decide⟩ ?_)
local macro_rules | `(tactic| walk_at "e.cmp") => `(tactic| first
    | refine CmpD.lt ?_
    | refine CmpD.le ?_
    | refine CmpD.gt ?_
    | refine CmpD.ge ?_
    | refine CmpD.isN ?_
    | refine CmpD.notN ?_
    | refine CmpD.neI_s ?_
    | refine CmpD.neT_s ?_
    | refine CmpD.neZ_s ?_
    | refine CmpD.eqZ_s ?_
    | refine CmpD.neN_s ?_
    | refine CmpD.eqN_s ?_
    | refine CmpD.neTZ ?_
    | refine CmpD.eqTZ ?_
    | refine CmpD.eqI ?_
    | refine CmpD.neI ?_
    | refine CmpD.eqZ ?_
    | refine CmpD.neZ ?_)
local macro_rules | `(tactic| walk_at "e.is") => `(tactic| first
    | refine IsI.mk ?_
    | refine IsT.mk ?_
    | refine IsL.mk ?_
    | refine IsZ.mk ?_
    | refine IsB.mk ?_
    | refine OwL.mk 0 rfl ?_
    | refine OwL.mk 1 rfl ?_
    | refine OwL.mk 2 rfl ?_
    | refine OwL.mk 3 rfl ?_
    | refine OwL.mk 4 rfl ?_
    | refine OwL.mk 5 rfl ?_
    | refine OwI.mk 0 rfl ?_
    | refine OwI.mk 1 rfl ?_
    | refine OwI.mk 2 rfl ?_
    | refine OwI.mk 3 rfl ?_
    | refine OwI.mk 4 rfl ?_
    | refine OwI.mk 5 rfl ?_
    | refine OwI.mk _ (by assumption) ?_
    | refine OwI.mk _ (set_at (by assumption)) ?_
    | refine OwI.mk _ (set_at (set_at (by assumption))) ?_
    | refine OwL.mk _ (by assumption) ?_
    | refine OwL.mk _ (set_at (by assumption)) ?_
    | refine OwL.mk _ (set_at (set_at (by assumption))) ?_
    | refine OwL.mk _ (set_at (set_at (set_at (by assumption)))) ?_
    | refine IxD.own 0 rfl rfl ?_
    | refine IxD.own 1 rfl rfl ?_
    | refine IxD.own 2 rfl rfl ?_
    | refine IxD.own 3 rfl rfl ?_
    | refine IxD.own 4 rfl rfl ?_
    | refine IxD.own 5 rfl rfl ?_
    | refine IxD.own _ (by assumption) rfl ?_
    | refine IxD.own _ (set_at (by assumption)) rfl ?_
    | refine IxD.own _ (set_at (set_at (by assumption))) rfl ?_
    | refine IxD.own _ (set_at (set_at (set_at (by assumption)))) rfl ?_
    | refine IxD.tup rfl ?_
    | refine IxD.lst rfl ?_
    | refine IntD.int ?_
    | refine IntD.bl ?_
    | refine TruD.bl ?_
    | refine TruD.int ?_
    | refine TruD.tup ?_
    | refine TruD.lst ?_
    | refine LenD.tup ?_
    | refine LenD.lst ?_
    | refine SeqD.tup ?_
    | refine SeqD.lst ?_
    | refine SlD.tup ?_
    | refine SlD.lst ?_
    | refine SeqD.own 0 rfl ?_
    | refine SeqD.own 1 rfl ?_
    | refine SeqD.own 2 rfl ?_
    | refine SeqD.own 3 rfl ?_
    | refine SeqD.own 4 rfl ?_
    | refine SeqD.own 5 rfl ?_
    | refine LenD.own 0 rfl ?_
    | refine LenD.own 1 rfl ?_
    | refine LenD.own 2 rfl ?_
    | refine LenD.own 3 rfl ?_
    | refine LenD.own 4 rfl ?_
    | refine LenD.own 5 rfl ?_)
local macro_rules | `(tactic| walk_at "e1") => `(tactic| first
    | (refine gWE ?_; walk_at "e.we")
    | (refine gBinD ?_; walk_at "e.bin")
    | (refine gWSs ?_; walk_at "e.wss")
    | (refine gWS ?_; walk_at "e.ws")
    | (refine gWT ?_; walk_at "e.wt")
    | (refine gCmpD ?_; walk_at "e.cmp")
    | (refine gWA ?_; walk_at "e.wa")
    | (refine gWW ?_; walk_at "e.ww")
    | refine iteT ?_
    | refine iteF ?_
    | walk_at "e.is")
local macro_rules | `(tactic| walk_at "e") => `(tactic| repeat (walk_at "e1"))
section
variable {P : Program} {w : World} {K : PySem.W.Frag} {mg : Str → Option Value} {base : Heap} {T : List (Addr × Str)}
/-- the script, as the law gets it -/
theorem law_sp {H : Hp} {a : Addr} {ns : List Int} (hT : Tabs T H) (hS : SqL K H a (ns.map V.int)) : spOf (Tabs T) K (S_law K) [.ref a] H (fun v _ => v = .bl true) fun _ _ _ => False := by
  have hr : ∀ (Y : List Addr) (H : Hp), RpL K Y H (ns.map V.int) (ns.map fun i => I i) := fun Y H => by
    have := RpL.raws_mk (K := K) (X := Y) (H := H) (ns.map V.int)
    rw [List.map_map] at this
    exact this
  have fin : ∀ M' d v H', (fun (_ : Ms) (d : D) => d = B true) M' d → AtM (Tabs T) K M' H' → Mv [] H M' H' → Rp K (dom M') H' v d → v = .bl true := fun M' d v H' hd _ _ r => by
    subst hd
    exact r.raw_inv
  rcases hS with (hS | ⟨o, hS⟩) | hS
  · refine ⟨[], [.lst (ns.map fun i => I i)], fun _ _ => False, fun _ d => d = B true, ⟨hT, List.nodup_nil, fun p hp => absurd hp (by simp)⟩, .cons (.lst hS (by simp) (hr _ _)) .nil, ⟨_, ns, rfl, .lst, fun _ => rfl⟩, fun M' d v H' hd a m r => ?_, fun _ _ _ h => h.elim⟩
    subst hd
    exact r.raw_inv
  · refine ⟨[(a, .frz o (ns.map fun i => I i))], [Rf a], fun _ _ => False, fun _ d => d = B true, ⟨hT, by simp, fun p hp => ?_⟩, .cons (.raw _) .nil, ⟨_, ns, rfl, .frz 0 rfl, fun _ => rfl⟩, fun M' d v H' hd a m r => ?_, fun _ _ _ h => h.elim⟩
    · rw [List.mem_singleton] at hp
      subst hp
      exact ⟨_, hS, hr _ _⟩
    · subst hd
      exact r.raw_inv
  · refine ⟨[], [Rf a], fun _ _ => False, fun _ d => d = B true, ⟨hT, List.nodup_nil, fun p hp => absurd hp (by simp)⟩, .cons (.raw _) .nil, ⟨_, ns, rfl, .ko hS, fun _ => rfl⟩, fun M' d v H' hd a m r => ?_, fun _ _ _ h => h.elim⟩
    subst hd
    exact r.raw_inv
theorem tabs0 {H : Hp} (h : ∀ p ∈ T, H p.1 = some (.tbl #[])) : Tabs T H := fun p hp => ⟨#[], h p hp, True.intro, fun _ _ z => by cases z⟩
theorem uniq_of {α β : Type} {T : List (α × β)} {a : α} {b : β} (h : (a, b) ∈ T) (n : (T.map (·.1)).Nodup) : ∀ p ∈ T, p.1 = a → p.2 = b := by
  induction T with
  | nil => cases h
  | cons q T ih =>
    intro p hp e
    rw [List.map_cons, List.nodup_cons] at n
    rcases List.mem_cons.mp hp with rfl | hp
    · rcases List.mem_cons.mp h with h | h
      · rw [← h]
      · have z := List.mem_map_of_mem (f := (·.1)) h
        exact absurd (show p.1 ∈ T.map (·.1) by rw [e]; exact z) n.1
    · rcases List.mem_cons.mp h with h | h
      · have z : q.1 = p.1 := by rw [← h]; exact e.symm
        rw [z] at n
        exact absurd (List.mem_map_of_mem (f := (·.1)) hp) n.1
      · exact ih h n.2 p hp e
/-- a class names itself in «except» -/
theorem exm_one {K : PySem.W.Frag} {S : Addr} (b : PySem.W.subIn K (.ref S) (.type "BaseException") = some true) (i : PySem.W.isClsIn K S = true) (t : PySem.W.typeIn K (.ref S) = some (.type "type")) (s : PySem.W.subIn K (.ref S) (.ref S) = some true) : PySem.W.exmOne K (.ref S) (.ref S) = some true := by
  have i' : (PySem.W.clsIn K S).isSome = true := i
  unfold PySem.W.exmOne PySem.W.kitCls
  simp [b, i', t, s]
theorem all_mk {l : PySem.W.OpenLaw} {w : World} {K : PySem.W.Frag} {h : Heap} {mg : Str → Option Value} {fa C CR : Addr} {tSUM_BASE tMARK tESCAPE tFLIPPED_BIT tMOST_PAYLOAD tSUM_SIZE tMOST_HELD : Tok} (X : K.In h) (G : h.Ns mainGlobals mg) (hfa : mg "law" = some (.ref fa))
    (T_w : TabAt mg h "law")
    {cd_ts : Value}
    {f_ts : Addr} {oc_ts kV_ts dc_ts pm_ts ct_ts : Value} {od_ts an_ts : Option Addr} {sl_ts : Array (Option Value)}
    {cd_s : Value}
    {f_s : Addr} {oc_s kV_s dc_s pm_s ct_s : Value} {od_s an_s : Option Addr} {sl_s : Array (Option Value)}
    {cd_x : Value}
    {f_x : Addr} {oc_x kV_x dc_x pm_x ct_x : Value} {od_x an_x : Option Addr} {sl_x : Array (Option Value)}
    {cd_u : Value}
    {f_u : Addr} {oc_u kV_u dc_u pm_u ct_u : Value} {od_u an_u : Option Addr} {sl_u : Array (Option Value)}
    {cd_fr : Value}
    {f_fr : Addr} {oc_fr kV_fr dc_fr pm_fr ct_fr : Value} {od_fr an_fr : Option Addr} {sl_fr : Array (Option Value)}
    {cd_pi : Value}
    {f_pi : Addr} {oc_pi kV_pi dc_pi pm_pi ct_pi : Value} {od_pi an_pi : Option Addr} {sl_pi : Array (Option Value)}
    {cd_d : Value}
    {f_d : Addr} {oc_d kV_d dc_d pm_d ct_d : Value} {od_d an_d : Option Addr} {sl_d : Array (Option Value)}
    {cd_r : Value}
    {f_r : Addr} {oc_r kV_r dc_r pm_r ct_r : Value} {od_r an_r : Option Addr} {sl_r : Array (Option Value)}
    {cd_o : Value}
    {f_o : Addr} {oc_o kV_o dc_o pm_o ct_o : Value} {od_o an_o : Option Addr} {sl_o : Array (Option Value)}
    {cd_t : Value}
    {f_t : Addr} {oc_t kV_t dc_t pm_t ct_t : Value} {od_t an_t : Option Addr} {sl_t : Array (Option Value)}
    {cd_ls : Value}
    {f_ls : Addr} {oc_ls kV_ls dc_ls pm_ls ct_ls : Value} {od_ls an_ls : Option Addr} {sl_ls : Array (Option Value)}
    {cd_lf : Value}
    {f_lf : Addr} {oc_lf kV_lf dc_lf pm_lf ct_lf : Value} {od_lf an_lf : Option Addr} {sl_lf : Array (Option Value)}
    {z_w P_w : Addr} {ec_w : Value} {dd_w : Option Addr} {vc_w : Array Value} {sc_w : Array (Option Value)}
    {f_w : Addr} {oc_w kV_w dc_w pm_w ct_w : Value} {od_w an_w : Option Addr} {sl_w : Array (Option Value)}
    {cd_mi : Value}
    {f_mi : Addr} {oc_mi kV_mi dc_mi pm_mi ct_mi : Value} {od_mi an_mi : Option Addr} {sl_mi : Array (Option Value)}
    {cd_mt : Value}
    {f_mt : Addr} {oc_mt kV_mt dc_mt pm_mt ct_mt : Value} {od_mt an_mt : Option Addr} {sl_mt : Array (Option Value)}
    {cd_ma : Value}
    {f_ma : Addr} {oc_ma kV_ma dc_ma pm_ma ct_ma : Value} {od_ma an_ma : Option Addr} {sl_ma : Array (Option Value)}
    {cd_mb : Value}
    {f_mb : Addr} {oc_mb kV_mb dc_mb pm_mb ct_mb : Value} {od_mb an_mb : Option Addr} {sl_mb : Array (Option Value)}
    {cd_me : Value}
    {f_me : Addr} {oc_me kV_me dc_me pm_me ct_me : Value} {od_me an_me : Option Addr} {sl_me : Array (Option Value)}
    {cd_mf : Value}
    {f_mf : Addr} {oc_mf kV_mf dc_mf pm_mf ct_mf : Value} {od_mf an_mf : Option Addr} {sl_mf : Array (Option Value)}
    (gPC : PySem.W.nsIn K mainGlobals "OctetError" = some (some (.ref C)))
    (xPC : PySem.W.excIn K C [.type "ValueError", .type "Exception", .type "BaseException", .type "object"] "ValueError.__new__" = true)
    (kPC : PySem.W.keepIn K (.ref C) = true)
    (bPC : PySem.W.subIn K (.ref C) (.type "BaseException") = some true)
    (tPC : PySem.W.typeIn K (.ref C) = some (.type "type"))
    (iPC : PySem.W.isClsIn K C = true)
    (sPC : PySem.W.subIn K (.ref C) (.ref C) = some true)
    (a_ts : PySem.W.nsIn K mainGlobals "told_sums" = some (some (.ref f_ts)))
    (l_ts : K.lookup f_ts = some ⟨oc_ts, od_ts, .func (PySem.W.fnOf "told_sums" "told_sums" (defArgs s_told_sums) (defBody s_told_sums) (defScope s_told_sums) .none kV_ts dc_ts pm_ts an_ts cd_ts ct_ts), sl_ts⟩)
    (c_ts : PySem.W.codeIn K cd_ts "told_sums" = true)
    (k_ts : PySem.W.keepIn K (.ref f_ts) = true)
    (a_s : PySem.W.nsIn K mainGlobals "sum_bytes" = some (some (.ref f_s)))
    (l_s : K.lookup f_s = some ⟨oc_s, od_s, .func (PySem.W.fnOf "sum_bytes" "sum_bytes" (defArgs s_sum_bytes) (defBody s_sum_bytes) (defScope s_sum_bytes) .none kV_s dc_s pm_s an_s cd_s ct_s), sl_s⟩)
    (c_s : PySem.W.codeIn K cd_s "sum_bytes" = true)
    (k_s : PySem.W.keepIn K (.ref f_s) = true)
    (a_x : PySem.W.nsIn K mainGlobals "escaped_bytes" = some (some (.ref f_x)))
    (l_x : K.lookup f_x = some ⟨oc_x, od_x, .func (PySem.W.fnOf "escaped_bytes" "escaped_bytes" (defArgs s_escaped_bytes) (defBody s_escaped_bytes) (defScope s_escaped_bytes) .none kV_x dc_x pm_x an_x cd_x ct_x), sl_x⟩)
    (c_x : PySem.W.codeIn K cd_x "escaped_bytes" = true)
    (k_x : PySem.W.keepIn K (.ref f_x) = true)
    (a_u : PySem.W.nsIn K mainGlobals "stuffed" = some (some (.ref f_u)))
    (l_u : K.lookup f_u = some ⟨oc_u, od_u, .func (PySem.W.fnOf "stuffed" "stuffed" (defArgs s_stuffed) (defBody s_stuffed) (defScope s_stuffed) .none kV_u dc_u pm_u an_u cd_u ct_u), sl_u⟩)
    (c_u : PySem.W.codeIn K cd_u "stuffed" = true)
    (k_u : PySem.W.keepIn K (.ref f_u) = true)
    (a_fr : PySem.W.nsIn K mainGlobals "frame_bytes" = some (some (.ref f_fr)))
    (l_fr : K.lookup f_fr = some ⟨oc_fr, od_fr, .func (PySem.W.fnOf "frame_bytes" "frame_bytes" (defArgs s_frame_bytes) (defBody s_frame_bytes) (defScope s_frame_bytes) .none kV_fr dc_fr pm_fr an_fr cd_fr ct_fr), sl_fr⟩)
    (c_fr : PySem.W.codeIn K cd_fr "frame_bytes" = true)
    (k_fr : PySem.W.keepIn K (.ref f_fr) = true)
    (a_pi : PySem.W.nsIn K mainGlobals "payloads_in" = some (some (.ref f_pi)))
    (l_pi : K.lookup f_pi = some ⟨oc_pi, od_pi, .func (PySem.W.fnOf "payloads_in" "payloads_in" (defArgs s_payloads_in) (defBody s_payloads_in) (defScope s_payloads_in) .none kV_pi dc_pi pm_pi an_pi cd_pi ct_pi), sl_pi⟩)
    (c_pi : PySem.W.codeIn K cd_pi "payloads_in" = true)
    (k_pi : PySem.W.keepIn K (.ref f_pi) = true)
    (a_d : PySem.W.nsIn K mainGlobals "_law_dice" = some (some (.ref f_d)))
    (l_d : K.lookup f_d = some ⟨oc_d, od_d, .func (PySem.W.fnOf "_law_dice" "_law_dice" (defArgs s_law_dice) (defBody s_law_dice) (defScope s_law_dice) .none kV_d dc_d pm_d an_d cd_d ct_d), sl_d⟩)
    (c_d : PySem.W.codeIn K cd_d "_law_dice" = true)
    (k_d : PySem.W.keepIn K (.ref f_d) = true)
    (a_r : PySem.W.nsIn K mainGlobals "_law_roll" = some (some (.ref f_r)))
    (l_r : K.lookup f_r = some ⟨oc_r, od_r, .func (PySem.W.fnOf "_law_roll" "_law_roll" (defArgs s_law_roll) (defBody s_law_roll) (defScope s_law_roll) .none kV_r dc_r pm_r an_r cd_r ct_r), sl_r⟩)
    (c_r : PySem.W.codeIn K cd_r "_law_roll" = true)
    (k_r : PySem.W.keepIn K (.ref f_r) = true)
    (a_o : PySem.W.nsIn K mainGlobals "_law_rounds" = some (some (.ref f_o)))
    (l_o : K.lookup f_o = some ⟨oc_o, od_o, .func (PySem.W.fnOf "_law_rounds" "_law_rounds" (defArgs s_law_rounds) (defBody s_law_rounds) (defScope s_law_rounds) .none kV_o dc_o pm_o an_o cd_o ct_o), sl_o⟩)
    (c_o : PySem.W.codeIn K cd_o "_law_rounds" = true)
    (k_o : PySem.W.keepIn K (.ref f_o) = true)
    (a_t : PySem.W.nsIn K mainGlobals "_law_told" = some (some (.ref f_t)))
    (l_t : K.lookup f_t = some ⟨oc_t, od_t, .func (PySem.W.fnOf "_law_told" "_law_told" (defArgs s_law_told) (defBody s_law_told) (defScope s_law_told) .none kV_t dc_t pm_t an_t cd_t ct_t), sl_t⟩)
    (c_t : PySem.W.codeIn K cd_t "_law_told" = true)
    (k_t : PySem.W.keepIn K (.ref f_t) = true)
    (a_ls : PySem.W.nsIn K mainGlobals "_law_sums" = some (some (.ref f_ls)))
    (l_ls : K.lookup f_ls = some ⟨oc_ls, od_ls, .func (PySem.W.fnOf "_law_sums" "_law_sums" (defArgs s_law_sums) (defBody s_law_sums) (defScope s_law_sums) .none kV_ls dc_ls pm_ls an_ls cd_ls ct_ls), sl_ls⟩)
    (c_ls : PySem.W.codeIn K cd_ls "_law_sums" = true)
    (k_ls : PySem.W.keepIn K (.ref f_ls) = true)
    (a_lf : PySem.W.nsIn K mainGlobals "_law_frame" = some (some (.ref f_lf)))
    (l_lf : K.lookup f_lf = some ⟨oc_lf, od_lf, .func (PySem.W.fnOf "_law_frame" "_law_frame" (defArgs s_law_frame) (defBody s_law_frame) (defScope s_law_frame) .none kV_lf dc_lf pm_lf an_lf cd_lf ct_lf), sl_lf⟩)
    (c_lf : PySem.W.codeIn K cd_lf "_law_frame" = true)
    (k_lf : PySem.W.keepIn K (.ref f_lf) = true)
    (a_w : PySem.W.nsIn K mainGlobals "law" = some (some (.ref f_w)))
    (l_w : K.lookup f_w = some ⟨oc_w, od_w, .func (PySem.W.fnOf "law" "law" (defArgs s_law) (defBody s_law) (defScope s_law) .none kV_w dc_w pm_w an_w (.ref z_w) ct_w), sl_w⟩)
    (c_w : PySem.W.codeIn K (.ref z_w) "law" = true)
    (k_w : PySem.W.keepIn K (.ref f_w) = true)
    (y_w : K.lookup z_w = some ⟨ec_w, dd_w, .fields vc_w, sc_w⟩)
    (v_w : vc_w[11]? = some (.ref P_w))
    (u_w : K.lookup P_w = none)
    (nP : [P_w].Nodup)
    (aRCR : PySem.W.nsIn K mainGlobals "Deframer" = some (some (.ref CR)))
    (pgRCR : PySem.W.plainGet K CR Str.empty = true)
    (hdRCR : PySem.W.hasDictIn K CR = true)
    (poRCR : PySem.W.plainOver K CR = true)
    (saRCR : PySem.W.findIn K (.ref CR) "__setattr__" = some (some (.builtin "object.__setattr__")))
    (mkRCR : PySem.W.makesIn K CR = true)
    (kcRCR : PySem.W.keepIn K (.ref CR) = true)
    (n_CR_held : PySem.W.findIn K (.ref CR) "held" = some none)
    (n_CR_escaped : PySem.W.findIn K (.ref CR) "escaped" = some none)
    (n_CR_damaged : PySem.W.findIn K (.ref CR) "damaged" = some none)
    (a_mi : PySem.W.findIn K (.ref CR) "__init__" = some (some (.ref f_mi)))
    (i_mi : PySem.W.isFn K (.ref f_mi) = true)
    (l_mi : K.lookup f_mi = some ⟨oc_mi, od_mi, .func (PySem.W.fnOf "__init__" "Deframer.__init__" (defArgs s_Deframer_init) (defBody s_Deframer_init) (defScope s_Deframer_init) .none kV_mi dc_mi pm_mi an_mi cd_mi ct_mi), sl_mi⟩)
    (c_mi : PySem.W.codeIn K cd_mi "Deframer.__init__" = true)
    (k_mi : PySem.W.keepIn K (.ref f_mi) = true)
    (a_mt : PySem.W.findIn K (.ref CR) "take" = some (some (.ref f_mt)))
    (i_mt : PySem.W.isFn K (.ref f_mt) = true)
    (l_mt : K.lookup f_mt = some ⟨oc_mt, od_mt, .func (PySem.W.fnOf "take" "Deframer.take" (defArgs s_Deframer_take) (defBody s_Deframer_take) (defScope s_Deframer_take) .none kV_mt dc_mt pm_mt an_mt cd_mt ct_mt), sl_mt⟩)
    (c_mt : PySem.W.codeIn K cd_mt "Deframer.take" = true)
    (k_mt : PySem.W.keepIn K (.ref f_mt) = true)
    (a_ma : PySem.W.findIn K (.ref CR) "take_all" = some (some (.ref f_ma)))
    (i_ma : PySem.W.isFn K (.ref f_ma) = true)
    (l_ma : K.lookup f_ma = some ⟨oc_ma, od_ma, .func (PySem.W.fnOf "take_all" "Deframer.take_all" (defArgs s_Deframer_take_all) (defBody s_Deframer_take_all) (defScope s_Deframer_take_all) .none kV_ma dc_ma pm_ma an_ma cd_ma ct_ma), sl_ma⟩)
    (c_ma : PySem.W.codeIn K cd_ma "Deframer.take_all" = true)
    (k_ma : PySem.W.keepIn K (.ref f_ma) = true)
    (a_mb : PySem.W.findIn K (.ref CR) "begin" = some (some (.ref f_mb)))
    (i_mb : PySem.W.isFn K (.ref f_mb) = true)
    (l_mb : K.lookup f_mb = some ⟨oc_mb, od_mb, .func (PySem.W.fnOf "begin" "Deframer.begin" (defArgs s_Deframer_begin) (defBody s_Deframer_begin) (defScope s_Deframer_begin) .none kV_mb dc_mb pm_mb an_mb cd_mb ct_mb), sl_mb⟩)
    (c_mb : PySem.W.codeIn K cd_mb "Deframer.begin" = true)
    (k_mb : PySem.W.keepIn K (.ref f_mb) = true)
    (a_me : PySem.W.findIn K (.ref CR) "end_frame" = some (some (.ref f_me)))
    (i_me : PySem.W.isFn K (.ref f_me) = true)
    (l_me : K.lookup f_me = some ⟨oc_me, od_me, .func (PySem.W.fnOf "end_frame" "Deframer.end_frame" (defArgs s_Deframer_end_frame) (defBody s_Deframer_end_frame) (defScope s_Deframer_end_frame) .none kV_me dc_me pm_me an_me cd_me ct_me), sl_me⟩)
    (c_me : PySem.W.codeIn K cd_me "Deframer.end_frame" = true)
    (k_me : PySem.W.keepIn K (.ref f_me) = true)
    (a_mf : PySem.W.findIn K (.ref CR) "feed" = some (some (.ref f_mf)))
    (i_mf : PySem.W.isFn K (.ref f_mf) = true)
    (l_mf : K.lookup f_mf = some ⟨oc_mf, od_mf, .func (PySem.W.fnOf "feed" "Deframer.feed" (defArgs s_Deframer_feed) (defBody s_Deframer_feed) (defScope s_Deframer_feed) .none kV_mf dc_mf pm_mf an_mf cd_mf ct_mf), sl_mf⟩)
    (c_mf : PySem.W.codeIn K cd_mf "Deframer.feed" = true)
    (k_mf : PySem.W.keepIn K (.ref f_mf) = true)
    (g_SUM_BASE : PySem.W.nsIn K mainGlobals "SUM_BASE" = some (some (.int 65521 tSUM_BASE)))
    (g_MARK : PySem.W.nsIn K mainGlobals "MARK" = some (some (.int 126 tMARK)))
    (g_ESCAPE : PySem.W.nsIn K mainGlobals "ESCAPE" = some (some (.int 125 tESCAPE)))
    (g_FLIPPED_BIT : PySem.W.nsIn K mainGlobals "FLIPPED_BIT" = some (some (.int 32 tFLIPPED_BIT)))
    (g_MOST_PAYLOAD : PySem.W.nsIn K mainGlobals "MOST_PAYLOAD" = some (some (.int 400 tMOST_PAYLOAD)))
    (g_SUM_SIZE : PySem.W.nsIn K mainGlobals "SUM_SIZE" = some (some (.int 4 tSUM_SIZE)))
    (g_MOST_HELD : PySem.W.nsIn K mainGlobals "MOST_HELD" = some (some (.int 405 tMOST_HELD)))
    (z_len : PySem.W.nsIn K mainGlobals "len" = some none)
    (z_range : PySem.W.nsIn K mainGlobals "range" = some none)
    (z_tuple : PySem.W.nsIn K mainGlobals "tuple" = some none)
    (z_int : PySem.W.nsIn K mainGlobals "int" = some none)
    (z_abs : PySem.W.nsIn K mainGlobals "abs" = some none)
    (z_list : PySem.W.nsIn K mainGlobals "list" = some none)
    (z_min : PySem.W.nsIn K mainGlobals "min" = some none) :
    LamX.LawAtS l w K (L2N.CX l.prog w) 8 63 "script" mg fa h := by
  have e := hfa.symm.trans (PySem.W.mg_of X G a_w)
  cases e
  have E_C : ExcC K mg "OctetError" C := ⟨PySem.W.mg_of X G gPC, kPC, xPC, bPC, tPC⟩
  have F_ts := fun_mk (st := s_told_sums) l_ts c_ts k_ts
  have m_ts := PySem.W.mg_of X G a_ts
  have F_s := fun_mk (st := s_sum_bytes) l_s c_s k_s
  have m_s := PySem.W.mg_of X G a_s
  have F_x := fun_mk (st := s_escaped_bytes) l_x c_x k_x
  have m_x := PySem.W.mg_of X G a_x
  have F_u := fun_mk (st := s_stuffed) l_u c_u k_u
  have m_u := PySem.W.mg_of X G a_u
  have F_fr := fun_mk (st := s_frame_bytes) l_fr c_fr k_fr
  have m_fr := PySem.W.mg_of X G a_fr
  have F_pi := fun_mk (st := s_payloads_in) l_pi c_pi k_pi
  have m_pi := PySem.W.mg_of X G a_pi
  have F_d := fun_mk (st := s_law_dice) l_d c_d k_d
  have m_d := PySem.W.mg_of X G a_d
  have F_r := fun_mk (st := s_law_roll) l_r c_r k_r
  have m_r := PySem.W.mg_of X G a_r
  have F_o := fun_mk (st := s_law_rounds) l_o c_o k_o
  have m_o := PySem.W.mg_of X G a_o
  have F_t := fun_mk (st := s_law_told) l_t c_t k_t
  have m_t := PySem.W.mg_of X G a_t
  have F_ls := fun_mk (st := s_law_sums) l_ls c_ls k_ls
  have m_ls := PySem.W.mg_of X G a_ls
  have F_lf := fun_mk (st := s_law_frame) l_lf c_lf k_lf
  have m_lf := PySem.W.mg_of X G a_lf
  have F_w := funT_mk (st := s_law) l_w c_w k_w
  have m_w := PySem.W.mg_of X G a_w
  obtain ⟨h_w, H_w⟩ := tab_of X T_w m_w l_w rfl y_w v_w
  have F_mi := fun_mk (st := s_Deframer_init) l_mi c_mi k_mi
  have mk_CR : Mk K CR f_mi := ⟨mkRCR, a_mi, i_mi, kcRCR⟩
  have F_mt := fun_mk (st := s_Deframer_take) l_mt c_mt k_mt
  have M_mt : Meth K CR "take" f_mt := ⟨a_mt, i_mt, k_mt⟩
  have F_ma := fun_mk (st := s_Deframer_take_all) l_ma c_ma k_ma
  have M_ma : Meth K CR "take_all" f_ma := ⟨a_ma, i_ma, k_ma⟩
  have F_mb := fun_mk (st := s_Deframer_begin) l_mb c_mb k_mb
  have M_mb : Meth K CR "begin" f_mb := ⟨a_mb, i_mb, k_mb⟩
  have F_me := fun_mk (st := s_Deframer_end_frame) l_me c_me k_me
  have M_me : Meth K CR "end_frame" f_me := ⟨a_me, i_me, k_me⟩
  have F_mf := fun_mk (st := s_Deframer_feed) l_mf c_mf k_mf
  have M_mf : Meth K CR "feed" f_mf := ⟨a_mf, i_mf, k_mf⟩
  have cl_CR : Cls K CR := ⟨pgRCR, hdRCR, poRCR, saRCR⟩
  have q_len := PySem.W.mg_none_of X G z_len
  have q_range := PySem.W.mg_none_of X G z_range
  have q_tuple := PySem.W.mg_none_of X G z_tuple
  have q_int := PySem.W.mg_none_of X G z_int
  have q_abs := PySem.W.mg_none_of X G z_abs
  have q_list := PySem.W.mg_none_of X G z_list
  have q_min := PySem.W.mg_none_of X G z_min
  have exm_C := exm_one bPC iPC tPC sPC
  have TO := told_ok F_t m_t E_C exm_C
  have dc : DfC K CR := ⟨cl_CR, n_CR_held, n_CR_escaped, n_CR_damaged⟩
  obtain ⟨T, hT0⟩ : ∃ T : List (Addr × Str), T = [(P_w, Str.ofString "law.<locals>.<lambda>")] := ⟨_, rfl⟩
  have nT : (T.map (·.1)).Nodup := by rw [hT0]; exact nP
  have i_w : (P_w, Str.ofString "law.<locals>.<lambda>") ∈ T := by rw [hT0]; simp
  have w_w := uniq_of i_w nT
  have gs := gst_tabs T
  refine ⟨PySem.W.fnOf "law" "law" (defArgs s_law) (defBody s_law) (defScope s_law) .none kV_w dc_w pm_w an_w (.ref z_w) ct_w, [(z_w, P_w)], spOf (Tabs T) K (S_law K), (fun p hp => by
    simp only [List.mem_cons, List.not_mem_nil, or_false] at hp
    rcases hp with rfl
    · exact h_w),
    (fun p hp => by
    simp only [List.mem_cons, List.not_mem_nil, or_false] at hp
    rcases hp with rfl
    · exact u_w),
    (fun p hp => by
    simp only [List.mem_cons, List.not_mem_nil, or_false] at hp
    rcases hp with rfl
    · exact H_w), fun s u => .of_eq rfl, fun H a ns hl hb hT hS => law_sp (tabs0 fun p hp => ?_) hS, fun base KB GB TB => ?_⟩
  · rw [hT0] at hp
    simp only [List.mem_cons, List.not_mem_nil, or_false] at hp
    rcases hp with rfl
    · exact hT (z_w, P_w) (by simp)
  · have B_w : TabB base mg z_w P_w := TB (z_w, P_w) (by simp)
    have v_SUM_BASE := PySem.W.mg_of X G g_SUM_BASE
    have v_MARK := PySem.W.mg_of X G g_MARK
    have v_ESCAPE := PySem.W.mg_of X G g_ESCAPE
    have v_FLIPPED_BIT := PySem.W.mg_of X G g_FLIPPED_BIT
    have v_MOST_PAYLOAD := PySem.W.mg_of X G g_MOST_PAYLOAD
    have v_SUM_SIZE := PySem.W.mg_of X G g_SUM_SIZE
    have v_MOST_HELD := PySem.W.mg_of X G g_MOST_HELD
    have gts := gf_tsums (P := l.prog) (w := w) (base := base) F_ts gs v_SUM_BASE
    have gsu := gf_sum (P := l.prog) (w := w) (base := base) F_s gs m_ts gts
    have gx := gf_esc (P := l.prog) (w := w) (base := base) F_x gs v_ESCAPE v_FLIPPED_BIT q_tuple q_range
    have gu := gf_stuffed (P := l.prog) (w := w) (base := base) F_u gs v_MARK v_ESCAPE q_tuple m_x gx
    have gfr := gf_frame (P := l.prog) (w := w) (base := base) F_fr gs E_C v_MARK v_MOST_PAYLOAD q_len m_u gu m_s gsu
    have gmi := gf_dinit (P := l.prog) (w := w) (mg := mg) (base := base) F_mi gs dc
    have gmt := gf_dtake (P := l.prog) (w := w) (base := base) F_mt gs dc v_ESCAPE v_FLIPPED_BIT v_MOST_HELD q_len
    have gma := gf_tall (P := l.prog) (w := w) (base := base) F_ma gs dc v_ESCAPE v_MOST_HELD q_len q_min M_mt gmt
    have gmb := gf_begin (P := l.prog) (w := w) (mg := mg) (base := base) F_mb gs dc
    have gme := gf_dend (P := l.prog) (w := w) (base := base) F_me gs dc v_MOST_PAYLOAD v_SUM_SIZE q_len q_tuple m_s gsu M_mb gmb M_ma gma
    have gmf := gf_feed (P := l.prog) (w := w) (base := base) F_mf gs dc v_MARK q_tuple q_range M_me gme M_ma gma
    have gp := gf_pin (P := l.prog) (w := w) (base := base) F_pi gs dc (PySem.W.mg_of X G aRCR) mk_CR gmi M_mf gmf
    have gd := gf_dice (P := l.prog) (w := w) (base := base) F_d gs q_int q_abs
    have r1 := gf_roll (P := l.prog) (w := w) (base := base) (k := 0) (B := 100000000) (B' := 0) F_r gs q_int m_r (by decide) (.inl (by decide))
    have r2 := gf_roll (P := l.prog) (w := w) (base := base) (k := 1) (B := 9000000000000000) (B' := 100000000) F_r gs q_int m_r (by decide) (.inr ⟨by decide, by decide, r1⟩)
    have r3 := gf_roll (P := l.prog) (w := w) (base := base) (k := 2) (B := 1000000000000000000) (B' := 9000000000000000) F_r gs q_int m_r (by decide) (.inr ⟨by decide, by decide, r2⟩)
    have gls := gf_lsums (P := l.prog) (w := w) (mg := mg) (base := base) F_ls gs
    have glf := gf_lframe (P := l.prog) (w := w) (base := base) F_lf gs m_ls gls
    exact fn_law F_w { E := E_C, told := TO, stuffed := ⟨_, m_u, gu⟩, frame := ⟨_, m_fr, gfr⟩, pin := ⟨_, m_pi, gp⟩, roll := ⟨_, m_r, r3⟩, rounds := ⟨_, m_o, gf_rounds F_o gs m_d gd⟩, lframe := ⟨_, m_lf, glf⟩, dr := PySem.W.mg_of X G aRCR, dc := dc, mkr := ⟨_, mk_CR, gmi⟩, feed := ⟨_, M_mf, gmf⟩, len := q_len, range := q_range, tuple := q_tuple, list := q_list } B_w i_w w_w
theorem hCX {P : Program} : ∀ (w : World) (H : Hp) (s : Shared) (e : Value) (s' : Shared), L2N.CX P w [] H s (fun _ _ _ => False) e s' → False := fun _ _ _ _ _ h => by
  obtain ⟨_, _, _, _, _, _, _, _, _, _, _, _, z⟩ := h
  exact z.elim
end

end K02

open PySem PySem.W PyProof.Rows
set_option maxRecDepth 100000 in
set_option maxHeartbeats 0 in
theorem PySem.Challenge.cw_wirestack_k02_frames_in_a_row_of_bytes_holds : PySem.Challenge.rw_wirestack_k02_frames_in_a_row_of_bytes.Holds := by
  w_on; o_law; k_head; (case hw => w_witness2)
  k_fill
  refine Wv.walk_ofAll (l := PySem.Challenge.rw_wirestack_k02_frames_in_a_row_of_bytes) (n := 63) (k := 8) (x := "script") (CX := fun w => L2N.CX PySem.Challenge.rw_wirestack_k02_frames_in_a_row_of_bytes.prog w) rfl (by decide) rfl ⟨rfl, by decide, by decide⟩ (fun w h Y => PySem.W.km_in_of Y) ?F K02.hCX
  case F =>
    intro w mg fa h Y XX KX G hmg TT
    refine' K02.all_mk KX G hmg (TT _ ?t0) ?gPC ?xPC ?kPC ?bPC ?tPC ?iPC ?sPC ?a_ts ?l_ts ?c_ts ?k_ts ?a_s ?l_s ?c_s ?k_s ?a_x ?l_x ?c_x ?k_x ?a_u ?l_u ?c_u ?k_u ?a_fr ?l_fr ?c_fr ?k_fr ?a_pi ?l_pi ?c_pi ?k_pi ?a_d ?l_d ?c_d ?k_d ?a_r ?l_r ?c_r ?k_r ?a_o ?l_o ?c_o ?k_o ?a_t ?l_t ?c_t ?k_t ?a_ls ?l_ls ?c_ls ?k_ls ?a_lf ?l_lf ?c_lf ?k_lf ?a_w ?l_w ?c_w ?k_w ?y_w ?v_w ?u_w ?nP ?aRCR ?pgRCR ?hdRCR ?poRCR ?saRCR ?mkRCR ?kcRCR ?n_CR_held ?n_CR_escaped ?n_CR_damaged ?a_mi ?i_mi ?l_mi ?c_mi ?k_mi ?a_mt ?i_mt ?l_mt ?c_mt ?k_mt ?a_ma ?i_ma ?l_ma ?c_ma ?k_ma ?a_mb ?i_mb ?l_mb ?c_mb ?k_mb ?a_me ?i_me ?l_me ?c_me ?k_me ?a_mf ?i_mf ?l_mf ?c_mf ?k_mf ?g_SUM_BASE ?g_MARK ?g_ESCAPE ?g_FLIPPED_BIT ?g_MOST_PAYLOAD ?g_SUM_SIZE ?g_MOST_HELD ?z_len ?z_range ?z_tuple ?z_int ?z_abs ?z_list ?z_min
    (case t0 => decide +kernel)
    (case gPC => k_is)
    (case xPC => k_exc)
    (case kPC => k_is)
    (case bPC => k_is)
    (case tPC => k_is)
    (case iPC => k_is)
    (case sPC => first | rfl | k_is)
    (case a_ts => k_is)
    (case l_ts => k_is)
    (case c_ts => k_is)
    (case k_ts => k_is)
    (case a_s => k_is)
    (case l_s => k_is)
    (case c_s => k_is)
    (case k_s => k_is)
    (case a_x => k_is)
    (case l_x => k_is)
    (case c_x => k_is)
    (case k_x => k_is)
    (case a_u => k_is)
    (case l_u => k_is)
    (case c_u => k_is)
    (case k_u => k_is)
    (case a_fr => k_is)
    (case l_fr => k_is)
    (case c_fr => k_is)
    (case k_fr => k_is)
    (case a_pi => k_is)
    (case l_pi => k_is)
    (case c_pi => k_is)
    (case k_pi => k_is)
    (case a_d => k_is)
    (case l_d => k_is)
    (case c_d => k_is)
    (case k_d => k_is)
    (case a_r => k_is)
    (case l_r => k_is)
    (case c_r => k_is)
    (case k_r => k_is)
    (case a_o => k_is)
    (case l_o => k_is)
    (case c_o => k_is)
    (case k_o => k_is)
    (case a_t => k_is)
    (case l_t => k_is)
    (case c_t => k_is)
    (case k_t => k_is)
    (case a_ls => k_is)
    (case l_ls => k_is)
    (case c_ls => k_is)
    (case k_ls => k_is)
    (case a_lf => k_is)
    (case l_lf => k_is)
    (case c_lf => k_is)
    (case k_lf => k_is)
    (case a_w => k_is)
    (case l_w => k_is)
    (case c_w => k_is)
    (case k_w => k_is)
    (case y_w => k_is)
    (case v_w => rfl)
    (case u_w => rfl)
    (case nP => decide)
    (case aRCR => k_is)
    (case pgRCR => k_is)
    (case hdRCR => k_is)
    (case poRCR => k_is)
    (case saRCR => k_is)
    (case mkRCR => k_is)
    (case kcRCR => k_is)
    (case n_CR_held => k_is)
    (case n_CR_escaped => k_is)
    (case n_CR_damaged => k_is)
    (case a_mi => k_is)
    (case i_mi => k_is)
    (case l_mi => k_is)
    (case c_mi => k_is)
    (case k_mi => k_is)
    (case a_mt => k_is)
    (case i_mt => k_is)
    (case l_mt => k_is)
    (case c_mt => k_is)
    (case k_mt => k_is)
    (case a_ma => k_is)
    (case i_ma => k_is)
    (case l_ma => k_is)
    (case c_ma => k_is)
    (case k_ma => k_is)
    (case a_mb => k_is)
    (case i_mb => k_is)
    (case l_mb => k_is)
    (case c_mb => k_is)
    (case k_mb => k_is)
    (case a_me => k_is)
    (case i_me => k_is)
    (case l_me => k_is)
    (case c_me => k_is)
    (case k_me => k_is)
    (case a_mf => k_is)
    (case i_mf => k_is)
    (case l_mf => k_is)
    (case c_mf => k_is)
    (case k_mf => k_is)
    (case g_SUM_BASE => k_is)
    (case g_MARK => k_is)
    (case g_ESCAPE => k_is)
    (case g_FLIPPED_BIT => k_is)
    (case g_MOST_PAYLOAD => k_is)
    (case g_SUM_SIZE => k_is)
    (case g_MOST_HELD => k_is)
    (case z_len => k_is)
    (case z_range => k_is)
    (case z_tuple => k_is)
    (case z_int => k_is)
    (case z_abs => k_is)
    (case z_list => k_is)
    (case z_min => k_is)
