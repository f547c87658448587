import PyProof.Rows.All
import Wide.All
import OpenK.AllK
import Wide.FinOn
import HandS.ForMost
import HandS.ForExc
import HandS.CallSlots
import HandS.Lambda
import HandS.EndTab
import HandS.TupAny
import HandS.Deep
import HandS.Wide
import KE.Datum
import HandS.Conv
import HandS.TupMul
import PyProof.Rows.StrMul
import PyProof.Rows.StrJoinRep
import HandS.ExcCtx
import HandS.WordsExc
import HandS.Walk
import KE.DatumOrd
import HandS.StrMore
import HandS.ExcOwn
import HandS.AnyAll
import HandS.Style
import HandS.IsInst
import HandS.EndOwn
import PyProof.AutoSeq1
import KE.DataEq
import HandS.Defaults
import HandS.Dict
import HandS.WordsDict
import HandS.TryOnly
import HandS.SuiteRaise
import HandS.Text
import HandS.More
import HandS.SortInts
import HandS.Iter
import HandS.Zip
import HandS.SetFor
import HandS.Small
import HandS.DictComp
import PyProof.SeqRoads2
import HandS.Strs
import HandS.ListItems
import HandS.FStr
import HandS.Flow
import KE.KDictList
import PyProof.NeKinds
import PyProof.Claim2Refuses
import KE.KDictPairs
import HandS.TupLen
import PySem.Challenge.RW_wirestack_k24_streams_behind_one_address
set_option Elab.async false
set_option linter.all false
set_option maxRecDepth 100000
set_option maxHeartbeats 2000000
namespace Wv
open PySem PySem.Spec PyProof.Rows L2
/-! ### data, owned objects, the symbolic state -/
/-- what is true of an address, for good -/
structure ExtP where
  p : Addr → Hp → Prop
  mono : ∀ a (H H' : Hp), (∀ b φ, H b = some (.ext φ) → H' b = some (.ext φ)) → p a H → p a H'
inductive D where
  | raw (v : V)
  | tup (l : List D)
  | lst (l : List D)
  | ext (ψ : ExtP)
abbrev I (i : Int) : D := .raw (.int i)
abbrev B (b : Bool) : D := .raw (.bl b)
abbrev Z (s : Str) : D := .raw (.str s)
abbrev N0 : D := .raw .non
abbrev Rf (p : Addr) : D := .raw (.ref p)
inductive O where
  | lst (l : List D)
  | frz (o : Obj) (l : List D)
  | ins (C : Addr) (fs : List (Str × D))
  | dK (kvs : List (Key × D))
  | dT (kvs : List (List Key × D))
  | fK (o : Obj) (vs : List (Key × V)) (kvs : List (Key × D))
  | fT (o : Obj) (vs : List (List Key × V)) (kvs : List (List Key × D))
abbrev Ms := List (Addr × O)
abbrev Rh := List (Option D)
abbrev dom (M : Ms) : List Addr := M.map (·.1)
mutual
inductive Rp (K : PySem.W.Frag) (X : List Addr) (H : Hp) : V → D → Prop
  | raw (v : V) : Rp K X H v (.raw v)
  | tup {a : Addr} {xs : List V} {ds : List D} : H a = some (.tup xs) → RpL K X H xs ds → Rp K X H (.ref a) (.tup ds)
  | lst {a : Addr} {xs : List V} {ds : List D} : H a = some (.lst xs) → a ∉ X → RpL K X H xs ds → Rp K X H (.ref a) (.lst ds)
  | ext {a : Addr} {ψ : ExtP} : ψ.p a H → Rp K X H (.ref a) (.ext ψ)
inductive RpL (K : PySem.W.Frag) (X : List Addr) (H : Hp) : List V → List D → Prop
  | nil : RpL K X H [] []
  | cons {v : V} {vs : List V} {d : D} {ds : List D} : Rp K X H v d → RpL K X H vs ds → RpL K X H (v :: vs) (d :: ds)
end
section
variable {K : PySem.W.Frag} {X X' : List Addr} {H H' : Hp}
mutual
theorem Rp.mono (he : ∀ b φ, H b = some (.ext φ) → H' b = some (.ext φ)) (ht : ∀ a xs, H a = some (.tup xs) → H' a = some (.tup xs)) (hl : ∀ a xs, H a = some (.lst xs) → a ∉ X → H' a = some (.lst xs) ∧ a ∉ X') : ∀ {v d}, Rp K X H v d → Rp K X' H' v d
  | _, _, .raw v => .raw v
  | _, _, .tup h hs => .tup (ht _ _ h) (RpL.mono he ht hl hs)
  | _, _, .lst h n hs => .lst (hl _ _ h n).1 (hl _ _ h n).2 (RpL.mono he ht hl hs)
  | _, _, .ext h => .ext (ExtP.mono _ _ _ _ he h)
theorem RpL.mono (he : ∀ b φ, H b = some (.ext φ) → H' b = some (.ext φ)) (ht : ∀ a xs, H a = some (.tup xs) → H' a = some (.tup xs)) (hl : ∀ a xs, H a = some (.lst xs) → a ∉ X → H' a = some (.lst xs) ∧ a ∉ X') : ∀ {vs ds}, RpL K X H vs ds → RpL K X' H' vs ds
  | _, _, .nil => .nil
  | _, _, .cons h hs => .cons (Rp.mono he ht hl h) (RpL.mono he ht hl hs)
end
theorem RpL.length {vs : List V} {ds : List D} : RpL K X H vs ds → vs.length = ds.length := by
  intro h
  induction ds generalizing vs with
  | nil => cases h; rfl
  | cons d ds ih => cases h with | cons _ h2 => simp [ih h2]
theorem RpL.get {vs : List V} {ds : List D} (h : RpL K X H vs ds) {i : Nat} {d : D} (e : ds[i]? = some d) : ∃ v, vs[i]? = some v ∧ Rp K X H v d := by
  induction ds generalizing vs i with
  | nil => simp at e
  | cons d0 ds ih =>
    cases h with
    | cons h1 h2 =>
      cases i with
      | zero => simp at e; subst e; exact ⟨_, rfl, h1⟩
      | succ i => simp at e; obtain ⟨v, e1, e2⟩ := ih h2 e; exact ⟨v, by simpa using e1, e2⟩
theorem RpL.getV {vs : List V} {ds : List D} (h : RpL K X H vs ds) {i : Nat} {v : V} (e : vs[i]? = some v) : ∃ d, ds[i]? = some d ∧ Rp K X H v d := by
  induction vs generalizing ds i with
  | nil => simp at e
  | cons v0 vs ih =>
    cases h with
    | cons h1 h2 =>
      cases i with
      | zero => simp at e; subst e; exact ⟨_, rfl, h1⟩
      | succ i => simp at e; obtain ⟨d, e1, e2⟩ := ih h2 e; exact ⟨d, by simpa using e1, e2⟩
theorem RpL.app {vs us : List V} {ds es : List D} (h : RpL K X H vs ds) (h2 : RpL K X H us es) : RpL K X H (vs ++ us) (ds ++ es) := by
  induction ds generalizing vs with
  | nil => cases h; exact h2
  | cons d ds ih => cases h with | cons a b => exact .cons a (ih b)
theorem RpL.set {vs : List V} {ds : List D} (h : RpL K X H vs ds) {v : V} {d : D} (r : Rp K X H v d) : ∀ i : Nat, RpL K X H (vs.set i v) (ds.set i d) := by
  intro i
  induction ds generalizing vs i with
  | nil => cases h; exact .nil
  | cons d ds ih => cases h with
    | cons a b =>
      cases i with
      | zero => exact .cons r b
      | succ i => exact .cons a (ih b i)
theorem RpL.take {vs : List V} {ds : List D} (h : RpL K X H vs ds) : ∀ n : Nat, RpL K X H (vs.take n) (ds.take n) := by
  intro n
  induction ds generalizing vs n with
  | nil => cases h; cases n <;> exact .nil
  | cons d ds ih => cases h with
    | cons a b =>
      cases n with
      | zero => exact .nil
      | succ n => exact .cons a (ih b n)
theorem RpL.drop {vs : List V} {ds : List D} (h : RpL K X H vs ds) : ∀ n : Nat, RpL K X H (vs.drop n) (ds.drop n) := by
  intro n
  induction ds generalizing vs n with
  | nil => cases h; cases n <;> exact .nil
  | cons d ds ih => cases h with
    | cons a b =>
      cases n with
      | zero => exact .cons a b
      | succ n => exact ih b n
theorem RpL.erase {vs : List V} {ds : List D} (h : RpL K X H vs ds) : ∀ n : Nat, RpL K X H (vs.eraseIdx n) (ds.eraseIdx n) := by
  intro n
  induction ds generalizing vs n with
  | nil => cases h; cases n <;> exact .nil
  | cons d ds ih => cases h with
    | cons a b =>
      cases n with
      | zero => exact b
      | succ n => exact .cons a (ih b n)
theorem RpL.rev {vs : List V} {ds : List D} (h : RpL K X H vs ds) : RpL K X H vs.reverse ds.reverse := by
  induction ds generalizing vs with
  | nil => cases h; exact .nil
  | cons d ds ih => cases h with
    | cons a b => simp only [List.reverse_cons]; exact (ih b).app (.cons a .nil)
theorem Rp.raw_inv {v w : V} (h : Rp K X H v (.raw w)) : v = w := by cases h; rfl
theorem Rp.tup_inv {v : V} {ds : List D} (h : Rp K X H v (.tup ds)) : ∃ a xs, v = .ref a ∧ SqT K H a xs ∧ RpL K X H xs ds := by
  cases h with | tup h1 h2 => exact ⟨_, _, rfl, SqT.of h1, h2⟩
theorem Rp.tup_invH {v : V} {ds : List D} (h : Rp K X H v (.tup ds)) : ∃ a xs, v = .ref a ∧ H a = some (.tup xs) ∧ RpL K X H xs ds := by
  cases h with | tup h1 h2 => exact ⟨_, _, rfl, h1, h2⟩
theorem Rp.lst_inv {v : V} {ds : List D} (h : Rp K X H v (.lst ds)) : ∃ a xs, v = .ref a ∧ H a = some (.lst xs) ∧ a ∉ X ∧ RpL K X H xs ds := by
  cases h with | lst h1 h2 h3 => exact ⟨_, _, rfl, h1, h2, h3⟩
theorem RpL.raws {vs ws : List V} (h : RpL K X H vs (ws.map D.raw)) : vs = ws := by
  induction ws generalizing vs with
  | nil => cases h; rfl
  | cons d ds ih => cases h with | cons a b => rw [ih b, a.raw_inv]
theorem RpL.raws_mk (ws : List V) : RpL K X H ws (ws.map D.raw) := by
  induction ws with
  | nil => exact .nil
  | cons d ds ih => exact .cons (.raw d) ih
/-- named values -/
def RpF (K : PySem.W.Frag) (X : List Addr) (H : Hp) (vs : List (Str × V)) (fs : List (Str × D)) : Prop := vs.map (·.1) = fs.map (·.1) ∧ RpL K X H (vs.map (·.2)) (fs.map (·.2))
def RpK (K : PySem.W.Frag) (X : List Addr) (H : Hp) (vs : List (Key × V)) (fs : List (Key × D)) : Prop := vs.map (·.1) = fs.map (·.1) ∧ RpL K X H (vs.map (·.2)) (fs.map (·.2))
def RpKT (K : PySem.W.Frag) (X : List Addr) (H : Hp) (vs : List (List Key × V)) (fs : List (List Key × D)) : Prop := vs.map (·.1) = fs.map (·.1) ∧ RpL K X H (vs.map (·.2)) (fs.map (·.2))
end
/-- the owned object at p -/
def OAt (K : PySem.W.Frag) (X : List Addr) (H : Hp) (p : Addr) : O → Prop
  | .lst l => ∃ xs, H p = some (.lst xs) ∧ RpL K X H xs l
  | .frz o l => ∃ xs, H p = some (.frz o (.lst xs)) ∧ RpL K X H xs l
  | .ins C fs => ∃ dx vs, H p = some (.ins C dx vs) ∧ RpF K X H vs fs
  | .dK kvs => ∃ vs, H p = some (.dK vs) ∧ RpK K X H vs kvs
  | .dT kvs => ∃ vs, H p = some (.dT vs) ∧ RpKT K X H vs kvs
  | .fK o vs kvs => H p = some (.frz o (.dK vs)) ∧ RpK K X H vs kvs
  | .fT o vs kvs => H p = some (.frz o (.dT vs)) ∧ RpKT K X H vs kvs
/-- objects that only other rules change -/
def keepO : HO → Prop
  | .tbl _ => True
  | .ext _ => True
  | _ => False
/-- what a global condition must bear -/
def Gst (G : Hp → Prop) : Prop := ∀ H H' : Hp, G H → (∀ a o, H a = some o → keepO o → H' a = some o) → G H'
structure AtM (G : Hp → Prop) (K : PySem.W.Frag) (M : Ms) (H : Hp) : Prop where
  g : G H
  nd : (dom M).Nodup
  ob : ∀ p ∈ M, OAt K (dom M) H p.1 p.2
def Sl (K : PySem.W.Frag) (X : List Addr) (H : Hp) (σ : L2.St) (ρ : Rh) : Prop := σ.length = ρ.length ∧ ∀ (i : Nat) (d : D), ρ[i]? = some (some d) → ∃ v, σ[i]? = some (some v) ∧ Rp K X H v d
structure Mv (M : Ms) (H : Hp) (M' : Ms) (H' : Hp) : Prop where
  ext : ∀ a o, H a = some o → a ∉ dom M → (∀ ps, o ≠ .tbl ps) → H' a = some o
  new : ∀ a ∈ dom M', a ∈ dom M ∨ ∀ o, H a = some o → ∃ ps, o = .tbl ps
section
variable {G : Hp → Prop} {K : PySem.W.Frag} {M M' M1 M2 : Ms} {H H' H1 H2 : Hp}
theorem Mv.refl (M : Ms) (H : Hp) : Mv M H M H := ⟨fun _ _ h _ _ => h, fun _ h => .inl h⟩
theorem Mv.trans (a : Mv M H M1 H1) (b : Mv M1 H1 M2 H2) : Mv M H M2 H2 := by
  have ex : ∀ x o, H x = some o → x ∉ dom M → (∀ ps, o ≠ .tbl ps) → H1 x = some o ∧ x ∉ dom M1 := fun x o h n t => ⟨a.ext x o h n t, fun z => by
    rcases a.new x z with q | q
    · exact n q
    · obtain ⟨ps, e⟩ := q o h
      exact t ps e⟩
  refine ⟨fun x o h n t => b.ext x o (ex x o h n t).1 (ex x o h n t).2 t, fun x hx => ?_⟩
  · by_cases hd : x ∈ dom M
    · exact .inl hd
    · refine .inr fun o h => ?_
      by_cases t : ∃ ps, o = .tbl ps
      · exact t
      · exfalso
        have t' : ∀ ps, o ≠ .tbl ps := fun ps z => t ⟨ps, z⟩
        rcases b.new x hx with q | q
        · exact (ex x o h hd t').2 q
        · exact t (q o (ex x o h hd t').1)
theorem OAt.some {X : List Addr} {p : Addr} {o : O} (h : OAt K X H p o) : ∃ u, H p = some u ∧ (∀ xs, u ≠ .tup xs) ∧ (∀ a b, u ≠ .frz a (.tup b)) ∧ ¬ keepO u := by
  cases o with
  | lst l => obtain ⟨xs, e, _⟩ := h; exact ⟨_, e, (fun _ z => by cases z), (fun _ _ z => by cases z), fun z => z.elim⟩
  | frz o l => obtain ⟨xs, e, _⟩ := h; exact ⟨_, e, (fun _ z => by cases z), (fun _ _ z => by cases z), fun z => z.elim⟩
  | ins C fs => obtain ⟨dx, vs, e, _⟩ := h; exact ⟨_, e, (fun _ z => by cases z), (fun _ _ z => by cases z), fun z => z.elim⟩
  | dK kvs => obtain ⟨vs, e, _⟩ := h; exact ⟨_, e, (fun _ z => by cases z), (fun _ _ z => by cases z), fun z => z.elim⟩
  | dT kvs => obtain ⟨vs, e, _⟩ := h; exact ⟨_, e, (fun _ z => by cases z), (fun _ _ z => by cases z), fun z => z.elim⟩
  | fK o vs kvs => obtain ⟨e, _⟩ := h; exact ⟨_, e, (fun _ z => by cases z), (fun _ _ z => by cases z), fun z => z.elim⟩
  | fT o vs kvs => obtain ⟨e, _⟩ := h; exact ⟨_, e, (fun _ z => by cases z), (fun _ _ z => by cases z), fun z => z.elim⟩
theorem AtM.dom_ob (a : AtM G K M H) {p : Addr} (hp : p ∈ dom M) : ∃ u, H p = some u ∧ (∀ xs, u ≠ .tup xs) ∧ (∀ a b, u ≠ .frz a (.tup b)) ∧ ¬ keepO u := by
  obtain ⟨q, hq, e⟩ := List.mem_map.mp hp
  subst e
  exact (a.ob q hq).some
theorem AtM.tup_out (a : AtM G K M H) {p : Addr} {xs : List V} (h : Rd H p (.tup xs)) : p ∉ dom M := fun hp => by
  obtain ⟨u, e, n1, n2, _⟩ := a.dom_ob hp
  rcases h with h | ⟨o, h⟩
  · exact n1 xs (Option.some.inj (e.symm.trans h))
  · exact n2 _ _ (Option.some.inj (e.symm.trans h))
theorem Mv.rd (m : Mv M H M' H') {p : Addr} {u : HO} (h : Rd H p u) (hn : p ∉ dom M) (hu : ∀ ps, u ≠ .tbl ps) : Rd H' p u := by
  rcases h with h | ⟨o, h⟩
  · exact .inl (m.ext _ _ h hn hu)
  · exact .inr ⟨o, m.ext _ _ h hn (fun _ z => by cases z)⟩
theorem Mv.sqT (m : Mv M H M' H') (a : AtM G K M H) {p : Addr} {xs : List V} (h : SqT K H p xs) : SqT K H' p xs := by
  rcases h with h | h
  · exact .inl (m.rd h (a.tup_out h) (fun _ z => by cases z))
  · exact .inr h
theorem Mv.tupH (m : Mv M H M' H') (a : AtM G K M H) {p : Addr} {xs : List V} (h : H p = some (.tup xs)) : H' p = some (.tup xs) := m.ext _ _ h (a.tup_out (.inl h)) (fun _ z => by cases z)
theorem Mv.extH (m : Mv M H M' H') (a : AtM G K M H) {p : Addr} {φ : Heap → Prop} (h : H p = some (.ext φ)) : H' p = some (.ext φ) := m.ext _ _ h (fun z => by
  obtain ⟨u, e, _, _, n⟩ := a.dom_ob z
  rw [h] at e
  cases e
  exact n trivial) (fun _ z => by cases z)
theorem Mv.lstR (m : Mv M H M' H') {p : Addr} {xs : List V} (h : H p = some (.lst xs)) (hn : p ∉ dom M) : H' p = some (.lst xs) ∧ p ∉ dom M' := by
  refine ⟨m.ext _ _ h hn (fun _ z => by cases z), fun z => ?_⟩
  rcases m.new p z with q | q
  · exact hn q
  · obtain ⟨ps, e⟩ := q _ h
    cases e
theorem Mv.rp (m : Mv M H M' H') (a : AtM G K M H) {v : V} {d : D} (h : Rp K (dom M) H v d) : Rp K (dom M') H' v d := h.mono (fun _ _ => m.extH a) (fun _ _ => m.tupH a) fun _ _ => m.lstR
theorem Mv.rpl (m : Mv M H M' H') (a : AtM G K M H) {v : List V} {d : List D} (h : RpL K (dom M) H v d) : RpL K (dom M') H' v d := h.mono (fun _ _ => m.extH a) (fun _ _ => m.tupH a) fun _ _ => m.lstR
theorem Mv.sl (m : Mv M H M' H') (a : AtM G K M H) {σ : L2.St} {ρ : Rh} (h : Sl K (dom M) H σ ρ) : Sl K (dom M') H' σ ρ := ⟨h.1, fun i d e => by
  obtain ⟨v, e1, e2⟩ := h.2 i d e
  exact ⟨v, e1, m.rp a e2⟩⟩
theorem Mv.oat (m : Mv M H M' H') (a : AtM G K M H) {p : Addr} {o : O} (h : OAt K (dom M) H p o) (hp : ∀ u, H p = some u → H' p = some u) : OAt K (dom M') H' p o := by
  cases o with
  | lst l => obtain ⟨xs, e, r⟩ := h; exact ⟨xs, hp _ e, m.rpl a r⟩
  | frz o l => obtain ⟨xs, e, r⟩ := h; exact ⟨xs, hp _ e, m.rpl a r⟩
  | ins C fs => obtain ⟨dx, vs, e, r, r2⟩ := h; exact ⟨dx, vs, hp _ e, r, m.rpl a r2⟩
  | dK kvs => obtain ⟨vs, e, r, r2⟩ := h; exact ⟨vs, hp _ e, r, m.rpl a r2⟩
  | dT kvs => obtain ⟨vs, e, r, r2⟩ := h; exact ⟨vs, hp _ e, r, m.rpl a r2⟩
  | fK o vs kvs => obtain ⟨e, r, r2⟩ := h; exact ⟨hp _ e, r, m.rpl a r2⟩
  | fT o vs kvs => obtain ⟨e, r, r2⟩ := h; exact ⟨hp _ e, r, m.rpl a r2⟩
/-- all that stood stands: something new came, not owned -/
theorem Mv.grow (e : ∀ a o, H a = some o → H' a = some o) : Mv M H M H' := ⟨fun a o h _ _ => e a o h, fun _ h => .inl h⟩
theorem AtM.grow (a : AtM G K M H) (gs : Gst G) (e : ∀ a o, H a = some o → H' a = some o) : AtM G K M H' :=
  ⟨gs _ _ a.g fun b o h _ => e b o h, a.nd, fun p hp => (Mv.grow e).oat a (a.ob p hp) (fun u h => e _ _ h)⟩
theorem upd_grow {p : Addr} {o : HO} (h : H p = none) : ∀ a u, H a = some u → upd H p o a = some u := fun a u e => by
  rw [upd_ne (ne_of_none e h)]; exact e
theorem dom_set {i : Nat} {p : Addr} {o : O} (h : (dom M)[i]? = some p) : dom (M.set i (p, o)) = dom M := by
  unfold dom at *
  rw [List.map_set]
  refine List.ext_getElem? fun j => ?_
  by_cases hj : i = j
  · subst hj
    rw [h]
    by_cases hl : i < (M.map (·.1)).length
    · rw [List.getElem?_set_self hl]
    · rw [List.getElem?_eq_none (by omega)] at h; cases h
  · rw [List.getElem?_set_ne hj]
theorem dom_at {i : Nat} {p : Addr} {o : O} (h : M[i]? = some (p, o)) : (dom M)[i]? = some p := by
  unfold dom; rw [List.getElem?_map, h]; rfl
theorem mem_at {i : Nat} {p : Addr} {o : O} (h : M[i]? = some (p, o)) : p ∈ dom M := List.mem_of_getElem? (dom_at h)
/-- an owned object is written -/
theorem AtM.write (a : AtM G K M H) (gs : Gst G) {i : Nat} {p : Addr} {o o' : O} {u : HO} (h : M[i]? = some (p, o)) (hu : ∀ ps, u ≠ .tbl ps) (new : OAt K (dom M) (upd H p u) p o') :
    AtM G K (M.set i (p, o')) (upd H p u) ∧ Mv M H (M.set i (p, o')) (upd H p u) := by
  have hd := dom_set (o := o') (dom_at h)
  have m : Mv M H M (upd H p u) := ⟨fun b v e n _ => by
      rw [upd_ne (fun z => n (by rw [z]; exact mem_at h))]; exact e, fun _ h => .inl h⟩
  refine ⟨⟨gs _ _ a.g fun b v e k => ?_, by rw [hd]; exact a.nd, fun q hq => ?_⟩, ⟨m.ext, fun b hb => .inl (by rw [hd] at hb; exact hb)⟩⟩
  · rw [upd_ne (fun z => ?_)]
    · exact e
    · obtain ⟨v', e', _, _, n⟩ := a.dom_ob (mem_at h)
      rw [z, e'] at e
      cases e
      exact n k
  · rw [hd]
    obtain ⟨j, hj⟩ := List.getElem?_of_mem hq
    by_cases z : i = j
    · subst z
      have hl : i < M.length := by
        rcases Nat.lt_or_ge i M.length with q | q
        · exact q
        · rw [List.getElem?_eq_none q] at h; cases h
      rw [List.getElem?_set_self hl] at hj
      cases hj
      exact new
    · rw [List.getElem?_set_ne z] at hj
      have hne : q.1 ≠ p := fun e => by
        have h1 := dom_at (o := q.2) (p := q.1) hj
        have h2 := dom_at h
        rw [e] at h1
        exact z (nd_ix a.nd h2 h1)
      exact m.oat a (a.ob q (List.mem_of_getElem? hj)) fun v e => by rw [upd_ne hne]; exact e
/-- an owned object comes -/
theorem AtM.own (a : AtM G K M H) (gs : Gst G) {p : Addr} {o : O} (e : ∀ b v, H b = some v → H' b = some v) (hn : H p = none) (new : OAt K (p :: dom M) H' p o) :
    AtM G K ((p, o) :: M) H' ∧ Mv M H ((p, o) :: M) H' := by
  have m : Mv M H ((p, o) :: M) H' := ⟨fun b v h _ _ => e b v h, fun b hb => by
    rcases List.mem_cons.mp hb with z | z
    · subst z; exact .inr fun o h => by rw [hn] at h; cases h
    · exact .inl z⟩
  refine ⟨⟨gs _ _ a.g fun b v h _ => e b v h, List.nodup_cons.mpr ⟨fun z => ?_, a.nd⟩, fun q hq => ?_⟩, m⟩
  · obtain ⟨u, h, _⟩ := a.dom_ob z
    rw [hn] at h; cases h
  · rcases List.mem_cons.mp hq with z | z
    · subst z; exact new
    · exact m.oat a (a.ob q z) fun v h => e _ _ h
theorem Sl.set {X : List Addr} {σ : L2.St} {ρ : Rh} (h : Sl K X H σ ρ) (i : Nat) {v : V} {d : D} (r : Rp K X H v d) : Sl K X H (σ.set i (some v)) (ρ.set i (some d)) := by
  refine ⟨by rw [List.length_set, List.length_set]; exact h.1, fun j e hj => ?_⟩
  by_cases z : i = j
  · subst z
    have hl : i < ρ.length := by
      rcases Nat.lt_or_ge i ρ.length with q | q
      · exact q
      · rw [List.getElem?_eq_none (by rw [List.length_set]; exact q)] at hj; cases hj
    rw [List.getElem?_set_self hl] at hj
    rw [List.getElem?_set_self (by rw [h.1]; exact hl)]
    cases hj
    exact ⟨v, rfl, r⟩
  · rw [List.getElem?_set_ne z] at hj ⊢
    exact h.2 j e hj
theorem Sl.wipe {X : List Addr} {σ : L2.St} {ρ : Rh} (h : Sl K X H σ ρ) (i : Nat) : Sl K X H (σ.set i none) (ρ.set i none) := by
  refine ⟨by rw [List.length_set, List.length_set]; exact h.1, fun j e hj => ?_⟩
  by_cases z : i = j
  · subst z
    have hl : i < ρ.length := by
      rcases Nat.lt_or_ge i ρ.length with q | q
      · exact q
      · rw [List.getElem?_eq_none (by rw [List.length_set]; exact q)] at hj; cases hj
    rw [List.getElem?_set_self hl] at hj
    cases hj
  · rw [List.getElem?_set_ne z] at hj ⊢
    exact h.2 j e hj
end
/-! ### what is wanted of an expression, a test, arguments, statements -/
structure En where
  nx : Ms → Rh → Prop
  rt : Ms → D → Prop
  bk : Ms → Rh → Prop
  ct : Ms → Rh → Prop
  xr : Value → Ms → Prop
def Xok (W : WX) (G : Hp → Prop) (K : PySem.W.Frag) (M : Ms) (H : Hp) (σ : L2.St) (xr : Value → Ms → Prop) : Prop := ∀ cls M' H', xr cls M' → AtM G K M' H' → Mv M H M' H' → W cls none σ H'
def TEv (G : Hp → Prop) (K : PySem.W.Frag) (W : WX) (te : TE) (M : Ms) (ρ : Rh) (xr : Value → Ms → Prop) (R : Ms → D → Prop) : Prop :=
  ∀ σ H, AtM G K M H → Sl K (dom M) H σ ρ → Xok W G K M H σ xr → ∀ Q : VK, (∀ M' d v H', R M' d → AtM G K M' H' → Mv M H M' H' → Rp K (dom M') H' v d → Q v H') → te σ H Q
def TTv (G : Hp → Prop) (K : PySem.W.Frag) (W : WX) (tt : TT) (M : Ms) (ρ : Rh) (xr : Value → Ms → Prop) (R : Ms → Bool → Prop) : Prop :=
  ∀ σ H, AtM G K M H → Sl K (dom M) H σ ρ → Xok W G K M H σ xr → ∀ Q : Bool → Hp → Prop, (∀ M' b H', R M' b → AtM G K M' H' → Mv M H M' H' → Q b H') → tt σ H Q
def TAv (G : Hp → Prop) (K : PySem.W.Frag) (W : WX) (ta : TA) (M : Ms) (ρ : Rh) (xr : Value → Ms → Prop) (R : Ms → List D → Prop) : Prop :=
  ∀ σ H, AtM G K M H → Sl K (dom M) H σ ρ → Xok W G K M H σ xr → ∀ Q : List V → Hp → Prop, (∀ M' d v H', R M' d → AtM G K M' H' → Mv M H M' H' → RpL K (dom M') H' v d → Q v H') → ta σ H Q
def TSv (G : Hp → Prop) (K : PySem.W.Frag) (W : WX) (t : TS) (M : Ms) (ρ : Rh) (N : En) : Prop :=
  ∀ σ H, AtM G K M H → Sl K (dom M) H σ ρ → ∀ Dn : Ends, (∀ M' H' cls σ', N.xr cls M' → AtM G K M' H' → Mv M H M' H' → W cls none σ' H') →
    (∀ M' ρ' σ' H', N.nx M' ρ' → AtM G K M' H' → Sl K (dom M') H' σ' ρ' → Mv M H M' H' → Dn.nx σ' H') →
    (∀ M' d v H', N.rt M' d → AtM G K M' H' → Mv M H M' H' → Rp K (dom M') H' v d → Dn.rt v H') →
    (∀ M' ρ' σ' H', N.bk M' ρ' → AtM G K M' H' → Sl K (dom M') H' σ' ρ' → Mv M H M' H' → Dn.bk σ' H') →
    (∀ M' ρ' σ' H', N.ct M' ρ' → AtM G K M' H' → Sl K (dom M') H' σ' ρ' → Mv M H M' H' → Dn.ct σ' H') → t Dn σ H
/-- the weakest readings -/
def eT (X : Cx) (e : Expr) : TE := fun σ H Q => ∀ pins s, Inv X pins σ H s → wpAny (model X.prog X.w) X.A (eval e X.env) (EP X pins σ Q) X.xe s
def tT (X : Cx) (e : Expr) : TT := fun σ H Q => ∀ pins s, Inv X pins σ H s → wpAny (model X.prog X.w) X.A (isTrue e X.env (eval e X.env)) (TP X pins σ Q) X.xe s
def wT (X : Cx) (e : Expr) : TT := fun σ H Q => ∀ whole pins s, Inv X pins σ H s → wpAny (model X.prog X.w) X.A (isTrue e X.env whole) (TP X pins σ Q) X.xe s
def aT (X : Cx) (es : List Expr) : TA := fun σ H Q => ∀ pos pins s, Inv X pins σ H s → wpAny (model X.prog X.w) X.A (spliced (backTo pos (starEach es X.env))) (AP X pins σ Q) X.xe s
def sT (X : Cx) (st : Stmt) : TS := fun Dn σ H => ∀ pins s, Inv X pins σ H s → wpAny (model X.prog X.w) X.A (exec st X.env) (SP X pins Dn) X.xe s
def ssT (X : Cx) (st : List Stmt) : TS := fun Dn σ H => ∀ pins s, Inv X pins σ H s → wpAny (model X.prog X.w) X.A (execs st X.env) (SP X pins Dn) X.xe s
section
variable {X : Cx}
theorem pe_wp {e : Expr} : PE X e (eT X e) := ⟨fun pins s σ H Q I h => h pins s I⟩
theorem pt_wp {e : Expr} : PT X e (tT X e) := ⟨fun pins s σ H Q I h => h pins s I⟩
theorem pw_wp {e : Expr} : PW X e (wT X e) := ⟨fun whole pins s σ H Q I h => h whole pins s I⟩
theorem pa_wp {es : List Expr} : PA X es (aT X es) := ⟨fun pos pins s σ H Q I h => h pos pins s I⟩
theorem ps_wp {st : Stmt} : PS X st (sT X st) := ⟨fun pins s σ H Q I h => h pins s I⟩
theorem pss_wp {st : List Stmt} : PSs X st (ssT X st) := ⟨fun pins s σ H Q I h => h pins s I⟩
end
section
variable (X : Cx) (G : Hp → Prop) (W : WX)
structure WE (e : Expr) (M : Ms) (ρ : Rh) (xr : Value → Ms → Prop) (R : Ms → D → Prop) : Prop where
  run : TEv G X.K W (eT X e) M ρ xr R
structure WT (e : Expr) (M : Ms) (ρ : Rh) (xr : Value → Ms → Prop) (R : Ms → Bool → Prop) : Prop where
  run : TTv G X.K W (tT X e) M ρ xr R
structure WW (e : Expr) (M : Ms) (ρ : Rh) (xr : Value → Ms → Prop) (R : Ms → Bool → Prop) : Prop where
  run : TTv G X.K W (wT X e) M ρ xr R
structure WA (e : List Expr) (M : Ms) (ρ : Rh) (xr : Value → Ms → Prop) (R : Ms → List D → Prop) : Prop where
  run : TAv G X.K W (aT X e) M ρ xr R
structure WS (st : Stmt) (M : Ms) (ρ : Rh) (N : En) : Prop where
  run : TSv G X.K W (sT X st) M ρ N
structure WSs (st : List Stmt) (M : Ms) (ρ : Rh) (N : En) : Prop where
  run : TSv G X.K W (ssT X st) M ρ N
end
section
variable {X : Cx} {G : Hp → Prop} {W : WX}
instance {e M ρ xr R} : CoeFun (WE X G W e M ρ xr R) fun _ => TEv G X.K W (eT X e) M ρ xr R := ⟨WE.run⟩
instance {e M ρ xr R} : CoeFun (WT X G W e M ρ xr R) fun _ => TTv G X.K W (tT X e) M ρ xr R := ⟨WT.run⟩
instance {e M ρ xr R} : CoeFun (WW X G W e M ρ xr R) fun _ => TTv G X.K W (wT X e) M ρ xr R := ⟨WW.run⟩
instance {e M ρ xr R} : CoeFun (WA X G W e M ρ xr R) fun _ => TAv G X.K W (aT X e) M ρ xr R := ⟨WA.run⟩
instance {e M ρ N} : CoeFun (WS X G W e M ρ N) fun _ => TSv G X.K W (sT X e) M ρ N := ⟨WS.run⟩
instance {e M ρ N} : CoeFun (WSs X G W e M ρ N) fun _ => TSv G X.K W (ssT X e) M ρ N := ⟨WSs.run⟩
end
section
variable {X : Cx} {G : Hp → Prop} {W : WX} {M : Ms} {ρ : Rh} {xr : Value → Ms → Prop} {N : En}
theorem we_of {e : Expr} {te : TE} {R : Ms → D → Prop} (h : PE X e te) (t : TEv G X.K W te M ρ xr R) : WE X G W e M ρ xr R :=
  ⟨fun σ H a b x Q k pins s I => h.run pins s σ H Q I (t σ H a b x Q k)⟩
theorem wt_of {e : Expr} {te : TT} {R : Ms → Bool → Prop} (h : PT X e te) (t : TTv G X.K W te M ρ xr R) : WT X G W e M ρ xr R :=
  ⟨fun σ H a b x Q k pins s I => h.run pins s σ H Q I (t σ H a b x Q k)⟩
theorem ww_of {e : Expr} {te : TT} {R : Ms → Bool → Prop} (h : PW X e te) (t : TTv G X.K W te M ρ xr R) : WW X G W e M ρ xr R :=
  ⟨fun σ H a b x Q k whole pins s I => h.run whole pins s σ H Q I (t σ H a b x Q k)⟩
theorem wa_of {e : List Expr} {te : TA} {R : Ms → List D → Prop} (h : PA X e te) (t : TAv G X.K W te M ρ xr R) : WA X G W e M ρ xr R :=
  ⟨fun σ H a b x Q k pos pins s I => h.run pos pins s σ H Q I (t σ H a b x Q k)⟩
theorem ws_of {e : Stmt} {te : TS} (h : PS X e te) (t : TSv G X.K W te M ρ N) : WS X G W e M ρ N :=
  ⟨fun σ H a b Dn x n r bk ct pins s I => h.run pins s σ H Dn I (t σ H a b Dn x n r bk ct)⟩
theorem wss_of {e : List Stmt} {te : TS} (h : PSs X e te) (t : TSv G X.K W te M ρ N) : WSs X G W e M ρ N :=
  ⟨fun σ H a b Dn x n r bk ct pins s I => h.run pins s σ H Dn I (t σ H a b Dn x n r bk ct)⟩
/-- running one after another -/
theorem Xok.mv {K : PySem.W.Frag} {H H' : Hp} {M' : Ms} {σ : L2.St} (x : Xok W G K M H σ xr) (m : Mv M H M' H') : Xok W G K M' H' σ xr := fun cls M2 H2 h a m2 => x cls M2 H2 h a (m.trans m2)
/-! ### names and constants -/
theorem we_var {x : Str} {pos : Pos} {R : Ms → D → Prop} (i : Nat) (d : D) (hN : X.N[i]? = some x) (hv : Vis X.env.scope x) (h : ρ[i]? = some (some d)) (k : R M d) (hd : (x == ("__debug__" : Str)) = false := by decide) (hcd : (x == ("__classdict__" : Str)) = false := by decide) :
    WE X G W (.Name x pos) M ρ xr R := we_of (pe_var hN hv hd hcd) fun σ H a b _ Q q => by
  obtain ⟨v, e, r⟩ := b.2 i d h
  exact ⟨v, e, q M d v H k a (Mv.refl _ _) r⟩
theorem tev_c {K : PySem.W.Frag} {v : V} {R : Ms → D → Prop} (k : R M (.raw v)) : TEv G K W (tC v) M ρ xr R := fun σ H a _ _ Q q => q M _ v H k a (Mv.refl _ _) (.raw v)
theorem we_int {i : Int} {j pos} {R : Ms → D → Prop} (k : R M (I i)) : WE X G W (.Constant (.int i) j pos) M ρ xr R := we_of pe_int (tev_c k)
theorem we_bl {b : Bool} {j pos} {R : Ms → D → Prop} (k : R M (B b)) : WE X G W (.Constant (.bool b) j pos) M ρ xr R := we_of pe_bl (tev_c k)
theorem we_non {j pos} {R : Ms → D → Prop} (k : R M N0) : WE X G W (.Constant .none j pos) M ρ xr R := we_of pe_non (tev_c k)
theorem we_str {z : Str} {j pos} {R : Ms → D → Prop} (k : R M (Z z)) : WE X G W (.Constant (.str z) j pos) M ρ xr R := we_of pe_str (tev_c k)
theorem we_glob {x : Str} {v : V} {u : Value} {pos : Pos} {R : Ms → D → Prop} (hm : X.mg x = some u) (hg : Gl X x) (r : RelV v u) (k : R M (.raw v)) (hd : (x == ("__debug__" : Str)) = false := by decide) : WE X G W (.Name x pos) M ρ xr R :=
  we_of (pe_glob hg hm r hd) (tev_c k)
theorem we_globI {x : Str} {i : Int} {t : Tok} {pos : Pos} {R : Ms → D → Prop} (hm : X.mg x = some (.int i t)) (hg : Gl X x) (k : R M (I i)) (hd : (x == ("__debug__" : Str)) = false := by decide) : WE X G W (.Name x pos) M ρ xr R := we_glob (v := .int i) hm hg ⟨_, rfl⟩ k hd
theorem we_globS {x : Str} {i : Str} {t : Tok} {pos : Pos} {R : Ms → D → Prop} (hm : X.mg x = some (.str i t)) (hg : Gl X x) (k : R M (Z i)) (hd : (x == ("__debug__" : Str)) = false := by decide) : WE X G W (.Name x pos) M ρ xr R := we_glob (v := .str i) hm hg ⟨_, rfl⟩ k hd
/-! ### operators -/
theorem TEv.mono {K : PySem.W.Frag} {te : TE} {R R' : Ms → D → Prop} (h : TEv G K W te M ρ xr R) (f : ∀ M d, R M d → R' M d) : TEv G K W te M ρ xr R' := fun σ H a b x Q q => h σ H a b x Q fun M1 d v H1 h1 => q M1 d v H1 (f _ _ h1)
theorem ofT {a b : Prop} (h : if true = true then a else b) : a := h
theorem ofF {a b : Prop} (h : if false = true then a else b) : b := h
/-- two values, then what r asks of them -/
theorem tev_op {K : PySem.W.Frag} {r : R2} {ta tb : TE} {R : Ms → D → Prop} {F : D → D → Ms → (Ms → D → Prop) → Prop}
    (hr : ∀ M x y d e H (Q : VK), AtM G K M H → Rp K (dom M) H x d → Rp K (dom M) H y e → F d e M R → (∀ M' d v H', R M' d → AtM G K M' H' → Mv M H M' H' → Rp K (dom M') H' v d → Q v H') → r x y H Q)
    (h : TEv G K W ta M ρ xr fun M1 d => TEv G K W tb M1 ρ xr fun M2 e => F d e M2 R) : TEv G K W (tOp r ta tb) M ρ xr R := by
  intro σ H a b x Q q
  refine h σ H a b x _ fun M1 d v H1 h1 a1 m1 r1 => ?_
  refine h1 σ H1 a1 (m1.sl a b) (x.mv m1) _ fun M2 e u H2 h2 a2 m2 r2 => ?_
  exact hr M2 v u d e H2 Q a2 (m2.rp a1 r1) r2 h2 fun M' d' v' H' k a' m' r' => q M' d' v' H' k a' ((m1.trans m2).trans m') r'
end
end Wv
set_option maxRecDepth 100000
set_option maxHeartbeats 2000000
namespace Wv
open PySem PySem.Spec PyProof.Rows L2
/-! ### bools among whole numbers -/
section
variable {prog : Program} {w : World} {A : Around} {E : Value → Shared → Prop} {s : Shared} {Q : Value → Shared → Prop}
theorem gives_lt_bi (p : Bool) (b : Int) (u : Tok) : Gives (Builtin.«int.__lt__» ⟨[.bool p, .int b u], []⟩) (.val (Value.bool ((fun x1 x2 => decide (x1 < x2)) (if p = true then (1 : Int) else 0) b))) :=
  .of_wp fun M A E s Q h => by obtain ⟨hp, g, d, tk, os⟩ := s; wp_walk; exact ⟨_, rfl, h⟩
theorem gives_gt_bi (p : Bool) (b : Int) (u : Tok) : Gives (Builtin.«int.__gt__» ⟨[.bool p, .int b u], []⟩) (.val (Value.bool ((fun x1 x2 => decide (x1 > x2)) (if p = true then (1 : Int) else 0) b))) :=
  .of_wp fun M A E s Q h => by obtain ⟨hp, g, d, tk, os⟩ := s; wp_walk; exact ⟨_, rfl, h⟩
theorem gives_ge_bi (p : Bool) (b : Int) (u : Tok) : Gives (Builtin.«int.__ge__» ⟨[.bool p, .int b u], []⟩) (.val (Value.bool ((fun x1 x2 => decide (x1 ≥ x2)) (if p = true then (1 : Int) else 0) b))) :=
  .of_wp fun M A E s Q h => by obtain ⟨hp, g, d, tk, os⟩ := s; wp_walk; exact ⟨_, rfl, h⟩
theorem lt_bool_int {p : Bool} {b : Int} {u : Tok} (h : Q (.bool (decide ((if p = true then (1 : Int) else 0) < b))) s) : wpAny (model prog w) A (compareOp .Lt (.bool p) (.int b u)) Q E s := by
  show wpAny (model prog w) A (richCompare .Lt (.bool p) (.int b u)) Q E s
  exact PySem.SeqAt.rc_left_or rfl (typeIs_int s b u) (by decide) F.sub_int_bool F.slot_bool_lt (call_gives F.slot_bool_lt rfl F.entry_int_lt (F.args_int_lt_2 _ _) (gives_lt_bi p b u) ⟨nofun, h⟩) (.inl rfl)
theorem gt_bool_int {p : Bool} {b : Int} {u : Tok} (h : Q (.bool (decide (b < (if p = true then (1 : Int) else 0)))) s) : wpAny (model prog w) A (compareOp .Gt (.bool p) (.int b u)) Q E s := by
  show wpAny (model prog w) A (richCompare .Gt (.bool p) (.int b u)) Q E s
  exact PySem.SeqAt.rc_left_or rfl (typeIs_int s b u) (by decide) F.sub_int_bool F.slot_bool_gt (call_gives F.slot_bool_gt rfl F.entry_int_gt (F.args_int_gt_2 _ _) (gives_gt_bi p b u) ⟨nofun, h⟩) (.inl rfl)
theorem le_int_bool {p : Bool} {b : Int} {u : Tok} (h : Q (.bool (decide (b ≤ (if p = true then (1 : Int) else 0)))) s) : wpAny (model prog w) A (compareOp .LtE (.int b u) (.bool p)) Q E s := by
  show wpAny (model prog w) A (richCompare .LtE (.int b u) (.bool p)) Q E s
  exact PySem.SeqAt.rc_sub_first_or (typeIs_int s b u) rfl (by decide) F.sub_bool_int F.slot_bool_ge (call_gives F.slot_bool_ge rfl F.entry_int_ge (F.args_int_ge_2 _ _) (gives_ge_bi p b u) ⟨nofun, h⟩) (.inl rfl)
end
def bI (p : Bool) : Int := if p = true then 1 else 0
theorem op_ltBI {X : Cx} : OpR X (compareOp .Lt) (fun x y H Q => ∃ p j, x = .bl p ∧ y = .int j ∧ Q (.bl (decide (bI p < j))) H) := by
  intro pins s σ H x y v u Q I rx ry h
  obtain ⟨p, j, rfl, rfl, q⟩ := h
  obtain ⟨t, rfl⟩ := ry
  cases rx
  exact lt_bool_int ⟨.bl _, H, I, rfl, q⟩
theorem op_gtBI {X : Cx} : OpR X (compareOp .Gt) (fun x y H Q => ∃ p j, x = .bl p ∧ y = .int j ∧ Q (.bl (decide (j < bI p))) H) := by
  intro pins s σ H x y v u Q I rx ry h
  obtain ⟨p, j, rfl, rfl, q⟩ := h
  obtain ⟨t, rfl⟩ := ry
  cases rx
  exact gt_bool_int ⟨.bl _, H, I, rfl, q⟩
theorem op_leIB {X : Cx} : OpR X (compareOp .LtE) (fun x y H Q => ∃ j p, x = .int j ∧ y = .bl p ∧ Q (.bl (decide (j ≤ bI p))) H) := by
  intro pins s σ H x y v u Q I rx ry h
  obtain ⟨j, p, rfl, rfl, q⟩ := h
  obtain ⟨t, rfl⟩ := rx
  cases ry
  exact le_int_bool ⟨.bl _, H, I, rfl, q⟩
/-! ### data as PyData -/
mutual
def pyD : D → PyData
  | .raw (.int i) => .int i
  | .raw (.bl b) => .bool b
  | .raw (.str s) => .str s
  | .raw _ => .none
  | .tup l => .tuple (pyDs l)
  | .lst l => .list (pyDs l)
  | .ext _ => .none
def pyDs : List D → List PyData
  | [] => []
  | d :: ds => pyD d :: pyDs ds
end
inductive Pl : Nat → D → Prop
  | int {n : Nat} (i : Int) : Pl n (I i)
  | bl {n : Nat} (b : Bool) : Pl n (B b)
  | str {n : Nat} (s : Str) : Pl n (Z s)
  | non {n : Nat} : Pl n N0
  | tup {n : Nat} {l : List D} : (∀ x ∈ l, Pl n x) → Pl (n + 1) (.tup l)
  | lst {n : Nat} {l : List D} : (∀ x ∈ l, Pl n x) → Pl (n + 1) (.lst l)
def eqd (d e : D) : Bool := PyData.eqv (pyD d) (pyD e)
theorem pyDs_map : ∀ l : List D, pyDs l = l.map pyD
  | [] => rfl
  | d :: ds => by simp only [pyDs, List.map_cons, pyDs_map ds]
theorem plainAll_of : ∀ {l : List PyData}, (∀ x ∈ l, x.plain = true) → PyData.plainAll l = true
  | [], _ => rfl
  | x :: xs, h => by
    rw [PyData.plainAll, h x List.mem_cons_self, plainAll_of fun y hy => h y (List.mem_cons_of_mem _ hy)]; rfl
theorem depthAll_of {n : Nat} : ∀ {l : List PyData}, (∀ x ∈ l, x.depth ≤ n) → PyData.depthAll l ≤ n
  | [], _ => Nat.zero_le _
  | x :: xs, h => by
    rw [PyData.depthAll]
    exact Nat.max_le.mpr ⟨h x List.mem_cons_self, depthAll_of fun y hy => h y (List.mem_cons_of_mem _ hy)⟩
theorem Pl.plain : ∀ {n : Nat} {d : D}, Pl n d → (pyD d).plain = true ∧ (pyD d).depth ≤ n
  | _, _, .int i => ⟨rfl, Nat.zero_le _⟩
  | _, _, .bl i => ⟨rfl, Nat.zero_le _⟩
  | _, _, .str i => ⟨rfl, Nat.zero_le _⟩
  | _, _, .non => ⟨rfl, Nat.zero_le _⟩
  | _, _, .tup h => by
    have ih := fun x hx => Pl.plain (h x hx)
    simp only [pyD, pyDs_map, PyData.plain, PyData.depth]
    refine ⟨plainAll_of fun y hy => ?_, Nat.succ_le_succ (depthAll_of fun y hy => ?_)⟩ <;> obtain ⟨x, hx, rfl⟩ := List.mem_map.mp hy
    · exact (ih x hx).1
    · exact (ih x hx).2
  | _, _, .lst h => by
    have ih := fun x hx => Pl.plain (h x hx)
    simp only [pyD, pyDs_map, PyData.plain, PyData.depth]
    refine ⟨plainAll_of fun y hy => ?_, Nat.succ_le_succ (depthAll_of fun y hy => ?_)⟩ <;> obtain ⟨x, hx, rfl⟩ := List.mem_map.mp hy
    · exact (ih x hx).1
    · exact (ih x hx).2
section
variable {K : PySem.W.Frag} {X : List Addr} {H : Hp}
mutual
theorem Rp.dp : ∀ {n : Nat} {v : V} {d : D}, Pl n d → Rp K X H v d → Dp K H v (pyD d)
  | _, _, _, .int i, h => by rw [h.raw_inv]; exact .int i
  | _, _, _, .bl i, h => by rw [h.raw_inv]; exact .bl i
  | _, _, _, .str i, h => by rw [h.raw_inv]; exact .str i
  | _, _, _, .non, h => by rw [h.raw_inv]; exact .non
  | _, _, _, .tup p, h => by
    obtain ⟨a, xs, rfl, hs, hr⟩ := h.tup_inv
    exact .tup hs (RpL.dp p hr)
  | _, _, _, .lst p, h => by
    obtain ⟨a, xs, rfl, hs, _, hr⟩ := h.lst_inv
    exact .lst (SqL.of hs) (RpL.dp p hr)
theorem RpL.dp : ∀ {n : Nat} {vs : List V} {ds : List D}, (∀ x ∈ ds, Pl n x) → RpL K X H vs ds → DpAll K H vs (pyDs ds)
  | _, _, [], _, h => by cases h; exact .nil
  | _, _, d :: ds, p, h => by
    cases h with
    | cons h1 h2 => exact .cons (Rp.dp (p d List.mem_cons_self) h1) (RpL.dp (fun x hx => p x (List.mem_cons_of_mem _ hx)) h2)
end
end
/-! ### operators by what they are on values -/
def rW (X : Cx) (f : Value → Value → Sem Value) : R2 := fun x y H Q => ∀ pins s σ v u, Inv X pins σ H s → RelV x v → RelV y u → wpAny (model X.prog X.w) X.A (f v u) (EP X pins σ Q) X.xe s
section
variable {X : Cx} {G : Hp → Prop} {W : WX} {M : Ms} {ρ : Rh} {xr : Value → Ms → Prop} {N : En} {a b c e : Expr} {pos : Pos} {R : Ms → D → Prop}
theorem op_rW {f : Value → Value → Sem Value} : OpR X f (rW X f) := fun pins s σ H x y v u Q I rx ry h => h pins s σ v u I rx ry
theorem rW_of {f : Value → Value → Sem Value} {r : R2} (o : OpR X f r) {x y : V} {H : Hp} {Q : VK} (h : r x y H Q) : rW X f x y H Q := fun pins s σ v u I rx ry => o pins s σ H x y v u Q I rx ry h
theorem op_mulS {X : Cx} : OpR X (binaryOp .Mult) (fun x y H Q => ∃ z n, x = .str z ∧ y = .int n ∧ MulOk z n ∧ Q (.str (Txt.mul z n)) H) := by
  intro pins s σ H x y v u Q I rx ry h
  obtain ⟨z, n, rfl, rfl, hz, q⟩ := h
  obtain ⟨t, rfl⟩ := rx
  obtain ⟨t', rfl⟩ := ry
  exact SB.mul hz (fun t' tk => ⟨.str (Txt.mul z n), H, I.tok _, ⟨_, rfl⟩, q⟩)
inductive BinD : Operator → D → D → (D → Prop) → Prop
  | addI {i j : Int} {k : D → Prop} (h : k (I (i + j))) : BinD .Add (I i) (I j) k
  | addS {i j : Str} {k : D → Prop} (z : i.length + j.length ≤ sizeLine) (h : k (Z (i ++ j))) : BinD .Add (Z i) (Z j) k
  | addT {i j : List D} {k : D → Prop} (z : i.length + j.length ≤ sizeLine) (h : k (.tup (i ++ j))) : BinD .Add (.tup i) (.tup j) k
  | addL {i j : List D} {k : D → Prop} (z : i.length + j.length ≤ sizeLine) (h : k (.lst (i ++ j))) : BinD .Add (.lst i) (.lst j) k
  | subI {i j : Int} {k : D → Prop} (h : k (I (i - j))) : BinD .Sub (I i) (I j) k
  | mulI {i j : Int} {k : D → Prop} (z : CMul i j) (h : k (I (i * j))) : BinD .Mult (I i) (I j) k
  | mulS {i : Str} {j : Int} {k : D → Prop} (z : MulOk i j) (h : k (Z (Txt.mul i j))) : BinD .Mult (Z i) (I j) k
  | mulL {i : List D} {j : Int} {k : D → Prop} (z1 : -(2 ^ 63) ≤ j) (z2 : j < 2 ^ 63) (z : i.length * j.toNat ≤ sizeLine) (h : k (.lst (List.replicate j.toNat i).flatten)) : BinD .Mult (.lst i) (I j) k
  | mulT {i : List D} {j : Int} {k : D → Prop} (hne : i ≠ []) (z1 : 2 ≤ j) (z2 : j ≤ 1000) (z : i.length ≤ 1000) (h : k (.tup (List.replicate j.toNat i).flatten)) : BinD .Mult (.tup i) (I j) k
  | divI {i j : Int} {k : D → Prop} (z : 0 < j) (z2 : j < 1180591620717411303424) (h : k (I (i / j))) : BinD .FloorDiv (I i) (I j) k
  | modI {i j : Int} {k : D → Prop} (z : 0 < j) (h : k (I (i % j))) : BinD .Mod (I i) (I j) k
  | powI {i j : Int} {k : D → Prop} (z : CPow i j) (h : k (I (i ^ j.toNat))) : BinD .Pow (I i) (I j) k
  | xorI {i j : Int} {k : D → Prop} (h : k (I (Builtin.bitXor i j))) : BinD .BitXor (I i) (I j) k
  | andI {i j : Int} {k : D → Prop} (h : k (I (Builtin.bitAnd i j))) : BinD .BitAnd (I i) (I j) k
  | orI {i j : Int} {k : D → Prop} (h : k (I (Builtin.bitOr i j))) : BinD .BitOr (I i) (I j) k
  | shrI {i j : Int} {k : D → Prop} (z : 0 ≤ j) (h : k (I (i / 2 ^ j.toNat))) : BinD .RShift (I i) (I j) k
  | shlI {i j : Int} {k : D → Prop} (z : CPow i j) (h : k (I (i * 2 ^ j.toNat))) : BinD .LShift (I i) (I j) k
theorem Mv.up (gs : Gst G) {H : Hp} {p : Addr} {o : HO} (a : AtM G X.K M H) (hp : H p = none) : AtM G X.K M (upd H p o) ∧ Mv M H M (upd H p o) := ⟨a.grow gs (upd_grow hp), Mv.grow (upd_grow hp)⟩
theorem fresh_dom (a : AtM G X.K M H) {p : Addr} (hp : H p = none) : p ∉ dom M := fun z => by
  obtain ⟨u, e, _⟩ := a.dom_ob z
  rw [hp] at e; cases e
theorem RpL.repl {K : PySem.W.Frag} {Y : List Addr} {H : Hp} {vs : List V} {ds : List D} (h : RpL K Y H vs ds) : ∀ n : Nat, RpL K Y H (List.replicate n vs).flatten (List.replicate n ds).flatten
  | 0 => .nil
  | n + 1 => by simp only [List.replicate_succ, List.flatten_cons]; exact h.app (RpL.repl h n)
/-- a new tuple, a new list of ours -/
theorem new_tup (gs : Gst G) {H : Hp} {p : Addr} {xs : List V} {ds : List D} (a : AtM G X.K M H) (hp : H p = none) (r : RpL X.K (dom M) H xs ds) {Q : VK} (k : R M (.tup ds))
    (q : ∀ M' d v H', R M' d → AtM G X.K M' H' → Mv M H M' H' → Rp X.K (dom M') H' v d → Q v H') : Q (.ref p) (upd H p (.tup xs)) := by
  obtain ⟨a1, m1⟩ := Mv.up (o := .tup xs) gs a hp
  exact q M _ _ _ k a1 m1 (.tup upd_same (m1.rpl a r))
theorem new_lst (gs : Gst G) {H : Hp} {p : Addr} {xs : List V} {ds : List D} (a : AtM G X.K M H) (hp : H p = none) (r : RpL X.K (dom M) H xs ds) {Q : VK} (k : R M (.lst ds))
    (q : ∀ M' d v H', R M' d → AtM G X.K M' H' → Mv M H M' H' → Rp X.K (dom M') H' v d → Q v H') : Q (.ref p) (upd H p (.lst xs)) := by
  obtain ⟨a1, m1⟩ := Mv.up (o := .lst xs) gs a hp
  exact q M _ _ _ k a1 m1 (.lst upd_same (fresh_dom a hp) (m1.rpl a r))
theorem div_ok {i j : Int} (z : 0 < j) (z2 : j < 1180591620717411303424) : CDivW i j := by
  refine wide_div (b := 70) z ?_ (by decide) (by decide)
  have e : (2 : Nat) ^ 70 = 1180591620717411303424 := by decide
  rw [e]
  omega
theorem bin_ok (gs : Gst G) {op : Operator} {x y : V} {d e : D} {H : Hp} {Q : VK} (a : AtM G X.K M H) (rx : Rp X.K (dom M) H x d) (ry : Rp X.K (dom M) H y e) (h : BinD op d e (R M))
    (q : ∀ M' d v H', R M' d → AtM G X.K M' H' → Mv M H M' H' → Rp X.K (dom M') H' v d → Q v H') : rW X (binaryOp op) x y H Q := by
  cases h with
  | addI h => rw [rx.raw_inv, ry.raw_inv]; exact rW_of op_add ⟨_, _, rfl, rfl, q M _ _ H h a (Mv.refl _ _) (.raw _)⟩
  | addS z h => rw [rx.raw_inv, ry.raw_inv]; exact rW_of op_add_str ⟨_, _, rfl, rfl, z, q M _ _ H h a (Mv.refl _ _) (.raw _)⟩
  | addT z h =>
    obtain ⟨p1, xs, rfl, s1, l1⟩ := rx.tup_invH
    obtain ⟨p2, ys, rfl, s2, l2⟩ := ry.tup_invH
    refine rW_of op_catA ⟨p1, p2, xs, ys, rfl, rfl, SqT.of s1, SqT.of s2, by rw [l1.length, l2.length]; exact z, fun e => ?_, fun _ e => ?_, fun _ _ p hp => new_tup gs a hp (l1.app l2) h q⟩
    · subst e
      cases l1
      exact q M _ _ H h a (Mv.refl _ _) (.tup s2 l2)
    · subst e
      cases l2
      rw [List.append_nil] at h
      exact q M _ _ H h a (Mv.refl _ _) (.tup s1 l1)
  | addL z h =>
    obtain ⟨p1, xs, rfl, s1, _, l1⟩ := rx.lst_inv
    obtain ⟨p2, ys, rfl, s2, _, l2⟩ := ry.lst_inv
    exact rW_of op_cat ⟨p1, p2, xs, ys, rfl, rfl, s1, s2, by rw [l1.length, l2.length]; exact z, fun p hp => new_lst gs a hp (l1.app l2) h q⟩
  | subI h => rw [rx.raw_inv, ry.raw_inv]; exact rW_of op_sub ⟨_, _, rfl, rfl, q M _ _ H h a (Mv.refl _ _) (.raw _)⟩
  | mulI z h => rw [rx.raw_inv, ry.raw_inv]; exact rW_of op_mul ⟨_, _, rfl, rfl, z, q M _ _ H h a (Mv.refl _ _) (.raw _)⟩
  | mulS z h => rw [rx.raw_inv, ry.raw_inv]; exact rW_of op_mulS ⟨_, _, rfl, rfl, z, q M _ _ H h a (Mv.refl _ _) (.raw _)⟩
  | mulL z1 z2 z h =>
    obtain ⟨p1, xs, rfl, s1, _, l1⟩ := rx.lst_inv
    rw [ry.raw_inv]
    refine rW_of op_rep ⟨p1, _, xs, rfl, rfl, s1, z1, z2, by rw [l1.length]; exact z, fun p hp => new_lst gs a hp ?_ h q⟩
    exact RpL.repl l1 _
  | mulT hne z1 z2 z h =>
    obtain ⟨p1, xs, rfl, s1, l1⟩ := rx.tup_inv
    rw [ry.raw_inv]
    refine rW_of op_repT ⟨p1, _, xs, rfl, rfl, s1, fun e => hne (by subst e; cases l1; rfl), z1, z2, by rw [l1.length]; exact z, fun p hp => new_tup gs a hp ?_ h q⟩
    exact RpL.repl l1 _
  | divI z z2 h => rw [rx.raw_inv, ry.raw_inv]; exact rW_of op_fdivW ⟨_, _, rfl, rfl, div_ok z z2, q M _ _ H h a (Mv.refl _ _) (.raw _)⟩
  | modI z h => rw [rx.raw_inv, ry.raw_inv]; exact rW_of op_mod ⟨_, _, rfl, rfl, z, q M _ _ H h a (Mv.refl _ _) (.raw _)⟩
  | powI z h => rw [rx.raw_inv, ry.raw_inv]; exact rW_of op_pow ⟨_, _, rfl, rfl, z, q M _ _ H h a (Mv.refl _ _) (.raw _)⟩
  | xorI h => rw [rx.raw_inv, ry.raw_inv]; exact rW_of op_xor ⟨_, _, rfl, rfl, q M _ _ H h a (Mv.refl _ _) (.raw _)⟩
  | andI h => rw [rx.raw_inv, ry.raw_inv]; exact rW_of op_and ⟨_, _, rfl, rfl, q M _ _ H h a (Mv.refl _ _) (.raw _)⟩
  | orI h => rw [rx.raw_inv, ry.raw_inv]; exact rW_of op_or ⟨_, _, rfl, rfl, q M _ _ H h a (Mv.refl _ _) (.raw _)⟩
  | shrI z h => rw [rx.raw_inv, ry.raw_inv]; exact rW_of op_shr ⟨_, _, rfl, rfl, z, q M _ _ H h a (Mv.refl _ _) (.raw _)⟩
  | shlI z h => rw [rx.raw_inv, ry.raw_inv]; exact rW_of op_shl ⟨_, _, rfl, rfl, z, q M _ _ H h a (Mv.refl _ _) (.raw _)⟩
theorem we_bin (gs : Gst G) {op : Operator} (h : WE X G W a M ρ xr fun M1 d => WE X G W b M1 ρ xr fun M2 e => BinD op d e (R M2)) : WE X G W (.BinOp a op b pos) M ρ xr R :=
  we_of (pe_op op_rW pe_wp pe_wp) (tev_op (F := fun d e M R => BinD op d e (R M)) (fun M x y d e H Q a rx ry h q => bin_ok gs a rx ry h q) (h.run.mono fun _ _ z => z.run))
/-! ### comparisons -/
def isN : D → Bool
  | .raw .non => true
  | _ => false
inductive CmpD : CmpOp → D → D → (Bool → Prop) → Prop
  | lt {i j : Int} {k : Bool → Prop} (h : k (decide (i < j))) : CmpD .Lt (I i) (I j) k
  | le {i j : Int} {k : Bool → Prop} (h : k (decide (i ≤ j))) : CmpD .LtE (I i) (I j) k
  | gt {i j : Int} {k : Bool → Prop} (h : k (decide (j < i))) : CmpD .Gt (I i) (I j) k
  | ge {i j : Int} {k : Bool → Prop} (h : k (decide (j ≤ i))) : CmpD .GtE (I i) (I j) k
  | ltBI {p : Bool} {j : Int} {k : Bool → Prop} (h : k (decide (bI p < j))) : CmpD .Lt (B p) (I j) k
  | gtBI {p : Bool} {j : Int} {k : Bool → Prop} (h : k (decide (j < bI p))) : CmpD .Gt (B p) (I j) k
  | leIB {p : Bool} {j : Int} {k : Bool → Prop} (h : k (decide (j ≤ bI p))) : CmpD .LtE (I j) (B p) k
  | eq {d e : D} {k : Bool → Prop} (p1 : Pl 60 d) (p2 : Pl 60 e) (h : k (eqd d e)) : CmpD .Eq d e k
  | ne {d e : D} {k : Bool → Prop} (p1 : Pl 60 d) (p2 : Pl 60 e) (h : k (!eqd d e)) : CmpD .NotEq d e k
  | isN {d : D} {k : Bool → Prop} (h : k (isN d)) : CmpD .Is d N0 k
  | notN {d : D} {k : Bool → Prop} (h : k (!isN d)) : CmpD .IsNot d N0 k
  | inT {d : D} {l : List D} {k : Bool → Prop} (p1 : Pl 60 d) (p2 : ∀ x ∈ l, Pl 60 x) (h : k (l.any fun x => eqd x d)) : CmpD .In d (.tup l) k
  | inL {d : D} {l : List D} {k : Bool → Prop} (p1 : Pl 60 d) (p2 : ∀ x ∈ l, Pl 60 x) (h : k (l.any fun x => eqd x d)) : CmpD .In d (.lst l) k
  | notInT {d : D} {l : List D} {k : Bool → Prop} (p1 : Pl 60 d) (p2 : ∀ x ∈ l, Pl 60 x) (h : k (!l.any fun x => eqd x d)) : CmpD .NotIn d (.tup l) k
  | notInL {d : D} {l : List D} {k : Bool → Prop} (p1 : Pl 60 d) (p2 : ∀ x ∈ l, Pl 60 x) (h : k (!l.any fun x => eqd x d)) : CmpD .NotIn d (.lst l) k
  | inS {c : Nat} {z : Str} {k : Bool → Prop} (h : k (decide (c ∈ z.cps.toList))) : CmpD .In (Z ⟨#[c]⟩) (Z z) k
  | notInS {c : Nat} {z : Str} {k : Bool → Prop} (h : k (!decide (c ∈ z.cps.toList))) : CmpD .NotIn (Z ⟨#[c]⟩) (Z z) k
theorem isN_of {K : PySem.W.Frag} {Y : List Addr} {H : Hp} {x : V} {d : D} (r : Rp K Y H x d) : decide (x = .non) = isN d := by
  cases r with
  | raw => cases x <;> simp [isN]
  | tup _ _ => simp [isN]
  | lst _ _ _ => simp [isN]
  | ext _ => simp [isN]
theorem any_map {l : List D} {d : D} : ((pyDs l).any fun y => PyData.eqv y (pyD d)) = l.any fun x => eqd x d := by
  rw [pyDs_map, List.any_map]; rfl
theorem cmp_ok (hu : X.A.units + 64 < cLine) {op : CmpOp} {x y : V} {d e : D} {H : Hp} {Q : VK} (a : AtM G X.K M H) (rx : Rp X.K (dom M) H x d) (ry : Rp X.K (dom M) H y e) (h : CmpD op d e fun b => Q (.bl b) H) :
    rW X (compareOp op) x y H Q := by
  cases h with
  | lt h => rw [rx.raw_inv, ry.raw_inv]; exact rW_of op_lt ⟨_, _, rfl, rfl, h⟩
  | le h => rw [rx.raw_inv, ry.raw_inv]; exact rW_of op_le ⟨_, _, rfl, rfl, h⟩
  | gt h => rw [rx.raw_inv, ry.raw_inv]; exact rW_of op_gt ⟨_, _, rfl, rfl, h⟩
  | ge h => rw [rx.raw_inv, ry.raw_inv]; exact rW_of op_ge ⟨_, _, rfl, rfl, h⟩
  | ltBI h => rw [rx.raw_inv, ry.raw_inv]; exact rW_of op_ltBI ⟨_, _, rfl, rfl, h⟩
  | gtBI h => rw [rx.raw_inv, ry.raw_inv]; exact rW_of op_gtBI ⟨_, _, rfl, rfl, h⟩
  | leIB h => rw [rx.raw_inv, ry.raw_inv]; exact rW_of op_leIB ⟨_, _, rfl, rfl, h⟩
  | eq p1 p2 h =>
    intro pins s σ v u I rv ru
    obtain ⟨as, r1⟩ := Dp.reads I _ x v (Rp.dp p1 rx) rv
    obtain ⟨bs, r2⟩ := Dp.reads I _ y u (Rp.dp p2 ry) ru
    have h1 := p1.plain.2
    exact PySem.SeqAt.eq_plain r1 r2 p1.plain.1 p2.plain.1 (by omega) ⟨.bl _, H, I, rfl, h⟩
  | ne p1 p2 h =>
    intro pins s σ v u I rv ru
    obtain ⟨as, r1⟩ := Dp.reads I _ x v (Rp.dp p1 rx) rv
    obtain ⟨bs, r2⟩ := Dp.reads I _ y u (Rp.dp p2 ry) ru
    have h1 := p1.plain.2
    exact PySem.SeqAt.ne_plain r1 r2 p1.plain.1 p2.plain.1 (by omega) ⟨.bl _, H, I, rfl, h⟩
  | isN h => rw [ry.raw_inv]; exact rW_of op_isN ⟨rfl, by rw [isN_of rx]; exact h⟩
  | notN h => rw [ry.raw_inv]; exact rW_of op_notN ⟨rfl, by rw [isN_of rx]; exact h⟩
  | inT p1 p2 h =>
    intro pins s σ v u I rv ru
    obtain ⟨as, r1⟩ := Dp.reads I _ x v (Rp.dp p1 rx) rv
    have pt : Pl 61 (.tup _) := .tup p2
    obtain ⟨bs, r2⟩ := Dp.reads I _ y u (Rp.dp pt ry) ru
    have h1 := p1.plain.2
    have h2 := pt.plain.1
    simp only [pyD] at r2
    rw [pyD, PyData.plain] at h2
    exact PySem.SeqAt.in_tuple_data r2 r1 h2 p1.plain.1 (by omega) ⟨.bl _, H, I, rfl, by rw [any_map]; exact h⟩
  | inL p1 p2 h =>
    intro pins s σ v u I rv ru
    obtain ⟨as, r1⟩ := Dp.reads I _ x v (Rp.dp p1 rx) rv
    have pt : Pl 61 (.lst _) := .lst p2
    obtain ⟨bs, r2⟩ := Dp.reads I _ y u (Rp.dp pt ry) ru
    have h1 := p1.plain.2
    have h2 := pt.plain.1
    simp only [pyD] at r2
    rw [pyD, PyData.plain] at h2
    exact PySem.SeqAt.in_list_data r2 r1 h2 p1.plain.1 (by omega) ⟨.bl _, H, I, rfl, by rw [any_map]; exact h⟩
  | notInT p1 p2 h =>
    intro pins s σ v u I rv ru
    obtain ⟨as, r1⟩ := Dp.reads I _ x v (Rp.dp p1 rx) rv
    have pt : Pl 61 (.tup _) := .tup p2
    obtain ⟨bs, r2⟩ := Dp.reads I _ y u (Rp.dp pt ry) ru
    have h1 := p1.plain.2
    have h2 := pt.plain.1
    simp only [pyD] at r2
    rw [pyD, PyData.plain] at h2
    exact PySem.SeqAt.notIn_tuple_data r2 r1 h2 p1.plain.1 (by omega) ⟨.bl _, H, I, rfl, by rw [any_map]; exact h⟩
  | notInL p1 p2 h =>
    intro pins s σ v u I rv ru
    obtain ⟨as, r1⟩ := Dp.reads I _ x v (Rp.dp p1 rx) rv
    have pt : Pl 61 (.lst _) := .lst p2
    obtain ⟨bs, r2⟩ := Dp.reads I _ y u (Rp.dp pt ry) ru
    have h1 := p1.plain.2
    have h2 := pt.plain.1
    simp only [pyD] at r2
    rw [pyD, PyData.plain] at h2
    exact PySem.SeqAt.notIn_list_data r2 r1 h2 p1.plain.1 (by omega) ⟨.bl _, H, I, rfl, by rw [any_map]; exact h⟩
  | inS h => rw [rx.raw_inv, ry.raw_inv]; exact rW_of op_in_sign ⟨_, _, rfl, rfl, h⟩
  | notInS h => rw [rx.raw_inv, ry.raw_inv]; exact rW_of op_notIn_sign ⟨_, _, rfl, rfl, h⟩
theorem CmpD.imp {op : CmpOp} {d e : D} {k k' : Bool → Prop} (h : CmpD op d e k) (f : ∀ b, k b → k' b) : CmpD op d e k' := by
  cases h with
  | lt h => exact .lt (f _ h)
  | le h => exact .le (f _ h)
  | gt h => exact .gt (f _ h)
  | ge h => exact .ge (f _ h)
  | ltBI h => exact .ltBI (f _ h)
  | gtBI h => exact .gtBI (f _ h)
  | leIB h => exact .leIB (f _ h)
  | eq p1 p2 h => exact .eq p1 p2 (f _ h)
  | ne p1 p2 h => exact .ne p1 p2 (f _ h)
  | isN h => exact .isN (f _ h)
  | notN h => exact .notN (f _ h)
  | inT p1 p2 h => exact .inT p1 p2 (f _ h)
  | inL p1 p2 h => exact .inL p1 p2 (f _ h)
  | notInT p1 p2 h => exact .notInT p1 p2 (f _ h)
  | notInL p1 p2 h => exact .notInL p1 p2 (f _ h)
  | inS h => exact .inS (f _ h)
  | notInS h => exact .notInS (f _ h)
theorem we_cmp (hu : X.A.units + 64 < cLine) {op : CmpOp} (h : WE X G W a M ρ xr fun M1 d => WE X G W b M1 ρ xr fun M2 e => CmpD op d e fun k => R M2 (B k)) (hm : behindInMarks op b = false := by rfl) :
    WE X G W (.Compare a [op] [b] pos) M ρ xr R :=
  we_of (pe_cmpR op_rW pe_wp pe_wp hm) (tev_op (F := fun d e M R => CmpD op d e fun k => R M (B k)) (fun M x y d e H Q a rx ry h q => cmp_ok hu a rx ry (h.imp fun k hk => q M _ _ H hk a (Mv.refl _ _) (.raw _))) (h.run.mono fun _ _ z => z.run))
theorem wt_cmp (hu : X.A.units + 64 < cLine) {op : CmpOp} {R : Ms → Bool → Prop} (h : WE X G W a M ρ xr fun M1 d => WE X G W b M1 ρ xr fun M2 e => CmpD op d e (R M2)) (hm : behindInMarks op b = false := by rfl) :
    WT X G W (.Compare a [op] [b] pos) M ρ xr R := wt_of (pt_cmpR op_rW pe_wp pe_wp hm) fun σ H a0 b0 x Q q => by
  refine h σ H a0 b0 x _ fun M1 d v H1 h1 a1 m1 r1 => ?_
  refine h1 σ H1 a1 (m1.sl a0 b0) (x.mv m1) _ fun M2 e u H2 h2 a2 m2 r2 => ?_
  exact cmp_ok hu a2 (m2.rp a1 r1) r2 (h2.imp fun k hk => ⟨k, rfl, q M2 k H2 hk a2 (m1.trans m2)⟩)
/-- a op b op' c -/
theorem we_chain (hu : X.A.units + 64 < cLine) {op op' : CmpOp}
    (h : WE X G W a M ρ xr fun M1 d => WE X G W b M1 ρ xr fun M2 e => CmpD op d e fun k => if k = true then WE X G W c M2 ρ xr fun M3 f => CmpD op' e f fun k => R M3 (B k) else R M2 (B false))
    (hm : lastMarks [op, op'] [b, c] = false := by with_unfolding_all rfl) : WE X G W (.Compare a [op, op'] [b, c] pos) M ρ xr R :=
  we_of (pe_chain op_rW op_rW pe_wp pe_wp pe_wp hm) fun σ H a0 b0 x Q q => by
  refine h σ H a0 b0 x _ fun M1 d v H1 h1 a1 m1 r1 => ?_
  refine h1 σ H1 a1 (m1.sl a0 b0) (x.mv m1) _ fun M2 e u H2 h2 a2 m2 r2 => ?_
  refine cmp_ok hu a2 (m2.rp a1 r1) r2 (h2.imp fun k hk => ⟨k, rfl, ?_⟩)
  cases k with
  | false => exact iteF (q M2 _ _ H2 hk a2 (m1.trans m2) (.raw _))
  | true =>
    refine iteT ((ofT hk) σ H2 a2 (m2.sl a1 (m1.sl a0 b0)) (x.mv (m1.trans m2)) _ fun M3 f w H3 h3 a3 m3 r3 => ?_)
    exact cmp_ok hu a3 (m3.rp a2 r2) r3 (h3.imp fun k hk => q M3 _ _ H3 hk a3 ((m1.trans m2).trans m3) (.raw _))
theorem wt_chain (hu : X.A.units + 64 < cLine) {op op' : CmpOp} {R : Ms → Bool → Prop}
    (h : WE X G W a M ρ xr fun M1 d => WE X G W b M1 ρ xr fun M2 e => CmpD op d e fun k => if k = true then WE X G W c M2 ρ xr fun M3 f => CmpD op' e f (R M3) else R M2 false)
    (hm : lastMarks [op, op'] [b, c] = false := by with_unfolding_all rfl) : WT X G W (.Compare a [op, op'] [b, c] pos) M ρ xr R :=
  wt_of (pt_chain op_rW op_rW pe_wp pe_wp pe_wp hm) fun σ H a0 b0 x Q q => by
  refine h σ H a0 b0 x _ fun M1 d v H1 h1 a1 m1 r1 => ?_
  refine h1 σ H1 a1 (m1.sl a0 b0) (x.mv m1) _ fun M2 e u H2 h2 a2 m2 r2 => ?_
  refine cmp_ok hu a2 (m2.rp a1 r1) r2 (h2.imp fun k hk => ⟨k, rfl, ?_⟩)
  cases k with
  | false => exact iteF ⟨false, rfl, q M2 _ H2 hk a2 (m1.trans m2)⟩
  | true =>
    refine iteT ((ofT hk) σ H2 a2 (m2.sl a1 (m1.sl a0 b0)) (x.mv (m1.trans m2)) _ fun M3 f w H3 h3 a3 m3 r3 => ?_)
    exact cmp_ok hu a3 (m3.rp a2 r2) r3 (h3.imp fun k hk => ⟨k, rfl, q M3 _ H3 hk a3 ((m1.trans m2).trans m3)⟩)
/-! ### tests -/
inductive TruD : D → (Bool → Prop) → Prop
  | bl {b : Bool} {k : Bool → Prop} (h : k b) : TruD (B b) k
  | int {i : Int} {k : Bool → Prop} (h : k (i != 0)) : TruD (I i) k
  | str {z : Str} {k : Bool → Prop} (l : z.length ≤ sizeLine) (h : k ((z.length : Int) != 0)) : TruD (Z z) k
  | tup {l : List D} {k : Bool → Prop} (h : k (!l.isEmpty)) : TruD (.tup l) k
  | lst {l : List D} {k : Bool → Prop} (h : k (!l.isEmpty)) : TruD (.lst l) k
theorem RpL.isEmpty {K : PySem.W.Frag} {Y : List Addr} {H : Hp} {xs : List V} {ds : List D} (r : RpL K Y H xs ds) : xs.isEmpty = ds.isEmpty := by cases r <;> rfl
theorem wt_val {R : Ms → Bool → Prop} (h : WE X G W e M ρ xr fun M1 d => TruD d (R M1)) (he : ∀ whole, isTrue e X.env whole = (do let v ← whole; standAt e.pos; holding [v] (truthy v)) := by intro _; rfl) : WT X G W e M ρ xr R :=
  wt_of (pt_truth pe_wp he) fun σ H a0 b0 x Q q => by
  refine h σ H a0 b0 x _ fun M1 d v H1 h1 a1 m1 r1 => ?_
  cases h1 with
  | bl h => rw [r1.raw_inv]; exact ⟨_, rfl, q M1 _ H1 h a1 m1⟩
  | int h => rw [r1.raw_inv]; exact ⟨_, rfl, q M1 _ H1 h a1 m1⟩
  | str l h => rw [r1.raw_inv]; exact ⟨_, ⟨l, rfl⟩, q M1 _ H1 h a1 m1⟩
  | tup h =>
    obtain ⟨p, xs, rfl, s1, l1⟩ := r1.tup_inv
    exact ⟨_, .inr (.inl ⟨xs, s1, rfl⟩), by rw [l1.isEmpty]; exact q M1 _ H1 h a1 m1⟩
  | lst h =>
    obtain ⟨p, xs, rfl, s1, _, l1⟩ := r1.lst_inv
    exact ⟨_, .inl ⟨xs, SqL.of s1, rfl⟩, by rw [l1.isEmpty]; exact q M1 _ H1 h a1 m1⟩
theorem wt_not {R : Ms → Bool → Prop} (h : WT X G W e M ρ xr fun M1 k => R M1 (!k)) : WT X G W (.UnaryOp .Not e pos) M ρ xr R :=
  wt_of (pt_not pt_wp) fun σ H a0 b0 x Q q => h σ H a0 b0 x _ fun M1 k H1 hk a1 m1 => q M1 _ H1 hk a1 m1
variable {rest : List Expr}
theorem wt_bool {op} {R : Ms → Bool → Prop} (h : WW X G W (.BoolOp op rest pos) M ρ xr R) : WT X G W (.BoolOp op rest pos) M ρ xr R :=
  wt_of (PW.pt pw_wp) fun σ H a0 b0 x Q q => h σ H a0 b0 x Q q
theorem ww_and1 {R : Ms → Bool → Prop} (h : WT X G W a M ρ xr R) : WW X G W (.BoolOp .And [a] pos) M ρ xr R :=
  ww_of (pw_and1 pt_wp) fun σ H a0 b0 x Q q => h σ H a0 b0 x Q q
theorem ww_or1 {R : Ms → Bool → Prop} (h : WT X G W a M ρ xr R) : WW X G W (.BoolOp .Or [a] pos) M ρ xr R :=
  ww_of (pw_or1 pt_wp) fun σ H a0 b0 x Q q => h σ H a0 b0 x Q q
theorem ww_and {R : Ms → Bool → Prop} (h : WT X G W a M ρ xr fun M1 k => if k = true then WW X G W (.BoolOp .And (b :: rest) pos) M1 ρ xr R else R M1 false) : WW X G W (.BoolOp .And (a :: b :: rest) pos) M ρ xr R :=
  ww_of (pw_and pt_wp pw_wp) fun σ H a0 b0 x Q q => h σ H a0 b0 x _ fun M1 k H1 hk a1 m1 => by
  cases k with
  | false => exact iteF (q M1 _ H1 hk a1 m1)
  | true => exact iteT ((ofT hk) σ H1 a1 (m1.sl a0 b0) (x.mv m1) _ fun M2 k2 H2 h2 a2 m2 => q M2 k2 H2 h2 a2 (m1.trans m2))
theorem ww_or {R : Ms → Bool → Prop} (h : WT X G W a M ρ xr fun M1 k => if k = true then R M1 true else WW X G W (.BoolOp .Or (b :: rest) pos) M1 ρ xr R) : WW X G W (.BoolOp .Or (a :: b :: rest) pos) M ρ xr R :=
  ww_of (pw_or pt_wp pw_wp) fun σ H a0 b0 x Q q => h σ H a0 b0 x _ fun M1 k H1 hk a1 m1 => by
  cases k with
  | true => exact iteT (q M1 _ H1 hk a1 m1)
  | false => exact iteF ((ofF hk) σ H1 a1 (m1.sl a0 b0) (x.mv m1) _ fun M2 k2 H2 h2 a2 m2 => q M2 k2 H2 h2 a2 (m1.trans m2))
/-- .. as values, of bools -/
theorem we_one {op} (h : WE X G W a M ρ xr R) : WE X G W (.BoolOp op [a] pos) M ρ xr R := we_of (pe_one pe_wp) h
theorem we_and (h : WE X G W a M ρ xr fun M1 d => ∃ k, d = B k ∧ if k = true then WE X G W (.BoolOp .And (b :: rest) pos) M1 ρ xr R else R M1 (B false)) : WE X G W (.BoolOp .And (a :: b :: rest) pos) M ρ xr R :=
  we_of (pe_and pe_wp pe_wp) fun σ H a0 b0 x Q q => h σ H a0 b0 x _ fun M1 d v H1 hk a1 m1 r1 => by
  obtain ⟨k, rfl, hk⟩ := hk
  rw [r1.raw_inv]
  refine ⟨k, rfl, ?_⟩
  cases k with
  | false => exact iteF (q M1 _ _ H1 hk a1 m1 (.raw _))
  | true => exact iteT ((ofT hk) σ H1 a1 (m1.sl a0 b0) (x.mv m1) _ fun M2 k2 v H2 h2 a2 m2 => q M2 k2 v H2 h2 a2 (m1.trans m2))
theorem we_or (h : WE X G W a M ρ xr fun M1 d => ∃ k, d = B k ∧ if k = true then R M1 (B true) else WE X G W (.BoolOp .Or (b :: rest) pos) M1 ρ xr R) : WE X G W (.BoolOp .Or (a :: b :: rest) pos) M ρ xr R :=
  we_of (pe_or pe_wp pe_wp) fun σ H a0 b0 x Q q => h σ H a0 b0 x _ fun M1 d v H1 hk a1 m1 r1 => by
  obtain ⟨k, rfl, hk⟩ := hk
  rw [r1.raw_inv]
  refine ⟨k, rfl, ?_⟩
  cases k with
  | true => exact iteT (q M1 _ _ H1 hk a1 m1 (.raw _))
  | false => exact iteF ((ofF hk) σ H1 a1 (m1.sl a0 b0) (x.mv m1) _ fun M2 k2 v H2 h2 a2 m2 => q M2 k2 v H2 h2 a2 (m1.trans m2))
theorem we_not (h : WE X G W a M ρ xr fun M1 d => ∃ k, d = B k ∧ R M1 (B (!k))) : WE X G W (.UnaryOp .Not a pos) M ρ xr R :=
  we_of (pe_not pe_wp) fun σ H a0 b0 x Q q => h σ H a0 b0 x _ fun M1 d v H1 hk a1 m1 r1 => by
  obtain ⟨k, rfl, hk⟩ := hk
  rw [r1.raw_inv]
  exact ⟨k, rfl, q M1 _ _ H1 hk a1 m1 (.raw _)⟩
theorem we_neg (h : WE X G W a M ρ xr fun M1 d => ∃ i : Int, d = I i ∧ R M1 (I (-i))) : WE X G W (.UnaryOp .USub a pos) M ρ xr R :=
  we_of (pe_un un_neg pe_wp) fun σ H a0 b0 x Q q => h σ H a0 b0 x _ fun M1 d v H1 hk a1 m1 r1 => by
  obtain ⟨k, rfl, hk⟩ := hk
  rw [r1.raw_inv]
  exact ⟨k, rfl, q M1 _ _ H1 hk a1 m1 (.raw _)⟩
theorem we_ifx (h : WT X G W c M ρ xr fun M1 k => if k = true then WE X G W a M1 ρ xr R else WE X G W b M1 ρ xr R) : WE X G W (.IfExp c a b pos) M ρ xr R :=
  we_of (pe_ifExp pt_wp pe_wp pe_wp) fun σ H a0 b0 x Q q => h σ H a0 b0 x _ fun M1 k H1 hk a1 m1 => by
  cases k with
  | true => exact iteT ((show WE X G W a M1 ρ xr R from hk) σ H1 a1 (m1.sl a0 b0) (x.mv m1) _ fun M2 k2 v H2 h2 a2 m2 => q M2 k2 v H2 h2 a2 (m1.trans m2))
  | false => exact iteF ((show WE X G W b M1 ρ xr R from hk) σ H1 a1 (m1.sl a0 b0) (x.mv m1) _ fun M2 k2 v H2 h2 a2 m2 => q M2 k2 v H2 h2 a2 (m1.trans m2))
/-! ### arguments, displays -/
variable {es : List Expr} {RA : Ms → List D → Prop}
theorem wa_nil (h : RA M []) : WA X G W [] M ρ xr RA := wa_of pa_nil fun σ H a0 b0 x Q q => q M [] [] H h a0 (Mv.refl _ _) .nil
theorem wa_cons (h : WE X G W e M ρ xr fun M1 d => WA X G W es M1 ρ xr fun M2 ds => RA M2 (d :: ds)) (hs : starEach (e :: es) X.env = (false, eval e X.env) :: starEach es X.env := by rfl) : WA X G W (e :: es) M ρ xr RA :=
  wa_of (pa_cons pe_wp pa_wp hs) fun σ H a0 b0 x Q q => h σ H a0 b0 x _ fun M1 d v H1 hk a1 m1 r1 =>
    hk σ H1 a1 (m1.sl a0 b0) (x.mv m1) _ fun M2 ds vs H2 h2 a2 m2 r2 => q M2 _ _ H2 h2 a2 (m1.trans m2) (.cons (m2.rp a1 r1) r2)
theorem we_tup (gs : Gst G) {x1} (h : WA X G W es M ρ xr fun M1 ds => ds.length ≤ sizeLine ∧ R M1 (.tup ds)) : WE X G W (.Tuple es x1 pos) M ρ xr R :=
  we_of (pe_tup pa_wp) fun σ H a0 b0 x Q q => h σ H a0 b0 x _ fun M1 ds vs H1 hk a1 m1 r1 =>
    ⟨by rw [r1.length]; exact hk.1, fun p hp => new_tup (R := R) gs a1 hp r1 hk.2 fun M' d v H' h a m r => q M' d v H' h a (m1.trans m) r⟩
theorem we_lst1 (gs : Gst G) (h : WA X G W (e :: es) M ρ xr fun M1 ds => ds.length ≤ sizeLine ∧ R M1 (.lst ds)) : WE X G W (.List (e :: es) pos) M ρ xr R :=
  we_of (pe_lst pa_wp) fun σ H a0 b0 x Q q => h σ H a0 b0 x _ fun M1 ds vs H1 hk a1 m1 r1 =>
    ⟨by rw [r1.length]; exact hk.1, fun p hp => new_lst (R := R) gs a1 hp r1 hk.2 fun M' d v H' h a m r => q M' d v H' h a (m1.trans m) r⟩
theorem we_lst (gs : Gst G) (h : WA X G W es M ρ xr fun M1 ds => ds.length ≤ sizeLine ∧ R M1 (.lst ds)) : WE X G W (.List es pos) M ρ xr R :=
  we_of (pe_lst pa_wp) fun σ H a0 b0 x Q q => h σ H a0 b0 x _ fun M1 ds vs H1 hk a1 m1 r1 =>
    ⟨by rw [r1.length]; exact hk.1, fun p hp => new_lst (R := R) gs a1 hp r1 hk.2 fun M' d v H' h a m r => q M' d v H' h a (m1.trans m) r⟩
/-- a list that will be changed: it becomes ours -/
theorem own_lst (gs : Gst G) {H : Hp} {p : Addr} {xs : List V} {ds : List D} (a : AtM G X.K M H) (hp : H p = none) (r : RpL X.K (dom M) H xs ds) : AtM G X.K ((p, .lst ds) :: M) (upd H p (.lst xs)) ∧ Mv M H ((p, .lst ds) :: M) (upd H p (.lst xs)) := by
  refine a.own gs (upd_grow hp) hp ⟨xs, upd_same, ?_⟩
  have m : Mv M H ((p, .lst ds) :: M) (upd H p (.lst xs)) := ⟨fun b v h _ _ => upd_grow hp b v h, fun b hb => by
    rcases List.mem_cons.mp hb with z | z
    · subst z; exact .inr fun o h => by rw [hp] at h; cases h
    · exact .inl z⟩
  exact m.rpl a r
theorem we_lstO (gs : Gst G) (h : WA X G W es M ρ xr fun M1 ds => ds.length ≤ sizeLine ∧ ∀ p, R ((p, .lst ds) :: M1) (Rf p)) : WE X G W (.List es pos) M ρ xr R :=
  we_of (pe_lst pa_wp) fun σ H a0 b0 x Q q => h σ H a0 b0 x _ fun M1 ds vs H1 hk a1 m1 r1 =>
    ⟨by rw [r1.length]; exact hk.1, fun p hp => by
      obtain ⟨a2, m2⟩ := own_lst gs a1 hp r1
      exact q _ _ _ _ (hk.2 p) a2 (m1.trans m2) (.raw _)⟩
end
end Wv
set_option maxRecDepth 100000
set_option maxHeartbeats 2000000
namespace Wv
open PySem PySem.Spec PyProof.Rows L2
theorem skyN {B : Heap} {l : List Env} {a : Addr} {cls : Value} {d : Option Addr} {L : Addr} {h : Heap} (x : Sky B l a (L2N.Zn cls d) L h) : Sky B l a (Zc cls d) L h := by
  rcases x with ⟨hB, hn, hl, oe, vs, he, hz, hd, h1⟩ | ⟨h1, h2, h3, oe, vs, T, oT, ts, he, hz, r⟩ | ⟨h1, h2, h3, oe, vs, T, oT, ts, he, hz, r⟩
  · exact .inl ⟨hB, hn, hl, oe, vs, he, hz.zc, hd, h1⟩
  · exact .inr (.inl ⟨h1, h2, h3, oe, vs, T, oT, ts, he, hz.zc, r⟩)
  · exact .inr (.inr ⟨h1, h2, h3, oe, vs, T, oT, ts, he, hz.zc, r⟩)
/-- who takes every exception takes those where nothing is handled -/
theorem takesN {X : Cx} {W : WX} (t : L2.Takes X W) : L2N.Takes X W := fun u s' ⟨a, B, sI, pins, σ, H, cls, d, e, I, nb, up, sky, na, os, ag, w⟩ =>
  t u s' ⟨a, B, sI, pins, σ, H, cls, d, e, I, nb, up, skyN sky, na, os, ag, w⟩
theorem takes0N {X : Cx} : L2N.Takes X (fun _ _ _ _ => False) := fun _ _ x => by
  obtain ⟨_, _, _, _, _, _, _, _, _, _, _, _, _, _, _, _, z⟩ := x
  exact z.elim
/-- as Fun.ok, for a def that may raise, where nothing is handled -/
theorem okXN {P : Program} {w : World} {K : PySem.W.Frag} {mg : Str → Option Value} {base : Heap} {x qual : Str} {st : Stmt} {f : Addr} {fd : FuncData} {N ps : List Str} {k : Nat} {sp : Sp} (F : Fun K x qual st f fd) (S : FnScope N ps (defScope st)) (len : ∀ vs H Q E, sp vs H Q E → vs.length = ps.length)
    (hbody : ∀ (cdv : Value) (A : Around) (outer : List Env) (s : Shared) (H : Hp) (vs : List V) (Q : VK) (E : XK), Room k (A.deeper (envOfC qual (defScope st) s.heap.objs.size f cdv)) → sp vs H Q E →
      ∃ t, PSs (cxOf (L2N.CX P w) P w K mg base N qual (defScope st) f cdv A outer s H E) (defBody st) t ∧ t { nx := fun _ H' => Q .non H', rt := Q } (L2.start N vs) H) : FnOk P w K mg base (L2N.CX P w) (k + 1) f fd ps sp := by
  obtain ⟨oc, od, kV, doc, pm, an, cdv, ct, osl, rfl, lk, hcd⟩ := F.ex
  exact fn_of lk hcd S len fun A outer s H vs Q E hr hsp => hbody cdv A outer s H vs Q E hr hsp
/-- what every rule leans on -/
structure Ct (X : Cx) (G : Hp → Prop) (W : WX) (k : Nat) : Prop where
  gs : Gst G
  tk : L2N.Takes X W
  hr : Room k X.A
  hp : PassesOwn (model X.prog X.w) X.A X.env X.xe
  hc : X.calm = true
  nd : X.N.Nodup
inductive IsI : D → (Int → Prop) → Prop
  | mk {i : Int} {k : Int → Prop} (h : k i) : IsI (I i) k
inductive IsB : D → (Bool → Prop) → Prop
  | mk {i : Bool} {k : Bool → Prop} (h : k i) : IsB (B i) k
inductive IsZ : D → (Str → Prop) → Prop
  | mk {i : Str} {k : Str → Prop} (h : k i) : IsZ (Z i) k
inductive IsT : D → (List D → Prop) → Prop
  | mk {i : List D} {k : List D → Prop} (h : k i) : IsT (.tup i) k
inductive IsL : D → (List D → Prop) → Prop
  | mk {i : List D} {k : List D → Prop} (h : k i) : IsL (.lst i) k
/-- a list of ours, an instance of ours -/
inductive OwL (M : Ms) : D → (Nat → Addr → List D → Prop) → Prop
  | mk {q : Addr} {l : List D} {k : Nat → Addr → List D → Prop} (j : Nat) (e : M[j]? = some (q, .lst l)) (h : k j q l) : OwL M (Rf q) k
inductive OwI (M : Ms) : D → (Nat → Addr → Addr → List (Str × D) → Prop) → Prop
  | mk {q C : Addr} {fs : List (Str × D)} {k : Nat → Addr → Addr → List (Str × D) → Prop} (j : Nat) (e : M[j]? = some (q, .ins C fs)) (h : k j q C fs) : OwI M (Rf q) k
/-- what a def promises, by data and owned objects -/
abbrev SpD := List D → Ms → (Value → Ms → Prop) → (Ms → D → Prop) → Prop
def spOf (G : Hp → Prop) (K : PySem.W.Frag) (S : SpD) : Sp := fun vs H Q E => ∃ M ds xr R, AtM G K M H ∧ RpL K (dom M) H vs ds ∧ S ds M xr R ∧
  (∀ M' d v H', R M' d → AtM G K M' H' → Mv M H M' H' → Rp K (dom M') H' v d → Q v H') ∧ (∀ cls M' H', xr cls M' → AtM G K M' H' → Mv M H M' H' → E cls none H')
/-- a def of the text that keeps its promise; dd: its defaults -/
structure Gf (P : Program) (w : World) (K : PySem.W.Frag) (mg : Str → Option Value) (base : Heap) (G : Hp → Prop) (k : Nat) (f : Addr) (dd : List V) (S : SpD) : Prop where
  ex : ∃ (fd : FuncData) (ps : List Str) (dv : List Value), FnOk P w K mg base (L2N.CX P w) k f fd ps (spOf G K S) ∧ Binds K fd ps dv ∧ Vals dd dv
  kp : PySem.W.keepIn K (.ref f) = true
theorem Gf.mono {P : Program} {w : World} {K : PySem.W.Frag} {mg : Str → Option Value} {base : Heap} {G : Hp → Prop} {j k : Nat} {f : Addr} {dd : List V} {S : SpD} (g : Gf P w K mg base G j f dd S) (h : j ≤ k) : Gf P w K mg base G k f dd S := by
  obtain ⟨⟨fd, ps, dv, F, b, r⟩, kp⟩ := g
  exact ⟨⟨fd, ps, dv, F.mono h, b, r⟩, kp⟩
section
variable {X : Cx} {CX : CXT} {k : Nat} {f C : Addr} {fd : FuncData} {ps : List Str} {sp : Sp} {dvs : List V} {ds : List Value} {E : L2.St → XK} {x m : Str} {p pos apos : Pos} {e o : Expr} {es : List Expr} {ta : TE} {t : TA}
theorem pe_call0S (F : FnOk X.prog X.w X.K X.mg X.base CX k f fd ps sp) (hr : Room k X.A) (hg : Gl X x) (hm : X.mg x = some (.ref f)) (hk : PySem.W.keepIn X.K (.ref f) = true) (hb : Binds X.K fd ps ds) (hd : Vals dvs ds) (hx : ∀ σ, PassesAt CX X σ (E σ))
    (hdb : (x == ("__debug__" : Str)) = false := by decide) : PE X (.Call (.Name x p) [] [] pos) (tCallSD sp dvs E tNil) := by
  refine ⟨fun pins s σ H Q I h => ?_⟩
  refine wpAny_Call_Name_kw (ld_glob I hg hm ?_ hdb)
  exact PySem.W.callWith_K0 I.kIn hk (run_fnSD (us := []) F hr hb hd (hx σ) I .nil h)
def tMethS (C : Addr) (m : Str) (sp : Sp) (dvs : List V) (E : L2.St → XK) (ta : TE) (t : TA) : TE := fun σ H Q => ta σ H fun x H1 => ∃ a dx fs, x = .ref a ∧ H1 a = some (.ins C dx fs) ∧ fs.lookup m = none ∧
  t σ H1 fun vs H2 => sp (x :: (vs ++ dvs)) H2 Q (E σ)
theorem pe_methS {pl : Sem Bool} (he : PE X o ta) (c : Cls X.K C) (hm : Meth X.K C m f) (F : FnOk X.prog X.w X.K X.mg X.base CX k f fd ps sp) (hr : Room k X.A) (hb : Binds X.K fd ps ds) (hd : Vals dvs ds) (hx : ∀ σ, PassesAt CX X σ (E σ)) (ha : PA X (e :: es) t)
    (hst : starEach (e :: es) X.env = (false, eval e X.env) :: starEach es X.env := by rfl) (hpl : (backTo pos (starEach es X.env)).any (·.1) = false := by rfl)
    (ht : eval (.Call (.Attribute o m apos) (e :: es) [] pos) X.env = (do
      let ov ← eval o X.env
      standAt apos.atName
      let (f, first) ← holding [ov] (getMethod ov m pl)
      callWith pos f first (backTo pos (starEach (e :: es) X.env)) (backToKw pos (keywordEach [] X.env))) := by rfl) :
    PE X (.Call (.Attribute o m apos) (e :: es) [] pos) (tMethS C m sp dvs E ta t) := by
  refine ⟨fun pins s σ H Q I h => ?_⟩
  refine PySem.W.methodCall_KW (pl := pl) (thn (he.run pins s σ H _ I h) fun u s1 ⟨x, H1, I1, rx, a, dx, fs, ex, ea, l, q⟩ => ?_) ht
  subst ex
  obtain rfl : u = Value.ref a := rx
  refine getmeth_ok I1 ea c hm l ?_
  refine PySem.W.callWith_K (first := [.ref a]) (h₀ := X.base) I.ok.mod.kin hm.kp (thn (ha.run pos pins s1 σ H1 _ I1 q) fun us s2 ⟨vs, H2, I2, r, q2⟩ => ⟨I2.kIn, ?_⟩) hst hpl
  exact run_fnSD (us := .ref a :: us) (vs := .ref a :: vs) F hr hb hd (hx σ) I2 (.cons rfl r) q2
theorem pe_meth0S {pl : Sem Bool} (he : PE X o ta) (c : Cls X.K C) (hm : Meth X.K C m f) (F : FnOk X.prog X.w X.K X.mg X.base CX k f fd ps sp) (hr : Room k X.A) (hb : Binds X.K fd ps ds) (hd : Vals dvs ds) (hx : ∀ σ, PassesAt CX X σ (E σ))
    (ht : eval (.Call (.Attribute o m apos) [] [] pos) X.env = (do
      let ov ← eval o X.env
      standAt apos.atName
      let (f, first) ← holding [ov] (getMethod ov m pl)
      callWith pos f first (backTo pos (starEach [] X.env)) (backToKw pos (keywordEach [] X.env))) := by rfl) :
    PE X (.Call (.Attribute o m apos) [] [] pos) (tMethS C m sp dvs E ta tNil) := by
  refine ⟨fun pins s σ H Q I h => ?_⟩
  refine PySem.W.methodCall_KW (pl := pl) (thn (he.run pins s σ H _ I h) fun u s1 ⟨x, H1, I1, rx, a, dx, fs, ex, ea, l, q⟩ => ?_) ht
  subst ex
  obtain rfl : u = Value.ref a := rx
  refine getmeth_ok I1 ea c hm l ?_
  exact PySem.W.callWith_K0 (first := [.ref a]) I1.kIn hm.kp (run_fnSD (us := [.ref a]) (vs := [.ref a]) F hr hb hd (hx σ) I1 (.cons rfl .nil) q)
theorem run_makeS {E : XK} {pins : List (Addr × Obj)} {σ : L2.St} {H : Hp} {s : Shared} {Q : VK} {us : List Value} {vs : List V} (M : Mk X.K C f) (F : FnOk X.prog X.w X.K X.mg X.base CX k f fd ps sp) (hr : Room (k + 1) X.A) (hb : Binds X.K fd ps ds) (hd : Vals dvs ds)
    (hx : PassesAt CX X σ E) (I : Inv X pins σ H s) (r : Vals vs us)
    (h : ∀ x dx, H x = none → H dx = none → dx ≠ x → sp (.ref x :: (vs ++ dvs)) (upd (upd H dx (.own x)) x (.ins C dx [])) (fun v H2 => v = .non ∧ Q (.ref x) H2) E) :
    wpAny (model X.prog X.w) X.A (call (.ref C) us) (EP X pins σ Q) X.xe s := by
  have hq := h (s.heap.objs.size + 1) s.heap.objs.size (I.hok.fresh (Nat.le_succ _)) (I.hok.fresh (Nat.le_refl _)) (Nat.ne_of_lt (Nat.lt_succ_self _))
  have I2 := Inv.made (C := C) I
  have r2 : Vals (V.ref (s.heap.objs.size + 1) :: (vs ++ dvs)) (Value.ref (s.heap.objs.size + 1) :: (us ++ ds)) := .cons rfl (r.append hd)
  have hl : (Value.ref (s.heap.objs.size + 1) :: us ++ ds).length = ps.length := by
    have e := r2.length
    rw [F.len _ _ _ _ hq] at e
    exact e.symm
  refine wpAny_call (make_map (f := f) I.kIn M.makes M.init (beq_iff_eq.mp M.fn) (codeAny_mono (F.run _ X.stack _ _ ⟨Value.ref (s.heap.objs.size + 1) :: us, []⟩ (Value.ref (s.heap.objs.size + 1) :: (us ++ ds)) _ _ E (hr.make C us [])
    (I2.env0.make C us []) (hb _ (Value.ref (s.heap.objs.size + 1) :: us) I2.kIn hl) r2 hq) fun r s' hq' => ?_))
  cases r with
  | error e => exact hx pins _ _ e s' I2 hq'
  | ok fl =>
    cases fl with
    | ret u =>
      obtain ⟨v, H', I3, rv, ev, q3⟩ := I2.after hq'
      subst ev
      exact ⟨rv, ⟨V.ref (s.heap.objs.size + 1), H', I3, rfl, q3⟩⟩
    | next => exact False.elim hq'
    | brk => exact False.elim hq'
    | cont => exact False.elim hq'
def tMakeS (C : Addr) (sp : Sp) (dvs : List V) (E : L2.St → XK) (t : TA) : TE := fun σ H Q => t σ H fun vs H1 => ∀ x dx, H1 x = none → H1 dx = none → dx ≠ x →
  sp (.ref x :: (vs ++ dvs)) (upd (upd H1 dx (.own x)) x (.ins C dx [])) (fun v H2 => v = .non ∧ Q (.ref x) H2) (E σ)
theorem pe_makeS (M : Mk X.K C f) (F : FnOk X.prog X.w X.K X.mg X.base CX k f fd ps sp) (hr : Room (k + 1) X.A) (hg : Gl X x) (hm : X.mg x = some (.ref C)) (hb : Binds X.K fd ps ds) (hd : Vals dvs ds) (hx : ∀ σ, PassesAt CX X σ (E σ))
    (ha : PA X (e :: es) t) (hdb : (x == ("__debug__" : Str)) = false := by decide) (he : starEach (e :: es) X.env = (false, eval e X.env) :: starEach es X.env := by rfl) (hpl : (backTo pos (starEach es X.env)).any (·.1) = false := by rfl) :
    PE X (.Call (.Name x p) (e :: es) [] pos) (tMakeS C sp dvs E t) := by
  refine ⟨fun pins s σ H Q I h => ?_⟩
  refine wpAny_Call_Name_kw (ld_glob I hg hm ?_ hdb)
  refine PySem.W.callWith_K (h₀ := X.base) I.ok.mod.kin M.kp (thn (ha.run pos pins s σ H _ I h) fun us s1 ⟨vs, H1, I1, r, q⟩ => ⟨I1.kIn, ?_⟩) he hpl
  exact run_makeS M F hr hb hd (hx σ) I1 r q
theorem pe_make0S (M : Mk X.K C f) (F : FnOk X.prog X.w X.K X.mg X.base CX k f fd ps sp) (hr : Room (k + 1) X.A) (hg : Gl X x) (hm : X.mg x = some (.ref C)) (hb : Binds X.K fd ps ds) (hd : Vals dvs ds) (hx : ∀ σ, PassesAt CX X σ (E σ))
    (hdb : (x == ("__debug__" : Str)) = false := by decide) : PE X (.Call (.Name x p) [] [] pos) (tMakeS C sp dvs E tNil) := by
  refine ⟨fun pins s σ H Q I h => ?_⟩
  refine wpAny_Call_Name_kw (ld_glob I hg hm ?_ hdb)
  exact PySem.W.callWith_K0 I.kIn M.kp (run_makeS (us := []) M F hr hb hd (hx σ) I .nil h)
end
section
variable {X : Cx} {G : Hp → Prop} {W : WX} {M : Ms} {ρ : Rh} {xr : Value → Ms → Prop} {N : En} {a b c e o : Expr} {es : List Expr} {pos p apos : Pos} {R : Ms → D → Prop} {k j : Nat}
/-! ### calls of the text's defs -/
/-- the promise at a call -/
theorem sp_use {H : Hp} {S : SpD} {vs : List V} {ds : List D} {σ : L2.St} {Q : VK} (a : AtM G X.K M H) (r : RpL X.K (dom M) H vs ds) (s : S ds M xr R) (x : Xok W G X.K M H σ xr)
    (q : ∀ M' d v H', R M' d → AtM G X.K M' H' → Mv M H M' H' → Rp X.K (dom M') H' v d → Q v H') : spOf G X.K S vs H Q (L2.WE W σ) :=
  ⟨M, ds, xr, R, a, r, s, q, x⟩
theorem raws_dd {K : PySem.W.Frag} {Y : List Addr} {H : Hp} {vs : List V} {ds : List D} (h : RpL K Y H vs ds) (dd : List V) : RpL K Y H (vs ++ dd) (ds ++ dd.map D.raw) := h.app (RpL.raws_mk dd)
theorem we_call {S : SpD} {x : Str} {f : Addr} {dd : List V} (cx : Ct X G W k) (g : Gf X.prog X.w X.K X.mg X.base G j f dd S) (hj : j ≤ k) (hm : X.mg x = some (.ref f)) (hg : Gl X x)
    (h : WA X G W (e :: es) M ρ xr fun M1 ds => S (ds ++ dd.map D.raw) M1 xr R) (hdb : (x == ("__debug__" : Str)) = false := by decide)
    (he : starEach (e :: es) X.env = (false, eval e X.env) :: starEach es X.env := by rfl) (hpl : (backTo pos (starEach es X.env)).any (·.1) = false := by rfl) : WE X G W (.Call (.Name x p) (e :: es) [] pos) M ρ xr R := by
  obtain ⟨⟨fd, ps, dv, F, b, r⟩, kp⟩ := g
  refine we_of (pe_callSD F (cx.hr.mono hj) hg hm kp b r (E := L2.WE W) (fun σ => L2N.passAt cx.tk σ) pa_wp hdb he hpl) fun σ H a0 b0 xk Q q => ?_
  exact h σ H a0 b0 xk _ fun M1 ds vs H1 s a1 m1 r1 => sp_use a1 (raws_dd r1 dd) s (xk.mv m1) fun M' d v H' hk a' m' r' => q M' d v H' hk a' (m1.trans m') r'
theorem we_call0 {S : SpD} {x : Str} {f : Addr} {dd : List V} (cx : Ct X G W k) (g : Gf X.prog X.w X.K X.mg X.base G j f dd S) (hj : j ≤ k) (hm : X.mg x = some (.ref f)) (hg : Gl X x)
    (h : S (dd.map D.raw) M xr R) (hdb : (x == ("__debug__" : Str)) = false := by decide) : WE X G W (.Call (.Name x p) [] [] pos) M ρ xr R := by
  obtain ⟨⟨fd, ps, dv, F, b, r⟩, kp⟩ := g
  refine we_of (pe_call0S F (cx.hr.mono hj) hg hm kp b r (E := L2.WE W) (fun σ => L2N.passAt cx.tk σ) hdb) fun σ H a0 b0 xk Q q => ?_
  exact sp_use a0 (raws_dd (ds := []) .nil dd) h xk q
/-! ### instances -/
theorem lookup_map {α β : Type} {vs : List (Str × α)} {fs : List (Str × β)} (h : vs.map (·.1) = fs.map (·.1)) {f : Str} {d : β} (e : fs.lookup f = some d) : ∃ i : Nat, ∃ v, vs.lookup f = some v ∧ (fs.map (·.2))[i]? = some d ∧ (vs.map (·.2))[i]? = some v := by
  induction fs generalizing vs with
  | nil => simp at e
  | cons q fs ih =>
    cases vs with
    | nil => simp at h
    | cons u vs =>
      obtain ⟨g, d0⟩ := q
      obtain ⟨g', v0⟩ := u
      simp only [List.map_cons, List.cons.injEq] at h
      obtain ⟨rfl, h2⟩ := h
      rw [List.lookup_cons] at e
      cases z : f == g' with
      | true =>
        rw [z] at e
        cases e
        exact ⟨0, v0, by rw [List.lookup_cons, z], rfl, rfl⟩
      | false =>
        rw [z] at e
        obtain ⟨i, v, e1, e2, e3⟩ := ih h2 e
        exact ⟨i + 1, v, by rw [List.lookup_cons, z]; exact e1, by simpa using e2, by simpa using e3⟩
theorem lookup_none {α β : Type} {vs : List (Str × α)} {fs : List (Str × β)} (h : vs.map (·.1) = fs.map (·.1)) {f : Str} (e : fs.lookup f = none) : vs.lookup f = none := by
  induction fs generalizing vs with
  | nil => cases vs with
    | nil => rfl
    | cons u vs => simp at h
  | cons q fs ih =>
    cases vs with
    | nil => simp at h
    | cons u vs =>
      obtain ⟨g, d0⟩ := q
      obtain ⟨g', v0⟩ := u
      simp only [List.map_cons, List.cons.injEq] at h
      obtain ⟨rfl, h2⟩ := h
      rw [List.lookup_cons] at e ⊢
      cases z : f == g' with
      | true => rw [z] at e; cases e
      | false => rw [z] at e; exact ih h2 e
theorem RpF.look {K : PySem.W.Frag} {Y : List Addr} {H : Hp} {vs : List (Str × V)} {fs : List (Str × D)} (r : RpF K Y H vs fs) {f : Str} {d : D} (e : fs.lookup f = some d) : ∃ v, vs.lookup f = some v ∧ Rp K Y H v d := by
  obtain ⟨i, v, e1, e2, e3⟩ := lookup_map r.1 e
  obtain ⟨v', e4, r4⟩ := r.2.get e2
  rw [e3] at e4; cases e4
  exact ⟨v, e1, r4⟩
def putD (f : Str) (v : D) : List (Str × D) → List (Str × D)
  | [] => [(f, v)]
  | (g, x) :: r => if g = f then (g, v) :: r else (g, x) :: putD f v r
theorem RpF.put {K : PySem.W.Frag} {Y : List Addr} {H : Hp} {vs : List (Str × V)} {fs : List (Str × D)} (r : RpF K Y H vs fs) (f : Str) {v : V} {d : D} (h : Rp K Y H v d) : RpF K Y H (putF f v vs) (putD f d fs) := by
  obtain ⟨r1, r2⟩ := r
  induction fs generalizing vs with
  | nil => cases vs with
    | nil => exact ⟨rfl, .cons h .nil⟩
    | cons u vs => simp at r1
  | cons q fs ih =>
    cases vs with
    | nil => simp at r1
    | cons u vs =>
      obtain ⟨g, d0⟩ := q
      obtain ⟨g', v0⟩ := u
      simp only [List.map_cons, List.cons.injEq] at r1
      obtain ⟨rfl, h2⟩ := r1
      cases r2 with
      | cons ha hb =>
        unfold putF putD
        by_cases z : g' = f
        · rw [if_pos z, if_pos z]
          exact ⟨by simp [h2], .cons h hb⟩
        · rw [if_neg z, if_neg z]
          obtain ⟨i1, i2⟩ := ih h2 hb
          exact ⟨by simp [i1], .cons ha i2⟩
theorem RpF.len {K : PySem.W.Frag} {Y : List Addr} {H : Hp} {vs : List (Str × V)} {fs : List (Str × D)} (r : RpF K Y H vs fs) : vs.length = fs.length := by
  have := congrArg List.length r.1
  simpa using this
theorem at_ob {H : Hp} {i : Nat} {q : Addr} {u : O} (a : AtM G X.K M H) (h : M[i]? = some (q, u)) : OAt X.K (dom M) H q u := a.ob _ (List.mem_of_getElem? h)
theorem we_fld {f : Str} (h : WE X G W o M ρ xr fun M1 d => OwI M1 d fun _ _ C fs => Cls X.K C ∧ NoAttr X.K C f ∧ ∃ z, fs.lookup f = some z ∧ R M1 z)
    (hb : attributeBase o f X.env (eval o X.env) = eval o X.env := by rfl) : WE X G W (.Attribute o f pos) M ρ xr R :=
  we_of (pe_fld pe_wp hb) fun σ H a0 b0 x Q q => h σ H a0 b0 x _ fun M1 d v H1 hk a1 m1 r1 => by
  cases hk with
  | mk i hi hk =>
  rename_i q0 C fs
  obtain ⟨c, n, z, hl, hk⟩ := hk
  obtain ⟨dx, vs, e, rf⟩ := at_ob a1 hi
  obtain ⟨v', e', r'⟩ := rf.look hl
  exact ⟨q0, C, dx, vs, v', r1.raw_inv, e, c, n, e', q M1 z v' H1 hk a1 m1 r'⟩
theorem ws_fld {f : Str} {pos' : Pos} (gs : Gst G) (h : WE X G W a M ρ N.xr fun M1 z => WE X G W o M1 ρ N.xr fun M2 d => OwI M2 d fun i q C fs => Cls X.K C ∧ NoAttr X.K C f ∧ fs.length < 1000 ∧ N.nx (M2.set i (q, .ins C (putD f z fs))) ρ)
    (hs : swapsWith a (some (.Attribute o f pos')) pos.line X.env = pure false := by rfl) : WS X G W (.Assign [.Attribute o f pos'] a pos) M ρ N :=
  ws_of (ps_fld pe_wp pe_wp hs) fun σ H a0 b0 Dn x n r bk ct => by
  refine h σ H a0 b0 (fun cls M' H' hx ha hm => x M' H' cls σ hx ha hm) _ fun M1 z v H1 h1 a1 m1 r1 => ?_
  refine h1 σ H1 a1 (m1.sl a0 b0) (fun cls M' H' hx ha hm => x M' H' cls σ hx ha (m1.trans hm)) _ fun M2 d u H2 h2 a2 m2 r2 => ?_
  cases h2 with
  | mk i hi hk =>
  rename_i q C fs
  obtain ⟨c, na, hl, hk⟩ := hk
  obtain ⟨dx, vs, e, rf⟩ := at_ob a2 hi
  refine ⟨q, C, dx, vs, r2.raw_inv, e, c, na, by rw [rf.len]; exact hl, ?_⟩
  have m12 := m1.trans m2
  have rz := m2.rp a1 r1
  have hm : Mv M2 H2 M2 (upd H2 q (.ins C dx (putF f v vs))) := ⟨fun b w e n _ => by
      rw [upd_ne (fun z => n (by rw [z]; exact mem_at hi))]; exact e, fun _ h => .inl h⟩
  obtain ⟨a3, m3⟩ := a2.write gs (o' := .ins C (putD f z fs)) hi (u := .ins C dx (putF f v vs)) (fun _ z => by cases z) ⟨dx, _, upd_same, (rf.put f rz).1, hm.rpl a2 (rf.put f rz).2⟩
  exact n _ _ σ _ hk a3 (m3.sl a2 (m12.sl a0 b0)) (m12.trans m3)
/-- o.m(e, ..) of an owned instance -/
theorem we_meth {S : SpD} {m : Str} {f C : Addr} {dd : List V} (cx : Ct X G W k) (g : Gf X.prog X.w X.K X.mg X.base G j f dd S) (hj : j ≤ k) (cl : Cls X.K C) (me : Meth X.K C m f)
    (h : WE X G W o M ρ xr fun M1 d => OwI M1 d fun _ q C' fs => C' = C ∧ fs.lookup m = none ∧ WA X G W (e :: es) M1 ρ xr fun M2 ds => S (Rf q :: (ds ++ dd.map D.raw)) M2 xr R) {pl : Sem Bool}
    (hst : starEach (e :: es) X.env = (false, eval e X.env) :: starEach es X.env := by rfl) (hpl : (backTo pos (starEach es X.env)).any (·.1) = false := by rfl)
    (ht : eval (.Call (.Attribute o m apos) (e :: es) [] pos) X.env = (do
      let ov ← eval o X.env
      standAt apos.atName
      let (f, first) ← holding [ov] (getMethod ov m pl)
      callWith pos f first (backTo pos (starEach (e :: es) X.env)) (backToKw pos (keywordEach [] X.env))) := by rfl) : WE X G W (.Call (.Attribute o m apos) (e :: es) [] pos) M ρ xr R := by
  obtain ⟨⟨fd, ps, dv, F, b, r⟩, kp⟩ := g
  refine we_of (pe_methS pe_wp cl me F (cx.hr.mono hj) b r (E := L2.WE W) (fun σ => L2N.passAt cx.tk σ) pa_wp hst hpl ht) fun σ H a0 b0 xk Q q => ?_
  refine h σ H a0 b0 xk _ fun M1 d v H1 h1 a1 m1 r1 => ?_
  cases h1 with
  | mk i hi h1 =>
  rename_i q0 C' fs
  obtain ⟨rfl, hl, h1⟩ := h1
  obtain ⟨dx, vs, e, rf⟩ := at_ob a1 hi
  obtain rfl := r1.raw_inv
  exact ⟨q0, dx, vs, rfl, e, lookup_none rf.1 hl, h1 σ H1 a1 (m1.sl a0 b0) (xk.mv m1) _ fun M2 ds vs2 H2 s a2 m2 r2 =>
    sp_use a2 (.cons (m2.rp a1 r1) (raws_dd r2 dd)) s (xk.mv (m1.trans m2)) fun M' d v H' hk a' m' r' => q M' d v H' hk a' ((m1.trans m2).trans m') r'⟩
theorem we_meth0 {S : SpD} {m : Str} {f C : Addr} {dd : List V} (cx : Ct X G W k) (g : Gf X.prog X.w X.K X.mg X.base G j f dd S) (hj : j ≤ k) (cl : Cls X.K C) (me : Meth X.K C m f)
    (h : WE X G W o M ρ xr fun M1 d => OwI M1 d fun _ q C' fs => C' = C ∧ fs.lookup m = none ∧ S (Rf q :: dd.map D.raw) M1 xr R) {pl : Sem Bool}
    (ht : eval (.Call (.Attribute o m apos) [] [] pos) X.env = (do
      let ov ← eval o X.env
      standAt apos.atName
      let (f, first) ← holding [ov] (getMethod ov m pl)
      callWith pos f first (backTo pos (starEach [] X.env)) (backToKw pos (keywordEach [] X.env))) := by rfl) : WE X G W (.Call (.Attribute o m apos) [] [] pos) M ρ xr R := by
  obtain ⟨⟨fd, ps, dv, F, b, r⟩, kp⟩ := g
  refine we_of (pe_meth0S pe_wp cl me F (cx.hr.mono hj) b r (E := L2.WE W) (fun σ => L2N.passAt cx.tk σ) ht) fun σ H a0 b0 xk Q q => ?_
  refine h σ H a0 b0 xk _ fun M1 d v H1 h1 a1 m1 r1 => ?_
  cases h1 with
  | mk i hi h1 =>
  rename_i q0 C' fs
  obtain ⟨rfl, hl, h1⟩ := h1
  obtain ⟨dx, vs, e, rf⟩ := at_ob a1 hi
  obtain rfl := r1.raw_inv
  exact ⟨q0, dx, vs, rfl, e, lookup_none rf.1 hl, sp_use a1 (.cons r1 (raws_dd (ds := []) .nil dd)) h1 (xk.mv m1) fun M' d v H' hk a' m' r' => q M' d v H' hk a' (m1.trans m') r'⟩
/-- C(..): a new owned instance, then __init__ -/
theorem made (gs : Gst G) {H : Hp} {x dx C : Addr} (a : AtM G X.K M H) (hx : H x = none) (hd : H dx = none) (ne : dx ≠ x) :
    AtM G X.K ((x, .ins C []) :: M) (upd (upd H dx (.own x)) x (.ins C dx [])) ∧ Mv M H ((x, .ins C []) :: M) (upd (upd H dx (.own x)) x (.ins C dx [])) := by
  refine a.own gs (fun b v e => ?_) hx ⟨dx, [], upd_same, rfl, .nil⟩
  rw [upd_ne (ne_of_none e hx), upd_ne (ne_of_none e hd)]
  exact e
theorem we_make {S : SpD} {x : Str} {f C : Addr} {dd : List V} (cx : Ct X G W k) (g : Gf X.prog X.w X.K X.mg X.base G j f dd S) (hj : j + 1 ≤ k) (mk : Mk X.K C f) (hm : X.mg x = some (.ref C)) (hg : Gl X x)
    (h : WA X G W (e :: es) M ρ xr fun M1 ds => ∀ q, S (Rf q :: (ds ++ dd.map D.raw)) ((q, .ins C []) :: M1) xr fun M2 _ => R M2 (Rf q)) (hret : ∀ ds M xr R, S ds M xr R → S ds M xr fun M' d => R M' d ∧ d = N0)
    (hdb : (x == ("__debug__" : Str)) = false := by decide) (he : starEach (e :: es) X.env = (false, eval e X.env) :: starEach es X.env := by rfl) (hpl : (backTo pos (starEach es X.env)).any (·.1) = false := by rfl) :
    WE X G W (.Call (.Name x p) (e :: es) [] pos) M ρ xr R := by
  obtain ⟨⟨fd, ps, dv, F, b, r⟩, kp⟩ := g
  refine we_of (pe_makeS mk F (cx.hr.mono hj) hg hm b r (E := L2.WE W) (fun σ => L2N.passAt cx.tk σ) pa_wp hdb he hpl) fun σ H a0 b0 xk Q q => ?_
  refine h σ H a0 b0 xk _ fun M1 ds vs H1 s a1 m1 r1 => fun y dy hy hdy ne => ?_
  obtain ⟨a2, m2⟩ := made (C := C) cx.gs a1 hy hdy ne
  refine sp_use (xr := xr) a2 (.cons (.raw _) (raws_dd (m2.rpl a1 r1) dd)) (hret _ _ _ _ (s y)) (xk.mv (m1.trans m2)) fun M' d v H' hk a' m' r' => ?_
  obtain ⟨hk, rfl⟩ := hk
  exact ⟨r'.raw_inv, q M' _ _ H' hk a' ((m1.trans m2).trans m') (.raw _)⟩
theorem we_make0 {S : SpD} {x : Str} {f C : Addr} {dd : List V} (cx : Ct X G W k) (g : Gf X.prog X.w X.K X.mg X.base G j f dd S) (hj : j + 1 ≤ k) (mk : Mk X.K C f) (hm : X.mg x = some (.ref C)) (hg : Gl X x)
    (h : ∀ q, S (Rf q :: dd.map D.raw) ((q, .ins C []) :: M) xr fun M2 _ => R M2 (Rf q)) (hret : ∀ ds M xr R, S ds M xr R → S ds M xr fun M' d => R M' d ∧ d = N0)
    (hdb : (x == ("__debug__" : Str)) = false := by decide) : WE X G W (.Call (.Name x p) [] [] pos) M ρ xr R := by
  obtain ⟨⟨fd, ps, dv, F, b, r⟩, kp⟩ := g
  refine we_of (pe_make0S mk F (cx.hr.mono hj) hg hm b r (E := L2.WE W) (fun σ => L2N.passAt cx.tk σ) hdb) fun σ H a0 b0 xk Q q => fun y dy hy hdy ne => ?_
  obtain ⟨a2, m2⟩ := made (C := C) cx.gs a0 hy hdy ne
  refine sp_use (xr := xr) a2 (.cons (.raw _) (raws_dd (ds := []) .nil dd)) (hret _ _ _ _ (h y)) (xk.mv m2) fun M' d v H' hk a' m' r' => ?_
  obtain ⟨hk, rfl⟩ := hk
  exact ⟨r'.raw_inv, q M' _ _ H' hk a' (m2.trans m') (.raw _)⟩
/-! ### places, slices -/
theorem atI_rp {K : PySem.W.Frag} {Y : List Addr} {H : Hp} {vs : List V} {ds : List D} (r : RpL K Y H vs ds) {i : Int} {d : D} (e : atI ds i = some d) : ∃ v, atI vs i = some v ∧ Rp K Y H v d := by
  unfold atI at e ⊢
  rw [r.length]
  cases z : ixN ds.length i with
  | none => rw [z] at e; cases e
  | some j =>
    rw [z] at e
    obtain ⟨v, e1, e2⟩ := r.get (show ds[j]? = some d from e)
    exact ⟨v, e1, e2⟩
inductive IxD (M : Ms) : D → D → (D → Prop) → Prop
  | lst {l : List D} {i : Int} {d : D} {k : D → Prop} (e : atI l i = some d) (h : k d) : IxD M (.lst l) (I i) k
  | tup {l : List D} {i : Int} {d : D} {k : D → Prop} (e : atI l i = some d) (h : k d) : IxD M (.tup l) (I i) k
  | own {q : Addr} {l : List D} {i : Int} {d : D} {k : D → Prop} (j : Nat) (o : M[j]? = some (q, .lst l)) (e : atI l i = some d) (h : k d) : IxD M (Rf q) (I i) k
  | str {z : Str} {i : Int} {c : Nat} {k : D → Prop} (s : z.length ≤ sizeLine) (e : atI z.cps.toList i = some c) (h : k (Z ⟨#[c]⟩)) : IxD M (Z z) (I i) k
theorem we_ix (h : WE X G W a M ρ xr fun M1 d => WE X G W b M1 ρ xr fun M2 e => IxD M2 d e (R M2)) (hs : PlainIx b := by exact fun _ _ => rfl) : WE X G W (.Subscript a b pos) M ρ xr R :=
  we_of (pe_ix ix_seq pe_wp pe_wp hs) (tev_op (F := fun d e M R => IxD M d e (R M)) (fun M x y d e H Q a rx ry h q => by
    cases h with
    | lst e h =>
      obtain ⟨p1, xs, rfl, s1, _, l1⟩ := rx.lst_inv
      obtain ⟨v, e1, r1⟩ := atI_rp l1 e
      exact .inl ⟨p1, xs, _, v, rfl, ry.raw_inv, SqL.of s1, e1, q M _ _ H h a (Mv.refl _ _) r1⟩
    | tup e h =>
      obtain ⟨p1, xs, rfl, s1, l1⟩ := rx.tup_inv
      obtain ⟨v, e1, r1⟩ := atI_rp l1 e
      exact .inr (.inl ⟨p1, xs, _, v, rfl, ry.raw_inv, s1, e1, q M _ _ H h a (Mv.refl _ _) r1⟩)
    | own j o e h =>
      obtain ⟨xs, s1, l1⟩ := at_ob a o
      obtain ⟨v, e1, r1⟩ := atI_rp l1 e
      exact .inl ⟨_, xs, _, v, rx.raw_inv, ry.raw_inv, SqL.of s1, e1, q M _ _ H h a (Mv.refl _ _) r1⟩
    | str s e h => exact .inr (.inr ⟨_, _, _, rx.raw_inv, ry.raw_inv, s, e, q M _ _ H h a (Mv.refl _ _) (.raw _)⟩)) (h.run.mono fun _ _ z => z.run))
/-- the items of xs[lo:hi] -/
def cutD (xs : List D) (lo hi : Option Int) : List D := (xs.drop (HT.sIx xs.length 0 lo)).take (HT.sIx xs.length xs.length hi - HT.sIx xs.length 0 lo)
theorem RpL.cut {K : PySem.W.Frag} {Y : List Addr} {H : Hp} {vs : List V} {ds : List D} (r : RpL K Y H vs ds) (lo hi : Option Int) : RpL K Y H (cutV vs lo hi) (cutD ds lo hi) := by
  unfold cutV cutD
  rw [r.length]
  exact (r.drop _).take _
/-- a list of ints that stands in the module -/
def KL (K : PySem.W.Frag) (a : Addr) (xs : List V) : Prop := ∃ (o : Obj) (its : Array Value) (n : Nat), K.lookup a = some o ∧ o.cls = .type "list" ∧ o.dict = none ∧ o.data = .seq its n ∧ its.size ≤ sizeLine ∧ Vals xs its.toList
inductive SlD (K : PySem.W.Frag) (M : Ms) : D → Option Int → Option Int → (D → Prop) → Prop
  | lst {l : List D} {lo hi : Option Int} {k : D → Prop} (h : k (.lst (cutD l lo hi))) : SlD K M (.lst l) lo hi k
  | tup {l : List D} {lo hi : Option Int} {k : D → Prop} (h : k (.tup (cutD l lo hi))) : SlD K M (.tup l) lo hi k
  | str {z : Str} {lo hi : Option Int} {k : D → Prop} (s : z.length ≤ sizeLine) (h : k (Z (cutS z lo hi))) : SlD K M (Z z) lo hi k
  | own {q : Addr} {l : List D} {lo hi : Option Int} {k : D → Prop} (j : Nat) (o : M[j]? = some (q, .lst l)) (h : k (.lst (cutD l lo hi))) : SlD K M (Rf q) lo hi k
  | frz {q : Addr} {ob : Obj} {l : List D} {lo hi : Option Int} {k : D → Prop} (j : Nat) (o : M[j]? = some (q, .frz ob l)) (h : k (.lst (cutD l lo hi))) : SlD K M (Rf q) lo hi k
  | ko {q : Addr} {xs : List V} {lo hi : Option Int} {k : D → Prop} (o : KL K q xs) (h : k (.lst (cutD (xs.map D.raw) lo hi))) : SlD K M (Rf q) lo hi k
def WO (X : Cx) (G : Hp → Prop) (W : WX) (o : Option Expr) (M : Ms) (ρ : Rh) (xr : Value → Ms → Prop) (R : Ms → Option Int → Prop) : Prop :=
  match o with
  | none => R M none
  | some e => WE X G W e M ρ xr fun M1 d => IsI d fun i => R M1 (some i)
def oT (X : Cx) (o : Option Expr) : TO :=
  match o with
  | none => tNoPart
  | some e => tPart (eT X e)
theorem po_wp {o : Option Expr} : PO X o (oT X o) := by
  cases o with
  | none => exact po_none
  | some e => exact po_some pe_wp
theorem wo_run {σ : L2.St} {H : Hp} {o : Option Expr} {Ro : Ms → Option Int → Prop} (h : WO X G W o M ρ xr Ro) (a0 : AtM G X.K M H) (b0 : Sl X.K (dom M) H σ ρ) (x : Xok W G X.K M H σ xr) {Q : Option Int → Hp → Prop}
    (q : ∀ M' i H', Ro M' i → AtM G X.K M' H' → Mv M H M' H' → Q i H') : oT X o σ H Q := by
  cases o with
  | none => exact q M none H h a0 (Mv.refl _ _)
  | some e =>
    refine (show WE X G W e M ρ xr _ from h) σ H a0 b0 x _ fun M1 d v H1 h1 a1 m1 r1 => ?_
    cases h1 with
    | mk h1 => exact ⟨_, r1.raw_inv, q M1 (some _) H1 h1 a1 m1⟩
theorem cut_whole {l : List D} {lo hi : Option Int} (h : HT.sIx l.length 0 lo = 0 ∧ HT.sIx l.length l.length hi = l.length) : cutD l lo hi = l := by
  unfold cutD
  rw [h.1, h.2]
  simp
theorem we_slice (gs : Gst G) {lo hi : Option Expr} {p2 : Pos} (h : WE X G W a M ρ xr fun M1 d => WO X G W lo M1 ρ xr fun M2 l => WO X G W hi M2 ρ xr fun M3 u => SlD X.K M3 d l u (R M3)) : WE X G W (.Subscript a (.Slice lo hi none p2) pos) M ρ xr R :=
  we_of (pe_slice (sl_list.or (sl_tupA.or sl_str)) pe_wp po_wp po_wp) fun σ H a0 b0 x Q q => by
  refine h σ H a0 b0 x _ fun M1 d v H1 h1 a1 m1 r1 => ?_
  refine wo_run h1 a1 (m1.sl a0 b0) (x.mv m1) fun M2 l H2 h2 a2 m2 => ?_
  refine wo_run h2 a2 (m2.sl a1 (m1.sl a0 b0)) (x.mv (m1.trans m2)) fun M3 u H3 h3 a3 m3 => ?_
  have r3 := m3.rp a2 (m2.rp a1 r1)
  have m := (m1.trans m2).trans m3
  have q' : ∀ M' d v H', R M' d → AtM G X.K M' H' → Mv M3 H3 M' H' → Rp X.K (dom M') H' v d → Q v H' := fun M' d v H' hk a' m' r' => q M' d v H' hk a' (m.trans m') r'
  cases h3 with
  | lst h =>
    obtain ⟨p1, xs, rfl, s1, _, l1⟩ := r3.lst_inv
    exact .inl ⟨p1, xs, rfl, SqL.of s1, fun p hp => new_lst gs a3 hp (l1.cut _ _) h q'⟩
  | tup h =>
    obtain ⟨p1, xs, rfl, s1, l1⟩ := r3.tup_inv
    refine .inr (.inl ⟨p1, xs, rfl, s1, fun z => ?_, fun _ p hp => new_tup gs a3 hp (l1.cut _ _) h q'⟩)
    rw [l1.length] at z
    rw [cut_whole z] at h
    exact q' M3 _ _ H3 h a3 (Mv.refl _ _) r3
  | str s h =>
    rw [r3.raw_inv]
    exact .inr (.inr ⟨_, rfl, s, q' M3 _ _ H3 h a3 (Mv.refl _ _) (.raw _)⟩)
  | own j o h =>
    obtain ⟨xs, s1, l1⟩ := at_ob a3 o
    rw [r3.raw_inv]
    exact .inl ⟨_, xs, rfl, SqL.of s1, fun p hp => new_lst gs a3 hp (l1.cut _ _) h q'⟩
  | frz j o h =>
    obtain ⟨xs, s1, l1⟩ := at_ob a3 o
    rw [r3.raw_inv]
    exact .inl ⟨_, xs, rfl, .inl (.inr ⟨_, s1⟩), fun p hp => new_lst gs a3 hp (l1.cut _ _) h q'⟩
  | @ko q xs _ _ _ o h =>
    rw [r3.raw_inv]
    exact .inl ⟨_, xs, rfl, .inr o, fun p hp => new_lst gs a3 hp ((RpL.raws_mk xs).cut _ _) h q'⟩
end
end Wv
set_option maxRecDepth 100000
set_option maxHeartbeats 2000000
namespace Wv
open PySem PySem.Spec PyProof.Rows L2
section
variable {X : Cx} {G : Hp → Prop} {W : WX} {M : Ms} {ρ : Rh} {xr : Value → Ms → Prop} {N : En} {a b c e o : Expr} {es : List Expr} {pos p apos : Pos} {R : Ms → D → Prop} {k j : Nat}
/-! ### statements -/
theorem wss_nil (h : N.nx M ρ) : WSs X G W [] M ρ N := wss_of pss_nil fun σ H a0 b0 Dn x n r bk ct => n M ρ σ H h a0 b0 (Mv.refl _ _)
theorem wss_cons {st : Stmt} {rest : List Stmt} (h : WS X G W st M ρ { N with nx := fun M' ρ' => WSs X G W rest M' ρ' N }) : WSs X G W (st :: rest) M ρ N :=
  wss_of (pss_cons ps_wp pss_wp) fun σ H a0 b0 Dn x n r bk ct => h σ H a0 b0 { Dn with nx := ssT X rest Dn } x
    (fun M1 ρ1 σ1 H1 h1 a1 b1 m1 => h1 σ1 H1 a1 b1 Dn (fun M' H' cls σ' hx ha hm => x M' H' cls σ' hx ha (m1.trans hm)) (fun M' ρ' σ' H' hk ha hb hm => n M' ρ' σ' H' hk ha hb (m1.trans hm))
      (fun M' d v H' hk ha hm => r M' d v H' hk ha (m1.trans hm)) (fun M' ρ' σ' H' hk ha hb hm => bk M' ρ' σ' H' hk ha hb (m1.trans hm)) (fun M' ρ' σ' H' hk ha hb hm => ct M' ρ' σ' H' hk ha hb (m1.trans hm)))
    r bk ct
theorem wss_one {st : Stmt} (h : WS X G W st M ρ N) : WSs X G W [st] M ρ N := wss_of (pss_one ps_wp) h
theorem ws_pass (h : N.nx M ρ) : WS X G W (.Pass pos) M ρ N := ws_of ps_pass fun σ H a0 b0 Dn x n r bk ct => n M ρ σ H h a0 b0 (Mv.refl _ _)
theorem ws_break (h : N.bk M ρ) : WS X G W (.Break pos) M ρ N := ws_of ps_break fun σ H a0 b0 Dn x n r bk ct => bk M ρ σ H h a0 b0 (Mv.refl _ _)
theorem ws_cont (h : N.ct M ρ) : WS X G W (.Continue pos) M ρ N := ws_of ps_continue fun σ H a0 b0 Dn x n r bk ct => ct M ρ σ H h a0 b0 (Mv.refl _ _)
/-- what is raised, of a statement's wish -/
theorem xok_of {σ : L2.St} {H : Hp} (x : ∀ M' H' cls σ', N.xr cls M' → AtM G X.K M' H' → Mv M H M' H' → W cls none σ' H') : Xok W G X.K M H σ N.xr := fun cls M' H' hx ha hm => x M' H' cls σ hx ha hm
theorem ws_ret (h : WE X G W e M ρ N.xr N.rt) : WS X G W (.Return (some e) pos) M ρ N :=
  ws_of (ps_ret pe_wp) fun σ H a0 b0 Dn x n r bk ct => h σ H a0 b0 (xok_of x) _ fun M1 d v H1 h1 a1 m1 r1 => r M1 d v H1 h1 a1 m1 r1
theorem ws_retN (h : N.rt M N0) : WS X G W (.Return none pos) M ρ N :=
  ws_of ps_retN fun σ H a0 b0 Dn x n r bk ct => r M N0 _ H h a0 (Mv.refl _ _) (.raw _)
theorem ws_expr (h : WE X G W e M ρ N.xr fun M1 _ => N.nx M1 ρ) (hs : swapsWith e none pos.line X.env = pure false := by rfl) : WS X G W (.Expr e pos) M ρ N :=
  ws_of (ps_expr pe_wp hs) fun σ H a0 b0 Dn x n r bk ct => h σ H a0 b0 (xok_of x) _ fun M1 d v H1 h1 a1 m1 r1 => n M1 ρ σ H1 h1 a1 (m1.sl a0 b0) m1
theorem ws_doc {z : Str} {j pos pos'} (h : N.nx M ρ) : WS X G W (.Expr (.Constant (.str z) j pos) pos') M ρ N := ws_of ps_doc fun σ H a0 b0 Dn x n r bk ct => n M ρ σ H h a0 b0 (Mv.refl _ _)
theorem ws_if {t u : List Stmt} (h : WT X G W c M ρ N.xr fun M1 k => if k = true then WSs X G W t M1 ρ N else WSs X G W u M1 ρ N) : WS X G W (.If c t u pos) M ρ N :=
  ws_of (ps_if pt_wp pss_wp pss_wp) fun σ H a0 b0 Dn x n r bk ct => h σ H a0 b0 (xok_of x) _ fun M1 k H1 h1 a1 m1 => by
  have hx : ∀ M' H' cls σ', N.xr cls M' → AtM G X.K M' H' → Mv M1 H1 M' H' → W cls none σ' H' := fun M' H' cls σ' hx ha hm => x M' H' cls σ' hx ha (m1.trans hm)
  have hn : ∀ M' ρ' σ' H', N.nx M' ρ' → AtM G X.K M' H' → Sl X.K (dom M') H' σ' ρ' → Mv M1 H1 M' H' → Dn.nx σ' H' := fun M' ρ' σ' H' hk ha hb hm => n M' ρ' σ' H' hk ha hb (m1.trans hm)
  have hr : ∀ M' d v H', N.rt M' d → AtM G X.K M' H' → Mv M1 H1 M' H' → Rp X.K (dom M') H' v d → Dn.rt v H' := fun M' d v H' hk ha hm => r M' d v H' hk ha (m1.trans hm)
  have hb : ∀ M' ρ' σ' H', N.bk M' ρ' → AtM G X.K M' H' → Sl X.K (dom M') H' σ' ρ' → Mv M1 H1 M' H' → Dn.bk σ' H' := fun M' ρ' σ' H' hk ha hb hm => bk M' ρ' σ' H' hk ha hb (m1.trans hm)
  have hc : ∀ M' ρ' σ' H', N.ct M' ρ' → AtM G X.K M' H' → Sl X.K (dom M') H' σ' ρ' → Mv M1 H1 M' H' → Dn.ct σ' H' := fun M' ρ' σ' H' hk ha hb hm => ct M' ρ' σ' H' hk ha hb (m1.trans hm)
  cases k with
  | true => exact iteT ((show WSs X G W t M1 ρ N from h1) σ H1 a1 (m1.sl a0 b0) Dn hx hn hr hb hc)
  | false => exact iteF ((show WSs X G W u M1 ρ N from h1) σ H1 a1 (m1.sl a0 b0) Dn hx hn hr hb hc)
/-! ### targets -/
/-- what a target does to the slots -/
def GOk (G : Hp → Prop) (K : PySem.W.Frag) (g : TG) (as : D → Rh → (Rh → Prop) → Prop) : Prop :=
  ∀ v d M ρ σ H (k : Rh → Prop) (Q : L2.St → Hp → Prop), AtM G K M H → Sl K (dom M) H σ ρ → Rp K (dom M) H v d → as d ρ k → (∀ ρ' σ', k ρ' → Sl K (dom M) H σ' ρ' → Q σ' H) → g v σ H Q
abbrev asN (i : Nat) : D → Rh → (Rh → Prop) → Prop := fun d ρ k => k (ρ.set i (some d))
theorem gok_name {K : PySem.W.Frag} (i : Nat) : GOk G K (gName i) (asN i) := fun v d M ρ σ H k Q a0 b0 r h q => q _ _ h (b0.set i r)
def asL : List (D → Rh → (Rh → Prop) → Prop) → List D → Rh → (Rh → Prop) → Prop
  | [], ds, ρ, k => ds = [] ∧ k ρ
  | a :: as, ds, ρ, k => ∃ d r, ds = d :: r ∧ a d ρ fun ρ' => asL as r ρ' k
def asT (as : List (D → Rh → (Rh → Prop) → Prop)) : D → Rh → (Rh → Prop) → Prop := fun d ρ k => ∃ ds, d = .tup ds ∧ ds.length = as.length ∧ asL as ds ρ k
def GsOk (G : Hp → Prop) (K : PySem.W.Frag) (g : TGs) (as : List (D → Rh → (Rh → Prop) → Prop)) : Prop :=
  ∀ vs ds M ρ σ H (k : Rh → Prop) (Q : L2.St → Hp → Prop), AtM G K M H → Sl K (dom M) H σ ρ → RpL K (dom M) H vs ds → asL as ds ρ k → (∀ ρ' σ', k ρ' → Sl K (dom M) H σ' ρ' → Q σ' H) → g vs σ H Q
theorem gsok_nil {K : PySem.W.Frag} : GsOk G K gNil [] := fun vs ds M ρ σ H k Q a0 b0 r h q => by
  obtain ⟨rfl, h⟩ := h
  cases r
  exact ⟨rfl, q _ _ h b0⟩
theorem gsok_cons {K : PySem.W.Frag} {t : TG} {u : TGs} {a : D → Rh → (Rh → Prop) → Prop} {as : List (D → Rh → (Rh → Prop) → Prop)} (h1 : GOk G K t a) (h2 : GsOk G K u as) : GsOk G K (gCons t u) (a :: as) := fun vs ds M ρ σ H k Q a0 b0 r h q => by
  obtain ⟨d, r', rfl, h⟩ := h
  cases r with
  | cons ra rb => exact ⟨_, _, rfl, h1 _ _ _ _ _ _ _ _ a0 b0 ra h fun ρ' σ' hk hs => h2 _ _ _ _ _ _ _ _ a0 hs rb hk q⟩
theorem gok_tup {K : PySem.W.Frag} {n : Nat} {t : TGs} {as : List (D → Rh → (Rh → Prop) → Prop)} (h : GsOk G K t as) (hn : as.length = n) : GOk G K (gTup K n t) (asT as) := fun v d M ρ σ H k Q a0 b0 r hh q => by
  obtain ⟨ds, rfl, hl, hh⟩ := hh
  obtain ⟨p1, xs, rfl, s1, l1⟩ := r.tup_inv
  exact ⟨p1, xs, rfl, s1, by rw [l1.length, hl, hn], h _ _ _ _ _ _ _ _ a0 b0 l1 hh q⟩
/-- x = e -/
theorem ws_set (i : Nat) {x : Str} {pos' : Pos} (hN : X.N.Nodup) (h : WE X G W e M ρ N.xr fun M1 d => N.nx M1 (ρ.set i (some d))) (hi : X.N[i]? = some x := by rfl) (hx : Loc X.env.scope x := by first | exact Or.inl rfl | exact Or.inr rfl)
    (hs : swapsWith e (some (.Name x pos')) pos.line X.env = pure false := by rfl) (hf : X.fn x = true ∨ X.env.scope.names.lookup x = some .local := by first | exact .inl rfl | exact .inr rfl) : WS X G W (.Assign [.Name x pos'] e pos) M ρ N :=
  ws_of (ps_set hN hi hx pe_wp hs hf) fun σ H a0 b0 Dn x n r bk ct => h σ H a0 b0 (xok_of x) _ fun M1 d v H1 h1 a1 m1 r1 => n M1 _ _ H1 h1 a1 ((m1.sl a0 b0).set i r1) m1
/-- any target -/
theorem ws_asg {tg : Expr} {g : TG} {as : D → Rh → (Rh → Prop) → Prop} (hg : PG X tg g) (ok : GOk G X.K g as) (h : WE X G W e M ρ N.xr fun M1 d => as d ρ fun ρ' => N.nx M1 ρ') (hs : swapsWithSole [tg] e pos.line X.env = pure false := by rfl) (hw : swappedStores [tg] e X.env = pure none := by rfl) (ha : (assignEach [tg] X.env).map (·.2) = [assign tg X.env] := by rfl) :
    WS X G W (.Assign [tg] e pos) M ρ N :=
  ws_of (ps_asg pe_wp hg hs hw ha) fun σ H a0 b0 Dn x n r bk ct => h σ H a0 b0 (xok_of x) _ fun M1 d v H1 h1 a1 m1 r1 => ok v d M1 ρ σ H1 _ _ a1 (m1.sl a0 b0) r1 h1 fun ρ' σ' hk hs => n M1 ρ' σ' H1 hk a1 hs m1
/-- a, b = e1, e2 -/
theorem ws_par (i j : Nat) {x y : Str} {a b : Expr} {px py pt : Pos} {kt k2 pt2} (hc : X.calm = true) (hN : X.N.Nodup) (h : WA X G W [a, b] M ρ N.xr fun M1 ds => ∃ d d', ds = [d, d'] ∧ N.nx M1 ((ρ.set i (some d)).set j (some d')))
    (hp : PS X (.Assign [.Tuple [.Name x px, .Name y py] kt pt] (.Tuple [a, b] k2 pt2) pos) (tPar i j (aT X [a, b]))) : WS X G W (.Assign [.Tuple [.Name x px, .Name y py] kt pt] (.Tuple [a, b] k2 pt2) pos) M ρ N :=
  ws_of hp fun σ H a0 b0 Dn x n r bk ct => h σ H a0 b0 (xok_of x) _ fun M1 ds vs H1 h1 a1 m1 r1 => by
  obtain ⟨d, d', rfl, h1⟩ := h1
  cases r1 with
  | cons ra rb => cases rb with
    | cons rb rc => cases rc; exact ⟨_, _, rfl, n M1 _ _ H1 h1 a1 (((m1.sl a0 b0).set i ra).set j rb) m1⟩
/-- xs[i] = e -/
theorem ws_sub (gs : Gst G) {o i : Expr} {sp : Pos} (h : WE X G W e M ρ N.xr fun M1 z => WE X G W o M1 ρ N.xr fun M2 d => WE X G W i M2 ρ N.xr fun M3 y => IsI y fun iv => OwL M3 d fun n q l => ∃ j, ixN l.length iv = some j ∧ N.nx (M3.set n (q, .lst (l.set j z))) ρ)
    (hp : ∀ {to ti : TE}, PE X o to → PE X i ti → PG X (.Subscript o i sp) (gSub to ti rSetL))
    (hs : swapsWithSole [.Subscript o i sp] e pos.line X.env = pure false := by rfl) (hw : swappedStores [.Subscript o i sp] e X.env = pure none := by rfl) : WS X G W (.Assign [.Subscript o i sp] e pos) M ρ N :=
  ws_of (ps_asg pe_wp (hp pe_wp pe_wp) hs hw) fun σ H a0 b0 Dn x n r bk ct => by
  refine h σ H a0 b0 (xok_of x) _ fun M1 z v H1 h1 a1 m1 r1 => ?_
  refine h1 σ H1 a1 (m1.sl a0 b0) ((xok_of x).mv m1) _ fun M2 d u H2 h2 a2 m2 r2 => ?_
  refine h2 σ H2 a2 (m2.sl a1 (m1.sl a0 b0)) ((xok_of x).mv (m1.trans m2)) _ fun M3 y w H3 h3 a3 m3 r3 => ?_
  cases h3 with
  | mk h3 =>
  rename_i iv
  cases h3 with
  | mk ix hi h3 =>
  rename_i q l
  obtain ⟨j, hj, hk⟩ := h3
  obtain ⟨xs, e3, l3⟩ := at_ob a3 hi
  have m12 := (m1.trans m2).trans m3
  have rz := m3.rp a2 (m2.rp a1 r1)
  refine ⟨q, xs, iv, j, (m3.rp a2 r2).raw_inv, r3.raw_inv, e3, by rw [l3.length]; exact hj, ?_⟩
  have hm : Mv M3 H3 M3 (upd H3 q (.lst (xs.set j v))) := ⟨fun b w e n _ => by
      rw [upd_ne (fun z => n (by rw [z]; exact mem_at hi))]; exact e, fun _ h => .inl h⟩
  obtain ⟨a4, m4⟩ := a3.write gs (o' := .lst (l.set j z)) hi (u := .lst (xs.set j v)) (fun _ z => by cases z) ⟨_, upd_same, hm.rpl a3 (l3.set rz j)⟩
  exact n _ _ σ _ hk a4 (m4.sl a3 (m12.sl a0 b0)) (m12.trans m4)
/-- x += e of ints -/
theorem ws_augI (i : Nat) {x : Str} {op : Operator} {f : Int → Int → Int} {pos' : Pos} (hN : X.N.Nodup) (hop : PIp X op (ipI f)) (h : ∃ u : Int, ρ[i]? = some (some (I u)) ∧ WE X G W e M ρ N.xr fun M1 d => IsI d fun w => N.nx M1 (ρ.set i (some (I (f u w)))))
    (hi : X.N[i]? = some x := by rfl) (hx : Loc X.env.scope x := by first | exact Or.inl rfl | exact Or.inr rfl) (hf : X.fn x = true ∨ X.env.scope.names.lookup x = some .local := by first | exact .inl rfl | exact .inr rfl) : WS X G W (.AugAssign (.Name x pos') op e pos) M ρ N :=
  ws_of (ps_aug hN hi hx pe_wp hop hf) fun σ H a0 b0 Dn x n r bk ct => by
  obtain ⟨u, hu, h⟩ := h
  obtain ⟨v, e1, r1⟩ := b0.2 i _ hu
  refine ⟨v, e1, h σ H a0 b0 (xok_of x) _ fun M1 d v' H1 h1 a1 m1 r2 => ?_⟩
  cases h1 with
  | mk h1 =>
  rename_i w
  exact ⟨u, w, r1.raw_inv, r2.raw_inv, n M1 _ _ H1 h1 a1 ((m1.sl a0 b0).set i (.raw _)) m1⟩
/-! ### loops -/
theorem ws_while {body : List Stmt} (cx : Ct X G W k) (J : Nat → Ms → Rh → Prop) (h0 : ∃ m, J m M ρ)
    (h : ∀ m M ρ, J m M ρ → WT X G W c M ρ N.xr fun M1 b => if b = true then WSs X G W body M1 ρ { nx := fun M' ρ' => ∃ m', m' < m ∧ J m' M' ρ', rt := N.rt, bk := N.nx, ct := fun M' ρ' => ∃ m', m' < m ∧ J m' M' ρ', xr := N.xr } else N.nx M1 ρ) :
    WS X G W (.While c body [] pos) M ρ N :=
  ws_of (ps_while cx.hp pt_wp pss_wp) fun σ H a0 b0 Dn x n r bk ct => by
  obtain ⟨m0, w0⟩ := h0
  refine ⟨fun m σ' H' => ∃ M' ρ', J m M' ρ' ∧ AtM G X.K M' H' ∧ Sl X.K (dom M') H' σ' ρ' ∧ Mv M H M' H', ⟨m0, M, ρ, w0, a0, b0, Mv.refl _ _⟩, ?_⟩
  rintro m σ1 H1 ⟨M1, ρ1, j1, a1, b1, m1⟩
  refine h m M1 ρ1 j1 σ1 H1 a1 b1 (fun cls M' H' hx ha hm => x M' H' cls σ1 hx ha (m1.trans hm)) _ fun M2 b H2 h2 a2 m2 => ?_
  cases b with
  | false => exact iteF (n M2 ρ1 σ1 H2 h2 a2 (m2.sl a1 b1) (m1.trans m2))
  | true =>
    have m12 := m1.trans m2
    refine iteT ⟨fun σ' H' => ∃ m', m' < m ∧ ∃ M' ρ', J m' M' ρ' ∧ AtM G X.K M' H' ∧ Sl X.K (dom M') H' σ' ρ' ∧ Mv M H M' H', fun σ' H' hh => hh, ?_⟩
    exact (show WSs X G W body M2 ρ1 _ from h2) σ1 H2 a2 (m2.sl a1 b1) _ (fun M' H' cls σ' hx ha hm => x M' H' cls σ' hx ha (m12.trans hm))
      (fun M' ρ' σ' H' ⟨m', hm', hj⟩ ha hb hm => ⟨m', hm', M', ρ', hj, ha, hb, m12.trans hm⟩) (fun M' d v H' hk ha hm => r M' d v H' hk ha (m12.trans hm))
      (fun M' ρ' σ' H' hk ha hb hm => n M' ρ' σ' H' hk ha hb (m12.trans hm)) (fun M' ρ' σ' H' ⟨m', hm', hj⟩ ha hb hm => ⟨m', hm', M', ρ', hj, ha, hb, m12.trans hm⟩)
/-- what is walked: after it came to be, the items l, each as data -/
def WalkD (G : Hp → Prop) (K : PySem.W.Frag) (M' : Ms) (H' : Hp) (J : It) (l : List D) : Prop := ∃ Gd Y, Walk J l.length Gd Y ∧ (∀ M2 H2, AtM G K M2 H2 → Mv M' H' M2 H2 → Gd H2) ∧
  ∀ i H2 M2 v H3, AtM G K M2 H2 → Mv M' H' M2 H2 → Y i H2 v H3 → ∃ z, l[i]? = some z ∧ AtM G K M2 H3 ∧ Mv M2 H2 M2 H3 ∧ Rp K (dom M2) H3 v z
def TIv (G : Hp → Prop) (K : PySem.W.Frag) (W : WX) (wi : TI) (M : Ms) (ρ : Rh) (xr : Value → Ms → Prop) (R : Ms → List D → Prop) : Prop :=
  ∀ σ H, AtM G K M H → Sl K (dom M) H σ ρ → Xok W G K M H σ xr → ∀ Q : It → Hp → Prop, (∀ M' l H' J, R M' l → AtM G K M' H' → Mv M H M' H' → WalkD G K M' H' J l → Q J H') → wi σ H Q
def WI (X : Cx) (G : Hp → Prop) (W : WX) (tg it : Expr) (M : Ms) (ρ : Rh) (xr : Value → Ms → Prop) (R : Ms → List D → Prop) : Prop := ∃ wi, PI X tg it wi ∧ TIv G X.K W wi M ρ xr R
theorem mv_at {K : PySem.W.Frag} {M' M2 : Ms} {H' H2 : Hp} {xs : List V} {l : List D} {a : Addr} (hm : Mv M' H' M2 H2) (a0 : AtM G K M' H') (l1 : RpL K (dom M') H' xs l) {i : Nat} {v : V} (h : xs[i]? = some v) : ∃ z, l[i]? = some z ∧ Rp K (dom M2) H2 v z := by
  obtain ⟨z, e, r⟩ := l1.getV h
  exact ⟨z, e, hm.rp a0 r⟩
section
variable {tg it : Expr} {RI : Ms → List D → Prop}
theorem wi_tup (h : WE X G W it M ρ xr fun M1 d => IsT d fun l => RI M1 l) : WI X G W tg it M ρ xr RI := ⟨_, pi_tup pe_wp, fun σ H a0 b0 x Q q => h σ H a0 b0 x _ fun M1 d v H1 h1 a1 m1 r1 => by
  cases h1 with
  | mk h1 =>
  rename_i l
  obtain ⟨p1, xs, rfl, s1, l1⟩ := r1.tup_inv
  refine ⟨p1, rfl, ⟨xs, s1⟩, q M1 l H1 _ h1 a1 m1 ⟨_, _, by rw [← l1.length]; exact walk_tup (K := X.K) (a := p1) (xs := xs), fun M2 H2 a2 hm => hm.sqT a1 s1, fun i H2 M2 v H3 a2 hm y => ?_⟩⟩
  obtain ⟨rfl, hy⟩ := y
  obtain ⟨z, hz, rz⟩ := mv_at (a := p1) hm a1 l1 hy
  exact ⟨z, hz, a2, Mv.refl _ _, rz⟩⟩
theorem wi_lst (h : WE X G W it M ρ xr fun M1 d => IsL d fun l => RI M1 l) : WI X G W tg it M ρ xr RI := ⟨_, pi_list pe_wp, fun σ H a0 b0 x Q q => h σ H a0 b0 x _ fun M1 d v H1 h1 a1 m1 r1 => by
  cases h1 with
  | mk h1 =>
  rename_i l
  obtain ⟨p1, xs, rfl, s1, s2, l1⟩ := r1.lst_inv
  refine ⟨p1, rfl, ⟨xs, SqL.of s1⟩, q M1 l H1 _ h1 a1 m1 ⟨_, _, by rw [← l1.length]; exact walk_list (K := X.K) (a := p1) (xs := xs), fun M2 H2 a2 hm => SqL.of (hm.lstR s1 s2).1, fun i H2 M2 v H3 a2 hm y => ?_⟩⟩
  obtain ⟨rfl, hy⟩ := y
  obtain ⟨z, hz, rz⟩ := mv_at (a := p1) hm a1 l1 hy
  exact ⟨z, hz, a2, Mv.refl _ _, rz⟩⟩
theorem wi_str (h : WE X G W it M ρ xr fun M1 d => IsZ d fun z => RI M1 (z.cps.toList.map fun c => Z ⟨#[c]⟩)) : WI X G W tg it M ρ xr RI := ⟨_, pi_str pe_wp, fun σ H a0 b0 x Q q => h σ H a0 b0 x _ fun M1 d v H1 h1 a1 m1 r1 => by
  cases h1 with
  | mk h1 =>
  rename_i z
  refine ⟨z, r1.raw_inv, q M1 _ H1 _ h1 a1 m1 ⟨_, _, by rw [List.length_map, Array.length_toList]; exact walk_str (z := z), fun M2 H2 a2 hm => trivial, fun i H2 M2 v H3 a2 hm y => ?_⟩⟩
  obtain ⟨rfl, c, hc, rfl⟩ := y
  exact ⟨Z ⟨#[c]⟩, by rw [List.getElem?_map, Array.getElem?_toList, hc]; rfl, a2, Mv.refl _ _, .raw _⟩⟩
theorem wi_rng1 {a : Expr} {p1 p2 : Pos} (hm : X.mg "range" = none) (hgl : Gl X "range") (h : WA X G W [a] M ρ xr fun M1 ds => ∃ n : Int, ds = [I n] ∧ -(2 ^ 62) ≤ n ∧ n < 2 ^ 62 ∧ RI M1 ((List.range n.toNat).map fun (i : Nat) => I (i : Int)))
    (hs : starEach [a] X.env = [(false, eval a X.env)] := by rfl) : WI X G W tg (.Call (.Name "range" p1) [a] [] p2) M ρ xr RI := ⟨_, pi_range1 hgl hm pa_wp hs, fun σ H a0 b0 x Q q => h σ H a0 b0 x _ fun M1 ds vs H1 h1 a1 m1 r1 => by
  obtain ⟨n, rfl, z1, z2, h1⟩ := h1
  cases r1 with
  | cons ra rb =>
    cases rb
    refine ⟨n, by rw [ra.raw_inv], z1, z2, q M1 _ H1 _ h1 a1 m1 ⟨fun _ => True, fun i H x H' => i < n.toNat ∧ H' = H ∧ x = .int (0 + (i : Int)), ?_, fun M2 H2 a2 hm => trivial, fun i H2 M2 v H3 a2 hm y => ?_⟩⟩
    · rw [List.length_map, List.length_range]
      exact (walk_range (lo := 0) (n := n.toNat)).mono (fun _ _ => trivial) fun i H x H' hi _ y => ⟨hi, y.1, y.2⟩
    · obtain ⟨hi, rfl, rfl⟩ := y
      exact ⟨I (i : Int), by rw [List.getElem?_map, List.getElem?_range hi]; rfl, a2, Mv.refl _ _, by rw [Int.zero_add]; exact .raw _⟩⟩
theorem wi_rng2 {a b : Expr} {p1 p2 : Pos} (hm : X.mg "range" = none) (hgl : Gl X "range") (h : WA X G W [a, b] M ρ xr fun M1 ds => ∃ lo n : Int, ds = [I lo, I n] ∧ (-(2 ^ 62) ≤ lo ∧ lo < 2 ^ 62 ∧ -(2 ^ 62) ≤ n ∧ n < 2 ^ 62) ∧ RI M1 ((List.range (n - lo).toNat).map fun (i : Nat) => I (lo + (i : Int))))
    (hs : starEach [a, b] X.env = [(false, eval a X.env), (false, eval b X.env)] := by rfl) (hs2 : starEach [b] X.env = [(false, eval b X.env)] := by rfl) : WI X G W tg (.Call (.Name "range" p1) [a, b] [] p2) M ρ xr RI := ⟨_, pi_range2 hgl hm pa_wp hs hs2, fun σ H a0 b0 x Q q => h σ H a0 b0 x _ fun M1 ds vs H1 h1 a1 m1 r1 => by
  obtain ⟨lo, n, rfl, z1, h1⟩ := h1
  cases r1 with
  | cons ra rb =>
    cases rb with
    | cons rb rc =>
    cases rc
    refine ⟨lo, n, by rw [ra.raw_inv, rb.raw_inv], z1, q M1 _ H1 _ h1 a1 m1 ⟨fun _ => True, fun i H x H' => i < (n - lo).toNat ∧ H' = H ∧ x = .int (lo + (i : Int)), ?_, fun M2 H2 a2 hm => trivial, fun i H2 M2 v H3 a2 hm y => ?_⟩⟩
    · rw [List.length_map, List.length_range]
      exact (walk_range (lo := lo) (n := (n - lo).toNat)).mono (fun _ _ => trivial) fun i H x H' hi _ y => ⟨hi, y.1, y.2⟩
    · obtain ⟨hi, rfl, rfl⟩ := y
      exact ⟨I (lo + (i : Int)), by rw [List.getElem?_map, List.getElem?_range hi]; rfl, a2, Mv.refl _ _, .raw _⟩⟩
end
/-- one turn of a for -/
def Turn (X : Cx) (G : Hp → Prop) (W : WX) (as : D → Rh → (Rh → Prop) → Prop) (body : List Stmt) (N : En) (J : Nat → Ms → Rh → Prop) (n : Nat) (z : D) : Prop :=
  ∀ M' ρ', J n M' ρ' → as z ρ' fun ρ'' => WSs X G W body M' ρ'' { nx := J (n + 1), rt := N.rt, bk := N.nx, ct := J (n + 1), xr := N.xr }
section
variable {tg it : Expr} {g : TG} {as : D → Rh → (Rh → Prop) → Prop} {body : List Stmt}
theorem ws_for (cx : Ct X G W k) (hg : PG X tg g) (ok : GOk G X.K g as) (J : Nat → Ms → Rh → Prop)
    (h : WI X G W tg it M ρ N.xr fun M1 l => J 0 M1 ρ ∧ (∀ n z, l[n]? = some z → Turn X G W as body N J n z) ∧ ∀ M' ρ', J l.length M' ρ' → N.nx M' ρ')
    (hsf : ∀ x, foldedSetIterable it X.env x = pure x := by intro _; rfl) : WS X G W (.For tg it body [] pos) M ρ N := by
  obtain ⟨wi, hi, h⟩ := h
  refine ws_of (ps_for cx.hp cx.hc hi hg pss_wp hsf) fun σ H a0 b0 Dn x n r bk ct => h σ H a0 b0 (xok_of x) _ fun M1 l H1 Jt h1 a1 m1 wd => ?_
  obtain ⟨j0, ht, he⟩ := h1
  obtain ⟨Gd, Y, w, hG, hY⟩ := wd
  refine for_it w (fun i σ' H' => ∃ M' ρ', J i M' ρ' ∧ AtM G X.K M' H' ∧ Sl X.K (dom M') H' σ' ρ' ∧ Mv M1 H1 M' H') ⟨M1, ρ, j0, a1, m1.sl a0 b0, Mv.refl _ _⟩ (fun i σ' H' _ ⟨M', ρ', _, ha, _, hm⟩ => hG _ _ ha hm) ?_ ?_
  · rintro i v σ' H' H3 hi ⟨M', ρ', hj, ha, hb, hm⟩ y
    obtain ⟨z, hz, ha3, hm3, rz⟩ := hY i H' M' v H3 ha hm y
    refine ok v z M' ρ' σ' H3 _ _ ha3 (hm3.sl ha hb) rz (ht i z hz M' ρ' hj) fun ρ2 σ2 hw hs => ?_
    have m13 := (m1.trans hm).trans hm3
    exact hw σ2 H3 ha3 hs _ (fun M2 H2 cls σ3 hx ha2 hm2 => x M2 H2 cls σ3 hx ha2 (m13.trans hm2)) (fun M2 ρ3 σ3 H3 hk ha2 hb2 hm2 => ⟨M2, ρ3, hk, ha2, hb2, (hm.trans hm3).trans hm2⟩)
      (fun M2 d v H2 hk ha2 hm2 => r M2 d v H2 hk ha2 (m13.trans hm2)) (fun M2 ρ3 σ3 H3 hk ha2 hb2 hm2 => n M2 ρ3 σ3 H3 hk ha2 hb2 (m13.trans hm2)) (fun M2 ρ3 σ3 H3 hk ha2 hb2 hm2 => ⟨M2, ρ3, hk, ha2, hb2, (hm.trans hm3).trans hm2⟩)
  · rintro σ' H' ⟨M', ρ', hj, ha, hb, hm⟩
    exact n M' ρ' σ' H' (he M' ρ' hj) ha hb (m1.trans hm)
end
/-! ### comprehensions -/
/-- the tests of a comprehension -/
def WTs (X : Cx) (G : Hp → Prop) (W : WX) (ifs : List Expr) (M : Ms) (ρ : Rh) (xr : Value → Ms → Prop) (R : Ms → Bool → Prop) : Prop :=
  match ifs with
  | [] => R M true
  | [c] => WT X G W c M ρ xr R
  | _ => False
def ifsT (X : Cx) (ifs : List Expr) : TT := fun σ H Q => ∀ pins s, Inv X pins σ H s →
    wpAny (model X.prog X.w) X.A (forIn ifs true fun c r => if r = true then do let ok ← isTrue c X.env (eval c X.env); pure (ForInStep.yield ok) else pure (ForInStep.yield r)) (TP X pins σ Q) X.xe s
theorem pts_wp {ifs : List Expr} : PTs X ifs (ifsT X ifs) := ⟨fun pins s σ H Q I h => h pins s I⟩
theorem wts_run {ifs : List Expr} {Rb : Ms → Bool → Prop} (h : WTs X G W ifs M ρ xr Rb) : TTv G X.K W (ifsT X ifs) M ρ xr Rb := by
  match ifs, h with
  | [], h => exact fun σ H a0 b0 x Q q pins s I => pts_nil.run pins s σ H Q I (q M true H h a0 (Mv.refl _ _))
  | [c], h => exact fun σ H a0 b0 x Q q pins s I => (pts_one pt_wp).run pins s σ H Q I ((show WT X G W c M ρ xr Rb from h) σ H a0 b0 x Q q)
/-- a list of ours becomes data -/
theorem AtM.drop {K : PySem.W.Frag} {q : Addr} {l : List D} {H : Hp} (a : AtM G K ((q, .lst l) :: M) H) : AtM G K M H ∧ Mv ((q, .lst l) :: M) H M H ∧ Rp K (dom M) H (.ref q) (.lst l) := by
  have hn : q ∉ dom M := (List.nodup_cons.mp a.nd).1
  have m : Mv ((q, O.lst l) :: M) H M H := ⟨fun _ _ h _ _ => h, fun b hb => .inl (List.mem_cons_of_mem _ hb)⟩
  refine ⟨⟨a.g, (List.nodup_cons.mp a.nd).2, fun p hp => m.oat a (a.ob p (List.mem_cons_of_mem _ hp)) fun u h => h⟩, m, ?_⟩
  obtain ⟨xs, e, r⟩ := a.ob (q, .lst l) List.mem_cons_self
  exact .lst e hn (m.rpl a r)
theorem Sl.wipes {K : PySem.W.Frag} {Y : List Addr} {H : Hp} {σ : L2.St} {ρ : Rh} (h : Sl K Y H σ ρ) : ∀ vs : List Nat, Sl K Y H (L2.wipe σ vs) (vs.foldr (fun v r => r.set v none) ρ)
  | [] => h
  | v :: vs => by
    show Sl K Y H ((L2.wipe σ vs).set v none) ((vs.foldr (fun v r => r.set v none) ρ).set v none)
    exact (Sl.wipes h vs).wipe v
abbrev wipeD (ρ : Rh) (vs : List Nat) : Rh := vs.foldr (fun v r => r.set v none) ρ
/-- the target of a comprehension: only its own slots -/
def GWipe (g : TG) (vs : List Nat) : Prop := ∀ v σ H (Q : L2.St → Hp → Prop), g v (L2.wipe σ vs) H Q → g v (L2.wipe σ vs) H fun σ2 H2 => L2.wipe σ2 vs = L2.wipe σ vs ∧ Q σ2 H2
theorem gwipe_name (i : Nat) : GWipe (gName i) [i] := fun v σ H Q h => ⟨by
  show ((σ.set i none).set i (some v)).set i none = σ.set i none
  rw [List.set_set, List.set_set], h⟩
section
variable {tg it elt : Expr} {g : TG} {as : D → Rh → (Rh → Prop) → Prop} {ifs : List Expr} {scope : Scope} {own : List (Str × Nat)}
/-- a block of X -/
def Blk (X : Cx) (scope : Scope) (Y : Cx) : Prop := ∃ (s : Shared) (H : Hp) (C : Addr) (cl : List (Str × Addr)) (fp : List Addr), Y = X.blk s H scope (compEnvC scope cl C X.env) fp
/-- what a turn of a comprehension is to show -/
def TurnC (X : Cx) (G : Hp → Prop) (k : Nat) (scope : Scope) (as : D → Rh → (Rh → Prop) → Prop) (ifs : List Expr) (elt : Expr) (ρ : Rh) (J : Nat → Ms → List D → Prop) (n : Nat) (z : D) : Prop :=
  ∀ q M' acc, J n M' acc → as z ρ fun ρ' => ∀ Y, Blk X scope Y → Ct Y G (fun _ _ _ _ => False) k → WTs Y G (fun _ _ _ _ => False) ifs ((q, .lst acc) :: M') ρ' (fun _ _ => False) fun M2 b =>
    if b = true then ∀ Y', Blk X scope Y' → Ct Y' G (fun _ _ _ _ => False) k → WE Y' G (fun _ _ _ _ => False) elt M2 ρ' (fun _ _ => False) fun M3 y => ∃ M4, M3 = (q, .lst acc) :: M4 ∧ acc.length < sizeLine ∧ J (n + 1) M4 (acc ++ [y]) else ∃ M4, M2 = (q, .lst acc) :: M4 ∧ J (n + 1) M4 acc
theorem tev_lc (gs : Gst G) {wi : TI} (ok : GOk G X.K g as) (gw : GWipe g (own.map (·.2))) (J : Nat → Ms → List D → Prop) {Wt : TT} {We : TE}
    (h : TIv G X.K W wi M ρ xr fun M1 l => J 0 M1 [] ∧ (∀ n z, l[n]? = some z → ∀ q M' acc, J n M' acc → as z (wipeD ρ (own.map (·.2))) fun ρ' => TTv G X.K (fun _ _ _ _ => False) Wt ((q, .lst acc) :: M') ρ' (fun _ _ => False) fun M2 b => if b = true then TEv G X.K (fun _ _ _ _ => False) We M2 ρ' (fun _ _ => False) fun M3 y => ∃ M4, M3 = (q, .lst acc) :: M4 ∧ acc.length < sizeLine ∧ J (n + 1) M4 (acc ++ [y]) else ∃ M4, M2 = (q, .lst acc) :: M4 ∧ J (n + 1) M4 acc) ∧ ∀ M' acc, J l.length M' acc → R M' (.lst acc)) :
    TEv G X.K W (tLc wi g Wt We (own.map (·.2))) M ρ xr R := by
  intro σ H a0 b0 x Q q
  refine h σ H a0 b0 x _ fun M1 l H1 Jt h1 a1 m1 wd => fun Dl hD => ?_
  obtain ⟨j0, ht, he⟩ := h1
  obtain ⟨Gd, Y, w, hG, hY⟩ := wd
  obtain ⟨a2, m2⟩ := own_lst (X := X) gs a1 hD .nil
  refine lc_it w (fun i H' => ∃ M' acc, J i M' acc ∧ AtM G X.K ((Dl, .lst acc) :: M') H' ∧ Mv M1 H1 ((Dl, .lst acc) :: M') H') ⟨M1, [], j0, a2, m2⟩ (fun i H' _ ⟨M', acc, _, ha, hm⟩ => hG _ _ ha hm) ?_ ?_
  · rintro i v H' H3 hi ⟨M', acc, hj, ha, hm⟩ y
    obtain ⟨z, hz, ha3, hm3, rz⟩ := hY i H' _ v H3 ha hm y
    have hmm := m1.trans (hm.trans hm3)
    have bs : Sl X.K (dom ((Dl, O.lst acc) :: M')) H3 (L2.wipe σ (own.map (·.2))) (wipeD ρ (own.map (·.2))) := (hmm.sl a0 b0).wipes _
    refine gw v σ H3 _ (ok v z _ _ _ H3 _ _ ha3 bs rz (ht i z hz Dl M' acc hj) fun ρ2 σ2 hw hs => ?_)
    refine hw σ2 H3 ha3 hs (fun _ _ _ z => z.elim) _ fun M2 b H4 h2 a4 m4 => ?_
    cases b with
    | false =>
      obtain ⟨M4, rfl, hj4⟩ := (show ∃ M4, M2 = (Dl, O.lst acc) :: M4 ∧ J (i + 1) M4 acc from h2)
      exact iteF ⟨M4, acc, hj4, a4, (hm.trans hm3).trans m4⟩
    | true =>
      refine iteT ((show TEv G X.K _ We M2 ρ2 _ _ from h2) σ2 H4 a4 (m4.sl ha3 hs) (fun _ _ _ z => z.elim) _ fun M3 y v5 H5 h5 a5 m5 r5 => ?_)
      obtain ⟨M4, rfl, hl, hj4⟩ := h5
      obtain ⟨xs, e5, rl⟩ := a5.ob (Dl, .lst acc) List.mem_cons_self
      refine ⟨xs, e5, by rw [rl.length]; exact hl, M4, acc ++ [y], hj4, ?_⟩
      have hmw : Mv ((Dl, O.lst acc) :: M4) H5 ((Dl, O.lst acc) :: M4) (upd H5 Dl (.lst (xs ++ [v5]))) := ⟨fun b w e n _ => by
        rw [upd_ne (fun z => n (by rw [z]; exact List.mem_cons_self))]; exact e, fun _ h => .inl h⟩
      obtain ⟨a6, m6⟩ := a5.write gs (i := 0) (o' := .lst (acc ++ [y])) rfl (u := .lst (xs ++ [v5])) (fun _ z => by cases z) ⟨_, upd_same, (hmw.rpl a5 rl).app (.cons (hmw.rp a5 r5) .nil)⟩
      exact ⟨a6, (((hm.trans hm3).trans m4).trans m5).trans m6⟩
  · rintro H' ⟨M', acc, hj, ha, hm⟩
    obtain ⟨a3, m3, r3⟩ := ha.drop
    exact q M' _ _ H' (he M' acc hj) a3 ((m1.trans hm).trans m3) r3
theorem Ct.blk (cx : Ct X G W k) {Y : Cx} (h : Blk X scope Y) : Ct Y G (fun _ _ _ _ => False) k := by
  obtain ⟨s, H, C, cl, fp, rfl⟩ := h
  exact ⟨cx.gs, takes0N, cx.hr, PassesOwn.never, cx.hc, cx.nd⟩
/-- the reading of a comprehension's parts -/
theorem tiv_lc (cx : Ct X G W k) {wi : TI} {vs : List Nat} {J : Nat → Ms → List D → Prop}
    (h : TIv G X.K W wi M ρ xr fun M1 l => J 0 M1 [] ∧ (∀ n z, l[n]? = some z → TurnC X G k scope as ifs elt (wipeD ρ vs) J n z) ∧ ∀ M' acc, J l.length M' acc → R M' (.lst acc)) (mono : ∀ d ρ (k k' : Rh → Prop), (∀ r, k r → k' r) → as d ρ k → as d ρ k') :
    TIv G X.K W wi M ρ xr fun M1 l => J 0 M1 [] ∧ (∀ n z, l[n]? = some z → ∀ q M' acc, J n M' acc → as z (wipeD ρ vs) fun ρ' => TTv G X.K (fun _ _ _ _ => False) (fun σ H Q => ∀ Y, Blk X scope Y → ifsT Y ifs σ H Q) ((q, .lst acc) :: M') ρ' (fun _ _ => False) fun M2 b =>
      if b = true then TEv G X.K (fun _ _ _ _ => False) (fun σ H Q => ∀ Y, Blk X scope Y → eT Y elt σ H Q) M2 ρ' (fun _ _ => False) fun M3 y => ∃ M4, M3 = (q, .lst acc) :: M4 ∧ acc.length < sizeLine ∧ J (n + 1) M4 (acc ++ [y]) else ∃ M4, M2 = (q, .lst acc) :: M4 ∧ J (n + 1) M4 acc) ∧ ∀ M' acc, J l.length M' acc → R M' (.lst acc) := by
  intro σ H a0 b0 x Q q
  refine h σ H a0 b0 x _ fun M1 l H1 Jt h1 a1 m1 wd => q M1 l H1 Jt ?_ a1 m1 wd
  obtain ⟨j0, ht, he⟩ := h1
  refine ⟨j0, fun n z hz q0 M' acc hj => mono _ _ _ _ (fun ρ' hr => ?_) (ht n z hz q0 M' acc hj), he⟩
  intro σ2 H2 a2 b2 x2 Q2 q2 Y hY
  have hK : Y.K = X.K := by obtain ⟨s, H, C, cl, fp, rfl⟩ := hY; rfl
  have h3 := wts_run (hr Y hY (cx.blk hY))
  rw [hK] at h3
  refine h3 σ2 H2 a2 b2 x2 Q2 fun M3 b H3 hb a3 m3 => q2 M3 b H3 ?_ a3 m3
  cases b with
  | false => exact hb
  | true =>
    intro σ4 H4 a4 b4 x4 Q4 q4 Y' hY'
    have hK' : Y'.K = X.K := by obtain ⟨s, H, C, cl, fp, rfl⟩ := hY'; rfl
    have h5 := (show ∀ Y', Blk X scope Y' → Ct Y' G (fun _ _ _ _ => False) k → WE Y' G (fun _ _ _ _ => False) elt M3 ρ' (fun _ _ => False) _ from hb) Y' hY' (cx.blk hY')
    replace h5 := h5.run
    rw [hK'] at h5
    exact h5 σ4 H4 a4 b4 x4 Q4 q4
/-- [elt for tg in it if ..] -/
theorem we_lc (cx : Ct X G W k) (hN : X.N.Nodup) (own : List (Str × Nat)) (J : Nat → Ms → List D → Prop) (gok : GOk G X.K g as) (gw : GWipe g (own.map (·.2))) (mono : ∀ d ρ (k k' : Rh → Prop), (∀ r, k r → k' r) → as d ρ k → as d ρ k')
    (hg : ∀ (s : Shared) (H : Hp) (C : Addr) (cl : List (Str × Addr)) (fp : List Addr), PG (X.blk s H scope (compEnvC scope cl C X.env) fp) tg g) (ok : BlkOk X.N X.env.scope scope own)
    (h : WI X G W tg it M ρ xr fun M1 l => J 0 M1 [] ∧ (∀ n z, l[n]? = some z → TurnC X G k scope as ifs elt (wipeD ρ (own.map (·.2))) J n z) ∧ ∀ M' acc, J l.length M' acc → R M' (.lst acc))
    (hs : ∀ x, foldedSetIterable it X.env x = pure x := by intro _; rfl) : WE X G W (.ListComp elt [⟨tg, it, ifs, 0⟩] scope pos) M ρ xr R := by
  obtain ⟨wi, hi, h⟩ := h
  exact we_of (pe_lc (own := own) (tt := fun σ H Q => ∀ Y, Blk X scope Y → ifsT Y ifs σ H Q) (te := fun σ H Q => ∀ Y, Blk X scope Y → eT Y elt σ H Q) cx.hc hN hi ok hg
    (fun s H C cl fp => ⟨fun pins s' σ H' Q I h => pts_wp.run pins s' σ H' Q I (h _ ⟨s, H, C, cl, fp, rfl⟩)⟩) (fun s H C cl fp => ⟨fun pins s' σ H' Q I h => pe_wp.run pins s' σ H' Q I (h _ ⟨s, H, C, cl, fp, rfl⟩)⟩) hs) (tev_lc cx.gs gok gw J (tiv_lc cx h mono))
/-- y = [elt for tg in it if ..] -/
theorem ws_setLc (i : Nat) {y : Str} {py spos : Pos} (cx : Ct X G W k) (hN : X.N.Nodup) (own : List (Str × Nat)) (J : Nat → Ms → List D → Prop) (gok : GOk G X.K g as) (gw : GWipe g (own.map (·.2))) (mono : ∀ d ρ (k k' : Rh → Prop), (∀ r, k r → k' r) → as d ρ k → as d ρ k')
    (hg : ∀ (s : Shared) (H : Hp) (C : Addr) (cl : List (Str × Addr)) (fp : List Addr), PG (X.blk s H scope (compEnvC scope cl C X.env) fp) tg g) (ok : BlkOk X.N X.env.scope scope own) (hsw : swapsWith (.ListComp elt [⟨tg, it, ifs, 0⟩] scope pos) (some (.Name y py)) spos.line X.env = pure true)
    (h : WI X G W tg it M ρ N.xr fun M1 l => J 0 M1 [] ∧ (∀ n z, l[n]? = some z → TurnC X G k scope as ifs elt (wipeD ρ (own.map (·.2))) J n z) ∧ ∀ M' acc, J l.length M' acc → N.nx M' (ρ.set i (some (.lst acc))))
    (hy : X.N[i]? = some y := by rfl) (hyl : X.env.scope.names.lookup y = some .local := by rfl) (hs : ∀ x, foldedSetIterable it X.env x = pure x := by intro _; rfl) : WS X G W (.Assign [.Name y py] (.ListComp elt [⟨tg, it, ifs, 0⟩] scope pos) spos) M ρ N := by
  obtain ⟨wi, hi, h⟩ := h
  refine ws_of (ps_setLc (own := own) (tt := fun σ H Q => ∀ Y, Blk X scope Y → ifsT Y ifs σ H Q) (te := fun σ H Q => ∀ Y, Blk X scope Y → eT Y elt σ H Q) cx.hc hN hy hyl hsw hi ok hg
    (fun s H C cl fp => ⟨fun pins s' σ H' Q I h => pts_wp.run pins s' σ H' Q I (h _ ⟨s, H, C, cl, fp, rfl⟩)⟩) (fun s H C cl fp => ⟨fun pins s' σ H' Q I h => pe_wp.run pins s' σ H' Q I (h _ ⟨s, H, C, cl, fp, rfl⟩)⟩) hs) fun σ H a0 b0 Dn x n r bk ct => ?_
  exact tev_lc (R := fun M' d => N.nx M' (ρ.set i (some d))) cx.gs gok gw J (tiv_lc (R := fun M' d => N.nx M' (ρ.set i (some d))) cx h mono) σ H a0 b0 (xok_of x) _ fun M' d v H' hk a' m' r' => n M' _ _ H' hk a' ((m'.sl a0 b0).set i r') m'
end
/-! ### raise -/
theorem ws_raise {t : L2.St → Hp → XK → Prop} {cls : Value} (cx : Ct X G W k) (he : L2N.PMk X e t) (ht : ∀ σ H (Q : XK), Q cls none H → t σ H Q) (h : N.xr cls M) : WS X G W (.Raise (some e) none pos) M ρ N :=
  ws_of (L2N.ps_raise cx.hc cx.tk he) fun σ H a0 b0 Dn x n r bk ct => ht σ H _ (x M H cls σ h a0 (Mv.refl _ _))
/-! ### a def's body -/
end
def startD (N : List Str) (ds : List D) : Rh := ds.map some ++ List.replicate (N.length - ds.length) none
theorem sl_start {K : PySem.W.Frag} {Y : List Addr} {H : Hp} {N : List Str} {vs : List V} {ds : List D} (r : RpL K Y H vs ds) : Sl K Y H (L2.start N vs) (startD N ds) := by
  unfold L2.start startD
  refine ⟨by simp [r.length], fun i d e => ?_⟩
  by_cases h : i < ds.length
  · rw [List.getElem?_append_left (by simpa using h)] at e
    rw [List.getElem?_append_left (by simpa [r.length] using h)]
    · rw [List.getElem?_map] at e
      cases z : ds[i]? with
      | none => rw [z] at e; cases e
      | some d' =>
        rw [z] at e
        cases e
        obtain ⟨v, e1, e2⟩ := r.get z
        exact ⟨v, by rw [List.getElem?_map, e1]; rfl, e2⟩
  · rw [List.getElem?_append_right (by simp; omega)] at e
    rw [List.getElem?_replicate] at e
    split at e <;> cases e
section
variable {P : Program} {w : World} {K : PySem.W.Frag} {mg : Str → Option Value} {base : Heap} {G : Hp → Prop}
/-- THE RULE of a def -/
theorem gf_of {x qual : Str} {st : Stmt} {f : Addr} {fd : FuncData} {N ps : List Str} {k : Nat} {S : SpD} {dd : List V} {dv : List Value} (F : Fun K x qual st f fd) (Sc : FnScope N ps (defScope st)) (gs : Gst G) (bd : Binds K fd ps dv) (dr : Vals dd dv)
    (len : ∀ ds M xr R, S ds M xr R → ds.length = ps.length)
    (hbody : ∀ (X : Cx) (W : WX) (M : Ms) (ds : List D) (xr : Value → Ms → Prop) (R : Ms → D → Prop), (∃ cdv A outer s H E, X = cxOf (L2N.CX P w) P w K mg base N qual (defScope st) f cdv A outer s H E) → Ct X G W k → S ds M xr R →
      WSs X G W (defBody st) M (startD N ds) { nx := fun M' _ => R M' N0, rt := R, bk := fun _ _ => False, ct := fun _ _ => False, xr := xr }) : Gf P w K mg base G (k + 1) f dd S := by
  refine ⟨⟨fd, ps, dv, okXN F Sc (fun vs H Q E h => ?_) (fun cdv A outer s H vs Q E hr h => ?_), bd, dr⟩, F.kp⟩
  · obtain ⟨M, ds, xr, R, _, r, hs, _⟩ := h
    rw [r.length]; exact len _ _ _ _ hs
  · obtain ⟨M, ds, xr, R, a, r, hs, q, e⟩ := h
    refine ⟨_, pss_wp, ?_⟩
    refine hbody _ (fun cls d _ H => E cls d H) M ds xr R ⟨cdv, A, outer, s, H, E, rfl⟩ ⟨gs, L2N.takes_of rfl rfl rfl rfl, hr, passes_of rfl, rfl, Sc.nd⟩ hs _ H a (sl_start r) _ (fun M' H' cls σ' hx ha hm => e cls M' H' hx ha hm)
      (fun M' ρ' σ' H' hk ha hb hm => q M' _ _ H' hk ha hm (.raw _)) (fun M' d v H' hk ha hm hr => q M' d v H' hk ha hm hr) (fun _ _ _ _ h => h.elim) (fun _ _ _ _ h => h.elim)
end
end Wv
set_option maxRecDepth 100000
set_option maxHeartbeats 2000000
namespace Wv
open PySem PySem.Spec PyProof.Rows L2
section
variable {X : Cx} {G : Hp → Prop} {W : WX} {M : Ms} {ρ : Rh} {xr : Value → Ms → Prop} {N : En} {a b c e o : Expr} {es : List Expr} {pos p apos : Pos} {R : Ms → D → Prop} {k j : Nat}
/-! ### built-ins by name -/
/-- a built-in's rule, used on data -/
theorem we_bi {x : Str} {id : String} {r : List V → Hp → VK → Prop} {RA : Ms → List D → Prop} (hc : CallR X (.builtin id) r) (hm : X.mg x = none) (hv : bootBuiltins x = some (.builtin id)) (hg : Gl X x) (h : WA X G W (e :: es) M ρ xr RA)
    (t : ∀ M1 ds vs H1 (Q : VK), RA M1 ds → AtM G X.K M1 H1 → RpL X.K (dom M1) H1 vs ds → (∀ M' d v H', R M' d → AtM G X.K M' H' → Mv M1 H1 M' H' → Rp X.K (dom M') H' v d → Q v H') → r vs H1 Q)
    (hn : x ≠ "__name__" := by decide) (hdb : (x == ("__debug__" : Str)) = false := by decide)
    (he : starEach (e :: es) X.env = (false, eval e X.env) :: starEach es X.env := by rfl) (hpl : (backTo pos (starEach es X.env)).any (·.1) = false := by rfl) : WE X G W (.Call (.Name x p) (e :: es) [] pos) M ρ xr R :=
  we_of (pe_callB hc hg hm hv pa_wp hn hdb he hpl) fun σ H a0 b0 xk Q q => h σ H a0 b0 xk _ fun M1 ds vs H1 h1 a1 m1 r1 => t M1 ds vs H1 Q h1 a1 r1 fun M' d v H' hk a' m' r' => q M' d v H' hk a' (m1.trans m') r'
theorem we_bt {x : Str} {T : String} {r : List V → Hp → VK → Prop} {RA : Ms → List D → Prop} (hc : CallR X (.type T) r) (hm : X.mg x = none) (hv : bootBuiltins x = some (.type T)) (hg : Gl X x) (h : WA X G W (e :: es) M ρ xr RA)
    (t : ∀ M1 ds vs H1 (Q : VK), RA M1 ds → AtM G X.K M1 H1 → RpL X.K (dom M1) H1 vs ds → (∀ M' d v H', R M' d → AtM G X.K M' H' → Mv M1 H1 M' H' → Rp X.K (dom M') H' v d → Q v H') → r vs H1 Q)
    (hn : x ≠ "__name__" := by decide) (hdb : (x == ("__debug__" : Str)) = false := by decide)
    (he : starEach (e :: es) X.env = (false, eval e X.env) :: starEach es X.env := by rfl) (hpl : (backTo pos (starEach es X.env)).any (·.1) = false := by rfl) : WE X G W (.Call (.Name x p) (e :: es) [] pos) M ρ xr R :=
  we_of (pe_callTy hc hg hm hv pa_wp hn hdb he hpl) fun σ H a0 b0 xk Q q => h σ H a0 b0 xk _ fun M1 ds vs H1 h1 a1 m1 r1 => t M1 ds vs H1 Q h1 a1 r1 fun M' d v H' hk a' m' r' => q M' d v H' hk a' (m1.trans m') r'
theorem RpL.one {K : PySem.W.Frag} {Y : List Addr} {H : Hp} {vs : List V} {d : D} (r : RpL K Y H vs [d]) : ∃ v, vs = [v] ∧ Rp K Y H v d := by
  cases r with | cons a b => cases b; exact ⟨_, rfl, a⟩
theorem RpL.two {K : PySem.W.Frag} {Y : List Addr} {H : Hp} {vs : List V} {d d' : D} (r : RpL K Y H vs [d, d']) : ∃ v v', vs = [v, v'] ∧ Rp K Y H v d ∧ Rp K Y H v' d' := by
  cases r with | cons a b => cases b with | cons b c => cases c; exact ⟨_, _, rfl, a, b⟩
inductive LenD (M : Ms) : D → (Int → Prop) → Prop
  | str {z : Str} {k : Int → Prop} (l : z.length ≤ sizeLine) (h : k z.length) : LenD M (Z z) k
  | tup {l : List D} {k : Int → Prop} (h : k l.length) : LenD M (.tup l) k
  | lst {l : List D} {k : Int → Prop} (h : k l.length) : LenD M (.lst l) k
  | own {q : Addr} {l : List D} {k : Int → Prop} (j : Nat) (o : M[j]? = some (q, .lst l)) (h : k l.length) : LenD M (Rf q) k
theorem we_len (hm : X.mg "len" = none) (hg : Gl X "len") (h : WE X G W e M ρ xr fun M1 d => LenD M1 d fun n => R M1 (I n)) (he : starEach [e] X.env = (false, eval e X.env) :: starEach [] X.env := by rfl) :
    WE X G W (.Call (.Name "len" p) [e] [] pos) M ρ xr R :=
  we_bi (he := he) (RA := fun M1 ds => ∃ d, ds = [d] ∧ LenD M1 d fun n => R M1 (I n)) (call_len_seq.or call_len_str) hm PySem.boot_len hg (wa_cons (he) (h := by
    exact ⟨fun σ H a0 b0 x Q q => h σ H a0 b0 x Q fun M1 d v H1 hd a1 m1 r1 => q M1 d v H1 (wa_nil ⟨d, rfl, hd⟩) a1 m1 r1⟩)) fun M1 ds vs H1 Q ⟨d, hds, hd⟩ a1 r1 q => by
  subst hds
  obtain ⟨v, rfl, rv⟩ := r1.one
  cases hd with
  | str l h => rw [rv.raw_inv]; exact .inr ⟨_, rfl, l, q M1 _ _ H1 h a1 (Mv.refl _ _) (.raw _)⟩
  | tup h =>
    obtain ⟨p1, xs, rfl, s1, l1⟩ := rv.tup_inv
    exact .inl ⟨p1, xs, rfl, .inr s1, by rw [l1.length]; exact q M1 _ _ H1 h a1 (Mv.refl _ _) (.raw _)⟩
  | lst h =>
    obtain ⟨p1, xs, rfl, s1, _, l1⟩ := rv.lst_inv
    exact .inl ⟨p1, xs, rfl, .inl (SqL.of s1), by rw [l1.length]; exact q M1 _ _ H1 h a1 (Mv.refl _ _) (.raw _)⟩
  | own j o h =>
    obtain ⟨xs, s1, l1⟩ := at_ob a1 o
    rw [rv.raw_inv]
    exact .inl ⟨_, xs, rfl, .inl (SqL.of s1), by rw [l1.length]; exact q M1 _ _ H1 h a1 (Mv.refl _ _) (.raw _)⟩
/-- one argument -/
theorem wa_one {RA : Ms → List D → Prop} (h : WE X G W e M ρ xr fun M1 d => RA M1 [d]) (he : starEach [e] X.env = (false, eval e X.env) :: starEach [] X.env := by rfl) : WA X G W [e] M ρ xr RA :=
  wa_cons (he) (h := ⟨fun σ H a0 b0 x Q q => h σ H a0 b0 x Q fun M1 d v H1 hd a1 m1 r1 => q M1 d v H1 (wa_nil hd) a1 m1 r1⟩)
theorem we_int1 (hm : X.mg "int" = none) (hg : Gl X "int") (h : WE X G W e M ρ xr fun M1 d => (∃ i : Int, d = I i ∧ R M1 (I i)) ∨ ∃ b : Bool, d = B b ∧ R M1 (I (if b then 1 else 0))) (he : starEach [e] X.env = (false, eval e X.env) :: starEach [] X.env := by rfl) :
    WE X G W (.Call (.Name "int" p) [e] [] pos) M ρ xr R :=
  we_bt (he := he) (RA := fun M1 ds => ∃ d, ds = [d] ∧ ((∃ i : Int, d = I i ∧ R M1 (I i)) ∨ ∃ b : Bool, d = B b ∧ R M1 (I (if b then 1 else 0)))) call_int1 hm (by decide +kernel) hg (wa_one (h := ⟨fun σ H a0 b0 x Q q => h σ H a0 b0 x Q fun M1 d v H1 hd a1 m1 r1 => q M1 d v H1 ⟨d, rfl, hd⟩ a1 m1 r1⟩) he) fun M1 ds vs H1 Q ⟨d, hds, hd⟩ a1 r1 q => by
  subst hds
  obtain ⟨v, rfl, rv⟩ := r1.one
  rcases hd with ⟨i, rfl, h⟩ | ⟨b, rfl, h⟩
  · rw [rv.raw_inv]; exact .inl ⟨i, rfl, q M1 _ _ H1 h a1 (Mv.refl _ _) (.raw _)⟩
  · rw [rv.raw_inv]; exact .inr ⟨b, rfl, q M1 _ _ H1 h a1 (Mv.refl _ _) (.raw _)⟩
theorem we_abs (hm : X.mg "abs" = none) (hg : Gl X "abs") (h : WE X G W e M ρ xr fun M1 d => IsI d fun i => R M1 (I (if i < 0 then -i else i))) (he : starEach [e] X.env = (false, eval e X.env) :: starEach [] X.env := by rfl) :
    WE X G W (.Call (.Name "abs" p) [e] [] pos) M ρ xr R :=
  we_bi (he := he) (RA := fun M1 ds => ∃ i : Int, ds = [I i] ∧ R M1 (I (if i < 0 then -i else i))) call_abs hm (by decide +kernel) hg (wa_one (h := ⟨fun σ H a0 b0 x Q q => h σ H a0 b0 x Q fun M1 d v H1 hd a1 m1 r1 => q M1 d v H1 (by cases hd with | mk h => exact ⟨_, rfl, h⟩) a1 m1 r1⟩) he) fun M1 ds vs H1 Q ⟨i, hds, hd⟩ a1 r1 q => by
  subst hds
  obtain ⟨v, rfl, rv⟩ := r1.one
  rw [rv.raw_inv]; exact ⟨i, rfl, q M1 _ _ H1 hd a1 (Mv.refl _ _) (.raw _)⟩
/-- tuple(x) -/
inductive SeqD (M : Ms) : D → (List D → Prop) → Prop
  | tup {l : List D} {k : List D → Prop} (h : k l) : SeqD M (.tup l) k
  | lst {l : List D} {k : List D → Prop} (h : k l) : SeqD M (.lst l) k
  | own {q : Addr} {l : List D} {k : List D → Prop} (j : Nat) (o : M[j]? = some (q, .lst l)) (h : k l) : SeqD M (Rf q) k
theorem we_tuple (gs : Gst G) (hm : X.mg "tuple" = none) (hg : Gl X "tuple") (h : WE X G W e M ρ xr fun M1 d => SeqD M1 d fun l => R M1 (.tup l)) (he : starEach [e] X.env = (false, eval e X.env) :: starEach [] X.env := by rfl) :
    WE X G W (.Call (.Name "tuple" p) [e] [] pos) M ρ xr R :=
  we_bt (he := he) (RA := fun M1 ds => ∃ d, ds = [d] ∧ SeqD M1 d fun l => R M1 (.tup l)) call_tuple_of hm (by decide +kernel) hg (wa_one (h := ⟨fun σ H a0 b0 x Q q => h σ H a0 b0 x Q fun M1 d v H1 hd a1 m1 r1 => q M1 d v H1 ⟨d, rfl, hd⟩ a1 m1 r1⟩) he) fun M1 ds vs H1 Q ⟨d, hds, hd⟩ a1 r1 q => by
  subst hds
  obtain ⟨v, rfl, rv⟩ := r1.one
  cases hd with
  | tup h =>
    obtain ⟨p1, xs, rfl, s1, l1⟩ := rv.tup_inv
    exact ⟨p1, xs, rfl, .inr ⟨s1, q M1 _ _ H1 h a1 (Mv.refl _ _) rv⟩⟩
  | lst h =>
    obtain ⟨p1, xs, rfl, s1, _, l1⟩ := rv.lst_inv
    exact ⟨p1, xs, rfl, .inl ⟨SqL.of s1, fun l hl => new_tup gs a1 hl l1 h q⟩⟩
  | own j o h =>
    obtain ⟨xs, s1, l1⟩ := at_ob a1 o
    rw [rv.raw_inv]
    exact ⟨_, xs, rfl, .inl ⟨SqL.of s1, fun l hl => new_tup gs a1 hl l1 h q⟩⟩
/-- list(x): data, or ours -/
theorem we_list (gs : Gst G) (hm : X.mg "list" = none) (hg : Gl X "list") (h : WE X G W e M ρ xr fun M1 d => SeqD M1 d fun l => R M1 (.lst l)) (he : starEach [e] X.env = (false, eval e X.env) :: starEach [] X.env := by rfl) :
    WE X G W (.Call (.Name "list" p) [e] [] pos) M ρ xr R :=
  we_bt (he := he) (RA := fun M1 ds => ∃ d, ds = [d] ∧ SeqD M1 d fun l => R M1 (.lst l)) call_list_of hm (by decide +kernel) hg (wa_one (h := ⟨fun σ H a0 b0 x Q q => h σ H a0 b0 x Q fun M1 d v H1 hd a1 m1 r1 => q M1 d v H1 ⟨d, rfl, hd⟩ a1 m1 r1⟩) he) fun M1 ds vs H1 Q ⟨d, hds, hd⟩ a1 r1 q => by
  subst hds
  obtain ⟨v, rfl, rv⟩ := r1.one
  cases hd with
  | tup h =>
    obtain ⟨p1, xs, rfl, s1, l1⟩ := rv.tup_inv
    exact ⟨p1, xs, rfl, .inr s1, fun l hl => new_lst gs a1 hl l1 h q⟩
  | lst h =>
    obtain ⟨p1, xs, rfl, s1, _, l1⟩ := rv.lst_inv
    exact ⟨p1, xs, rfl, .inl (SqL.of s1), fun l hl => new_lst gs a1 hl l1 h q⟩
  | own j o h =>
    obtain ⟨xs, s1, l1⟩ := at_ob a1 o
    rw [rv.raw_inv]
    exact ⟨_, xs, rfl, .inl (SqL.of s1), fun l hl => new_lst gs a1 hl l1 h q⟩
theorem we_listO (gs : Gst G) (hm : X.mg "list" = none) (hg : Gl X "list") (h : WE X G W e M ρ xr fun M1 d => SeqD M1 d fun l => ∀ q, R ((q, .lst l) :: M1) (Rf q)) (he : starEach [e] X.env = (false, eval e X.env) :: starEach [] X.env := by rfl) :
    WE X G W (.Call (.Name "list" p) [e] [] pos) M ρ xr R :=
  we_bt (he := he) (RA := fun M1 ds => ∃ d, ds = [d] ∧ SeqD M1 d fun l => ∀ q, R ((q, .lst l) :: M1) (Rf q)) call_list_of hm (by decide +kernel) hg (wa_one (h := ⟨fun σ H a0 b0 x Q q => h σ H a0 b0 x Q fun M1 d v H1 hd a1 m1 r1 => q M1 d v H1 ⟨d, rfl, hd⟩ a1 m1 r1⟩) he) fun M1 ds vs H1 Q ⟨d, hds, hd⟩ a1 r1 q => by
  subst hds
  obtain ⟨v, rfl, rv⟩ := r1.one
  cases hd with
  | tup h =>
    obtain ⟨p1, xs, rfl, s1, l1⟩ := rv.tup_inv
    exact ⟨p1, xs, rfl, .inr s1, fun l hl => by obtain ⟨a2, m2⟩ := own_lst gs a1 hl l1; exact q _ _ _ _ (h l) a2 m2 (.raw _)⟩
  | lst h =>
    obtain ⟨p1, xs, rfl, s1, _, l1⟩ := rv.lst_inv
    exact ⟨p1, xs, rfl, .inl (SqL.of s1), fun l hl => by obtain ⟨a2, m2⟩ := own_lst gs a1 hl l1; exact q _ _ _ _ (h l) a2 m2 (.raw _)⟩
  | own j o h =>
    obtain ⟨xs, s1, l1⟩ := at_ob a1 o
    rw [rv.raw_inv]
    exact ⟨_, xs, rfl, .inl (SqL.of s1), fun l hl => by obtain ⟨a2, m2⟩ := own_lst gs a1 hl l1; exact q _ _ _ _ (h l) a2 m2 (.raw _)⟩
/-! ### methods of built-in types -/
/-- xs.append(e), xs a list of ours -/
theorem we_append (gs : Gst G) (h : WE X G W o M ρ xr fun M1 d => OwL M1 d fun _ q _ => WE X G W e M1 ρ xr fun M2 z => OwL M2 (Rf q) fun i _ l => l.length < sizeLine ∧ R (M2.set i (q, .lst (l ++ [z]))) N0)
    (hb : PE X (.Call (.Attribute o "append" apos) [e] [] pos) (tBM X.K "list" rAppend (eT X o) (aT X [e]))) (he : starEach [e] X.env = (false, eval e X.env) :: starEach [] X.env := by rfl) : WE X G W (.Call (.Attribute o "append" apos) [e] [] pos) M ρ xr R :=
  we_of hb fun σ H a0 b0 x Q q => h σ H a0 b0 x _ fun M1 d v H1 h1 a1 m1 r1 => by
  cases h1 with
  | mk i0 hi0 h1 =>
  rename_i q0 l0
  obtain ⟨xs0, s0, _⟩ := at_ob a1 hi0
  obtain rfl := r1.raw_inv
  refine ⟨.inl ⟨rfl, xs0, SqL.of s0⟩, ?_⟩
  refine wa_one (RA := fun M2 ds => ∃ z, ds = [z] ∧ OwL M2 (Rf q0) fun i _ l => l.length < sizeLine ∧ R (M2.set i (q0, .lst (l ++ [z]))) N0) (⟨fun σ H a0 b0 x Q q => h1 σ H a0 b0 x Q fun M1 d v H1 hd a1 m1 r1 => q M1 d v H1 ⟨d, rfl, hd⟩ a1 m1 r1⟩) he σ H1 a1 (m1.sl a0 b0) (x.mv m1) _ fun M2 ds vs H2 h2 a2 m2 r2 => ?_
  obtain ⟨z, rfl, h2⟩ := h2
  cases h2 with
  | mk i hi h2 =>
  rename_i l
  obtain ⟨hl, hk⟩ := h2
  obtain ⟨u, rfl, ru⟩ := r2.one
  obtain ⟨xs, s1, l1⟩ := at_ob a2 hi
  refine ⟨q0, xs, u, rfl, rfl, s1, by rw [l1.length]; exact hl, ?_⟩
  have hm : Mv M2 H2 M2 (upd H2 q0 (.lst (xs ++ [u]))) := ⟨fun b w e n _ => by
      rw [upd_ne (fun z => n (by rw [z]; exact mem_at hi))]; exact e, fun _ h => .inl h⟩
  obtain ⟨a3, m3⟩ := a2.write gs (o' := .lst (l ++ [z])) hi (u := .lst (xs ++ [u])) (fun _ z => by cases z) ⟨_, upd_same, (hm.rpl a2 l1).app (.cons (hm.rp a2 ru) .nil)⟩
  exact q _ _ _ _ hk a3 ((m1.trans m2).trans m3) (.raw _)
/-- s.find(t), s.index(t) of a text that is there -/
theorem we_find (h : WE X G W o M ρ xr fun M1 d => IsZ d fun z => WE X G W e M1 ρ xr fun M2 d' => IsZ d' fun y => R M2 (I (Txt.find z y)))
    (he : starEach [e] X.env = [(false, eval e X.env)] := by rfl) (hb : attributeBase o "find" X.env (eval o X.env) = eval o X.env := by rfl) (hl : (apos.endLine == pos.line) = true := by rfl) : WE X G W (.Call (.Attribute o "find" apos) [e] [] pos) M ρ xr R :=
  we_of (pe_m1 F.slot_str_find F.type_str_find mt_find pe_wp pe_wp he hb hl) fun σ H a0 b0 x Q q => h σ H a0 b0 x _ fun M1 d v H1 h1 a1 m1 r1 => by
  cases h1 with
  | mk h1 =>
  rename_i z
  obtain rfl := r1.raw_inv
  refine ⟨⟨z, rfl⟩, h1 σ H1 a1 (m1.sl a0 b0) (x.mv m1) _ fun M2 d' v' H2 h2 a2 m2 r2 => ?_⟩
  cases h2 with
  | mk h2 =>
  rename_i y
  obtain rfl := r2.raw_inv
  exact ⟨z, y, rfl, rfl, q M2 _ _ H2 h2 a2 (m1.trans m2) (.raw _)⟩
/-- sep.join(xs) of texts -/
theorem we_join (h : WE X G W o M ρ xr fun M1 d => IsZ d fun z => WE X G W e M1 ρ xr fun M2 d' => ∃ ys : List Str, (d' = .lst (ys.map Z) ∨ d' = .tup (ys.map Z)) ∧ (ys.map (·.length)).sum + ys.length * z.length ≤ 16777216 ∧ R M2 (Z (Txt.join z ys)))
    (he : starEach [e] X.env = [(false, eval e X.env)] := by rfl) (hb : attributeBase o "join" X.env (eval o X.env) = eval o X.env := by rfl) (hl : (apos.endLine == pos.line) = true := by rfl) : WE X G W (.Call (.Attribute o "join" apos) [e] [] pos) M ρ xr R :=
  we_of (pe_join pe_wp pe_wp he hb hl) fun σ H a0 b0 x Q q => h σ H a0 b0 x _ fun M1 d v H1 h1 a1 m1 r1 => by
  cases h1 with
  | mk h1 =>
  rename_i z
  obtain rfl := r1.raw_inv
  refine ⟨⟨z, rfl⟩, h1 σ H1 a1 (m1.sl a0 b0) (x.mv m1) _ fun M2 d' v' H2 h2 a2 m2 r2 => ?_⟩
  obtain ⟨ys, hd, hs, h2⟩ := h2
  have e : ys.map Z = (ys.map V.str).map D.raw := by rw [List.map_map]; rfl
  rcases hd with rfl | rfl
  · obtain ⟨p1, xs, rfl, s1, _, l1⟩ := r2.lst_inv
    rw [e] at l1
    rw [l1.raws] at s1
    exact ⟨z, p1, ys, rfl, rfl, .inl (SqL.of s1), hs, q M2 _ _ H2 h2 a2 (m1.trans m2) (.raw _)⟩
  · obtain ⟨p1, xs, rfl, s1, l1⟩ := r2.tup_inv
    rw [e] at l1
    rw [l1.raws] at s1
    exact ⟨z, p1, ys, rfl, rfl, .inr s1, hs, q M2 _ _ H2 h2 a2 (m1.trans m2) (.raw _)⟩
end
end Wv
set_option maxRecDepth 100000
set_option maxHeartbeats 2000000
namespace Wv
open PySem PySem.Spec PyProof.Rows L2
/-- an own error class under ValueError -/
structure ExcC (K : PySem.W.Frag) (mg : Str → Option Value) (x : Str) (C : Addr) : Prop where
  g : mg x = some (.ref C)
  kp : PySem.W.keepIn K (.ref C) = true
  ex : PySem.W.excIn K C [.type "ValueError", .type "Exception", .type "BaseException", .type "object"] "ValueError.__new__" = true
  sub : PySem.W.subIn K (.ref C) (.type "BaseException") = some true
  ty : PySem.W.typeIn K (.ref C) = some (.type "type")
section
variable {X : Cx} {G : Hp → Prop} {W : WX} {M : Ms} {ρ : Rh} {xr : Value → Ms → Prop} {N : En} {a b c e o : Expr} {es : List Expr} {pos p apos : Pos} {R : Ms → D → Prop} {k j : Nat}
/-- what is ours no longer -/
theorem AtM.sub {K : PySem.W.Frag} {M0 : Ms} {H : Hp} (a : AtM G K M H) (s : List.Sublist M0 M) : AtM G K M0 H ∧ Mv M H M0 H := by
  have hd : ∀ b ∈ dom M0, b ∈ dom M := fun b hb => (s.map (·.1)).subset hb
  have m : Mv M H M0 H := ⟨fun _ _ h _ _ => h, fun b hb => .inl (hd b hb)⟩
  exact ⟨⟨a.g, a.nd.sublist (s.map (·.1)), fun p hp => m.oat a (a.ob p (s.subset hp)) fun u h => h⟩, m⟩
theorem we_sub (h : WE X G W e M ρ xr fun M1 d => ∃ M0, List.Sublist M0 M1 ∧ R M0 d) : WE X G W e M ρ xr R := ⟨fun σ H a0 b0 x Q q => h σ H a0 b0 x Q fun M1 d v H1 h1 a1 m1 r1 => by
  obtain ⟨M0, s, hk⟩ := h1
  obtain ⟨a2, m2⟩ := a1.sub s
  exact q M0 d v H1 hk a2 (m1.trans m2) (m2.rp a1 r1)⟩
theorem ws_retS (h : WE X G W e M ρ N.xr fun M1 d => ∃ M0, List.Sublist M0 M1 ∧ N.rt M0 d) : WS X G W (.Return (some e) pos) M ρ N := ws_ret (we_sub h)
theorem ws_raiseC {x m : Str} {C : Addr} {j : Nat} {p p2 q : Pos} (cx : Ct X G W k) (E : ExcC X.K X.mg x C) (hg : Gl X x) (h : ∃ M0, List.Sublist M0 M ∧ N.xr (.ref C) M0) (hdb : (x == ("__debug__" : Str)) = false := by decide) : WS X G W (.Raise (some (.Call (.Name x p) [.Constant (.str m) j p2] [] pos)) none q) M ρ N :=
  ws_of (L2N.ps_raise cx.hc cx.tk (L2N.pmk_own PySem.F.excBase_ValueError E.ex E.g E.kp (raises_own E.sub E.ty) hg hdb)) fun σ H a0 b0 Dn x n r bk ct => by
  obtain ⟨M0, s, hk⟩ := h
  obtain ⟨a2, m2⟩ := a0.sub s
  exact x M0 H (.ref C) σ hk a2 m2
end
section
variable {X : Cx} {G : Hp → Prop} {W : WX} {M : Ms} {ρ : Rh} {xr : Value → Ms → Prop} {N : En} {e : Expr} {es : List Expr} {R : Ms → D → Prop}
theorem gNm {x : Str} {pos : Pos} (h : WE X G W (.Name x pos) M ρ xr R) : WE X G W (.Name x pos) M ρ xr R := h
theorem gConst {c : Const} {j : Nat} {pos : Pos} (h : WE X G W (.Constant c j pos) M ρ xr R) : WE X G W (.Constant c j pos) M ρ xr R := h
theorem gCall {f : Expr} {es : List Expr} {kw : List Keyword} {pos : Pos} (h : WE X G W (.Call f es kw pos) M ρ xr R) : WE X G W (.Call f es kw pos) M ρ xr R := h
theorem gWE (h : WE X G W e M ρ xr R) : WE X G W e M ρ xr R := h
theorem gWT {R : Ms → Bool → Prop} (h : WT X G W e M ρ xr R) : WT X G W e M ρ xr R := h
theorem gWW {R : Ms → Bool → Prop} (h : WW X G W e M ρ xr R) : WW X G W e M ρ xr R := h
theorem gWA {R : Ms → List D → Prop} (h : WA X G W es M ρ xr R) : WA X G W es M ρ xr R := h
theorem gWS {s : Stmt} (h : WS X G W s M ρ N) : WS X G W s M ρ N := h
theorem gWSs {s : List Stmt} (h : WSs X G W s M ρ N) : WSs X G W s M ρ N := h
theorem gBinD {op : Operator} {d e : D} {k : D → Prop} (h : BinD op d e k) : BinD op d e k := h
theorem gCmpD {op : CmpOp} {d e : D} {k : Bool → Prop} (h : CmpD op d e k) : CmpD op d e k := h
end
theorem Ct.hu {X : Cx} {G : Hp → Prop} {W : WX} {k : Nat} (cx : Ct X G W k) : X.A.units + 64 < cLine := cx.hr.units
theorem ite_d {c A B : Prop} [Decidable c] (h1 : c → A) (h2 : ¬ c → B) : if decide c = true then A else B := by
  by_cases h : c
  · rw [if_pos (decide_eq_true h)]; exact h1 h
  · rw [if_neg (by rw [decide_eq_false h]; decide)]; exact h2 h
theorem ite_nd {c A B : Prop} [Decidable c] (h1 : ¬ c → A) (h2 : c → B) : if (!decide c) = true then A else B := by
  by_cases h : c
  · rw [if_neg (by rw [decide_eq_true h]; decide)]; exact h2 h
  · rw [if_pos (by rw [decide_eq_false h]; decide)]; exact h1 h
theorem ite_b {b : Bool} {A B : Prop} (h1 : b = true → A) (h2 : b = false → B) : if b = true then A else B := by
  cases b with
  | true => exact iteT (h1 rfl)
  | false => exact iteF (h2 rfl)
theorem app_own {q : Addr} {l : List D} {M : Ms} : List.Sublist M ((q, O.lst l) :: M) := List.sublist_cons_self _ _
abbrev byt (l : List Int) : D := .tup (l.map fun i => I i)
end Wv
set_option maxRecDepth 100000
set_option maxHeartbeats 2000000
namespace Wv
open PySem PySem.Spec PyProof.Rows L2
open LamX (CodeO TabS Tabs ExtN TabB lamEnv lamCx LamS among_app codeO_ne)
section
variable {G : Hp → Prop} {K : PySem.W.Frag} {M : Ms} {H H1 : Hp}
/-- the tables may have grown -/
theorem AtM.ext (a : AtM G K M H) (e : ExtN H H1) (g : G H1) : AtM G K M H1 ∧ Mv M H M H1 := by
  have m : Mv M H M H1 := ⟨fun b o h _ t => e b o h t, fun _ h => .inl h⟩
  refine ⟨⟨g, a.nd, fun p hp => m.oat a (a.ob p hp) fun u h => ?_⟩, m⟩
  refine e _ _ h fun ps z => ?_
  obtain ⟨u', h', _, _, n⟩ := (a.ob p hp).some
  rw [h] at h'; cases h'
  subst z
  exact n trivial
end
theorem gst_tabs (T : List (Addr × Str)) : Gst (Tabs T) := fun H H' t e p hp => by
  obtain ⟨ps, h1, h2, h3⟩ := t p hp
  refine ⟨ps, e _ _ h1 trivial, h2, fun pos cv hc => ?_⟩
  obtain ⟨c, e1, e2⟩ := h3 pos cv hc
  exact ⟨c, e1, e _ _ e2 trivial⟩
/-- what a def with lambdas or generator expressions has -/
structure TabX (X : Cx) (T : List (Addr × Str)) (q : Str) : Prop where
  ex : ∃ c P, TabB X.base X.mg c P ∧ X.env.code = .ref c ∧ (P, X.env.qual ++ q) ∈ T ∧ ∀ p ∈ T, p.1 = P → p.2 = X.env.qual ++ q
section
variable {X : Cx} {pins : List (Addr × Obj)} {σ : L2.St} {H : Hp} {s : Shared}
theorem inv_tableG {P c : Addr} {q : Str} {ps more : Array Value} {h' : Heap} {g' : Array GenState} {d' : Drawn} {t' : Nat} (I : Inv X pins σ H s) (hP : H P = some (.tbl ps)) (k : ∀ b o, b ≠ P → s.heap.get? b = some o → h'.get? b = some o)
    (hm : h'.get? P = some { cls := .none, data := .fields (ps ++ more) }) (hc : s.heap.objs.size ≤ c) (ho : ∃ (oc : Obj) (vs : Array Value) (t : Tok), h'.get? c = some oc ∧ oc.data = .fields vs ∧ vs[1]? = some (.str q t)) (hg : AllBare g') :
    Inv X pins σ (upd (upd H P (.tbl (ps ++ more))) c (CodeO c q)) { s with heap := h', gens := g', drawn := d', toks := t' } := by
  have nC : H c = none := I.hok.fresh hc
  have nPc : P ≠ c := ne_of_none hP nC
  have at_ : ∀ b, b ≠ P → b ≠ c → upd (upd H P (.tbl (ps ++ more))) c (CodeO c q) b = H b := fun b h1 h2 => by rw [upd_ne h2, upd_ne h1]
  have atP : upd (upd H P (.tbl (ps ++ more))) c (CodeO c q) P = some (.tbl (ps ++ more)) := by rw [upd_ne nPc, upd_same]
  have nP : ∀ b u, H b = some u → (∀ q, u ≠ .tbl q) → b ≠ P := fun b u e q z => by
    rw [z, hP] at e
    exact q ps (Option.some.inj e).symm
  have nN : ∀ b, H b = none → b ≠ P := fun b e z => by
    rw [z, hP] at e
    cases e
  have lt' : ∀ b o, s.heap.get? b = some o → b ≠ c := fun b o e z => by
    rw [z] at e
    exact Nat.lt_irrefl _ (Nat.lt_of_lt_of_le (Heap.lt_size e) hc)
  have sm : ∀ b u, H b = some u → b ≠ c := fun b u e => ne_of_none e nC
  refine I.step (g' := g') (d' := d') (ch := []) (fun b hb => absurd hb (by simp)) (fun b o _ _ _ e n => k b o (nN b n) e) (fun b o _ _ _ e n => ⟨o.slots, k b o (nN b n) e⟩)
    (fun b o _ e n => by rw [at_ b (nN b n) (lt' b o e)]; exact n) (fun b o _ e => ?_) (fun b xs e => by rw [at_ b (nP b _ e (fun q z => by cases z)) (sm b _ e)]; exact e) (fun b o u e => by rw [at_ b (nP b _ e (fun q z => by cases z)) (sm b _ e)]; exact e) (fun b qs e => ?_) (fun m hn => ?_) (fun b u e => ?_) hg
  · by_cases hb : b = P
    · rw [hb]
      exact ⟨_, hm⟩
    · exact ⟨o, k b o hb e⟩
  · by_cases hb : b = P
    · rw [hb, hP] at e
      cases e
      rw [hb, atP]
      exact ⟨more, rfl⟩
    · rw [at_ b hb (sm b _ e), e]
      exact ⟨#[], by simp⟩
  · obtain ⟨ob, es, ep, ho, r⟩ := hn
    exact ⟨ob, es, ep, k _ ob (nN _ I.free) ho, r⟩
  · by_cases hb : b = c
    · rw [hb, upd_same] at e
      cases e
      rw [hb]
      obtain ⟨oc, vs, t, e1, e2, e3⟩ := ho
      exact ⟨⟨oc, vs, t, e1, e2, e3⟩, ⟨oc, e1⟩, fun h1 h2 ⟨oc, vs, t, a, b, c⟩ st => ⟨oc, vs, t, st _ a, b, c⟩⟩
    · by_cases hb2 : b = P
      · rw [hb2, atP] at e
        cases e
        rw [hb2]
        exact hm
      · rw [at_ b hb2 hb] at e
        refine (I.hok b u e).stay (fun d v hd q => k d v ?_ q) (fun d q => by rw [at_ d (nP d _ q (fun q z => by cases z)) (sm d _ q)]; exact q) fun d xs q => by rw [at_ d (nP d _ q (fun q z => by cases z)) (sm d _ q)]; exact q
        rcases hd with z | z
        · rw [z]
          exact hb2
        · exact nP d _ z (fun q z => by cases z)
/-- a table that has grown by a code object of the right name -/
theorem tabs_grow {T : List (Addr × Str)} {P c' : Addr} {q : Str} {ps : Array Value} {pos : Pos} (hT : Tabs T H) (hP : H P = some (.tbl ps)) (ht : TriplesOk ps.toList) (ha : ∀ (pos : Pos) (cv : Value), codeAmong pos ps.toList = some cv → ∃ c, cv = .ref c ∧ H c = some (CodeO c q))
    (hu : ∀ p ∈ T, p.1 = P → p.2 = q) (nC : H c' = none) : ExtN H (upd (upd H P (.tbl (ps ++ #[rawInt pos.line, rawInt pos.col, .ref c']))) c' (CodeO c' q)) ∧ Tabs T (upd (upd H P (.tbl (ps ++ #[rawInt pos.line, rawInt pos.col, .ref c']))) c' (CodeO c' q)) := by
  have hE : ExtN H (upd (upd H P (.tbl (ps ++ #[rawInt pos.line, rawInt pos.col, .ref c']))) c' (CodeO c' q)) := fun b o e n => by
    rw [upd_ne (ne_of_none e nC), upd_ne (fun z => n ps (Option.some.inj (e.symm.trans (by rw [z]; exact hP))))]
    exact e
  have eL : (ps ++ #[rawInt pos.line, rawInt pos.col, .ref c']).toList = ps.toList ++ [rawInt pos.line, rawInt pos.col, .ref c'] := by simp
  refine ⟨hE, fun p hp => ?_⟩
  by_cases hb : p.1 = P
  · rw [hu p hp hb, hb]
    refine ⟨_, by rw [upd_ne (ne_of_none hP nC), upd_same], by rw [eL]; exact PySem.TriplesOk_snoc _ _ _ _ ht, fun p' cv hcv => ?_⟩
    rw [eL] at hcv
    rcases among_app _ ht hcv with z | z
    · obtain ⟨c0, e1, e2⟩ := ha p' cv z
      exact ⟨c0, e1, hE _ _ e2 codeO_ne⟩
    · exact ⟨c', z, upd_same⟩
  · obtain ⟨ps', a1, a2, a3⟩ := hT p hp
    refine ⟨ps', by rw [upd_ne (ne_of_none a1 nC), upd_ne hb]; exact a1, a2, fun p' cv hcv => ?_⟩
    obtain ⟨c0, e1, e2⟩ := a3 p' cv hcv
    exact ⟨c0, e1, hE _ _ e2 codeO_ne⟩
end
/-! ### any, all of a generator expression -/
/-- where an element is reckoned -/
structure QH (X : Cx) (scope : Scope) (x : Str) (v : Value) (cenv : Env) (m : Str → Option Value) (s : Shared) : Prop where
  md : Mod X.K X.mg X.base
  sc : cenv.scope = scope
  gl : cenv.globals = mainGlobals
  bl : cenv.builtins = builtinsNs
  bk : ∀ b o, X.base.get? b = some o → s.heap.get? b = some o
  ns : s.heap.Ns cenv.locals m
  at_ : m x = some v
/-- e is a value of P at the item v, and nothing changes -/
def Qe (X : Cx) (scope : Scope) (x : Str) (v : Value) (e : Expr) (P : Value → Prop) : Prop :=
  ∀ (cenv : Env) (A' : Around) (E' : Value → Shared → Prop) (s : Shared) (m : Str → Option Value), QH X scope x v cenv m s → wpAny (model X.prog X.w) A' (eval e cenv) (fun y s₃ => P y ∧ Keeps s s₃) E' s
/-- the element is the truth b at the item v -/
def EltG (X : Cx) (scope : Scope) (x : Str) (elt : Expr) (v : Value) (b : Bool) : Prop := Qe X scope x v elt fun y => y = .bool b
/-- what is iterated, its items -/
inductive SrcD : D → List V → Prop
  | tup (l : List V) : SrcD (.tup (l.map D.raw)) l
  | str (z : Str) : SrcD (Z z) (z.cps.toList.map fun c => .str ⟨#[c]⟩)
section
variable {X : Cx} {pins : List (Addr × Obj)} {σ : L2.St} {H : Hp} {s : Shared}
/-- an iterator over it -/
theorem src_iter {v : V} {d : D} {ws : List V} {M : Ms} {G : Hp → Prop} {u : Value} {Q : Value → Shared → Prop} (I : Inv X pins σ H s) (a : AtM G X.K M H) (r : Rp X.K (dom M) H v d) (hs : SrcD d ws) (rv : RelV v u)
    (hQ : ∀ (o : Obj) (kp : List Addr) (Pf : Nat → Value → Prop) (St : Nat → Heap → Prop), (∀ A' : Around, A'.handled = none → Walks X.prog X.w A' s.heap.objs.size (s.heap.objs.size :: kp) [s.heap.objs.size] ws.length Pf St) → St 0 (s.heap.push o) →
      (∀ b ∈ kp, ∃ ob, s.heap.get? b = some ob ∧ ∀ vs, ob.data ≠ .fields vs) → (∀ i y, Pf i y → ∃ w, ws[i]? = some w ∧ RelV w y) → Q (.ref s.heap.objs.size) { s with heap := s.heap.push o }) : wpAny (model X.prog X.w) X.A (pyIter u) Q X.xe s := by
  cases hs with
  | tup l =>
    obtain ⟨p1, xs, rfl, s1, l1⟩ := r.tup_inv
    rw [l1.raws] at s1
    obtain rfl : u = Value.ref p1 := rv
    obtain ⟨its, r2, ht, _⟩ := I.tuple s1
    obtain ⟨ob, hob, hcl, nn, hda⟩ := ht
    have hT : s.heap.IsTuple p1 its.toArray := ⟨ob, hob, hcl, nn, hda⟩
    have hlt : p1 < s.heap.objs.size := Heap.lt_size hob
    have hsz : its.toArray.size = ws.length := by rw [r2.length]; simp
    refine wpAny_pyIter_tuple hT (hQ _ [p1] (fun i v => its.toArray[i]? = some v) (fun i h => h.IsTupleIter s.heap.objs.size p1 i ∧ h.IsTuple p1 its.toArray) (fun A' hA => by rw [← hsz]; exact Walks.tuple hA _ _ (Nat.ne_of_lt hlt) its.toArray) (show _ ∧ _ from ⟨⟨_, Heap.get?_push_size _ rfl, rfl, rfl⟩, hT.push _⟩) (fun b hb => ?_) fun i y h => ?_)
    · rw [List.mem_singleton.mp hb]
      exact ⟨ob, hob, fun vs z => by rw [hda] at z; cases z⟩
    · have h' : its[i]? = some y := by simpa using h
      cases e : ws[i]? with
      | none => rw [r2.none_of e] at h'; cases h'
      | some w =>
        obtain ⟨y', e', rw'⟩ := r2.get e
        rw [e'] at h'; cases h'
        exact ⟨w, rfl, rw'⟩
  | str z =>
    obtain rfl := r.raw_inv
    obtain ⟨t, rfl⟩ := rv
    refine wpAny_pyIter_str fun o St W hst => hQ o [] (SignAt z) St (fun A' hA => by rw [List.length_map, Array.length_toList]; exact W A' hA) hst (fun b hb => by simp at hb) fun i y h => ?_
    obtain ⟨c, t', hc, rfl⟩ := h
    exact ⟨.str ⟨#[c]⟩, by rw [List.getElem?_map, Array.getElem?_toList, hc]; rfl, ⟨t', rfl⟩⟩
def trB (bs : List Bool) (j : Nat) : Bool := bs.getD j false
theorem any_trB (bs : List Bool) : (List.range bs.length).any (trB bs) = bs.any id := by
  rw [Bool.eq_iff_iff, List.any_eq_true, List.any_eq_true]
  constructor
  · rintro ⟨j, hj, h⟩
    have hj' := List.mem_range.mp hj
    refine ⟨bs[j], List.getElem_mem hj', ?_⟩
    simpa [trB, hj'] using h
  · rintro ⟨b, hb, h⟩
    obtain ⟨j, hj, e⟩ := List.getElem_of_mem hb
    exact ⟨j, List.mem_range.mpr hj, by simp [trB, hj, e]; exact h⟩
theorem all_trB (bs : List Bool) : (List.range bs.length).all (trB bs) = bs.all id := by
  rw [Bool.eq_iff_iff, List.all_eq_true, List.all_eq_true]
  constructor
  · intro h b hb
    obtain ⟨j, hj, e⟩ := List.getElem_of_mem hb
    have := h j (List.mem_range.mpr hj)
    simpa [trB, hj, e] using this
  · intro h j hj
    have hj' := List.mem_range.mp hj
    simpa [trB, hj'] using h _ (List.getElem_mem hj')
/-- the generator is made; what is left to be told of it -/
theorem gen_made {T : List (Addr × Str)} {c P : Addr} {elt : Expr} {x : Str} {gpos : Pos} {scope : Scope} {k : Nat} {M M1 : Ms} {xv : V} {H1 : Hp} {s1 : Shared} {u : Value} {d : D} {ws : List V} {bs : List Bool} {Q' : Value → Shared → Prop}
    (hr : Room k X.A) (TB : TabB X.base X.mg c P) (hcode : X.env.code = .ref c) (hmT : (P, X.env.qual ++ "<genexpr>") ∈ T) (hu : ∀ p ∈ T, p.1 = P → p.2 = X.env.qual ++ "<genexpr>") (Sg : GxR.GenS X.env scope x)
    (I1 : Inv X pins σ H1 s1) (a1 : AtM (Tabs T) X.K M1 H1) (r1 : Rp X.K (dom M1) H1 xv d) (rv : RelV xv u) (hsrc : SrcD d ws) (hlen : bs.length = ws.length) (hel : ∀ (i : Nat) w b v, ws[i]? = some w → bs[i]? = some b → RelV w v → EltG X scope x elt v b)
    (hQ : ∀ (g : Addr) (s5 : Shared) (fp wr : List Addr) (Gs : Array GenState → Array GenState → Prop) (F : Nat → Value → Prop) (St : Nat → Shared → Prop), WalksS X.prog X.w X.A.in1 g fp wr Gs bs.length F St → St 0 s5 → TruthOf X.prog X.w X.A.in1 F (trB bs) →
      (∀ s', Moved wr Gs s5 s' → ∃ H2, ExtN H1 H2 ∧ Tabs T H2 ∧ Inv X pins σ H2 s') → Q' (.ref g) s5) :
    wpAny (model X.prog X.w) X.A (pyIter u) (fun it s₂ => s₂.heap.NoLimit ∧
      wpAny (model X.prog X.w) X.A (genexprCode X.env gpos (X.env.qual ++ "<genexpr>") scope) (fun code s₃ => wpAny (model X.prog X.w) X.A (builtinsFor X.env.globals X.env.builtins) (fun bi s₄ =>
        ∃ Ia fp wr n₀ Pf St₀ pz F, it = .ref Ia ∧ (∀ A' : Around, A'.handled = none → Walks X.prog X.w A' Ia fp wr n₀ Pf St₀) ∧ St₀ 0 s₄.heap ∧ (∀ b ∈ fp, b < s₄.heap.objs.size) ∧ s₄.heap.NoLimit ∧ cStatics ∉ wr ∧
          (∀ href : Heap, (∀ b o, s₄.heap.get? b = some o → href.get? b = some o) →
            QuietGen X.prog X.w (genEnv scope (cloFrom X.env.cells scope.names []) s₄.heap.objs.size code bi X.env) x [] elt (List.range s₄.heap.objs.size) wr Pf pz F href) ∧
          (∀ a h₅ tk gs, gs.bare = true → s₄.heap.objs.size < a → h₅.objs.size = a + 1 → (∀ b o, s₄.heap.get? b = some o → h₅.get? b = some o) →
            WalksS X.prog X.w X.A.in4 a (a :: s₄.heap.objs.size :: List.range s₄.heap.objs.size) (s₄.heap.objs.size :: wr) (GenOnlyQ s₄.gens.size) (passing pz n₀ 0).length
              (fun j y => ∃ i, (passing pz n₀ 0)[j]? = some i ∧ F i y) (GenAt X.prog X.w X.A.in4 a s₄.gens.size s₄.heap.objs.size (List.range s₄.heap.objs.size) wr pz n₀ F) →
            GenAt X.prog X.w X.A.in4 a s₄.gens.size s₄.heap.objs.size (List.range s₄.heap.objs.size) wr pz n₀ F 0 { s₄ with gens := s₄.gens.push gs, toks := tk, heap := h₅ } →
            Q' (.ref a) { s₄ with gens := s₄.gens.push gs, toks := tk, heap := h₅ })) X.xe s₃) X.xe s₂) X.xe s1 := by
  obtain ⟨ps, hP, ht, ha⟩ := a1.g _ hmT
  refine src_iter I1 a1 r1 hsrc rv fun o kp Pf St W hst hkp hPf => ?_
  have hPs : s1.heap.get? P = some { cls := .none, data := .fields ps } := I1.hok P _ hP
  have hPlt : P < s1.heap.objs.size := Heap.lt_size hPs
  have hP2 : (s1.heap.push o).get? P = some { cls := .none, data := .fields ps } := Heap.get?_push_of_some _ hPs
  have cd : PySem.W.CodeHd (s1.heap.push o) c P := TB.code.keeps fun b u e => Heap.get?_push_of_some _ (I1.bk b u e)
  have lim2 : (s1.heap.push o).NoLimit := I1.nolimit.push o
  have kpP : ∀ b ∈ kp, b ≠ P := fun b hb z => by
    obtain ⟨ob, e1, e2⟩ := hkp b hb
    rw [z, hPs] at e1
    cases e1
    exact e2 _ rfl
  have cont : ∀ (code : Value) (h3 : Heap) (tk : Nat) (ps' : Array Value), Heap.ExtBut P (s1.heap.push o) h3 → (s1.heap.push o).objs.size ≤ h3.objs.size → h3.get? P = some { cls := .none, data := .fields ps' } →
      (∀ s' : Shared, s'.os = s1.os → AllBare s'.gens → (∀ b u, s1.heap.get? b = some u → b ≠ P → s'.heap.get? b = some u) → (∀ b u, h3.get? b = some u → s1.heap.objs.size < b → b < h3.objs.size → s'.heap.get? b = some u) → s'.heap.get? P = some { cls := .none, data := .fields ps' } → ∃ H2, ExtN H1 H2 ∧ Tabs T H2 ∧ Inv X pins σ H2 s') →
      wpAny (model X.prog X.w) X.A (builtinsFor X.env.globals X.env.builtins) (fun bi s₄ =>
        ∃ Ia fp wr n₀ Pf St₀ pz F, Value.ref s1.heap.objs.size = .ref Ia ∧ (∀ A' : Around, A'.handled = none → Walks X.prog X.w A' Ia fp wr n₀ Pf St₀) ∧ St₀ 0 s₄.heap ∧ (∀ b ∈ fp, b < s₄.heap.objs.size) ∧ s₄.heap.NoLimit ∧ cStatics ∉ wr ∧
          (∀ href : Heap, (∀ b o, s₄.heap.get? b = some o → href.get? b = some o) →
            QuietGen X.prog X.w (genEnv scope (cloFrom X.env.cells scope.names []) s₄.heap.objs.size code bi X.env) x [] elt (List.range s₄.heap.objs.size) wr Pf pz F href) ∧
          (∀ a h₅ tk gs, gs.bare = true → s₄.heap.objs.size < a → h₅.objs.size = a + 1 → (∀ b o, s₄.heap.get? b = some o → h₅.get? b = some o) →
            WalksS X.prog X.w X.A.in4 a (a :: s₄.heap.objs.size :: List.range s₄.heap.objs.size) (s₄.heap.objs.size :: wr) (GenOnlyQ s₄.gens.size) (passing pz n₀ 0).length
              (fun j y => ∃ i, (passing pz n₀ 0)[j]? = some i ∧ F i y) (GenAt X.prog X.w X.A.in4 a s₄.gens.size s₄.heap.objs.size (List.range s₄.heap.objs.size) wr pz n₀ F) →
            GenAt X.prog X.w X.A.in4 a s₄.gens.size s₄.heap.objs.size (List.range s₄.heap.objs.size) wr pz n₀ F 0 { s₄ with gens := s₄.gens.push gs, toks := tk, heap := h₅ } →
            Q' (.ref a) { s₄ with gens := s₄.gens.push gs, toks := tk, heap := h₅ })) X.xe { s1 with heap := h3, toks := tk } := by
    intro code h3 tk ps' hx hsz hP3 hInv
    obtain ⟨bm, ob, e1, e2, e3, e4, e5, e6, e7, e8⟩ := TB.bm
    have hcP : cStatics ≠ P := fun e => by
      obtain ⟨_, hns, _⟩ := I1.nolimit
      obtain ⟨o', es, ep, ho, hd, _⟩ := hns
      rw [e, hPs] at ho
      cases ho
      cases hd
    have hcl : cStatics < s1.heap.objs.size := let ⟨_, hns, _⟩ := I1.nolimit; hns.lt
    have sz2 : (s1.heap.push o).objs.size = s1.heap.objs.size + 1 := Heap.size_push ..
    have keep3 : ∀ b u, b ≠ P → s1.heap.get? b = some u → h3.get? b = some u := fun b u hb e => hx b u hb (Heap.get?_push_of_some _ e)
    refine wpAny_builtinsFor (m := X.mg) (by rw [I1.ok.glob]; exact ((I1.mod.glob.keeps I1.bk).push o).extBut hx TB.gP) e1 e2 (keep3 _ _ e4 (I1.bk _ _ e5)) e6 e7 e8 ?_
    refine ⟨s1.heap.objs.size, s1.heap.objs.size :: kp, [s1.heap.objs.size], ws.length, Pf, St, (fun _ => true), (fun i y => ∃ b, bs[i]? = some b ∧ y = .bool b), rfl, W, ?_, ?_, lim2.extBut hx hcP, ?_, ?_, ?_⟩
    · refine (W X.A hr.hd).frame _ _ _ hst fun b hb u e => hx b u (fun z => ?_) e
      rcases List.mem_cons.mp hb with z2 | z2
      · exact Nat.ne_of_lt hPlt (z.symm.trans z2)
      · exact kpP b z2 z
    · intro b hb
      have h01 : s1.heap.objs.size < h3.objs.size := by omega
      rcases List.mem_cons.mp hb with z | z
      · rw [z]; exact h01
      · obtain ⟨ob', e', _⟩ := hkp b z
        exact Nat.lt_trans (Heap.lt_size e') h01
    · intro z
      rcases List.mem_cons.mp z with z | z
      · exact Nat.ne_of_lt hcl z
      · cases z
    · intro href hhref
      refine ⟨fun A' E' i v s₂ m₂ hA hPv hn hm hk => ?_, fun A' E' i v s₂ m₂ hA hPv hp hn hm hk => ?_⟩
      · simp only [List.forIn_nil]
        exact wpAny_pure ⟨rfl, GxR.keeps_refl _⟩
      · obtain ⟨w, hw, rw'⟩ := hPf i v hPv
        have hi : i < bs.length := by
          rw [hlen]
          rcases Nat.lt_or_ge i ws.length with q | q
          · exact q
          · rw [List.getElem?_eq_none q] at hw; cases hw
        have hb : bs[i]? = some bs[i] := List.getElem?_eq_getElem hi
        refine wpAny_mono (hel i w _ v hw hb rw' _ A' E' s₂ m₂ ⟨I1.mod, rfl, I1.ok.glob, rfl, (fun b o e => ?_), hn, hm⟩) (fun y s3 r => ⟨⟨_, hb, r.1⟩, r.2⟩) fun _ _ e => e
        have eb := I1.bk b o e
        have bP : b ≠ P := fun z => by
          have q := (I1.bs b o e).2
          rw [z, hP] at q; cases q
        refine hk b (List.mem_range.mpr ?_) (fun z => ?_) o (hhref b o (keep3 b o bP eb))
        · have h01 : s1.heap.objs.size < h3.objs.size := by omega
          exact Nat.lt_trans (Heap.lt_size eb) h01
        · have := Heap.lt_size eb
          rw [List.mem_singleton.mp z] at this
          exact Nat.lt_irrefl _ this
    · intro g h5 tk5 gs hgb hag hsz5 hk5 W5 hat
      simp only [GxR.passing_true, List.length_range] at W5
      rw [← hlen] at W5
      refine hQ g _ _ _ _ _ _ W5.in4_1 (by rw [← hlen] at hat; exact hat) ?_ fun s' hm => ?_
      · intro j y sj Qj Ej hy hQj
        obtain ⟨i, hij, b, hb, rfl⟩ := hy
        obtain ⟨hj, ej⟩ := List.getElem?_eq_some_iff.mp hij
        rw [List.getElem_range] at ej
        subst ej
        have hQ2 : Qj (trB bs j) sj := hQj
        rw [show trB bs j = b by simp [trB, hb]] at hQ2
        exact wpAny_truthy_bool hQ2
      · have nwr : ∀ b, b < s1.heap.objs.size → b ∉ h3.objs.size :: [s1.heap.objs.size] := fun b hl z => by
          rcases List.mem_cons.mp z with z | z
          · omega
          · rw [List.mem_singleton.mp z] at hl; exact Nat.lt_irrefl _ hl
        refine hInv s' hm.os (AllBare.movedS (I1.bare.push hgb) hm) (fun b u e hb => hm.heap b u (nwr b (Heap.lt_size e)) (hk5 b u (keep3 b u hb e))) (fun b u e hlo hhi => hm.heap b u (fun z => ?_) (hk5 b u e)) (hm.heap P _ (nwr P hPlt) (hk5 P _ hP3))
        rcases List.mem_cons.mp z with z | z
        · exact Nat.lt_irrefl _ (z ▸ hhi : h3.objs.size < h3.objs.size)
        · have z' := List.mem_singleton.mp z
          rw [z'] at hlo
          exact Nat.lt_irrefl _ hlo
  refine ⟨lim2, ?_⟩
  cases hf : codeAmong gpos ps.toList with
  | none =>
    refine wpAny_genexprCodeX hcode (cd.code hP2 ht) (cd.tab hP2) hf fun c' h' tk hx hge hlt hco' hrec htab' _ => ?_
    obtain ⟨c2, oc, vs, t, e2, hoc, hdo, hv⟩ := hrec
    cases e2
    have sz2 : (s1.heap.push o).objs.size = s1.heap.objs.size + 1 := Heap.size_push ..
    have hge1 : s1.heap.objs.size ≤ c' := by rw [sz2] at hge; omega
    refine cont _ h' tk _ hx (Nat.le_trans hge (Nat.le_of_lt hlt)) htab'.2 fun s' hos hbr hk1 hk3 hPn => ?_
    have J := inv_tableG (q := X.env.qual ++ "<genexpr>") (more := #[rawInt gpos.line, rawInt gpos.col, .ref c']) (h' := s'.heap) (g' := s'.gens) (d' := s'.drawn) (t' := s'.toks) I1 hP (fun b u hb e => hk1 b u e hb) hPn hge1
      ⟨oc, vs, t, hk3 _ _ hoc (by rw [sz2] at hge; omega) hlt, hdo, hv⟩ hbr
    rw [GxR.sh_eta s1 s' hos] at J
    obtain ⟨hE, hT'⟩ := tabs_grow (pos := gpos) a1.g hP ht ha hu (I1.hok.fresh hge1)
    exact ⟨_, hE, hT', J⟩
  | some cv =>
    refine wpAny_genexprCode_hit hcode (cd.code hP2 ht) hf ?_
    refine cont cv (s1.heap.push o) s1.toks ps (Heap.ExtBut.refl _ _) (Nat.le_refl _) hP2 fun s' hos hbr hk1 hk3 hPn => ?_
    have J := GxR.inv_tab (more := #[]) (h' := s'.heap) (g' := s'.gens) (d' := s'.drawn) (t' := s'.toks) I1 hP (fun b u hb e => hk1 b u e hb) (by rw [Array.append_empty]; exact hPn) hbr
    rw [GxR.sh_eta s1 s' hos] at J
    have eH : upd H1 P (.tbl (ps ++ #[])) = H1 := by
      funext b
      by_cases z : b = P
      · rw [z, upd_same, hP]; simp
      · rw [upd_ne z]
    rw [eH] at J
    exact ⟨H1, ExtN.refl _, a1.g, J⟩
end
section
variable {X : Cx} {W : WX} {M : Ms} {ρ : Rh} {xr : Value → Ms → Prop} {T : List (Addr × Str)} {pos p : Pos} {R : Ms → D → Prop} {k j : Nat}
theorem we_any {elt iter : Expr} {x : Str} {px gpos : Pos} {scope : Scope} (cx : Ct X (Tabs T) W k) (TX : TabX X T "<genexpr>") (hm : X.mg "any" = none) (hg : Gl X "any") (Sg : GxR.GenS X.env scope x)
    (h : WE X (Tabs T) W iter M ρ xr fun M1 d => ∃ (ws : List V) (bs : List Bool), SrcD d ws ∧ bs.length = ws.length ∧ (∀ (i : Nat) w b v, ws[i]? = some w → bs[i]? = some b → RelV w v → EltG X scope x elt v b) ∧ R M1 (B (bs.any id)))
    (hs : ∀ v, genFold iter X.env v = pure v := by intro _; rfl)
    (he : starEach [.GeneratorExp elt [⟨.Name x px, iter, [], 0⟩] scope gpos] X.env = (false, eval (.GeneratorExp elt [⟨.Name x px, iter, [], 0⟩] scope gpos) X.env) :: starEach [] X.env := by rfl) :
    WE X (Tabs T) W (.Call (.Name "any" p) [.GeneratorExp elt [⟨.Name x px, iter, [], 0⟩] scope gpos] [] pos) M ρ xr R := by
  obtain ⟨c, P, TB, hcode, hmT, hu⟩ := TX.ex
  constructor; intro σ H a0 b0 xk Q q pins s I
  refine wpAny_Call_Name_kw (ld_blt I hg hm boot_any ?_)
  refine PyProof.Rows.callWith_builtin1 ?_ he (by rfl)
  rw [he]
  show wpAny _ _ (spliced ((false, eval (.GeneratorExp elt [⟨.Name x px, iter, [], 0⟩] scope gpos) X.env) :: backTo pos (starEach [] X.env))) _ _ s
  refine Calls.spliced_cons ?_
  refine wpAny_GeneratorExp_walksQ cx.hr.hd Sg.co (closure_ok Sg.free) Sg.cell Sg.dot Sg.loc Sg.kind (by have := cx.hr.dp; omega) ?_ hs
  refine thn (h σ H a0 b0 xk (fun v H1 => ∃ M1 d, (∃ (ws : List V) (bs : List Bool), SrcD d ws ∧ bs.length = ws.length ∧ (∀ (i : Nat) w b v, ws[i]? = some w → bs[i]? = some b → RelV w v → EltG X scope x elt v b) ∧ R M1 (B (bs.any id))) ∧ AtM (Tabs T) X.K M1 H1 ∧ Mv M H M1 H1 ∧ Rp X.K (dom M1) H1 v d) (fun M1 d v H1 h1 a1 m1 r1 => ⟨M1, d, h1, a1, m1, r1⟩) pins s I) fun u s1 ⟨v, H1, I1, rv, M1, d, h1, a1, m1, r1⟩ => ?_
  obtain ⟨ws, bs, hsrc, hlen, hel, hk⟩ := h1
  refine gen_made (M := M) (Q' := fun v s5 => wpAny (model X.prog X.w) X.A (spliced (backTo pos (starEach [] X.env))) (fun vs s₂ => wpAny (model X.prog X.w) X.A (call (.builtin "any") (v :: vs)) (EP X pins σ Q) X.xe s₂) X.xe s5) cx.hr TB hcode hmT hu Sg I1 a1 r1 rv hsrc hlen hel fun g s5 fp wr Gs F St W5 hst htr hI => ?_
  refine Calls.spliced_nil ?_
  refine call_any_walkS (W5.self 0 _ _ _ hst ⟨g, fp, wr, Gs, _, F, St, _, rfl, W5, hst, htr, fun s' hmv => ?_⟩)
  obtain ⟨H2, hE, hT2, J⟩ := hI s' hmv
  obtain ⟨a2, m2⟩ := a1.ext hE hT2
  rw [any_trB]
  exact ⟨.bl _, H2, J, rfl, q M1 _ _ H2 hk a2 (m1.trans m2) (.raw _)⟩
/-! ### a lambda handed to a def that tries it -/
/-- the context of a lambda's body -/
def LamOf (X : Cx) (scope : Scope) (E : XK) (Y : Cx) : Prop := ∃ (A : Around) (outer : List Env) (s : Shared) (H0 : Hp) (f c' : Addr), Y = lamCx X A outer s H0 E scope f c'
/-- told(what): try: return what() / except e: return ret -/
structure ToldOk (K : PySem.W.Frag) (mg : Str → Option Value) (x e ret : Str) (CS : Addr) : Prop where
  ex : ∃ (g : Addr) (a : Str) (st : Stmt) (fd : FuncData) (Ng : List Str) (p1 p2 p3 p4 p5 p6 p7 p8 : Pos) (j : Nat), mg x = some (.ref g) ∧ Fun K x x st g fd ∧ defBody st = [.Try [.Return (some (.Call (.Name a p1) [] [] p2)) p3] [.ExceptHandler (some (.Name e p4)) none [.Return (some (.Constant (.str ret) j p5)) p6] p7] [] [] p8] ∧
    L2.Binds K fd [a] [] ∧ FnScope Ng [a] (defScope st) ∧ Ng[0]? = some a ∧ Vis (defScope st) a ∧ (defScope st).names.lookup e = some .globalImplicit ∧ (∀ f : Addr, (L2.start Ng [V.ref f])[0]? = some (some (V.ref f))) ∧ (a == ("__debug__" : Str)) = false ∧ (a == ("__classdict__" : Str)) = false
  me : mg e = some (.ref CS)
  de : (e == ("__debug__" : Str)) = false
  exm : PySem.W.exmOne K (.ref CS) (.ref CS) = some true
theorem we_told {x e ret : Str} {CS : Addr} {params : Arguments} {body : Expr} {scope : Scope} {lpos : Pos} (cx : Ct X (Tabs T) W (k + 2)) (TX : TabX X T "<lambda>") (hg : Gl X x) (TO : ToldOk X.K X.mg x e ret CS) (L : LamS X.env.scope scope)
    (h : ∀ Y E, LamOf X scope E Y → Ct Y (Tabs T) (fun cls d _ H => E cls d H) k → WE Y (Tabs T) (fun cls d _ H => E cls d H) body M ρ (fun cls M' => cls = .ref CS ∧ R M' (Z ret)) R)
    (hdef : defaultsOf params X.env = ([], []) := by rfl)
    (hbind : ∀ (q : Str) (cl : List (Str × Addr)) (pm cv ctv : Value), bindArgs (PySem.W.kla_fn "<lambda>" q params body scope cl pm cv ctv) ⟨[], []⟩ = pure [] := by intro _ _ _ _ _; rfl)
    (hdb : (x == ("__debug__" : Str)) = false := by decide) : WE X (Tabs T) W (.Call (.Name x p) [.Lambda params body scope lpos] [] pos) M ρ xr R := by
  obtain ⟨c, P, TB, hcode, hmT, hu⟩ := TX.ex
  obtain ⟨g, a, st, fd, Ng, p1, p2, p3, p4, p5, p6, p7, p8, jj, hm, F, hbody, hb, Sg, hNg, hva, hge, h0, da, dc⟩ := TO.ex
  have kp := F.kp
  obtain ⟨oc, od, kV, doc, pm, an, cdv, ct, osl, rfl, lk, hcd⟩ := F.ex
  rw [hbody] at lk hb
  have pe := LamX.pe_lamcall (X := X) (T := T) (k := k) (TT := LamX.TTold X.K CS ret) (p := p) (lpos := lpos) (pos := pos) (params := params) (body := body) (scope := scope) (a := a) (Ng := Ng)
    (t := fun E σ H Q => ∀ Y, LamOf X scope E Y → Ct Y (Tabs T) (fun cls d _ H => E cls d H) k → eT Y body σ H Q) hg hm kp lk hcd hb Sg hNg hva
    (LamX.told_gives hge TO.me TO.de h0) TB hcode hmT hu cx.hr L hdef hbind
    (fun A outer s H E f c' hr => ⟨fun pins s' σ H' Q I h => h _ ⟨A, outer, s, H, f, c', rfl⟩ ⟨cx.gs, takesN (L2.takes_of rfl rfl rfl rfl), hr, passes_of rfl, rfl, cx.nd⟩ pins s' I⟩) hdb da dc
  refine we_of pe fun σ H a0 b0 xk Q q => ⟨a0.g, fun H1 e1 t1 => ?_⟩
  obtain ⟨a1, m1⟩ := a0.ext e1 t1
  intro Y hY cy
  have hK : Y.K = X.K := by obtain ⟨A, outer, s, H0, f, c', rfl⟩ := hY; rfl
  have hw := h Y _ hY cy
  replace hw := hw.run
  rw [hK] at hw
  refine hw σ H1 a1 (m1.sl a0 b0) (fun cls M' H' hx ha hm => ?_) Q fun M' d v H' hk ha hm hr => q M' d v H' hk ha (m1.trans hm) hr
  obtain ⟨rfl, hR⟩ := hx
  exact ⟨true, TO.exm, fun _ => q M' _ _ H' hR ha (m1.trans hm) (.raw _), fun z => by cases z⟩
end
end Wv
set_option maxRecDepth 100000
set_option maxHeartbeats 2000000
namespace Wv
open PySem PySem.Spec PyProof.Rows L2
open LamX (CodeO TabS Tabs ExtN TabB lamEnv lamCx LamS)
/-- a def whose code object stands at c -/
structure FunT (K : PySem.W.Frag) (x qual : Str) (st : Stmt) (f : Addr) (fd : FuncData) (c : Addr) : Prop where
  ex : ∃ (oc : Value) (od : Option Addr) (kV doc pm : Value) (an : Option Addr) (ct : Value) (osl : Array (Option Value)),
    fd = PySem.W.fnOf x qual (defArgs st) (defBody st) (defScope st) .none kV doc pm an (.ref c) ct ∧ K.lookup f = some ⟨oc, od, .func fd, osl⟩ ∧ PySem.W.codeIn K (.ref c) qual = true
  kp : PySem.W.keepIn K (.ref f) = true
theorem FunT.fun {K : PySem.W.Frag} {x qual : Str} {st : Stmt} {f : Addr} {fd : FuncData} {c : Addr} (F : FunT K x qual st f fd c) : Fun K x qual st f fd := by
  obtain ⟨oc, od, kV, doc, pm, an, ct, osl, h1, h2, h3⟩ := F.ex
  exact ⟨⟨oc, od, kV, doc, pm, an, .ref c, ct, osl, h1, h2, h3⟩, F.kp⟩
theorem funT_mk {K : PySem.W.Frag} {x qual : Str} {st : Stmt} {f c : Addr} {oc : Value} {od an : Option Addr} {osl : Array (Option Value)} {kV doc pm ct : Value} (l : K.lookup f = some ⟨oc, od, .func (PySem.W.fnOf x qual (defArgs st) (defBody st) (defScope st) .none kV doc pm an (.ref c) ct), osl⟩)
    (hc : PySem.W.codeIn K (.ref c) qual = true) (k : PySem.W.keepIn K (.ref f) = true) : FunT K x qual st f (PySem.W.fnOf x qual (defArgs st) (defBody st) (defScope st) .none kV doc pm an (.ref c) ct) c := ⟨⟨oc, od, kV, doc, pm, an, ct, osl, rfl, l, hc⟩, k⟩
section
variable {P : Program} {w : World} {K : PySem.W.Frag} {mg : Str → Option Value} {base : Heap} {G : Hp → Prop}
/-- THE RULE of a def, its code object told -/
theorem gf_ofT {x qual : Str} {st : Stmt} {f c : Addr} {fd : FuncData} {N ps : List Str} {k : Nat} {S : SpD} {dd : List V} {dv : List Value} (F : FunT K x qual st f fd c) (Sc : FnScope N ps (defScope st)) (gs : Gst G) (bd : L2.Binds K fd ps dv) (dr : Vals dd dv)
    (len : ∀ ds M xr R, S ds M xr R → ds.length = ps.length)
    (hbody : ∀ (X : Cx) (W : WX) (M : Ms) (ds : List D) (xr : Value → Ms → Prop) (R : Ms → D → Prop), (∃ A outer s H E, X = cxOf (L2N.CX P w) P w K mg base N qual (defScope st) f (.ref c) A outer s H E) → Ct X G W k → S ds M xr R →
      WSs X G W (defBody st) M (startD N ds) { nx := fun M' _ => R M' N0, rt := R, bk := fun _ _ => False, ct := fun _ _ => False, xr := xr }) : Gf P w K mg base G (k + 1) f dd S := by
  obtain ⟨oc, od, kV, doc, pm, an, ct, osl, rfl, lk, hcd⟩ := F.ex
  refine ⟨⟨_, ps, dv, fn_of lk hcd Sc (fun vs H Q E h => ?_) (fun A outer s H vs Q E hr h => ?_), bd, dr⟩, F.kp⟩
  · obtain ⟨M, ds, xr, R, _, r, hs, _⟩ := h
    rw [r.length]; exact len _ _ _ _ hs
  · obtain ⟨M, ds, xr, R, a, r, hs, q, e⟩ := h
    refine ⟨_, pss_wp, ?_⟩
    refine hbody _ (fun cls d _ H => E cls d H) M ds xr R ⟨A, outer, s, H, E, rfl⟩ ⟨gs, L2N.takes_of rfl rfl rfl rfl, hr, passes_of rfl, rfl, Sc.nd⟩ hs _ H a (sl_start r) _ (fun M' H' cls σ' hx ha hm => e cls M' H' hx ha hm)
      (fun M' ρ' σ' H' hk ha hb hm => q M' _ _ H' hk ha hm (.raw _)) (fun M' d v H' hk ha hm hr => q M' d v H' hk ha hm hr) (fun _ _ _ _ h => h.elim) (fun _ _ _ _ h => h.elim)
end
section
variable {X : Cx} {G : Hp → Prop} {W : WX} {M : Ms} {ρ : Rh} {xr : Value → Ms → Prop} {N : En} {a b c e o : Expr} {es : List Expr} {pos p apos : Pos} {R : Ms → D → Prop} {k j : Nat}
/-- xs[::-1] -/
theorem we_rev (gs : Gst G) {kk : Nat} {p1 p2 p3 : Pos} (h : WE X G W e M ρ xr fun M1 d => OwL M1 d fun _ _ l => R M1 (.lst l.reverse)) : WE X G W (.Subscript e (.Slice none none (some (.UnaryOp .USub (.Constant (.int 1) kk p1) p2)) p3) pos) M ρ xr R :=
  we_of (pe_revL pe_wp) fun σ H a0 b0 x Q q => h σ H a0 b0 x _ fun M1 d v H1 h1 a1 m1 r1 => by
  cases h1 with
  | mk i hi h1 =>
  obtain ⟨xs, s1, l1⟩ := at_ob a1 hi
  obtain rfl := r1.raw_inv
  exact ⟨_, xs, rfl, SqL.of s1, fun p hp => new_lst gs a1 hp l1.rev h1 fun M' d v H' hk a' m' r' => q M' d v H' hk a' (m1.trans m') r'⟩
/-- sequencing of a known result -/
theorem we_imp {R' : Ms → D → Prop} (h : WE X G W e M ρ xr R) (f : ∀ M d, R M d → R' M d) : WE X G W e M ρ xr R' := ⟨fun σ H a0 b0 x Q q => h σ H a0 b0 x Q fun M' d v H' hk => q M' d v H' (f _ _ hk)⟩
/-- a name by its slot as a for's target -/
theorem pgn (i : Nat) {x : Str} {pos : Pos} (hN : X.N.Nodup) (hi : X.N[i]? = some x := by rfl) (hx : Loc X.env.scope x := by first | exact Or.inl rfl | exact Or.inr rfl) (hf : X.fn x = true ∨ X.env.scope.names.lookup x = some .local := by first | exact .inl rfl | exact .inr rfl) : PG X (.Name x pos) (L2.gName i) := pg_name hN hi hx hf
end
theorem sz1 {n : Nat} (h : n ≤ 1000000) : n ≤ sizeLine := Nat.le_trans h (by decide)
theorem sz2 {n : Nat} (h : n < 1000000) : n < sizeLine := Nat.lt_of_lt_of_le h (by decide)
end Wv
set_option maxRecDepth 100000
set_option maxHeartbeats 2000000
namespace Wv
open PySem PySem.Spec PyProof.Rows L2 PySem.W
section
variable {X : Cx} {G : Hp → Prop} {W : WX} {M : Ms} {ρ : Rh} {xr : Value → Ms → Prop} {N : En} {a b c e o : Expr} {es : List Expr} {pos p apos : Pos} {R : Ms → D → Prop} {k j : Nat}
theorem map_erase {α β : Type} {f : α → β} : ∀ (l : List α) (j : Nat), (l.eraseIdx j).map f = (l.map f).eraseIdx j
  | [], _ => rfl
  | _ :: _, 0 => rfl
  | x :: l, j + 1 => by simp only [List.eraseIdx_cons_succ, List.map_cons, map_erase l j]
theorem set_at {α : Type} {l : List α} {i : Nat} {x y : α} (h : l[i]? = some y) : (l.set i x)[i]? = some x := by
  have hl : i < l.length := by
    rcases Nat.lt_or_ge i l.length with q | q
    · exact q
    · rw [List.getElem?_eq_none q] at h; cases h
  rw [List.getElem?_set_self hl]
theorem set_set' {α : Type} {l : List α} {i : Nat} {x y : α} : (l.set i x).set i y = l.set i y := List.set_set ..
/-- a list of ours becomes data, wherever it stands -/
theorem AtM.dropAt {K : PySem.W.Frag} {q : Addr} {l : List D} {H : Hp} {j : Nat} (a : AtM G K M H) (h : M[j]? = some (q, .lst l)) : AtM G K (M.eraseIdx j) H ∧ Mv M H (M.eraseIdx j) H ∧ Rp K (dom (M.eraseIdx j)) H (.ref q) (.lst l) := by
  obtain ⟨a1, m1⟩ := a.sub (List.eraseIdx_sublist M j)
  refine ⟨a1, m1, ?_⟩
  obtain ⟨xs, e, r⟩ := a.ob (q, .lst l) (List.mem_of_getElem? h)
  refine .lst e (fun hq => ?_) (m1.rpl a r)
  have hd : dom (M.eraseIdx j) = (dom M).eraseIdx j := by
    exact map_erase _ _
  rw [hd] at hq
  have hj : (dom M)[j]? = some q := dom_at h
  have hl : j < (dom M).length := by
    rcases Nat.lt_or_ge j (dom M).length with z | z
    · exact z
    · rw [List.getElem?_eq_none z] at hj; cases hj
  rw [List.mem_eraseIdx_iff_getElem?] at hq
  obtain ⟨i, hi, e2⟩ := hq
  exact hi (nd_ix a.nd e2 hj)
theorem wss_freeze {ss : List Stmt} {q : Addr} {l : List D} (j i : Nat) (hj : M[j]? = some (q, .lst l)) (hi : ρ[i]? = some (some (Rf q))) (h : WSs X G W ss (M.eraseIdx j) (ρ.set i (some (.lst l))) N) : WSs X G W ss M ρ N :=
  ⟨fun σ H a0 b0 Dn x n r bk ct => by
  obtain ⟨a1, m1, r1⟩ := a0.dropAt hj
  obtain ⟨v, e, rv⟩ := b0.2 i _ hi
  obtain rfl := rv.raw_inv
  have b1 := (m1.sl a0 b0).set i r1
  have eσ : σ.set i (some (V.ref q)) = σ := by
    refine List.ext_getElem? fun n => ?_
    by_cases z : i = n
    · subst z; rw [set_at e, e]
    · rw [List.getElem?_set_ne z]
  rw [eσ] at b1
  exact h σ H a1 b1 Dn (fun M' H' cls σ' hx ha hm => x M' H' cls σ' hx ha (m1.trans hm)) (fun M' ρ' σ' H' hk ha hb hm => n M' ρ' σ' H' hk ha hb (m1.trans hm))
    (fun M' d v H' hk ha hm => r M' d v H' hk ha (m1.trans hm)) (fun M' ρ' σ' H' hk ha hb hm => bk M' ρ' σ' H' hk ha hb (m1.trans hm)) (fun M' ρ' σ' H' hk ha hb hm => ct M' ρ' σ' H' hk ha hb (m1.trans hm))⟩
/-- what is ours no longer, ahead of statements -/
theorem wss_sub {ss : List Stmt} {M0 : Ms} (s : List.Sublist M0 M) (h : WSs X G W ss M0 ρ N) : WSs X G W ss M ρ N := ⟨fun σ H a0 b0 Dn x n r bk ct => by
  obtain ⟨a1, m1⟩ := a0.sub s
  exact h σ H a1 (m1.sl a0 b0) Dn (fun M' H' cls σ' hx ha hm => x M' H' cls σ' hx ha (m1.trans hm)) (fun M' ρ' σ' H' hk ha hb hm => n M' ρ' σ' H' hk ha hb (m1.trans hm))
    (fun M' d v H' hk ha hm => r M' d v H' hk ha (m1.trans hm)) (fun M' ρ' σ' H' hk ha hb hm => bk M' ρ' σ' H' hk ha hb (m1.trans hm)) (fun M' ρ' σ' H' hk ha hb hm => ct M' ρ' σ' H' hk ha hb (m1.trans hm))⟩
theorem AtM.perm {K : PySem.W.Frag} {M0 : Ms} {H : Hp} (a : AtM G K M H) (s : List.Perm M0 M) : AtM G K M0 H ∧ Mv M H M0 H := by
  have hd : ∀ b, b ∈ dom M0 ↔ b ∈ dom M := fun b => (s.map (·.1)).mem_iff
  have m : Mv M H M0 H := ⟨fun _ _ h _ _ => h, fun b hb => .inl ((hd b).mp hb)⟩
  exact ⟨⟨a.g, (s.map (·.1)).nodup_iff.mpr a.nd, fun p hp => m.oat a (a.ob p (s.mem_iff.mp hp)) fun u h => h⟩, m⟩
theorem we_perm (h : WE X G W e M ρ xr fun M1 d => ∃ M0, List.Perm M0 M1 ∧ R M0 d) : WE X G W e M ρ xr R := ⟨fun σ H a0 b0 x Q q => h σ H a0 b0 x Q fun M1 d v H1 h1 a1 m1 r1 => by
  obtain ⟨M0, s, hk⟩ := h1
  obtain ⟨a2, m2⟩ := a1.perm s
  exact q M0 d v H1 hk a2 (m1.trans m2) (m2.rp a1 r1)⟩
/-- slots forgotten -/
theorem wss_forget {ss : List Stmt} (i : Nat) (h : WSs X G W ss M (ρ.set i none) N) : WSs X G W ss M ρ N := ⟨fun σ H a0 b0 Dn x n r bk ct => by
  refine h σ H a0 ⟨by rw [List.length_set]; exact b0.1, fun m d e => ?_⟩ Dn x n r bk ct
  by_cases z : i = m
  · subst z
    by_cases hl : i < ρ.length
    · rw [List.getElem?_set_self hl] at e; cases e
    · rw [List.getElem?_eq_none (by rw [List.length_set]; omega)] at e; cases e
  · rw [List.getElem?_set_ne z] at e
    exact b0.2 m d e⟩
/-- the end of what follows, made weaker -/
theorem ws_imp {st : Stmt} {N' : En} (h : WS X G W st M ρ N) (nx : ∀ M ρ, N.nx M ρ → N'.nx M ρ) (rt : ∀ M d, N.rt M d → N'.rt M d) (bk : ∀ M ρ, N.bk M ρ → N'.bk M ρ) (ct : ∀ M ρ, N.ct M ρ → N'.ct M ρ) (xr : ∀ c M, N.xr c M → N'.xr c M) : WS X G W st M ρ N' :=
  ⟨fun σ H a0 b0 Dn x n r bk' ct' => h σ H a0 b0 Dn (fun M' H' cls σ' hx => x M' H' cls σ' (xr _ _ hx)) (fun M' ρ' σ' H' hk => n M' ρ' σ' H' (nx _ _ hk)) (fun M' d v H' hk => r M' d v H' (rt _ _ hk)) (fun M' ρ' σ' H' hk => bk' M' ρ' σ' H' (bk _ _ hk)) (fun M' ρ' σ' H' hk => ct' M' ρ' σ' H' (ct _ _ hk))⟩
/-- s.index(y) of a text that is there -/
theorem we_index (cx : Ct X G W k) (h : WE X G W o M ρ xr fun M1 d => IsZ d fun z => WE X G W e M1 ρ xr fun M2 d' => IsZ d' fun y => ∃ n : Nat, Txt.index0 z y = some n ∧ R M2 (I n))
    (he : starEach [e] X.env = (false, eval e X.env) :: starEach [] X.env := by rfl)
    (hb : PE X (.Call (.Attribute o "index" apos) [e] [] pos) (tBMS X.K "str" (rIndexX W) (eT X o) (aT X [e]))) : WE X G W (.Call (.Attribute o "index" apos) [e] [] pos) M ρ xr R :=
  we_of hb fun σ H a0 b0 x Q q => h σ H a0 b0 x _ fun M1 d v H1 h1 a1 m1 r1 => by
  cases h1 with
  | mk h1 =>
  rename_i z
  obtain rfl := r1.raw_inv
  refine ⟨rfl, ?_⟩
  refine wa_one (RA := fun M2 ds => ∃ y, ds = [Z y] ∧ ∃ n : Nat, Txt.index0 z y = some n ∧ R M2 (I n)) (⟨fun σ H a0 b0 x Q q => h1 σ H a0 b0 x Q fun M1 d v H1 hd a1 m1 r1 => q M1 d v H1 (by cases hd with | mk h => exact ⟨_, rfl, h⟩) a1 m1 r1⟩) he σ H1 a1 (m1.sl a0 b0) (x.mv m1) _ fun M2 ds vs H2 h2 a2 m2 r2 => ?_
  obtain ⟨y, rfl, n, hn, hk⟩ := h2
  obtain ⟨u, rfl, ru⟩ := r2.one
  obtain rfl := ru.raw_inv
  refine ⟨z, y, rfl, rfl, fun k hk' => ?_, fun hk' => absurd (hn.symm.trans hk') (by simp)⟩
  rw [hn] at hk'
  cases hk'
  exact q M2 _ _ H2 hk a2 (m1.trans m2) (.raw _)
/-- max(t) of a tuple of ints -/
def rMaxT (K : PySem.W.Frag) : List V → Hp → VK → Prop := fun vs H Q => ∃ (a : Addr) (ns : List Int), vs = [V.ref a] ∧ SqT K H a (ns.map V.int) ∧ 0 < ns.length ∧ ∀ m, m ∈ ns → (∀ y, y ∈ ns → y ≤ m) → Q (.int m) H
theorem maxOf_is (x : Int) : ∀ xs : List Int, maxOf x xs ∈ x :: xs ∧ ∀ y ∈ x :: xs, y ≤ maxOf x xs := by
  intro xs
  unfold maxOf
  induction xs generalizing x with
  | nil => exact ⟨List.mem_cons_self, fun y hy => by simp at hy; subst hy; exact Int.le_refl _⟩
  | cons z xs ih =>
    rw [List.foldl_cons]
    by_cases h : DatumOrd.lt x z = true
    · rw [if_pos h]
      have h' : x < z := by simpa [DatumOrd.lt] using h
      obtain ⟨h1, h2⟩ := ih z
      refine ⟨List.mem_cons_of_mem _ h1, fun y hy => ?_⟩
      rcases List.mem_cons.mp hy with rfl | hy
      · have := h2 z List.mem_cons_self; omega
      · exact h2 y hy
    · rw [if_neg h]
      have h' : ¬ x < z := by simpa [DatumOrd.lt] using h
      obtain ⟨h1, h2⟩ := ih x
      refine ⟨?_, fun y hy => ?_⟩
      · rcases List.mem_cons.mp h1 with h1 | h1
        · rw [h1]; exact List.mem_cons_self
        · exact List.mem_cons_of_mem _ (List.mem_cons_of_mem _ h1)
      · rcases List.mem_cons.mp hy with rfl | hy
        · exact h2 _ List.mem_cons_self
        · rcases List.mem_cons.mp hy with rfl | hy
          · have := h2 x List.mem_cons_self; omega
          · exact h2 y (List.mem_cons_of_mem _ hy)
theorem call_maxT (hc : X.calm = true) (hu : X.A.units + 64 < cLine) : CallR X (.builtin "max") (rMaxT X.K) := by
  intro pins s σ H vs us Q I r h
  obtain ⟨a, ns, rfl, hs, hne, q⟩ := h
  obtain ⟨its, rv, hl, hz⟩ := I.tuple hs
  rw [Vals.ref1 r]
  cases ns with
  | nil => cases hne
  | cons n ns =>
    obtain ⟨ob, hob, hcl, nn, hda⟩ := hl
    have hT : s.heap.IsTuple a its.toArray := ⟨ob, hob, hcl, nn, hda⟩
    refine max_tuple_datum (x := n) (xs := ns) (I.ok.hd hc) hT (HoldAll.of_ints (by simpa using rv.ints)) (by show X.A.units + 1 + 0 < cLine; omega) fun i v h' tk hi hh hk => ?_
    obtain ⟨as, rr⟩ := hh
    obtain ⟨h1, h2⟩ := maxOf_is n ns
    obtain ⟨t, rfl⟩ : ∃ t, v = .int (maxOf n ns) t := by
      cases rr with
      | int _ t => exact ⟨t, rfl⟩
    exact ⟨.int _, H, I.kept hk, ⟨_, rfl⟩, q _ h1 h2⟩
theorem we_maxT (cx : Ct X G W k) (hm : X.mg "max" = none) (hg : Gl X "max") (h : WE X G W e M ρ xr fun M1 d => ∃ ns : List Int, d = byt ns ∧ 0 < ns.length ∧ ∀ m, m ∈ ns → (∀ y, y ∈ ns → y ≤ m) → R M1 (I m)) (he : starEach [e] X.env = (false, eval e X.env) :: starEach [] X.env := by rfl) :
    WE X G W (.Call (.Name "max" p) [e] [] pos) M ρ xr R :=
  we_bi (he := he) (RA := fun M1 ds => ∃ ns : List Int, ds = [byt ns] ∧ 0 < ns.length ∧ ∀ m, m ∈ ns → (∀ y, y ∈ ns → y ≤ m) → R M1 (I m)) (call_maxT cx.hc cx.hu) hm (by decide +kernel) hg (wa_one (h := ⟨fun σ H a0 b0 x Q q => h σ H a0 b0 x Q fun M1 d v H1 hd a1 m1 r1 => q M1 d v H1 (by obtain ⟨ns, rfl, h⟩ := hd; exact ⟨ns, rfl, h⟩) a1 m1 r1⟩) he) fun M1 ds vs H1 Q ⟨ns, hds, hne, hk⟩ a1 r1 q => by
  subst hds
  obtain ⟨v, rfl, rv⟩ := r1.one
  obtain ⟨p1, xs, rfl, s1, l1⟩ := rv.tup_inv
  have e : (ns.map fun i => I i) = (ns.map V.int).map D.raw := by rw [List.map_map]; rfl
  rw [e] at l1
  rw [l1.raws] at s1
  exact ⟨p1, ns, rfl, s1, hne, fun m h1 h2 => q M1 _ _ H1 (hk m h1 h2) a1 (Mv.refl _ _) (.raw _)⟩
/-- a built-in class's name -/
theorem we_ty {x : Str} {T : String} {pos : Pos} (hg : Gl X x) (hm : X.mg x = none) (hv : bootBuiltins x = some (.type T)) (h : R M (.raw (.ty T))) (hn : x ≠ "__name__" := by decide) (hd : (x == ("__debug__" : Str)) = false := by decide) : WE X G W (.Name x pos) M ρ xr R :=
  we_of (pe_bltn (v := .ty T) hg hm hv rfl hn hd) (tev_c h)
/-- isinstance(x, T) of data -/
def tyD : D → String
  | .raw .non => "NoneType"
  | .raw (.bl _) => "bool"
  | .raw (.int _) => "int"
  | .raw (.str _) => "str"
  | .raw _ => "object"
  | .tup _ => "tuple"
  | .lst _ => "list"
  | .ext _ => "object"
theorem tyx_of {K : PySem.W.Frag} {Y : List Addr} {H : Hp} {v : V} {d : D} (r : Rp K Y H v d) (h : tyD d ≠ "object") : TyX K H v (.type (tyD d)) := by
  cases r with
  | raw =>
    cases v with
    | non => exact .base .non
    | bl b => exact .base (.bl b)
    | int b => exact .base (.int b)
    | str b => exact .base (.str b)
    | _ => exact absurd rfl h
  | tup s _ =>
    exact .base (.tup s)
  | lst s _ _ => exact .base (.lst s)
  | ext _ => exact absurd rfl h
theorem we_isi (hm : X.mg "isinstance" = none) (hg : Gl X "isinstance") (h : WA X G W [a, b] M ρ xr fun M1 ds => ∃ d T b0, ds = [d, .raw (.ty T)] ∧ tyD d ≠ "object" ∧ kitB (tyD d) T = some b0 ∧ R M1 (B b0)) (he : starEach [a, b] X.env = (false, eval a X.env) :: starEach [b] X.env := by rfl) (hpl : (backTo pos (starEach [b] X.env)).any (·.1) = false := by rfl) :
    WE X G W (.Call (.Name "isinstance" p) [a, b] [] pos) M ρ xr R :=
  we_bi (he := he) (hpl := hpl) (RA := fun M1 ds => ∃ d T b0, ds = [d, .raw (.ty T)] ∧ tyD d ≠ "object" ∧ kitB (tyD d) T = some b0 ∧ R M1 (B b0)) call_isi hm (by decide +kernel) hg h fun M1 ds vs H1 Q ⟨d, T, b0, hds, ho, hk, hr⟩ a1 r1 q => by
  subst hds
  obtain ⟨v, v', rfl, rv, rv'⟩ := r1.two
  obtain rfl := rv'.raw_inv
  exact ⟨v, _, _, _, b0, rfl, .ty T, tyx_of rv ho, kit_ty hk, q M1 _ _ H1 hr a1 (Mv.refl _ _) (.raw _)⟩
/-- o1[i1], o2[i2] = e, e' -/
theorem ws_sub2 (cx : Ct X G W k) {o1 i1 o2 i2 : Expr} {sp1 sp2 tp : Pos} {kt : Nat} (h : WE X G W e M ρ N.xr fun M1 d => ∃ z1 z2, d = .tup [z1, z2] ∧ WE X G W o1 M1 ρ N.xr fun M2 d1 => WE X G W i1 M2 ρ N.xr fun M3 y => IsI y fun iv => OwL M3 d1 fun n q l => ∃ j, ixN l.length iv = some j ∧
      WE X G W o2 (M3.set n (q, .lst (l.set j z1))) ρ N.xr fun M4 d2 => WE X G W i2 M4 ρ N.xr fun M5 y2 => IsI y2 fun iv2 => OwL M5 d2 fun n2 q2 l2 => ∃ j2, ixN l2.length iv2 = some j2 ∧ N.nx (M5.set n2 (q2, .lst (l2.set j2 z2))) ρ)
    (hp : ∀ {t1 t2 t3 t4 : TE}, PE X o1 t1 → PE X i1 t2 → PE X o2 t3 → PE X i2 t4 → PG X (.Tuple [.Subscript o1 i1 sp1, .Subscript o2 i2 sp2] kt tp) (gTup X.K 2 (gCons (gSub t1 t2 rSetL) (gCons (gSub t3 t4 rSetL) gNil))))
    (hs : swapsWithSole [.Tuple [.Subscript o1 i1 sp1, .Subscript o2 i2 sp2] kt tp] e pos.line X.env = pure false := by rfl) (hw : swappedStores [.Tuple [.Subscript o1 i1 sp1, .Subscript o2 i2 sp2] kt tp] e X.env = pure none := by rfl)
    (h1 : (assignEach [.Tuple [.Subscript o1 i1 sp1, .Subscript o2 i2 sp2] kt tp] X.env).map (·.2) = [assign (.Tuple [.Subscript o1 i1 sp1, .Subscript o2 i2 sp2] kt tp) X.env] := by rfl) : WS X G W (.Assign [.Tuple [.Subscript o1 i1 sp1, .Subscript o2 i2 sp2] kt tp] e pos) M ρ N :=
  ws_of (ps_asg pe_wp (hp pe_wp pe_wp pe_wp pe_wp) hs hw h1) fun σ H a0 b0 Dn x n r bk ct => by
  refine h σ H a0 b0 (xok_of x) _ fun M1 d v H1 h1 a1 m1 r1 => ?_
  obtain ⟨z1, z2, rfl, h1⟩ := h1
  obtain ⟨pt, vs, rfl, st, lt⟩ := r1.tup_inv
  obtain ⟨v1, v2, rfl, rz1, rz2⟩ := lt.two
  refine ⟨pt, [v1, v2], rfl, st, rfl, v1, [v2], rfl, ?_⟩
  refine h1 σ H1 a1 (m1.sl a0 b0) ((xok_of x).mv m1) _ fun M2 d1 u H2 h2 a2 m2 r2 => ?_
  refine h2 σ H2 a2 (m2.sl a1 (m1.sl a0 b0)) ((xok_of x).mv (m1.trans m2)) _ fun M3 y w H3 h3 a3 m3 r3 => ?_
  cases h3 with
  | mk h3 =>
  rename_i iv
  cases h3 with
  | mk ix hi h3 =>
  rename_i q l
  obtain ⟨j, hj, h3⟩ := h3
  obtain ⟨xs, e3, l3⟩ := at_ob a3 hi
  have m12 := (m1.trans m2).trans m3
  refine ⟨q, xs, iv, j, (m3.rp a2 r2).raw_inv, r3.raw_inv, e3, by rw [l3.length]; exact hj, ?_⟩
  have hm : Mv M3 H3 M3 (upd H3 q (.lst (xs.set j v1))) := ⟨fun b w e n _ => by
      rw [upd_ne (fun z => n (by rw [z]; exact mem_at hi))]; exact e, fun _ h => .inl h⟩
  obtain ⟨a4, m4⟩ := a3.write cx.gs (o' := .lst (l.set j z1)) hi (u := .lst (xs.set j v1)) (fun _ z => by cases z) ⟨_, upd_same, hm.rpl a3 (l3.set (m3.rp a2 (m2.rp a1 rz1)) j)⟩
  have m14 := m12.trans m4
  have rz2' := m4.rp a3 (m3.rp a2 (m2.rp a1 rz2))
  refine ⟨v2, [], rfl, ?_⟩
  refine h3 σ _ a4 (m14.sl a0 b0) ((xok_of x).mv m14) _ fun M4 d2 u2 H5 h5 a5 m5 r5 => ?_
  refine h5 σ H5 a5 ((m14.trans m5).sl a0 b0) ((xok_of x).mv (m14.trans m5)) _ fun M5 y2 w2 H6 h6 a6 m6 r6 => ?_
  cases h6 with
  | mk h6 =>
  rename_i iv2
  cases h6 with
  | mk ix2 hi2 h6 =>
  rename_i q2 l2
  obtain ⟨j2, hj2, h6⟩ := h6
  obtain ⟨xs2, e6, l6⟩ := at_ob a6 hi2
  have m16 := (m14.trans m5).trans m6
  refine ⟨q2, xs2, iv2, j2, (m6.rp a5 r5).raw_inv, r6.raw_inv, e6, by rw [l6.length]; exact hj2, rfl, ?_⟩
  have hm2 : Mv M5 H6 M5 (upd H6 q2 (.lst (xs2.set j2 v2))) := ⟨fun b w e n _ => by
      rw [upd_ne (fun z => n (by rw [z]; exact mem_at hi2))]; exact e, fun _ h => .inl h⟩
  obtain ⟨a7, m7⟩ := a6.write cx.gs (o' := .lst (l2.set j2 z2)) hi2 (u := .lst (xs2.set j2 v2)) (fun _ z => by cases z) ⟨_, upd_same, hm2.rpl a6 (l6.set (m6.rp a5 (m5.rp a4 rz2')) j2)⟩
  exact n _ _ σ _ h6 a7 ((m16.trans m7).sl a0 b0) (m16.trans m7)
end
/-! ### equality of data -/
theorem eqd_int (i j : Int) : eqd (I i) (I j) = decide (i = j) := by
  unfold eqd pyD; simp only [PyData.eqv]; rw [Bool.beq_eq_decide_eq]
theorem eqd_bl (i j : Bool) : eqd (B i) (B j) = decide (i = j) := by
  unfold eqd pyD; simp only [PyData.eqv]; rw [Bool.beq_eq_decide_eq]
theorem eqd_str (i j : Str) : eqd (Z i) (Z j) = decide (i = j) := by
  unfold eqd pyD; simp only [PyData.eqv]; exact beq_decide i j
theorem pyDs_ints (l : List Int) : pyDs (l.map fun i => I i) = l.map Datum.toD := by
  induction l with
  | nil => rfl
  | cons a l ih => simp only [List.map_cons, pyDs, ih]; rfl
theorem eqd_ints (i j : List Int) : eqd (byt i) (byt j) = decide (i = j) := by
  unfold eqd pyD; simp only [PyData.eqv, pyDs_ints]; exact eqvAll_map i j
theorem eqd_lints (i j : List Int) : eqd (.lst (i.map fun i => I i)) (.lst (j.map fun i => I i)) = decide (i = j) := by
  unfold eqd pyD; simp only [PyData.eqv, pyDs_ints]; exact eqvAll_map i j
theorem eqd_byt_str (i : List Int) (z : Str) : eqd (byt i) (Z z) = false := by
  unfold eqd pyD; simp only [PyData.eqv]
theorem pl_byt {n : Nat} (l : List Int) : Pl (n + 1) (byt l) := .tup fun x hx => by
  obtain ⟨i, _, rfl⟩ := List.mem_map.mp hx; exact .int i
theorem pl_lints {n : Nat} (l : List Int) : Pl (n + 1) (.lst (l.map fun i => I i)) := .lst fun x hx => by
  obtain ⟨i, _, rfl⟩ := List.mem_map.mp hx; exact .int i
theorem CmpD.eqI {i j : Int} {k : Bool → Prop} (h : k (decide (i = j))) : CmpD .Eq (I i) (I j) k := .eq (.int _) (.int _) (by rw [eqd_int]; exact h)
theorem CmpD.neI {i j : Int} {k : Bool → Prop} (h : k (!decide (i = j))) : CmpD .NotEq (I i) (I j) k := .ne (.int _) (.int _) (by rw [eqd_int]; exact h)
theorem CmpD.eqB {i j : Bool} {k : Bool → Prop} (h : k (decide (i = j))) : CmpD .Eq (B i) (B j) k := .eq (.bl _) (.bl _) (by rw [eqd_bl]; exact h)
theorem CmpD.neB {i j : Bool} {k : Bool → Prop} (h : k (!decide (i = j))) : CmpD .NotEq (B i) (B j) k := .ne (.bl _) (.bl _) (by rw [eqd_bl]; exact h)
theorem CmpD.eqZ {i j : Str} {k : Bool → Prop} (h : k (decide (i = j))) : CmpD .Eq (Z i) (Z j) k := .eq (.str _) (.str _) (by rw [eqd_str]; exact h)
theorem CmpD.neZ {i j : Str} {k : Bool → Prop} (h : k (!decide (i = j))) : CmpD .NotEq (Z i) (Z j) k := .ne (.str _) (.str _) (by rw [eqd_str]; exact h)
theorem CmpD.eqT {i j : List Int} {k : Bool → Prop} (h : k (decide (i = j))) : CmpD .Eq (byt i) (byt j) k := .eq (pl_byt _) (pl_byt _) (by rw [eqd_ints]; exact h)
theorem CmpD.neT {i j : List Int} {k : Bool → Prop} (h : k (!decide (i = j))) : CmpD .NotEq (byt i) (byt j) k := .ne (pl_byt _) (pl_byt _) (by rw [eqd_ints]; exact h)
theorem CmpD.eqTZ {i : List Int} {z : Str} {k : Bool → Prop} (h : k false) : CmpD .Eq (byt i) (Z z) k := .eq (pl_byt _) (.str _) (by rw [eqd_byt_str]; exact h)
theorem CmpD.neTZ {i : List Int} {z : Str} {k : Bool → Prop} (h : k true) : CmpD .NotEq (byt i) (Z z) k := .ne (pl_byt _) (.str _) (by rw [eqd_byt_str]; exact h)
theorem CmpD.eqN {l : List Int} {k : Bool → Prop} (h : k (decide (l = []))) : CmpD .Eq (.lst (l.map fun i => I i)) (.lst []) k := .eq (pl_lints _) (.lst fun _ h => by cases h) (by have := eqd_lints l []; rw [show ((([] : List Int).map fun i => I i)) = ([] : List D) from rfl] at this; rw [this]; exact h)
theorem CmpD.neN {l : List Int} {k : Bool → Prop} (h : k (!decide (l = []))) : CmpD .NotEq (.lst (l.map fun i => I i)) (.lst []) k := .ne (pl_lints _) (.lst fun _ h => by cases h) (by have := eqd_lints l []; rw [show ((([] : List Int).map fun i => I i)) = ([] : List D) from rfl] at this; rw [this]; exact h)
inductive IntD : D → (Int → Prop) → Prop
  | int {i : Int} {k : Int → Prop} (h : k i) : IntD (I i) k
  | bl {b : Bool} {k : Int → Prop} (h : k (if b then 1 else 0)) : IntD (B b) k
theorem we_int2 {X : Cx} {G : Hp → Prop} {W : WX} {M : Ms} {ρ : Rh} {xr : Value → Ms → Prop} {e : Expr} {pos p : Pos} {R : Ms → D → Prop} (hm : X.mg "int" = none) (hg : Gl X "int") (h : WE X G W e M ρ xr fun M1 d => IntD d fun i => R M1 (I i)) (he : starEach [e] X.env = (false, eval e X.env) :: starEach [] X.env := by rfl) :
    WE X G W (.Call (.Name "int" p) [e] [] pos) M ρ xr R := we_int1 hm hg (we_imp h fun M1 d h => by
  cases h with
  | int h => exact .inl ⟨_, rfl, h⟩
  | bl h => exact .inr ⟨_, rfl, h⟩) he
theorem turn_nil {X : Cx} {G : Hp → Prop} {k : Nat} {scope : Scope} {as : D → Rh → (Rh → Prop) → Prop} {elt : Expr} {ρ : Rh} {J : Nat → Ms → List D → Prop} {n : Nat} {z : D} (mono : ∀ d ρ (k k' : Rh → Prop), (∀ r, k r → k' r) → as d ρ k → as d ρ k')
    (h : ∀ q M' acc, J n M' acc → as z ρ fun ρ' => ∀ Y', Blk X scope Y' → Ct Y' G (fun _ _ _ _ => False) k → WE Y' G (fun _ _ _ _ => False) elt ((q, .lst acc) :: M') ρ' (fun _ _ => False) fun M3 y => ∃ M4, M3 = (q, .lst acc) :: M4 ∧ acc.length < sizeLine ∧ J (n + 1) M4 (acc ++ [y])) :
    TurnC X G k scope as [] elt ρ J n z := fun q M' acc hj => mono _ _ _ _ (fun ρ' hh Y hY cy => by
  unfold WTs
  exact (if_pos rfl).mpr hh) (h q M' acc hj)
end Wv
set_option maxRecDepth 100000
set_option maxHeartbeats 2000000
namespace Wv
open PySem PySem.Spec PyProof.Rows L2 PySem.W
section
variable {X : Cx} {scope : Scope} {x : Str} {v : Value} {P : Value → Prop}
theorem keeps_refl (s : Shared) : Keeps s s := ⟨s.heap, s.toks, rfl, fun _ _ e => e⟩
theorem keeps_tok (s : Shared) (k : Nat) : Keeps s { s with toks := k } := ⟨s.heap, k, rfl, fun _ _ e => e⟩
theorem keeps_trans {a b c : Shared} (h : Keeps a b) (h2 : Keeps b c) : Keeps a c := by
  obtain ⟨h', tk, rfl, k⟩ := h
  obtain ⟨h'', tk', rfl, k'⟩ := h2
  exact ⟨h'', tk', rfl, fun b o e => k' b o (k b o e)⟩
theorem QH.keeps {cenv : Env} {m : Str → Option Value} {s s' : Shared} (q : QH X scope x v cenv m s) (k : Keeps s s') : QH X scope x v cenv m s' := by
  obtain ⟨h', tk, rfl, k⟩ := k
  exact ⟨q.md, q.sc, q.gl, q.bl, fun b o e => k b o (q.bk b o e), q.ns.keeps k, q.at_⟩
theorem qe_x {p : Pos} (hk : scope.kind = .function) (hl : scope.names.lookup x = some .local) (hd : (x == ("__debug__" : Str)) = false := by decide) : Qe X scope x v (.Name x p) fun y => y = v := fun cenv A' E' s m q =>
  wpAny_Name (wpAny_loadName_local (by rw [q.sc]; exact hk) (show cenv.scope.names.lookup x = some .local by rw [q.sc]; exact hl) q.ns q.at_ ⟨rfl, keeps_refl _⟩) hd
theorem qe_glob {y : Str} {u : Value} {p : Pos} (hk : scope.kind = .function) (hg : scope.names.lookup y = some .globalImplicit) (hm : X.mg y = some u) (hd : (y == ("__debug__" : Str)) = false := by decide) : Qe X scope x v (.Name y p) fun z => z = u := fun cenv A' E' s m q =>
  Calls.Name_function_global (by rw [q.sc]; exact hk) (show cenv.scope.names.lookup y = _ by rw [q.sc]; exact hg) (Calls.loadGlobal_global (by rw [q.gl]; exact q.md.glob.keeps q.bk) hm ⟨rfl, keeps_refl _⟩) hd
theorem qe_blt {y : Str} {u : Value} {p : Pos} (hk : scope.kind = .function) (hg : scope.names.lookup y = some .globalImplicit) (hm : X.mg y = none) (hv : bootBuiltins y = some u) (hn : y ≠ "__name__" := by decide) (hd : (y == ("__debug__" : Str)) = false := by decide) : Qe X scope x v (.Name y p) fun z => z = u := fun cenv A' E' s m q => by
  obtain ⟨mb, h1, h2⟩ := q.md.blt
  exact Calls.Name_function_global (by rw [q.sc]; exact hk) (show cenv.scope.names.lookup y = _ by rw [q.sc]; exact hg) (Calls.loadGlobal_builtin (by rw [q.gl]; exact q.md.glob.keeps q.bk) hm (by rw [q.bl]; exact h1.keeps q.bk) ((h2 y hn).trans hv) ⟨rfl, keeps_refl _⟩) hd
theorem qe_int {i : Int} {j : Nat} {p : Pos} : Qe X scope x v (.Constant (.int i) j p) fun y => ∃ t, y = .int i t := fun cenv A' E' s m q => by
  have h : wpAny (model X.prog X.w) A' (eval (.Constant (.int i) j p) cenv) (fun y s₃ => (∃ t, y = .int i t) ∧ Keeps s s₃) E' s := wpAny_Constant_int ⟨⟨_, rfl⟩, keeps_tok _ _⟩
  exact h
/-- what is done behind -/
theorem Qe.then {e : Expr} {cenv : Env} {A' : Around} {E' : Value → Shared → Prop} {s : Shared} {m : Str → Option Value} {Q : Value → Shared → Prop} (h : Qe X scope x v e P) (q : QH X scope x v cenv m s) (k : ∀ y s', P y → Keeps s s' → QH X scope x v cenv m s' → Q y s') : wpAny (model X.prog X.w) A' (eval e cenv) Q E' s :=
  wpAny_mono (h cenv A' E' s m q) (fun y s' r => k y s' r.1 r.2 (q.keeps r.2)) fun _ _ e => e
theorem qe_notInS {a b : Expr} {p : Pos} {c : Nat} {z : Str} (ha : Qe X scope x v a fun y => ∃ t, y = .str ⟨#[c]⟩ t) (hb : Qe X scope x v b fun y => ∃ t, y = .str z t) (hm : behindInMarks .NotIn b = false := by with_unfolding_all rfl) : Qe X scope x v (.Compare a [.NotIn] [b] p) fun y => y = .bool (!decide (c ∈ z.cps.toList)) := fun cenv A' E' s m q => by
  refine wpAny_Compare1 (ha.then q ?_) hm
  rintro _ s1 ⟨t, rfl⟩ k1 q1
  refine hb.then q1 ?_
  rintro _ s2 ⟨u, rfl⟩ k2 q2
  exact PyProof.Rows.notIn_str ⟨congrArg (fun b => Value.bool (!b)) (PySem.StrLaws.found_one z c), keeps_trans k1 k2⟩
theorem qe_not {a : Expr} {p : Pos} {b : Bool} (ha : Qe X scope x v a fun y => y = .bool b) : Qe X scope x v (.UnaryOp .Not a p) fun y => y = .bool (!b) := fun cenv A' E' s m q => by
  refine UnaryOp_ (ha.then q ?_)
  rintro _ s1 rfl k1 q1
  exact not_of (wpAny_truthy_bool ⟨rfl, k1⟩)
theorem qe_or {a b : Expr} {p : Pos} {i j : Bool} (ha : Qe X scope x v a fun y => y = .bool i) (hb : Qe X scope x v b fun y => y = .bool j) : Qe X scope x v (.BoolOp .Or [a, b] p) fun y => y = .bool (i || j) := fun cenv A' E' s m q => by
  refine BoolOp_or (ha.then q ?_)
  rintro _ s1 rfl k1 q1
  refine wpAny_truthy_bool ?_
  cases i with
  | true => exact ⟨rfl, k1⟩
  | false =>
    refine BoolOp_one (hb.then q1 ?_)
    rintro _ s2 rfl k2 q2
    exact ⟨rfl, keeps_trans k1 k2⟩
/-- lo <= y < hi -/
theorem qe_between {a b c : Expr} {p : Pos} {i j k : Int} (ha : Qe X scope x v a fun y => ∃ t, y = .int i t) (hb : Qe X scope x v b fun y => ∃ t, y = .int j t) (hc : Qe X scope x v c fun y => ∃ t, y = .int k t) (hm : lastMarks [.LtE, .Lt] [b, c] = false := by with_unfolding_all rfl) : Qe X scope x v (.Compare a [.LtE, .Lt] [b, c] p) fun y => y = .bool (decide (i ≤ j) && decide (j < k)) := fun cenv A' E' s m q => by
  refine Compare_chain (ha.then q ?_) hm
  rintro _ s1 ⟨t, rfl⟩ k1 q1
  refine chain_link (hb.then q1 ?_)
  rintro _ s2 ⟨u, rfl⟩ k2 q2
  refine PyProof.Rows.le_int (wpAny_truthy_bool ?_)
  by_cases h : i ≤ j
  · rw [decide_eq_true h]
    refine iteT ?_
    refine chain_last (hc.then q2 ?_)
    rintro _ s3 ⟨w', rfl⟩ k3 q3
    exact PyProof.Rows.lt_int ⟨by simp, keeps_trans (keeps_trans k1 k2) k3⟩
  · rw [decide_eq_false h]
    exact iteF ⟨by simp, keeps_trans k1 k2⟩
/-- len(a) of a text -/
theorem qe_len {a : Expr} {p p2 : Pos} {z : Str} (hk : scope.kind = .function) (hg : scope.names.lookup ("len" : Str) = some .globalImplicit) (hm : X.mg "len" = none) (hz : z.length ≤ sizeLine) (ha : Qe X scope x v a fun y => ∃ t, y = .str z t)
    (he : ∀ cenv : Env, starEach [a] cenv = (false, eval a cenv) :: starEach [] cenv := by intro _; rfl) : Qe X scope x v (.Call (.Name "len" p) [a] [] p2) fun y => ∃ t, y = .int (z.length : Int) t := fun cenv A' E' s m q => by
  refine wpAny_Call_Name_kw ((qe_blt hk hg hm PySem.boot_len).then q ?_)
  rintro _ s1 rfl k1 q1
  refine PyProof.Rows.callWith_builtin1 ?_ (he cenv) (by rfl)
  rw [he cenv]
  show wpAny _ _ (spliced ((false, eval a cenv) :: backTo p2 (starEach [] cenv))) _ _ s1
  refine Calls.spliced_cons (ha.then q1 ?_)
  rintro _ s2 ⟨t, rfl⟩ k2 q2
  refine Calls.spliced_nil ?_
  have hn := line63
  exact len_str (by omega) ⟨⟨_, rfl⟩, keeps_trans (keeps_trans k1 k2) (keeps_tok _ _)⟩
/-- isinstance(a, T) of an int, a bool, a text -/
theorem qe_isi {a b : Expr} {p p2 : Pos} {u : Value} {T U : String} {r : Bool} (hk : scope.kind = .function) (hg : scope.names.lookup ("isinstance" : Str) = some .globalImplicit) (hm : X.mg "isinstance" = none) (ha : Qe X scope x v a fun y => y = u) (hb : Qe X scope x v b fun y => y = .type T)
    (hu : PySem.W.KitX X.K u (.type U) fun _ => True) (hx : u ≠ .builtin "__main__.__loader__#opaque") (hr : kitB U T = some r)
    (he : ∀ cenv : Env, starEach [a, b] cenv = (false, eval a cenv) :: starEach [b] cenv := by intro _; rfl) (he2 : ∀ cenv : Env, starEach [b] cenv = (false, eval b cenv) :: starEach [] cenv := by intro _; rfl) : Qe X scope x v (.Call (.Name "isinstance" p) [a, b] [] p2) fun y => y = .bool r := fun cenv A' E' s m q => by
  refine wpAny_Call_Name_kw ((qe_blt (u := .builtin "isinstance") hk hg hm (by decide +kernel)).then q ?_)
  rintro _ s1 rfl k1 q1
  refine PyProof.Rows.callWith_builtin1 ?_ (he cenv) (by rw [he2]; rfl)
  rw [he cenv, he2 cenv]
  show wpAny _ _ (spliced ((false, eval a cenv) :: (false, eval b cenv) :: backTo p2 (starEach [] cenv))) _ _ s1
  refine Calls.spliced_cons (ha.then q1 ?_)
  rintro _ s2 rfl k2 q2
  refine Calls.spliced_cons (hb.then q2 ?_)
  rintro _ s3 rfl k3 q3
  refine Calls.spliced_nil ?_
  refine PySem.W.kia_one hu (fun b o e => q3.bk b o (q3.md.kin b o e)) True.intro (kit_ty hr) hx fun tk => ⟨rfl, keeps_trans (keeps_trans (keeps_trans k1 k2) k3) (keeps_tok _ _)⟩
theorem Qe.imp {e : Expr} {P' : Value → Prop} (h : Qe X scope x v e P) (f : ∀ y, P y → P' y) : Qe X scope x v e P' := fun cenv A' E' s m q => wpAny_mono (h cenv A' E' s m q) (fun y s' r => ⟨f y r.1, r.2⟩) fun _ _ e => e
end
def genSB (scope : Scope) (x : Str) : Bool := decide (scope.kind = .function) && !scope.isCoroutine && decide (scope.names.lookup (".0" : Str) = some NameKind.local) && decide (scope.names.lookup x = some .local) && scope.names.all fun y => !decide (y.2 = .cell) && !decide (y.2 = .free)
theorem genS_by {env : Env} {scope : Scope} {x : Str} (h : genSB scope x = true) : GxR.GenS env scope x := by
  unfold genSB at h
  simp only [Bool.and_eq_true, Bool.not_eq_true', decide_eq_true_eq, decide_eq_false_iff_not, List.all_eq_true] at h
  obtain ⟨⟨⟨⟨h1, h2⟩, h3⟩, h4⟩, h5⟩ := h
  exact ⟨h1, h2, fun y hy => (h5 y hy).1, h3, h4, fun y hy e => absurd e (h5 y hy).2⟩
end Wv
set_option maxRecDepth 100000
set_option maxHeartbeats 2000000
namespace Wv
open PySem PySem.Spec PyProof.Rows L2
open LamX (CodeO TabS Tabs ExtN TabB lamEnv lamCx LamS LawAtS)
/-- the table of a def of the top, empty -/
def TabAt (mg : Str → Option Value) (h : Heap) (x : Str) : Prop := ∃ (a : Addr) (o : Obj) (fd : FuncData) (c P : Addr), mg x = some (.ref a) ∧ h.get? a = some o ∧ o.data = .func fd ∧ fd.code = .ref c ∧ h.IsCode c P #[] ∧ h.TableAt c P #[]
theorem walk_ofAll {l : PySem.W.OpenLaw} {n k : Nat} {q : Program} {loose : List Str} {XP : (Str → Option Value) → Heap → Prop} {YP : World → Heap → Prop} {d : DefRec} {K : Params → PySem.W.Frag} {CX : World → CXT} {x : Str}
    (hn : l.most = some n) (hn2 : n ≤ sizeLine) (hdf : d.params.defaults = []) (hr : Room k callerA) (hY : ∀ (w : World) (h : Heap), YP w h → (K w.params).In h)
    (F : ∀ (w : World) (mg : Str → Option Value) (fa : Addr) (h : Heap), YP w h → XP mg h → (K w.params).In h → h.Ns mainGlobals mg → mg d.name = some (.ref fa) → (∀ y, ((recsOf q).any fun e => e.name == y) = true → TabAt mg h y) → LawAtS l w (K w.params) (CX w) k n x mg fa h)
    (hCX : ∀ (w : World) (H : Hp) (s : Shared) (e : Value) (s' : Shared), CX w [] H s (fun _ _ _ => False) e s' → False) :
    PySem.W.WalkO q loose XP YP l.row.toRowW d [] (fun f vs => PySem.call f vs) := by
  refine Att.attach_callB hn hdf fun w s₀ s₁ mg mb fa o pm cd doc a vs ns G Y ho hd hcd hmg hobj hints hlen hbits hg => ?_
  have KX := hY w _ Y
  have tabs : ∀ y, ((recsOf q).any fun e => e.name == y) = true → TabAt mg s₁.heap y := fun y hy => by
    obtain ⟨dL, hm, hn1⟩ := List.any_eq_true.mp hy
    have hn2 : dL.name = y := beq_iff_eq.mp hn1
    obtain ⟨a', o', fd', c', P', h1, h2, h3, h4, h5, h6⟩ := G.T.tab dL hm
    rw [hn2] at h1
    exact ⟨a', o', fd', c', P', h1, h2, h3, h4, h5, h6⟩
  obtain ⟨fd, cs, sp, hT, nT, C, hb, hsp, hF⟩ := F w mg fa _ Y G.X KX G.T.g hmg tabs
  exact LamX.law_callTs KX G.T.g G.T.b G.T.builtins G.T.nolimit hg hT nT C G.T.bmain hobj hints (Nat.le_trans hlen hn2) hr hF hb (fun H hH hS => hsp H a ns hlen hbits hH hS) fun H e s' => hCX w H s₁ e s'
/-- .. by what the part K tells of it -/
theorem tab_of {K : PySem.W.Frag} {mg : Str → Option Value} {h : Heap} {x : Str} {f c Pt : Addr} {oc : Value} {od : Option Addr} {fd : FuncData} {sl : Array (Option Value)} {ec : Value} {dc : Option Addr} {vc : Array Value} {slc : Array (Option Value)} (X : K.In h) (T : TabAt mg h x) (hm : mg x = some (.ref f))
    (l : K.lookup f = some ⟨oc, od, .func fd, sl⟩) (hc : fd.code = .ref c) (lc : K.lookup c = some ⟨ec, dc, .fields vc, slc⟩) (v : vc[11]? = some (.ref Pt)) : h.get? Pt = some { cls := .none, data := .fields #[] } ∧ PySem.W.CodeHd h c Pt := by
  obtain ⟨a, o, fd', c', P, h1, h2, h3, h4, h5, h6⟩ := T
  rw [hm] at h1; cases h1
  rw [X _ _ l] at h2; cases h2
  cases h3
  rw [hc] at h4; cases h4
  have h6' := h6
  obtain ⟨⟨o2, vs, e1, e2, e3, e4⟩, hP⟩ := h6
  rw [X _ _ lc] at e1; cases e1
  cases e3
  rw [v] at e4; cases e4
  exact ⟨hP, PySem.W.CodeHd.of h5 h6'⟩
section
variable {P : Program} {w : World} {K : PySem.W.Frag} {mg : Str → Option Value} {base : Heap} {G : Hp → Prop}
/-- gf_ofT, the def's record told -/
theorem fnok_ofT {x qual : Str} {st : Stmt} {f c : Addr} {fd : FuncData} {N ps : List Str} {k : Nat} {S : SpD} (F : FunT K x qual st f fd c) (Sc : FnScope N ps (defScope st)) (gs : Gst G)
    (len : ∀ ds M xr R, S ds M xr R → ds.length = ps.length)
    (hbody : ∀ (X : Cx) (W : WX) (M : Ms) (ds : List D) (xr : Value → Ms → Prop) (R : Ms → D → Prop), (∃ A outer s H E, X = cxOf (L2N.CX P w) P w K mg base N qual (defScope st) f (.ref c) A outer s H E) → Ct X G W k → S ds M xr R →
      WSs X G W (defBody st) M (startD N ds) { nx := fun M' _ => R M' N0, rt := R, bk := fun _ _ => False, ct := fun _ _ => False, xr := xr }) : FnOk P w K mg base (L2N.CX P w) (k + 1) f fd ps (spOf G K S) := by
  obtain ⟨oc, od, kV, doc, pm, an, ct, osl, rfl, lk, hcd⟩ := F.ex
  refine fn_of lk hcd Sc (fun vs H Q E h => ?_) (fun A outer s H vs Q E hr h => ?_)
  · obtain ⟨M, ds, xr, R, _, r, hs, _⟩ := h
    rw [r.length]; exact len _ _ _ _ hs
  · obtain ⟨M, ds, xr, R, a, r, hs, q, e⟩ := h
    refine ⟨_, pss_wp, ?_⟩
    refine hbody _ (fun cls d _ H => E cls d H) M ds xr R ⟨A, outer, s, H, E, rfl⟩ ⟨gs, L2N.takes_of rfl rfl rfl rfl, hr, passes_of rfl, rfl, Sc.nd⟩ hs _ H a (sl_start r) _ (fun M' H' cls σ' hx ha hm => e cls M' H' hx ha hm)
      (fun M' ρ' σ' H' hk ha hb hm => q M' _ _ H' hk ha hm (.raw _)) (fun M' d v H' hk ha hm hr => q M' d v H' hk ha hm hr) (fun _ _ _ _ h => h.elim) (fun _ _ _ _ h => h.elim)
/-- the loose whole number of the top -/
theorem loose_int {p : Program} {lv : List (Str × PySem.W.WData)} {h : Heap} {x : Str} {i : Int} (X : PySem.W.XL p lv mg h) (hm : (x, PySem.W.WData.int i) ∈ lv) : ∃ t, mg x = some (.int i t) := by
  obtain ⟨v, e, r⟩ := X.2.val _ hm
  cases r with
  | int _ t => exact ⟨t, e⟩
end
end Wv
set_option maxRecDepth 100000
set_option maxHeartbeats 2000000
namespace Wv
open PySem PySem.Spec PyProof.Rows L2 PySem.W
section
variable {X : Cx} {G : Hp → Prop} {W : WX} {M : Ms} {ρ : Rh} {xr : Value → Ms → Prop} {N : En} {a b c e o : Expr} {es : List Expr} {pos p apos : Pos} {R : Ms → D → Prop} {k j : Nat}
def SP {α : Type} (M0 M : List α) : Prop := ∃ M1, List.Perm M1 M0 ∧ List.Sublist M1 M
theorem AtM.subperm {K : PySem.W.Frag} {M0 : Ms} {H : Hp} (a : AtM G K M H) (s : SP M0 M) : AtM G K M0 H ∧ Mv M H M0 H := by
  obtain ⟨M1, h1, h2⟩ := s
  obtain ⟨a1, m1⟩ := a.sub h2
  obtain ⟨a2, m2⟩ := a1.perm h1.symm
  exact ⟨a2, m1.trans m2⟩
theorem we_sp (h : WE X G W e M ρ xr fun M1 d => ∃ M0, SP M0 M1 ∧ R M0 d) : WE X G W e M ρ xr R := ⟨fun σ H a0 b0 x Q q => h σ H a0 b0 x Q fun M1 d v H1 h1 a1 m1 r1 => by
  obtain ⟨M0, s, hk⟩ := h1
  obtain ⟨a2, m2⟩ := a1.subperm s
  exact q M0 d v H1 hk a2 (m1.trans m2) (m2.rp a1 r1)⟩
theorem wt_sp {R : Ms → Bool → Prop} (h : WT X G W e M ρ xr fun M1 d => ∃ M0, SP M0 M1 ∧ R M0 d) : WT X G W e M ρ xr R := ⟨fun σ H a0 b0 x Q q => h σ H a0 b0 x Q fun M1 d H1 h1 a1 m1 => by
  obtain ⟨M0, s, hk⟩ := h1
  obtain ⟨a2, m2⟩ := a1.subperm s
  exact q M0 d H1 hk a2 (m1.trans m2)⟩
theorem sp_cons {α : Type} {x : α} {l : List α} : SP l (x :: l) := ⟨l, List.Perm.refl _, List.sublist_cons_self _ _⟩
theorem sp_swap {α : Type} {x y : α} {l : List α} : SP (y :: l) (y :: x :: l) := ⟨_, List.Perm.refl _, (List.sublist_cons_self x l).cons_cons y⟩
end
theorem CmpD.neI_s {i : Int} {k : Bool → Prop} (h : k false) : CmpD .NotEq (I i) (I i) k := .neI (by rw [decide_eq_true rfl]; exact h)
theorem CmpD.neT_s {i : List Int} {k : Bool → Prop} (h : k false) : CmpD .NotEq (byt i) (byt i) k := .neT (by rw [decide_eq_true rfl]; exact h)
theorem CmpD.neZ_s {i : Str} {k : Bool → Prop} (h : k false) : CmpD .NotEq (Z i) (Z i) k := .neZ (by rw [decide_eq_true rfl]; exact h)
theorem CmpD.eqZ_s {i : Str} {k : Bool → Prop} (h : k true) : CmpD .Eq (Z i) (Z i) k := .eqZ (by rw [decide_eq_true rfl]; exact h)
theorem CmpD.neB_s {i : Bool} {k : Bool → Prop} (h : k false) : CmpD .NotEq (B i) (B i) k := .neB (by rw [decide_eq_true rfl]; exact h)
theorem CmpD.neN_s {k : Bool → Prop} (h : k false) : CmpD .NotEq (.lst []) (.lst []) k := .neN (l := []) (by rw [decide_eq_true rfl]; exact h)
theorem CmpD.eqN_s {k : Bool → Prop} (h : k true) : CmpD .Eq (.lst []) (.lst []) k := .eqN (l := []) (by rw [decide_eq_true rfl]; exact h)
theorem BinD.addB {i j : List Int} {k : D → Prop} (z : i.length + j.length ≤ 1000000) (h : k (byt (i ++ j))) : BinD .Add (byt i) (byt j) k := .addT (sz1 (by rw [List.length_map, List.length_map]; exact z)) (by rw [← List.map_append]; exact h)
end Wv
set_option maxRecDepth 100000
set_option maxHeartbeats 4000000
namespace Wv
open PySem PySem.Spec PyProof.Rows L2 PySem.W
/-- xs.extend(t), t any tuple -/
theorem ext_tup (l b : Addr) (its its2 : Array Value) (n n2 : Nat) (dd : Option Addr) (sl : Array (Option Value)) (h0 : ¬ (!its.isEmpty && Builtin.List.listTooLong (its.size + its2.size)) = true) (h1 : its.size ≤ sizeLine) (h2 : its.size + its2.size ≤ sizeLine + 1) :
    Meets (Builtin.«list.extend» ⟨[.ref l, .ref b], []⟩) fun _ R s => (s.heap.get? l = some { cls := .type "list", data := .seq its n } ∧ s.heap.get? b = some { cls := .type "tuple", dict := dd, data := .seq its2 n2, slots := sl }) ∧
      R (.ok (.ret Value.none)) { s with heap := s.heap.update l (Obj.mapSeq fun x => x ++ its2), toks := s.toks } :=
  .of_wp fun prog w A R s h => by
    obtain ⟨hp, g, d, tk, os⟩ := s
    obtain ⟨⟨hl, hb⟩, h⟩ := h
    have k1 := AutoSeq1.idx_int
    have k2 := AutoSeq1.sub_tuple_tuple
    have k3 := AutoSeq1.sub_list_list
    have k4 := AutoSeq1.sub_tuple_list
    have k5 := AutoSeq1.sub_list_tuple
    have hz : (its ++ its2).size ≤ sizeLine + 1 := by rw [Array.size_append]; exact h2
    wp_walk using (wpAny_updateSeq hl rfl (hz := h1) (_hz' := hz)), wpAny_loadPart' hl, wpAny_loadPart' hb
    exact ⟨_, rfl, h⟩
def rExtT (K : PySem.W.Frag) : V → List V → Hp → VK → Prop := fun x vs H Q => ∃ l b xs zs, x = .ref l ∧ vs = [.ref b] ∧ H l = some (.lst xs) ∧ SqT K H b zs ∧ xs.length + zs.length ≤ sizeLine ∧ Q .non (upd H l (.lst (xs ++ zs)))
theorem mt_extT {X : Cx} : MtM X "list.extend" (rExtT X.K) := by
  intro pins s σ H x vs v us Q I rx rv h
  obtain ⟨l, b, xs, zs, rfl, rfl, hH, hB, hz, q⟩ := h
  cases rx
  obtain ⟨u, rfl, ru⟩ := rv.one
  cases ru
  obtain ⟨z, its, n, r, hl, e⟩ := I.lstM hH
  obtain ⟨its2, r2, ⟨⟨oc, dd, od, sl⟩, e2, hc, n2, hd⟩, hz2⟩ := I.tuple hB
  simp only at hc hd
  subst hc hd
  have hl2 : zs.length = its2.length := r2.length
  have hsz : its.toArray.size + its2.toArray.size ≤ sizeLine := by rw [List.size_toArray, List.size_toArray]; omega
  have hlong : ¬ (!its.toArray.isEmpty && Builtin.List.listTooLong (its.toArray.size + its2.toArray.size)) = true := by
    rw [notLongL hsz, Bool.and_false]
    exact Bool.false_ne_true
  refine call_meets F.slot_list_extend ⟨_, e, rfl⟩ F.entry_list_extend (F.args_list_extend_2 _ _) (ext_tup l b its.toArray its2.toArray n n2 dd sl hlong (by rw [List.size_toArray]; omega) (by omega)) ⟨⟨e, e2⟩, ?_⟩
  refine ⟨.non, _, I.lset (its' := its ++ its2) hH e (by simp) (r.append r2) ?_, rfl, q⟩
  rw [List.length_append]
  omega
section
variable {X : Cx} {G : Hp → Prop} {W : WX} {M : Ms} {ρ : Rh} {xr : Value → Ms → Prop} {N : En} {a b c e o : Expr} {es : List Expr} {pos p apos : Pos} {R : Ms → D → Prop} {k j : Nat}
/-- xs.extend(e), xs a list of ours, e a tuple -/
theorem we_extT (gs : Gst G) (h : WE X G W o M ρ xr fun M1 d => OwL M1 d fun _ q _ => WE X G W e M1 ρ xr fun M2 z => IsT z fun zs => OwL M2 (Rf q) fun i _ l => l.length + zs.length ≤ sizeLine ∧ R (M2.set i (q, .lst (l ++ zs))) N0)
    (hb : PE X (.Call (.Attribute o "extend" apos) [e] [] pos) (tBM X.K "list" (rExtT X.K) (eT X o) (aT X [e]))) (he : starEach [e] X.env = (false, eval e X.env) :: starEach [] X.env := by rfl) : WE X G W (.Call (.Attribute o "extend" apos) [e] [] pos) M ρ xr R :=
  we_of hb fun σ H a0 b0 x Q q => h σ H a0 b0 x _ fun M1 d v H1 h1 a1 m1 r1 => by
  cases h1 with
  | mk i0 hi0 h1 =>
  rename_i q0 l0
  obtain ⟨xs0, s0, _⟩ := at_ob a1 hi0
  obtain rfl := r1.raw_inv
  refine ⟨.inl ⟨rfl, xs0, SqL.of s0⟩, ?_⟩
  refine wa_one (RA := fun M2 ds => ∃ zs, ds = [.tup zs] ∧ OwL M2 (Rf q0) fun i _ l => l.length + zs.length ≤ sizeLine ∧ R (M2.set i (q0, .lst (l ++ zs))) N0) (⟨fun σ H a0 b0 x Q q => h1 σ H a0 b0 x Q fun M1 d v H1 hd a1 m1 r1 => q M1 d v H1 (by cases hd with | mk h => exact ⟨_, rfl, h⟩) a1 m1 r1⟩) he σ H1 a1 (m1.sl a0 b0) (x.mv m1) _ fun M2 ds vs H2 h2 a2 m2 r2 => ?_
  obtain ⟨zs, rfl, h2⟩ := h2
  cases h2 with
  | mk i hi h2 =>
  rename_i l
  obtain ⟨hl, hk⟩ := h2
  obtain ⟨u, rfl, ru⟩ := r2.one
  obtain ⟨pt, us, rfl, st, lt⟩ := ru.tup_inv
  obtain ⟨xs, s1, l1⟩ := at_ob a2 hi
  refine ⟨q0, pt, xs, us, rfl, rfl, s1, st, by rw [l1.length, lt.length]; exact hl, ?_⟩
  have hm : Mv M2 H2 M2 (upd H2 q0 (.lst (xs ++ us))) := ⟨fun b w e n _ => by
      rw [upd_ne (fun z => n (by rw [z]; exact mem_at hi))]; exact e, fun _ h => .inl h⟩
  obtain ⟨a3, m3⟩ := a2.write gs (o' := .lst (l ++ zs)) hi (u := .lst (xs ++ us)) (fun _ z => by cases z) ⟨_, upd_same, (hm.rpl a2 l1).app (hm.rpl a2 lt)⟩
  exact q _ _ _ _ hk a3 ((m1.trans m2).trans m3) (.raw _)
/-- o.f += e of ints -/
theorem ws_fldAdd {f : Str} {tpos : Pos} (gs : Gst G) (h : WE X G W o M ρ N.xr fun M1 d => OwI M1 d fun _ q C fs => Cls X.K C ∧ NoAttr X.K C f ∧ ∃ i : Int, fs.lookup f = some (I i) ∧ WE X G W e M1 ρ N.xr fun M2 z => IsI z fun w => OwI M2 (Rf q) fun j _ C' fs' => C' = C ∧ fs'.length < 1000 ∧ N.nx (M2.set j (q, .ins C (putD f (I (i + w)) fs'))) ρ) : WS X G W (.AugAssign (.Attribute o f tpos) .Add e pos) M ρ N :=
  ws_of (ps_fldaug pe_wp pe_wp in_add) fun σ H a0 b0 Dn x n r bk ct => by
  refine h σ H a0 b0 (xok_of x) _ fun M1 d v H1 h1 a1 m1 r1 => ?_
  cases h1 with
  | mk i0 hi0 h1 =>
  rename_i q C fs
  obtain ⟨c, na, i, hl, h1⟩ := h1
  obtain ⟨dx, vs, e1, rf⟩ := at_ob a1 hi0
  obtain ⟨v', e', r'⟩ := rf.look hl
  refine ⟨q, C, dx, vs, v', r1.raw_inv, e1, c, na, e', ?_⟩
  refine h1 σ H1 a1 (m1.sl a0 b0) ((xok_of x).mv m1) _ fun M2 z u H2 h2 a2 m2 r2 => ?_
  cases h2 with
  | mk h2 =>
  rename_i w
  cases h2 with
  | mk j hj h2 =>
  rename_i C' fs'
  obtain ⟨rfl, hlen, hk⟩ := h2
  obtain ⟨dx2, vs2, e2, rf2⟩ := at_ob a2 hj
  refine ⟨i, w, r'.raw_inv, r2.raw_inv, dx2, vs2, e2, by rw [rf2.len]; exact hlen, ?_⟩
  have hm : Mv M2 H2 M2 (upd H2 q (.ins C' dx2 (putF f (.int (i + w)) vs2))) := ⟨fun b w e n _ => by
      rw [upd_ne (fun z => n (by rw [z]; exact mem_at hj))]; exact e, fun _ h => .inl h⟩
  obtain ⟨a3, m3⟩ := a2.write gs (o' := .ins C' (putD f (I (i + w)) fs')) hj (u := .ins C' dx2 (putF f (.int (i + w)) vs2)) (fun _ z => by cases z) ⟨dx2, _, upd_same, (rf2.put f (.raw _)).1, hm.rpl a2 (rf2.put f (.raw _)).2⟩
  exact n _ _ σ _ hk a3 (m3.sl a2 ((m1.trans m2).sl a0 b0)) ((m1.trans m2).trans m3)
end
section
variable {X : Cx} {G : Hp → Prop} {W : WX} {M : Ms} {ρ : Rh} {N : En}
theorem wss_sp {ss : List Stmt} {M0 : Ms} (s : SP M0 M) (h : WSs X G W ss M0 ρ N) : WSs X G W ss M ρ N := ⟨fun σ H a0 b0 Dn x n r bk ct => by
  obtain ⟨a1, m1⟩ := a0.subperm s
  exact h σ H a1 (m1.sl a0 b0) Dn (fun M' H' cls σ' hx ha hm => x M' H' cls σ' hx ha (m1.trans hm)) (fun M' ρ' σ' H' hk ha hb hm => n M' ρ' σ' H' hk ha hb (m1.trans hm))
    (fun M' d v H' hk ha hm => r M' d v H' hk ha (m1.trans hm)) (fun M' ρ' σ' H' hk ha hb hm => bk M' ρ' σ' H' hk ha hb (m1.trans hm)) (fun M' ρ' σ' H' hk ha hb hm => ct M' ρ' σ' H' hk ha hb (m1.trans hm))⟩
end
end Wv
set_option maxRecDepth 100000
set_option maxHeartbeats 2000000
namespace Wv
open PySem PySem.Spec PyProof.Rows L2 PySem.W
theorem eqd_self {d : D} (h : Pl 60 d) : eqd d d = true := PySem.SeqAt.eqv_refl_plain _ h.plain.1
theorem CmpD.ne_s {d : D} {k : Bool → Prop} (p : Pl 60 d) (h : k false) : CmpD .NotEq d d k := .ne p p (by rw [eqd_self p]; exact h)
theorem CmpD.eq_s {d : D} {k : Bool → Prop} (p : Pl 60 d) (h : k true) : CmpD .Eq d d k := .eq p p (by rw [eqd_self p]; exact h)
theorem rep_byt (n : Nat) (i : Int) : D.tup (List.replicate n [I i]).flatten = byt (List.replicate n i) := by
  rw [byt, List.map_replicate]
  congr 1
  induction n with
  | zero => rfl
  | succ n ih => rw [List.replicate_succ, List.flatten_cons, ih, List.replicate_succ]; rfl
theorem BinD.repB {i : Int} {n : Nat} {k : D → Prop} (h1 : 2 ≤ n) (h2 : n ≤ 1000) (h : k (byt (List.replicate n i))) : BinD .Mult (byt [i]) (I (n : Int)) k := .mulT (by simp) (by omega) (by omega) (by simp) (by rw [Int.toNat_natCast]; exact (rep_byt n i) ▸ h)
theorem pl_byts {n : Nat} (l : List (List Int)) : Pl (n + 2) (.tup (l.map byt)) := .tup fun x hx => by
  obtain ⟨i, _, rfl⟩ := List.mem_map.mp hx; exact pl_byt _
theorem pl_lbyts {n : Nat} (l : List (List Int)) : Pl (n + 2) (.lst (l.map byt)) := .lst fun x hx => by
  obtain ⟨i, _, rfl⟩ := List.mem_map.mp hx; exact pl_byt _
end Wv
set_option maxRecDepth 100000
set_option maxHeartbeats 2000000
namespace Wv
open PySem PySem.Spec PyProof.Rows L2 PySem.W
section
variable {X : Cx} {G : Hp → Prop} {W : WX} {M : Ms} {ρ : Rh} {N : En} {pos : Pos}
/-- x, y, z = a, b, c -/
theorem ws_par3 (i j l : Nat) {x y z : Str} {a b c : Expr} {px py pz pt : Pos} {kt k2 pt2} (h : WA X G W [a, b, c] M ρ N.xr fun M1 ds => ∃ d1 d2 d3, ds = [d1, d2, d3] ∧ N.nx M1 (((ρ.set i (some d1)).set j (some d2)).set l (some d3)))
    (hp : PS X (.Assign [.Tuple [.Name x px, .Name y py, .Name z pz] kt pt] (.Tuple [a, b, c] k2 pt2) pos) (tPar3 i j l (aT X [a, b, c]))) : WS X G W (.Assign [.Tuple [.Name x px, .Name y py, .Name z pz] kt pt] (.Tuple [a, b, c] k2 pt2) pos) M ρ N :=
  ws_of hp fun σ H a0 b0 Dn x n r bk ct => h σ H a0 b0 (xok_of x) _ fun M1 ds vs H1 h1 a1 m1 r1 => by
  obtain ⟨d1, d2, d3, rfl, h1⟩ := h1
  cases r1 with
  | cons ra rb => cases rb with
    | cons rb rc => cases rc with
      | cons rc rd => cases rd; exact ⟨_, _, _, rfl, n M1 _ _ H1 h1 a1 ((((m1.sl a0 b0).set i ra).set j rb).set l rc) m1⟩
end
section
variable {X : Cx} {G : Hp → Prop} {W : WX} {M : Ms} {ρ : Rh} {N : En} {pos : Pos} {k : Nat} {tg it : Expr} {g : TG} {as : D → Rh → (Rh → Prop) → Prop} {body : List Stmt}
/-- a for whose J knows what is walked -/
theorem ws_forL (cx : Ct X G W k) (hg : PG X tg g) (ok : GOk G X.K g as) (J : List D → Nat → Ms → Rh → Prop)
    (h : WI X G W tg it M ρ N.xr fun M1 l => J l 0 M1 ρ ∧ (∀ n z, l[n]? = some z → Turn X G W as body N (J l) n z) ∧ ∀ M' ρ', J l l.length M' ρ' → N.nx M' ρ')
    (hsf : ∀ x, foldedSetIterable it X.env x = pure x := by intro _; rfl) : WS X G W (.For tg it body [] pos) M ρ N := by
  obtain ⟨wi, hi, h⟩ := h
  refine ws_of (ps_for cx.hp cx.hc hi hg pss_wp hsf) fun σ H a0 b0 Dn x n r bk ct => h σ H a0 b0 (xok_of x) _ fun M1 l H1 Jt h1 a1 m1 wd => ?_
  obtain ⟨j0, ht, he⟩ := h1
  obtain ⟨Gd, Y, w, hG, hY⟩ := wd
  refine for_it w (fun i σ' H' => ∃ M' ρ', J l i M' ρ' ∧ AtM G X.K M' H' ∧ Sl X.K (dom M') H' σ' ρ' ∧ Mv M1 H1 M' H') ⟨M1, ρ, j0, a1, m1.sl a0 b0, Mv.refl _ _⟩ (fun i σ' H' _ ⟨M', ρ', _, ha, _, hm⟩ => hG _ _ ha hm) ?_ ?_
  · rintro i v σ' H' H3 hi ⟨M', ρ', hj, ha, hb, hm⟩ y
    obtain ⟨z, hz, ha3, hm3, rz⟩ := hY i H' M' v H3 ha hm y
    refine ok v z M' ρ' σ' H3 _ _ ha3 (hm3.sl ha hb) rz (ht i z hz M' ρ' hj) fun ρ2 σ2 hw hs => ?_
    have m13 := (m1.trans hm).trans hm3
    exact hw σ2 H3 ha3 hs _ (fun M2 H2 cls σ3 hx ha2 hm2 => x M2 H2 cls σ3 hx ha2 (m13.trans hm2)) (fun M2 ρ3 σ3 H3 hk ha2 hb2 hm2 => ⟨M2, ρ3, hk, ha2, hb2, (hm.trans hm3).trans hm2⟩)
      (fun M2 d v H2 hk ha2 hm2 => r M2 d v H2 hk ha2 (m13.trans hm2)) (fun M2 ρ3 σ3 H3 hk ha2 hb2 hm2 => n M2 ρ3 σ3 H3 hk ha2 hb2 (m13.trans hm2)) (fun M2 ρ3 σ3 H3 hk ha2 hb2 hm2 => ⟨M2, ρ3, hk, ha2, hb2, (hm.trans hm3).trans hm2⟩)
  · rintro σ' H' ⟨M', ρ', hj, ha, hb, hm⟩
    exact n M' ρ' σ' H' (he M' ρ' hj) ha hb (m1.trans hm)
end
end Wv
set_option maxRecDepth 100000
set_option maxHeartbeats 2000000
namespace Wv
open PySem PySem.Spec PyProof.Rows L2 PySem.W
/-- a value as data: itself, or a list of ours by its items -/
inductive Vw (M : Ms) : D → D → Prop
  | self (d : D) : Vw M d d
  | own {q : Addr} {l : List D} (j : Nat) (o : M[j]? = some (q, .lst l)) : Vw M (Rf q) (.lst l)
theorem dp_vw {G : Hp → Prop} {K : PySem.W.Frag} {M : Ms} {H : Hp} {x : V} {d d' : D} {n : Nat} (a : AtM G K M H) (r : Rp K (dom M) H x d) (v : Vw M d d') (p : Pl n d') : Dp K H x (pyD d') := by
  cases v with
  | self => exact Rp.dp p r
  | own j o =>
    rw [r.raw_inv]
    exact Rp.dp p (a.dropAt o).2.2
inductive CmpV (M : Ms) : CmpOp → D → D → (Bool → Prop) → Prop
  | eq {d e d' e' : D} {k : Bool → Prop} (v1 : Vw M d d') (v2 : Vw M e e') (p1 : Pl 60 d') (p2 : Pl 60 e') (h : k (eqd d' e')) : CmpV M .Eq d e k
  | ne {d e d' e' : D} {k : Bool → Prop} (v1 : Vw M d d') (v2 : Vw M e e') (p1 : Pl 60 d') (p2 : Pl 60 e') (h : k (!eqd d' e')) : CmpV M .NotEq d e k
section
variable {X : Cx} {G : Hp → Prop} {W : WX} {M : Ms} {ρ : Rh} {xr : Value → Ms → Prop} {N : En} {a b c e o : Expr} {es : List Expr} {pos p apos : Pos} {R : Ms → D → Prop} {k j : Nat}
theorem cmpV_ok (hu : X.A.units + 64 < cLine) {op : CmpOp} {x y : V} {d e : D} {H : Hp} {Q : VK} (a : AtM G X.K M H) (rx : Rp X.K (dom M) H x d) (ry : Rp X.K (dom M) H y e) (h : CmpV M op d e fun b => Q (.bl b) H) :
    rW X (compareOp op) x y H Q := by
  cases h with
  | eq v1 v2 p1 p2 h =>
    intro pins s σ v u I rv ru
    obtain ⟨as, r1⟩ := Dp.reads I _ x v (dp_vw a rx v1 p1) rv
    obtain ⟨bs, r2⟩ := Dp.reads I _ y u (dp_vw a ry v2 p2) ru
    have h1 := p1.plain.2
    exact PySem.SeqAt.eq_plain r1 r2 p1.plain.1 p2.plain.1 (by omega) ⟨.bl _, H, I, rfl, h⟩
  | ne v1 v2 p1 p2 h =>
    intro pins s σ v u I rv ru
    obtain ⟨as, r1⟩ := Dp.reads I _ x v (dp_vw a rx v1 p1) rv
    obtain ⟨bs, r2⟩ := Dp.reads I _ y u (dp_vw a ry v2 p2) ru
    have h1 := p1.plain.2
    exact PySem.SeqAt.ne_plain r1 r2 p1.plain.1 p2.plain.1 (by omega) ⟨.bl _, H, I, rfl, h⟩
theorem CmpV.imp {op : CmpOp} {d e : D} {k k' : Bool → Prop} (h : CmpV M op d e k) (f : ∀ b, k b → k' b) : CmpV M op d e k' := by
  cases h with
  | eq v1 v2 p1 p2 h => exact .eq v1 v2 p1 p2 (f _ h)
  | ne v1 v2 p1 p2 h => exact .ne v1 v2 p1 p2 (f _ h)
theorem we_cmpV (hu : X.A.units + 64 < cLine) {op : CmpOp} (h : WE X G W a M ρ xr fun M1 d => WE X G W b M1 ρ xr fun M2 e => CmpV M2 op d e fun k => R M2 (B k)) (hm : behindInMarks op b = false := by rfl) :
    WE X G W (.Compare a [op] [b] pos) M ρ xr R :=
  we_of (pe_cmpR op_rW pe_wp pe_wp hm) (tev_op (F := fun d e M R => CmpV M op d e fun k => R M (B k)) (fun M x y d e H Q a rx ry h q => cmpV_ok hu a rx ry (h.imp fun k hk => q M _ _ H hk a (Mv.refl _ _) (.raw _))) (h.run.mono fun _ _ z => z.run))
theorem wt_cmpV (hu : X.A.units + 64 < cLine) {op : CmpOp} {R : Ms → Bool → Prop} (h : WE X G W a M ρ xr fun M1 d => WE X G W b M1 ρ xr fun M2 e => CmpV M2 op d e (R M2)) (hm : behindInMarks op b = false := by rfl) :
    WT X G W (.Compare a [op] [b] pos) M ρ xr R := wt_of (pt_cmpR op_rW pe_wp pe_wp hm) fun σ H a0 b0 x Q q => by
  refine h σ H a0 b0 x _ fun M1 d v H1 h1 a1 m1 r1 => ?_
  refine h1 σ H1 a1 (m1.sl a0 b0) (x.mv m1) _ fun M2 e u H2 h2 a2 m2 r2 => ?_
  exact cmpV_ok hu a2 (m2.rp a1 r1) r2 (h2.imp fun k hk => ⟨k, rfl, q M2 k H2 hk a2 (m1.trans m2)⟩)
/-- xs.pop(i), xs a list of ours -/
theorem we_popAt (gs : Gst G) (h : WE X G W o M ρ xr fun M1 d => OwL M1 d fun _ q _ => WE X G W e M1 ρ xr fun M2 z => IsI z fun iv => OwL M2 (Rf q) fun i _ l => ∃ n y, -(2 ^ 63) ≤ iv ∧ iv < 2 ^ 63 ∧ seqIndex? iv l.length = some n ∧ l[n]? = some y ∧ R (M2.set i (q, .lst (l.eraseIdx n))) y)
    (hb : PE X (.Call (.Attribute o "pop" apos) [e] [] pos) (tBM X.K "list" rPopAt (eT X o) (aT X [e]))) (he : starEach [e] X.env = (false, eval e X.env) :: starEach [] X.env := by rfl) : WE X G W (.Call (.Attribute o "pop" apos) [e] [] pos) M ρ xr R :=
  we_of hb fun σ H a0 b0 x Q q => h σ H a0 b0 x _ fun M1 d v H1 h1 a1 m1 r1 => by
  cases h1 with
  | mk i0 hi0 h1 =>
  rename_i q0 l0
  obtain ⟨xs0, s0, _⟩ := at_ob a1 hi0
  obtain rfl := r1.raw_inv
  refine ⟨.inl ⟨rfl, xs0, SqL.of s0⟩, ?_⟩
  refine wa_one (RA := fun M2 ds => ∃ iv : Int, ds = [I iv] ∧ OwL M2 (Rf q0) fun i _ l => ∃ n y, -(2 ^ 63) ≤ iv ∧ iv < 2 ^ 63 ∧ seqIndex? iv l.length = some n ∧ l[n]? = some y ∧ R (M2.set i (q0, .lst (l.eraseIdx n))) y) (⟨fun σ H a0 b0 x Q q => h1 σ H a0 b0 x Q fun M1 d v H1 hd a1 m1 r1 => q M1 d v H1 (by cases hd with | mk h => exact ⟨_, rfl, h⟩) a1 m1 r1⟩) he σ H1 a1 (m1.sl a0 b0) (x.mv m1) _ fun M2 ds vs H2 h2 a2 m2 r2 => ?_
  obtain ⟨iv, rfl, h2⟩ := h2
  cases h2 with
  | mk i hi h2 =>
  rename_i l
  obtain ⟨n, y, z1, z2, hn, hy, hk⟩ := h2
  obtain ⟨u, rfl, ru⟩ := r2.one
  obtain rfl := ru.raw_inv
  obtain ⟨xs, s1, l1⟩ := at_ob a2 hi
  obtain ⟨w, ew, rw'⟩ := l1.get hy
  refine ⟨q0, xs, iv, n, w, rfl, rfl, s1, z1, z2, by rw [l1.length]; exact hn, ew, ?_⟩
  have hm : Mv M2 H2 M2 (upd H2 q0 (.lst (xs.eraseIdx n))) := ⟨fun b w e n _ => by
      rw [upd_ne (fun z => n (by rw [z]; exact mem_at hi))]; exact e, fun _ h => .inl h⟩
  obtain ⟨a3, m3⟩ := a2.write gs (o' := .lst (l.eraseIdx n)) hi (u := .lst (xs.eraseIdx n)) (fun _ z => by cases z) ⟨_, upd_same, (hm.rpl a2 l1).erase n⟩
  exact q _ _ _ _ hk a3 ((m1.trans m2).trans m3) (m3.rp a2 rw')
end
/-- a divisor within bounds -/
structure PosD (j : Int) : Prop where
  pos : 0 < j
  top : j < 1180591620717411303424
theorem BinD.modP {i j : Int} {k : D → Prop} (z : PosD j) (h : k (I (i % j))) : BinD .Mod (I i) (I j) k := .modI z.pos h
theorem BinD.divP {i j : Int} {k : D → Prop} (z : PosD j) (h : k (I (i / j))) : BinD .FloorDiv (I i) (I j) k := .divI z.pos z.top h
theorem PosD.len {α : Type} {l : List α} (h : 0 < l.length) (h2 : l.length ≤ 1000000) : PosD (l.length : Int) := ⟨by omega, by omega⟩
theorem seqIx {k n : Nat} (h : k < n) : seqIndex? (k : Int) n = some k := by
  unfold seqIndex?
  have h1 : ¬ ((k : Int) < 0) := by omega
  simp only [h1, if_false]
  have h2 : (decide (0 ≤ (k : Int)) && decide ((k : Int) < (n : Int))) = true := by
    simp only [Bool.and_eq_true, decide_eq_true_eq]; omega
  simp [h2, h]
section
variable {P : Program} {w : World} {K : PySem.W.Frag} {mg : Str → Option Value} {base : Heap} {G : Hp → Prop}
/-- THE RULE of a def with defaults -/
theorem gf_ofD {x qual : Str} {st : Stmt} {f : Addr} {fd : FuncData} {N ps : List Str} {k : Nat} {S : SpD} {dvs dd : List V} {dv : List Value} (F : FunD K x qual (defArgs st) (defBody st) (defScope st) dvs [] f fd) (Sc : FnScope N ps (defScope st)) (gs : Gst G) (bd : L2.Binds K fd ps dv) (dr : Vals dd dv)
    (len : ∀ ds M xr R, S ds M xr R → ds.length = ps.length)
    (hbody : ∀ (X : Cx) (W : WX) (M : Ms) (ds : List D) (xr : Value → Ms → Prop) (R : Ms → D → Prop), (∃ cdv A outer s H E, X = cxOf (L2N.CX P w) P w K mg base N qual (defScope st) f cdv A outer s H E) → Ct X G W k → S ds M xr R →
      WSs X G W (defBody st) M (startD N ds) { nx := fun M' _ => R M' N0, rt := R, bk := fun _ _ => False, ct := fun _ _ => False, xr := xr }) : Gf P w K mg base G (k + 1) f dd S := by
  refine ⟨⟨fd, ps, dv, F.ok Sc (fun vs H Q E h => ?_) (fun cdv A outer s H vs Q E hr h => ?_), bd, dr⟩, F.kp⟩
  · obtain ⟨M, ds, xr, R, _, r, hs, _⟩ := h
    rw [r.length]; exact len _ _ _ _ hs
  · obtain ⟨M, ds, xr, R, a, r, hs, q, e⟩ := h
    refine ⟨_, pss_wp, ?_⟩
    refine hbody _ (fun cls d _ H => E cls d H) M ds xr R ⟨cdv, A, outer, s, H, E, rfl⟩ ⟨gs, L2N.takes_of rfl rfl rfl rfl, hr, passes_of rfl, rfl, Sc.nd⟩ hs _ H a (sl_start r) _ (fun M' H' cls σ' hx ha hm => e cls M' H' hx ha hm)
      (fun M' ρ' σ' H' hk ha hb hm => q M' _ _ H' hk ha hm (.raw _)) (fun M' d v H' hk ha hm hr => q M' d v H' hk ha hm hr) (fun _ _ _ _ h => h.elim) (fun _ _ _ _ h => h.elim)
end
end Wv
set_option maxRecDepth 100000
set_option maxHeartbeats 2000000
namespace Wv
open PySem PySem.Spec PyProof.Rows L2 PySem.W
/-! ### dicts of ours -/
section
variable {κ : Type} [DecidableEq κ]
def valD (kvs : List (κ × D)) (k : κ) : Option D := (kvs.find? fun kv => decide (kv.1 = k)).map (·.2)
def putM (kvs : List (κ × D)) (k : κ) (v : D) : List (κ × D) :=
  if (kvs.any fun kv => decide (kv.1 = k)) = true then kvs.map (fun kv => if kv.1 = k then (kv.1, v) else kv) else kvs ++ [(k, v)]
def dropM (kvs : List (κ × D)) (k : κ) : List (κ × D) := kvs.filter fun kv => decide (kv.1 ≠ k)
/-- named by keys of any kind -/
def RpG (K : PySem.W.Frag) (X : List Addr) (H : Hp) (vs : List (κ × V)) (fs : List (κ × D)) : Prop := vs.map (·.1) = fs.map (·.1) ∧ RpL K X H (vs.map (·.2)) (fs.map (·.2))
variable {K : PySem.W.Frag} {X : List Addr} {H : Hp}
theorem RpG.nil : RpG (κ := κ) K X H [] [] := ⟨rfl, .nil⟩
theorem RpG.cons_inv {vs : List (κ × V)} {f : κ × D} {fs : List (κ × D)} (h : RpG K X H vs (f :: fs)) : ∃ v vr, vs = (f.1, v) :: vr ∧ Rp K X H v f.2 ∧ RpG K X H vr fs := by
  obtain ⟨h1, h2⟩ := h
  cases vs with
  | nil => cases h1
  | cons p r =>
    obtain ⟨k, v⟩ := p
    simp only [List.map_cons, List.cons.injEq] at h1
    obtain ⟨e, h1⟩ := h1
    subst e
    simp only [List.map_cons] at h2
    cases h2 with
    | cons a b => exact ⟨v, r, rfl, a, h1, b⟩
theorem RpG.cons {k : κ} {v : V} {z : D} {vs : List (κ × V)} {fs : List (κ × D)} (a : Rp K X H v z) (b : RpG K X H vs fs) : RpG K X H ((k, v) :: vs) ((k, z) :: fs) := ⟨by simp only [List.map_cons, b.1], .cons a b.2⟩
theorem RpG.val {k : κ} : ∀ {fs : List (κ × D)} {vs : List (κ × V)}, RpG K X H vs fs → (valD fs k = none ∧ valV vs k = none) ∨ ∃ z v, valD fs k = some z ∧ valV vs k = some v ∧ Rp K X H v z
  | [], vs, h => by
    have : vs = [] := by have := h.1; simpa using this
    subst this
    exact .inl ⟨rfl, rfl⟩
  | (j, z) :: fs, vs, h => by
    obtain ⟨v, vr, rfl, a, b⟩ := h.cons_inv
    by_cases e : j = k
    · exact .inr ⟨z, v, by simp [valD, List.find?_cons, e], valV_pos e, a⟩
    · have e1 : valD ((j, z) :: fs) k = valD fs k := by simp [valD, List.find?_cons, e]
      rw [e1, valV_neg (p := (j, v)) e]
      exact b.val
theorem RpG.any {k : κ} : ∀ {fs : List (κ × D)} {vs : List (κ × V)}, RpG K X H vs fs → (vs.any fun kv => decide (kv.1 = k)) = (fs.any fun kv => decide (kv.1 = k))
  | [], vs, h => by
    have : vs = [] := by have := h.1; simpa using this
    subst this; rfl
  | (j, z) :: fs, vs, h => by
    obtain ⟨v, vr, rfl, a, b⟩ := h.cons_inv
    simp only [List.any_cons, b.any]
theorem RpG.map {k : κ} {y : V} {w : D} (r : Rp K X H y w) : ∀ {fs : List (κ × D)} {vs : List (κ × V)}, RpG K X H vs fs → RpG K X H (vs.map fun kv => if kv.1 = k then (kv.1, y) else kv) (fs.map fun kv => if kv.1 = k then (kv.1, w) else kv)
  | [], vs, h => by
    have : vs = [] := by have := h.1; simpa using this
    subst this; exact .nil
  | (j, z) :: fs, vs, h => by
    obtain ⟨v, vr, rfl, a, b⟩ := h.cons_inv
    simp only [List.map_cons]
    by_cases e : j = k
    · simp only [e, if_true]; exact .cons r (b.map r)
    · simp only [e, if_false]; exact .cons a (b.map r)
theorem RpG.app {fs gs : List (κ × D)} {vs us : List (κ × V)} (a : RpG K X H vs fs) (b : RpG K X H us gs) : RpG K X H (vs ++ us) (fs ++ gs) := ⟨by simp only [List.map_append, a.1, b.1], by simp only [List.map_append]; exact a.2.app b.2⟩
theorem RpG.put {k : κ} {y : V} {w : D} {fs : List (κ × D)} {vs : List (κ × V)} (h : RpG K X H vs fs) (r : Rp K X H y w) : RpG K X H (putK vs k y) (putM fs k w) := by
  unfold putK putM
  rw [h.any]
  split
  · exact h.map r
  · exact h.app (.cons r .nil)
theorem RpG.drop {k : κ} : ∀ {fs : List (κ × D)} {vs : List (κ × V)}, RpG K X H vs fs → RpG K X H (dropK vs k) (dropM fs k)
  | [], vs, h => by
    have : vs = [] := by have := h.1; simpa using this
    subst this; exact .nil
  | (j, z) :: fs, vs, h => by
    obtain ⟨v, vr, rfl, a, b⟩ := h.cons_inv
    unfold dropK dropM
    simp only [List.filter_cons]
    by_cases e : j = k
    · simp only [e, ne_eq, not_true_eq_false, decide_false, Bool.false_eq_true, if_false]; exact b.drop
    · simp only [e, ne_eq, not_false_eq_true, decide_true, if_true]; exact .cons a b.drop
theorem RpG.len {fs : List (κ × D)} {vs : List (κ × V)} (h : RpG K X H vs fs) : vs.length = fs.length := by
  have := congrArg List.length h.1
  simpa using this
end
abbrev kD (k : Key) : D := .raw (kV k)
/-- a dict d of ours holds r at the key y -/
inductive DV (M : Ms) : D → D → Option D → Prop
  | k {q : Addr} {kvs : List (Key × D)} (j : Nat) (e : M[j]? = some (q, .dK kvs)) (key : Key) : DV M (Rf q) (kD key) (valD kvs key)
  | t {q : Addr} {kvs : List (List Key × D)} (j : Nat) (e : M[j]? = some (q, .dT kvs)) (key : List Key) : DV M (Rf q) (.tup (key.map kD)) (valD kvs key)
  | fk {q : Addr} {o : Obj} {vs : List (Key × V)} {kvs : List (Key × D)} (j : Nat) (e : M[j]? = some (q, .fK o vs kvs)) (key : Key) : DV M (Rf q) (kD key) (valD kvs key)
  | ft {q : Addr} {o : Obj} {vs : List (List Key × V)} {kvs : List (List Key × D)} (j : Nat) (e : M[j]? = some (q, .fT o vs kvs)) (key : List Key) : DV M (Rf q) (.tup (key.map kD)) (valD kvs key)
/-- .. is given z there -/
inductive DP (M : Ms) : D → D → D → (Ms → Prop) → Prop
  | k {q : Addr} {kvs : List (Key × D)} {z : D} {R : Ms → Prop} (j : Nat) (e : M[j]? = some (q, .dK kvs)) (key : Key) (hl : kvs.length < sizeLine) (h : R (M.set j (q, .dK (putM kvs key z)))) : DP M (Rf q) (kD key) z R
  | t {q : Addr} {kvs : List (List Key × D)} {z : D} {R : Ms → Prop} (j : Nat) (e : M[j]? = some (q, .dT kvs)) (key : List Key) (hl : kvs.length < sizeLine) (h : R (M.set j (q, .dT (putM kvs key z)))) : DP M (Rf q) (.tup (key.map kD)) z R
theorem keys_vs {K : PySem.W.Frag} {Y : List Addr} {H : Hp} : ∀ {key : List Key} {xs : List V}, RpL K Y H xs (key.map kD) → xs = key.map kV
  | [], xs, h => by cases h; rfl
  | k :: key, xs, h => by
    cases h with
    | cons a b => rw [a.raw_inv, keys_vs b]; rfl
section
variable {G : Hp → Prop} {K : PySem.W.Frag} {M : Ms} {H : Hp}
theorem at_obK {i : Nat} {q : Addr} {u : O} (a : AtM G K M H) (h : M[i]? = some (q, u)) : OAt K (dom M) H q u := a.ob _ (List.mem_of_getElem? h)
theorem dv_get {x y : V} {d k : D} {r : Option D} (a : AtM G K M H) (rx : Rp K (dom M) H x d) (ry : Rp K (dom M) H y k) (h : DV M d k r) :
    ∃ p o, x = .ref p ∧ IsD H p ∧ DGet H p y o ∧ ((r = none ∧ o = none) ∨ ∃ z v, r = some z ∧ o = some v ∧ Rp K (dom M) H v z) := by
  cases h with
  | k j e key =>
    obtain ⟨vs, e1, r1⟩ := at_obK a e
    rw [rx.raw_inv, ry.raw_inv]
    refine ⟨_, _, rfl, .inl ⟨_, .inl e1⟩, DGet.k e1, ?_⟩
    exact RpG.val (κ := Key) r1
  | t j e key =>
    obtain ⟨vs, e1, r1⟩ := at_obK a e
    rw [rx.raw_inv]
    obtain ⟨b, xs, rfl, eb, lb⟩ := ry.tup_invH
    rw [keys_vs lb] at eb
    exact ⟨_, _, rfl, .inr ⟨_, .inl e1⟩, DGet.t e1 eb, RpG.val (κ := List Key) r1⟩
  | fk j e key =>
    obtain ⟨e1, r1⟩ := at_obK a e
    rw [rx.raw_inv, ry.raw_inv]
    exact ⟨_, _, rfl, .inl ⟨_, .inr ⟨_, e1⟩⟩, .inl ⟨_, _, .inr ⟨_, e1⟩, rfl, rfl⟩, RpG.val (κ := Key) r1⟩
  | ft j e key =>
    obtain ⟨e1, r1⟩ := at_obK a e
    rw [rx.raw_inv]
    obtain ⟨b, xs, rfl, eb, lb⟩ := ry.tup_invH
    rw [keys_vs lb] at eb
    exact ⟨_, _, rfl, .inr ⟨_, .inr ⟨_, e1⟩⟩, .inr ⟨_, _, _, .inr ⟨_, e1⟩, rfl, eb, rfl⟩, RpG.val (κ := List Key) r1⟩
theorem dp_put {x y v : V} {d k z : D} {R : Ms → Prop} (gs : Gst G) (a : AtM G K M H) (rx : Rp K (dom M) H x d) (ry : Rp K (dom M) H y k) (rv : Rp K (dom M) H v z) (h : DP M d k z R) :
    ∃ p H', x = .ref p ∧ DPut H p y v H' ∧ ∃ M', R M' ∧ AtM G K M' H' ∧ Mv M H M' H' := by
  cases h with
  | k j e key hl h =>
    rename_i q kvs
    obtain ⟨vs, e1, r1⟩ := at_obK a e
    rw [rx.raw_inv, ry.raw_inv]
    have hm : Mv M H M (upd H q (.dK (putK vs key v))) := ⟨fun b w e n _ => by
      rw [upd_ne (fun z => n (by rw [z]; exact mem_at (by assumption)))]; exact e, fun _ h => .inl h⟩
    obtain ⟨a3, m3⟩ := a.write gs (o' := .dK (putM kvs key z)) e (u := .dK (putK vs key v)) (fun _ z => by cases z) ⟨_, upd_same, by
      have := RpG.put (κ := Key) (k := key) (show RpG K (dom M) (upd H q (.dK (putK vs key v))) vs kvs from ⟨r1.1, hm.rpl a r1.2⟩) (hm.rp a rv)
      exact this⟩
    exact ⟨_, _, rfl, DPut.k e1 (by rw [RpG.len (κ := Key) r1]; exact hl), _, h, a3, m3⟩
  | t j e key hl h =>
    rename_i q kvs
    obtain ⟨vs, e1, r1⟩ := at_obK a e
    rw [rx.raw_inv]
    obtain ⟨b, xs, rfl, eb, lb⟩ := ry.tup_invH
    rw [keys_vs lb] at eb
    have hm : Mv M H M (upd H q (.dT (putK vs key v))) := ⟨fun b w e n _ => by
      rw [upd_ne (fun z => n (by rw [z]; exact mem_at (by assumption)))]; exact e, fun _ h => .inl h⟩
    obtain ⟨a3, m3⟩ := a.write gs (o' := .dT (putM kvs key z)) e (u := .dT (putK vs key v)) (fun _ z => by cases z) ⟨_, upd_same, by
      have := RpG.put (κ := List Key) (k := key) (show RpG K (dom M) (upd H q (.dT (putK vs key v))) vs kvs from ⟨r1.1, hm.rpl a r1.2⟩) (hm.rp a rv)
      exact this⟩
    exact ⟨_, _, rfl, DPut.t e1 eb (by rw [RpG.len (κ := List Key) r1]; exact hl), _, h, a3, m3⟩
end
section
variable {X : Cx} {G : Hp → Prop} {W : WX} {M : Ms} {ρ : Rh} {xr : Value → Ms → Prop} {N : En} {a b c e f o i : Expr} {es : List Expr} {pos p apos : Pos} {R : Ms → D → Prop} {k j : Nat}
theorem hu1 {X : Cx} {G : Hp → Prop} {W : WX} {k : Nat} (cx : Ct X G W k) : X.A.units + 1 < cLine := by have := cx.hu; omega
/-- {} -/
theorem we_dnewK (gs : Gst G) (h : ∀ q, R ((q, .dK []) :: M) (Rf q)) : WE X G W (.Dict [] [] pos) M ρ xr R := we_of pe_dnewK fun σ H a0 b0 x Q q => by
  intro p hp
  obtain ⟨a1, m1⟩ := a0.own gs (o := .dK []) (fun b v e => upd_grow hp b v e) hp ⟨[], upd_same, rfl, .nil⟩
  exact q _ _ _ _ (h p) a1 m1 (.raw _)
theorem we_dnewT (gs : Gst G) (h : ∀ q, R ((q, .dT []) :: M) (Rf q)) : WE X G W (.Dict [] [] pos) M ρ xr R := we_of pe_dnewT fun σ H a0 b0 x Q q => by
  intro p hp
  obtain ⟨a1, m1⟩ := a0.own gs (o := .dT []) (fun b v e => upd_grow hp b v e) hp ⟨[], upd_same, rfl, .nil⟩
  exact q _ _ _ _ (h p) a1 m1 (.raw _)
/-- d[y] -/
theorem we_dget (cx : Ct X G W k) (h : WE X G W o M ρ xr fun M1 d => WE X G W i M1 ρ xr fun M2 y => ∃ z, DV M2 d y (some z) ∧ R M2 z) (hs : NoSl i := by intro _ _; rfl) : WE X G W (.Subscript o i pos) M ρ xr R :=
  we_of (pe_dget (hu1 cx) pe_wp pe_wp hs) fun σ H a0 b0 x Q q => h σ H a0 b0 x _ fun M1 d v H1 h1 a1 m1 r1 => h1 σ H1 a1 (m1.sl a0 b0) (x.mv m1) _ fun M2 y u H2 h2 a2 m2 r2 => by
  obtain ⟨z, hd, hk⟩ := h2
  obtain ⟨p, ov, e1, _, g, hc⟩ := dv_get a2 (m2.rp a1 r1) r2 hd
  rcases hc with ⟨z1, _⟩ | ⟨z', w, z1, rfl, rw'⟩
  · cases z1
  · cases z1
    exact ⟨p, w, e1, g, q M2 _ _ H2 hk a2 (m1.trans m2) rw'⟩
/-- y in d, y not in d -/
theorem we_din (cx : Ct X G W k) (h : WE X G W i M ρ xr fun M1 y => WE X G W o M1 ρ xr fun M2 d => ∃ r, DV M2 d y r ∧ R M2 (B r.isSome)) (hm : behindInMarks .In o = false := by rfl) : WE X G W (.Compare i [.In] [o] pos) M ρ xr R :=
  we_of (pe_cmp (pc_din (hu1 cx) pe_wp pe_wp) hm) fun σ H a0 b0 x Q q => h σ H a0 b0 x _ fun M1 y v H1 h1 a1 m1 r1 => h1 σ H1 a1 (m1.sl a0 b0) (x.mv m1) _ fun M2 d u H2 h2 a2 m2 r2 => by
  obtain ⟨r, hd, hk⟩ := h2
  obtain ⟨p, ov, e1, _, g, hc⟩ := dv_get a2 r2 (m2.rp a1 r1) hd
  have e : r.isSome = ov.isSome := by rcases hc with ⟨rfl, rfl⟩ | ⟨z, w, rfl, rfl, _⟩ <;> rfl
  rw [e] at hk
  exact ⟨p, ov, e1, g, q M2 _ _ H2 hk a2 (m1.trans m2) (.raw _)⟩
theorem we_dnotin (cx : Ct X G W k) (h : WE X G W i M ρ xr fun M1 y => WE X G W o M1 ρ xr fun M2 d => ∃ r, DV M2 d y r ∧ R M2 (B (!r.isSome))) (hm : behindInMarks .NotIn o = false := by rfl) : WE X G W (.Compare i [.NotIn] [o] pos) M ρ xr R :=
  we_of (pe_cmp (pc_dnotin (hu1 cx) pe_wp pe_wp) hm) fun σ H a0 b0 x Q q => h σ H a0 b0 x _ fun M1 y v H1 h1 a1 m1 r1 => h1 σ H1 a1 (m1.sl a0 b0) (x.mv m1) _ fun M2 d u H2 h2 a2 m2 r2 => by
  obtain ⟨r, hd, hk⟩ := h2
  obtain ⟨p, ov, e1, _, g, hc⟩ := dv_get a2 r2 (m2.rp a1 r1) hd
  have e : r.isSome = ov.isSome := by rcases hc with ⟨rfl, rfl⟩ | ⟨z, w, rfl, rfl, _⟩ <;> rfl
  rw [e] at hk
  exact ⟨p, ov, e1, g, q M2 _ _ H2 hk a2 (m1.trans m2) (.raw _)⟩
theorem wt_din (cx : Ct X G W k) {R : Ms → Bool → Prop} (h : WE X G W i M ρ xr fun M1 y => WE X G W o M1 ρ xr fun M2 d => ∃ r, DV M2 d y r ∧ R M2 r.isSome) (hm : behindInMarks .In o = false := by rfl) : WT X G W (.Compare i [.In] [o] pos) M ρ xr R :=
  wt_of (pt_cmp (pc_din (hu1 cx) pe_wp pe_wp) hm) fun σ H a0 b0 x Q q => h σ H a0 b0 x _ fun M1 y v H1 h1 a1 m1 r1 => h1 σ H1 a1 (m1.sl a0 b0) (x.mv m1) _ fun M2 d u H2 h2 a2 m2 r2 => by
  obtain ⟨r, hd, hk⟩ := h2
  obtain ⟨p, ov, e1, _, g, hc⟩ := dv_get a2 r2 (m2.rp a1 r1) hd
  have e : r.isSome = ov.isSome := by rcases hc with ⟨rfl, rfl⟩ | ⟨z, w, rfl, rfl, _⟩ <;> rfl
  rw [e] at hk
  exact ⟨p, ov, e1, g, _, rfl, q M2 _ H2 hk a2 (m1.trans m2)⟩
theorem wt_dnotin (cx : Ct X G W k) {R : Ms → Bool → Prop} (h : WE X G W i M ρ xr fun M1 y => WE X G W o M1 ρ xr fun M2 d => ∃ r, DV M2 d y r ∧ R M2 (!r.isSome)) (hm : behindInMarks .NotIn o = false := by rfl) : WT X G W (.Compare i [.NotIn] [o] pos) M ρ xr R :=
  wt_of (pt_cmp (pc_dnotin (hu1 cx) pe_wp pe_wp) hm) fun σ H a0 b0 x Q q => h σ H a0 b0 x _ fun M1 y v H1 h1 a1 m1 r1 => h1 σ H1 a1 (m1.sl a0 b0) (x.mv m1) _ fun M2 d u H2 h2 a2 m2 r2 => by
  obtain ⟨r, hd, hk⟩ := h2
  obtain ⟨p, ov, e1, _, g, hc⟩ := dv_get a2 r2 (m2.rp a1 r1) hd
  have e : r.isSome = ov.isSome := by rcases hc with ⟨rfl, rfl⟩ | ⟨z, w, rfl, rfl, _⟩ <;> rfl
  rw [e] at hk
  exact ⟨p, ov, e1, g, _, rfl, q M2 _ H2 hk a2 (m1.trans m2)⟩
/-- d[y] = e -/
theorem ws_dput (cx : Ct X G W k) {spos : Pos} (h : WE X G W e M ρ N.xr fun M1 z => WE X G W o M1 ρ N.xr fun M2 d => WE X G W i M2 ρ N.xr fun M3 y => DP M3 d y z fun M4 => N.nx M4 ρ)
    (hs : swapsWith e (some (.Subscript o i spos)) pos.line X.env = pure false := by rfl) : WS X G W (.Assign [.Subscript o i spos] e pos) M ρ N :=
  ws_of (ps_dput (hu1 cx) pe_wp pe_wp pe_wp hs) fun σ H a0 b0 Dn x n r bk ct => h σ H a0 b0 (xok_of x) _ fun M1 z v H1 h1 a1 m1 r1 => h1 σ H1 a1 (m1.sl a0 b0) ((xok_of x).mv m1) _ fun M2 d u H2 h2 a2 m2 r2 => by
  have m12 := m1.trans m2
  refine h2 σ H2 a2 (m12.sl a0 b0) ((xok_of x).mv m12) _ fun M3 y y' H3 h3 a3 m3 r3 => ?_
  have m13 := m12.trans m3
  obtain ⟨pp, H4, e1, g, M4, hk, a4, m4⟩ := dp_put cx.gs a3 (m3.rp a2 r2) r3 (m3.rp a2 (m2.rp a1 r1)) h3
  exact ⟨pp, H4, e1, g, n M4 _ _ _ hk a4 ((m13.trans m4).sl a0 b0) (m13.trans m4)⟩
/-- del d[y] -/
theorem ws_ddel (cx : Ct X G W k) {spos : Pos} (h : WE X G W o M ρ N.xr fun M1 d => WE X G W i M1 ρ N.xr fun M2 y => ∃ (j : Nat) (q : Addr) (kvs : List (Key × D)) (key : Key), d = Rf q ∧ M2[j]? = some (q, .dK kvs) ∧ y = kD key ∧ (valD kvs key).isSome = true ∧ N.nx (M2.set j (q, .dK (dropM kvs key))) ρ) : WS X G W (.Delete [.Subscript o i spos] pos) M ρ N :=
  ws_of (ps_ddel pe_wp pe_wp) fun σ H a0 b0 Dn x n r bk ct => h σ H a0 b0 (xok_of x) _ fun M1 d v H1 h1 a1 m1 r1 => h1 σ H1 a1 (m1.sl a0 b0) ((xok_of x).mv m1) _ fun M2 y u H2 h2 a2 m2 r2 => by
  obtain ⟨j, q0, kvs, key, rfl, hj, rfl, hs, hk⟩ := h2
  obtain ⟨vs, e1, g1⟩ := at_ob a2 hj
  have m12 := m1.trans m2
  have hm : Mv M2 H2 M2 (upd H2 q0 (.dK (dropK vs key))) := ⟨fun b w e n _ => by
      rw [upd_ne (fun z => n (by rw [z]; exact mem_at hj))]; exact e, fun _ h => .inl h⟩
  obtain ⟨a3, m3⟩ := a2.write cx.gs (o' := .dK (dropM kvs key)) hj (u := .dK (dropK vs key)) (fun _ z => by cases z) ⟨_, upd_same, by
    have := RpG.drop (κ := Key) (k := key) (show RpG X.K (dom M2) (upd H2 q0 (.dK (dropK vs key))) vs kvs from ⟨g1.1, hm.rpl a2 g1.2⟩)
    exact this⟩
  refine ⟨q0, vs, key, by rw [(m2.rp a1 r1).raw_inv], e1, by rw [r2.raw_inv], ?_, n _ _ _ _ hk a3 ((m12.trans m3).sl a0 b0) (m12.trans m3)⟩
  rcases RpG.val (κ := Key) (k := key) g1 with ⟨z1, _⟩ | ⟨z, w, _, z2, _⟩
  · rw [z1] at hs; cases hs
  · rw [z2]; rfl
/-- d.get(y), d.get(y, e) -/
theorem we_dget1 (cx : Ct X G W k) (h : WE X G W o M ρ xr fun M1 d => (∃ (j : Nat) (q : Addr), d = Rf q ∧ ((∃ kvs, M1[j]? = some (q, .dK kvs)) ∨ ∃ kvs, M1[j]? = some (q, .dT kvs))) ∧ WE X G W e M1 ρ xr fun M2 y => ∃ r, DV M2 d y r ∧ R M2 (r.getD N0)) (m : M1 X o "get" apos e pos) : WE X G W (.Call (.Attribute o "get" apos) [e] [] pos) M ρ xr R :=
  we_of (pe_dget1 (hu1 cx) pe_wp pe_wp m) fun σ H a0 b0 x Q q => h σ H a0 b0 x _ fun M1 d v H1 h1 a1 m1 r1 => by
  obtain ⟨⟨j, q0, rfl, hj⟩, h1⟩ := h1
  refine ⟨q0, by rw [r1.raw_inv], ?_, h1 σ H1 a1 (m1.sl a0 b0) (x.mv m1) _ fun M2 y u H2 h2 a2 m2 r2 => ?_⟩
  · rcases hj with ⟨kvs, hj⟩ | ⟨kvs, hj⟩
    · obtain ⟨vs, e1, _⟩ := at_ob a1 hj; exact .inl ⟨_, .inl e1⟩
    · obtain ⟨vs, e1, _⟩ := at_ob a1 hj; exact .inr ⟨_, .inl e1⟩
  · obtain ⟨r, hd, hk⟩ := h2
    obtain ⟨p, ov, e1, _, g, hc⟩ := dv_get a2 (m2.rp a1 r1) r2 hd
    have e2 := (m2.rp a1 r1).raw_inv
    rw [e1] at e2
    cases e2
    refine ⟨ov, g, ?_⟩
    rcases hc with ⟨rfl, rfl⟩ | ⟨z, w, rfl, rfl, rw'⟩
    · exact q M2 _ _ H2 hk a2 (m1.trans m2) (.raw _)
    · exact q M2 _ _ H2 hk a2 (m1.trans m2) rw'
theorem we_dget2 (cx : Ct X G W k) (h : WE X G W o M ρ xr fun M1 d => (∃ (j : Nat) (q : Addr), d = Rf q ∧ ((∃ kvs, M1[j]? = some (q, .dK kvs)) ∨ ∃ kvs, M1[j]? = some (q, .dT kvs))) ∧ WE X G W e M1 ρ xr fun M2 y => WE X G W f M2 ρ xr fun M3 z => ∃ r, DV M3 d y r ∧ R M3 (r.getD z)) (m : M2 X o "get" apos e f pos) : WE X G W (.Call (.Attribute o "get" apos) [e, f] [] pos) M ρ xr R :=
  we_of (pe_dget2 (hu1 cx) pe_wp pe_wp pe_wp m) fun σ H a0 b0 x Q q => h σ H a0 b0 x _ fun M1 d v H1 h1 a1 m1 r1 => by
  obtain ⟨⟨j, q0, rfl, hj⟩, h1⟩ := h1
  refine ⟨q0, by rw [r1.raw_inv], ?_, h1 σ H1 a1 (m1.sl a0 b0) (x.mv m1) _ fun M2 y u H2 h2 a2 m2 r2 => h2 σ H2 a2 ((m1.trans m2).sl a0 b0) (x.mv (m1.trans m2)) _ fun M3 z u3 H3 h3 a3 m3 r3 => ?_⟩
  · rcases hj with ⟨kvs, hj⟩ | ⟨kvs, hj⟩
    · obtain ⟨vs, e1, _⟩ := at_ob a1 hj; exact .inl ⟨_, .inl e1⟩
    · obtain ⟨vs, e1, _⟩ := at_ob a1 hj; exact .inr ⟨_, .inl e1⟩
  · obtain ⟨r, hd, hk⟩ := h3
    have r1' := m3.rp a2 (m2.rp a1 r1)
    obtain ⟨p, ov, e1, _, g, hc⟩ := dv_get a3 r1' (m3.rp a2 r2) hd
    have e2 := r1'.raw_inv
    rw [e1] at e2
    cases e2
    refine ⟨ov, g, ?_⟩
    rcases hc with ⟨rfl, rfl⟩ | ⟨z', w, rfl, rfl, rw'⟩
    · exact q M3 _ _ H3 hk a3 ((m1.trans m2).trans m3) r3
    · exact q M3 _ _ H3 hk a3 ((m1.trans m2).trans m3) rw'
/-- len(d) -/
theorem we_lenD {x : Str} (cx : Ct X G W k) (hm : X.mg "len" = none) (hg : Gl X "len") (h : WE X G W e M ρ xr fun M1 d => ∃ (j : Nat) (q : Addr) (kvs : List (Key × D)), d = Rf q ∧ M1[j]? = some (q, .dK kvs) ∧ R M1 (I kvs.length)) (he : starEach [e] X.env = (false, eval e X.env) :: starEach [] X.env := by rfl) :
    WE X G W (.Call (.Name "len" p) [e] [] pos) M ρ xr R :=
  we_bi (he := he) (RA := fun M1 ds => ∃ d, ds = [d] ∧ ∃ (j : Nat) (q : Addr) (kvs : List (Key × D)), d = Rf q ∧ M1[j]? = some (q, .dK kvs) ∧ R M1 (I kvs.length)) call_lenD hm PySem.boot_len hg (wa_one (h := ⟨fun σ H a0 b0 x Q q => h σ H a0 b0 x Q fun M1 d v H1 hd a1 m1 r1 => q M1 d v H1 ⟨d, rfl, hd⟩ a1 m1 r1⟩) he) fun M1 ds vs H1 Q ⟨d, hds, j, q0, kvs, hd, hj, hk⟩ a1 r1 q => by
  subst hds
  subst hd
  obtain ⟨v, rfl, rv⟩ := r1.one
  rw [rv.raw_inv]
  obtain ⟨ws, e1, g1⟩ := at_ob a1 hj
  exact ⟨q0, ws, rfl, e1, by rw [RpG.len (κ := Key) g1]; exact q M1 _ _ H1 hk a1 (Mv.refl _ _) (.raw _)⟩
end
end Wv
set_option maxRecDepth 100000
set_option maxHeartbeats 2000000
namespace Wv
open PySem PySem.Spec PyProof.Rows L2 PySem.W
/-! ### try -/
section
variable {X : Cx} {G : Hp → Prop} {W : WX} {M : Ms} {ρ : Rh} {xr : Value → Ms → Prop} {N : En} {a b c e f o i : Expr} {es : List Expr} {pos p apos : Pos} {R : Ms → D → Prop} {k j : Nat}
/-- the context of a body that is tried -/
def TryOf (X Y : Cx) : Prop := ∃ (pn : List (Addr × Obj)) (xe : Value → Shared → Prop), Y = X.tr pn xe
theorem TryOf.K {Y : Cx} (h : TryOf X Y) : Y.K = X.K := by obtain ⟨pn, xe, rfl⟩ := h; rfl
/-- try: body / except x: raise y('m') -/
theorem ws_tryR {x y m : Str} {C C2 : Addr} {body : List Stmt} {np pos' p p2 rp qp : Pos} {j : Nat} (cx : Ct X G W k) (ts : L2.Takes X W) (hpa : ∀ hd : Option Value, PassesOwnAt (model X.prog X.w) (X.A.mark hd) X.A X.env X.xe)
    (E : ExcC X.K X.mg x C) (E2 : ExcC X.K X.mg y C2) (exm : PySem.W.exmOne X.K (.ref C) (.ref C) = some true) (hg : Gl X x) (hg2 : Gl X y)
    (h : ∀ Y W', TryOf X Y → Ct Y G W' k → WSs Y G W' body M ρ { N with xr := fun cls M' => (cls = .ref C ∧ N.xr (.ref C2) M') ∨ (PySem.W.exmOne X.K cls (.ref C) = some false ∧ N.xr cls M') })
    (hs : X.stack = X.env :: X.outer := by rfl) (hf : X.env.frame = some X.env.locals := by rfl) (hdb : (x == ("__debug__" : Str)) = false := by decide) (hdb2 : (y == ("__debug__" : Str)) = false := by decide) :
    WS X G W (.Try body [.ExceptHandler (some (.Name x np)) none [.Raise (some (.Call (.Name y p) [.Constant (.str m) j p2] [] rp)) none qp] pos'] [] [] pos) M ρ N := by
  refine ws_of (L2H.ps_try_onlyX (tb := fun W' Dn σ H => ∀ pn xe, L2N.Takes (X.tr pn xe) W' → PassesOwn (model X.prog X.w) X.A X.env xe → ssT (X.tr pn xe) body Dn σ H)
    (ts := fun a cls d _ σ H => W (.ref C2) none σ H) hs hf ⟨hg, hdb, .inl E.g⟩ hpa ts
    (fun W' pn xe tk _ po => ⟨fun pins s σ H D I h => pss_wp.run pins s σ H D I (h pn xe tk po)⟩)
    (fun a oe cls d pn hz hd tk hc => ?_)) fun σ H a0 b0 Dn x0 n r bk ct => ?_
  · have hr' := L2H.ps_raiseH (X := L2H.suiteX X a ((a, oe) :: pn)) (pos := qp) hc tk (L2N.pmk_own (x := y) (m := m) (j := j) (p := p) (p2 := p2) (pos := rp) PySem.F.excBase_ValueError E2.ex E2.g E2.kp (raises_own E2.sub E2.ty) hg2 hdb2)
    exact pss_one hr'
  · intro pn xe tk po
    refine (h (X.tr pn xe) _ ⟨pn, xe, rfl⟩ ⟨cx.gs, tk, cx.hr, po, cx.hc, cx.nd⟩).run σ H a0 b0 Dn (fun M' H' cls σ' hx ha hm => ?_) n r bk ct
    rcases hx with ⟨rfl, hx⟩ | ⟨z, hx⟩
    · exact ⟨true, exm, fun _ _ _ => x0 M' H' _ σ' hx ha hm, (fun z => by cases z)⟩
    · exact ⟨false, z, (fun z => by cases z), fun _ => x0 M' H' _ σ' hx ha hm⟩
/-- try: body / except x: suite, where nothing of the suite's slots is asked; the suite raises nothing -/
theorem ws_tryC {x : Str} {C : Addr} {body : List Stmt} {np pos' rp : Pos} {ret : Const} {cj : Nat} {cp : Pos} (cx : Ct X G W k) (ts : L2.Takes X W)
    (E : ExcC X.K X.mg x C) (exm : PySem.W.exmOne X.K (.ref C) (.ref C) = some true) (hg : Gl X x) {v : V} (hv : ∀ Y : Cx, PE Y (.Constant ret cj cp) (tC v))
    (h : ∀ Y W', TryOf X Y → Ct Y G W' k → L2.Takes Y W' → WSs Y G W' body M ρ { N with xr := fun cls M' => (cls = .ref C ∧ N.rt M' (.raw v)) ∨ (PySem.W.exmOne X.K cls (.ref C) = some false ∧ N.xr cls M') })
    (hs : X.stack = X.env :: X.outer := by rfl) (hf : X.env.frame = some X.env.locals := by rfl) (hdb : (x == ("__debug__" : Str)) = false := by decide) :
    WS X G W (.Try body [.ExceptHandler (some (.Name x np)) none [.Return (some (.Constant ret cj cp)) rp] pos'] [] [] pos) M ρ N := by
  refine ws_of (ps_try_only (tb := fun W' Dn σ H => ∀ pn xe, L2.Takes (X.tr pn xe) W' → PassesOwn (model X.prog X.w) X.A X.env xe → ssT (X.tr pn xe) body Dn σ H)
    (ts := fun a cls d Dn σ H => Dn.rt v H) hs hf ⟨hg, hdb, .inl E.g⟩ ts
    (fun W' pn xe tk po => ⟨fun pins s σ H D I h => pss_wp.run pins s σ H D I (h pn xe tk po)⟩)
    (fun a oe cls d pn hz hd => ?_)) fun σ H a0 b0 Dn x0 n r bk ct => ?_
  · have hr' := ps_ret (X := X.suite a ((a, oe) :: pn)) (pos := rp) (hv _)
    exact pss_one hr'
  · intro pn xe tk po
    refine (h (X.tr pn xe) _ ⟨pn, xe, rfl⟩ ⟨cx.gs, takesN tk, cx.hr, po, cx.hc, cx.nd⟩ tk).run σ H a0 b0 Dn (fun M' H' cls σ' hx ha hm => ?_) n r bk ct
    rcases hx with ⟨rfl, hx⟩ | ⟨z, hx⟩
    · exact ⟨true, exm, fun _ _ _ => r M' _ _ H' hx ha hm (.raw _), (fun z => by cases z)⟩
    · exact ⟨false, z, (fun z => by cases z), fun _ => x0 M' H' _ σ' hx ha hm⟩
end
/-! ### defs that may let out exceptions raised while one is handled -/
/-- a def of the text that keeps its promise; dd: its defaults -/
structure GfC (P : Program) (w : World) (K : PySem.W.Frag) (mg : Str → Option Value) (base : Heap) (G : Hp → Prop) (k : Nat) (f : Addr) (dd : List V) (S : SpD) : Prop where
  ex : ∃ (fd : FuncData) (ps : List Str) (dv : List Value), FnOk P w K mg base (L2.CX P w) k f fd ps (spOf G K S) ∧ Binds K fd ps dv ∧ Vals dd dv
  kp : PySem.W.keepIn K (.ref f) = true
section
variable {X : Cx} {G : Hp → Prop} {W : WX} {M : Ms} {ρ : Rh} {xr : Value → Ms → Prop} {N : En} {a b c e o : Expr} {es : List Expr} {pos p apos : Pos} {R : Ms → D → Prop} {k j : Nat}
theorem we_callC {S : SpD} {x : Str} {f : Addr} {dd : List V} (cx : Ct X G W k) (ts : L2.Takes X W) (g : GfC X.prog X.w X.K X.mg X.base G j f dd S) (hj : j ≤ k) (hm : X.mg x = some (.ref f)) (hg : Gl X x)
    (h : WA X G W (e :: es) M ρ xr fun M1 ds => S (ds ++ dd.map D.raw) M1 xr R) (hdb : (x == ("__debug__" : Str)) = false := by decide)
    (he : starEach (e :: es) X.env = (false, eval e X.env) :: starEach es X.env := by rfl) (hpl : (backTo pos (starEach es X.env)).any (·.1) = false := by rfl) : WE X G W (.Call (.Name x p) (e :: es) [] pos) M ρ xr R := by
  obtain ⟨⟨fd, ps, dv, F, b, r⟩, kp⟩ := g
  refine we_of (pe_callSD F (cx.hr.mono hj) hg hm kp b r (E := L2.WE W) (fun σ => L2.passAt ts σ) pa_wp hdb he hpl) fun σ H a0 b0 xk Q q => ?_
  exact h σ H a0 b0 xk _ fun M1 ds vs H1 s a1 m1 r1 => sp_use a1 (raws_dd r1 dd) s (xk.mv m1) fun M' d v H' hk a' m' r' => q M' d v H' hk a' (m1.trans m') r'
theorem we_call0C {S : SpD} {x : Str} {f : Addr} {dd : List V} (cx : Ct X G W k) (ts : L2.Takes X W) (g : GfC X.prog X.w X.K X.mg X.base G j f dd S) (hj : j ≤ k) (hm : X.mg x = some (.ref f)) (hg : Gl X x)
    (h : S (dd.map D.raw) M xr R) (hdb : (x == ("__debug__" : Str)) = false := by decide) : WE X G W (.Call (.Name x p) [] [] pos) M ρ xr R := by
  obtain ⟨⟨fd, ps, dv, F, b, r⟩, kp⟩ := g
  refine we_of (pe_call0S F (cx.hr.mono hj) hg hm kp b r (E := L2.WE W) (fun σ => L2.passAt ts σ) hdb) fun σ H a0 b0 xk Q q => ?_
  exact sp_use a0 (raws_dd (ds := []) .nil dd) h xk q
/-- o.m(e, ..) of an owned instance -/
theorem we_methC {S : SpD} {m : Str} {f C : Addr} {dd : List V} (cx : Ct X G W k) (ts : L2.Takes X W) (g : GfC X.prog X.w X.K X.mg X.base G j f dd S) (hj : j ≤ k) (cl : Cls X.K C) (me : Meth X.K C m f)
    (h : WE X G W o M ρ xr fun M1 d => OwI M1 d fun _ q C' fs => C' = C ∧ fs.lookup m = none ∧ WA X G W (e :: es) M1 ρ xr fun M2 ds => S (Rf q :: (ds ++ dd.map D.raw)) M2 xr R) {pl : Sem Bool}
    (hst : starEach (e :: es) X.env = (false, eval e X.env) :: starEach es X.env := by rfl) (hpl : (backTo pos (starEach es X.env)).any (·.1) = false := by rfl)
    (ht : eval (.Call (.Attribute o m apos) (e :: es) [] pos) X.env = (do
      let ov ← eval o X.env
      standAt apos.atName
      let (f, first) ← holding [ov] (getMethod ov m pl)
      callWith pos f first (backTo pos (starEach (e :: es) X.env)) (backToKw pos (keywordEach [] X.env))) := by rfl) : WE X G W (.Call (.Attribute o m apos) (e :: es) [] pos) M ρ xr R := by
  obtain ⟨⟨fd, ps, dv, F, b, r⟩, kp⟩ := g
  refine we_of (pe_methS pe_wp cl me F (cx.hr.mono hj) b r (E := L2.WE W) (fun σ => L2.passAt ts σ) pa_wp hst hpl ht) fun σ H a0 b0 xk Q q => ?_
  refine h σ H a0 b0 xk _ fun M1 d v H1 h1 a1 m1 r1 => ?_
  cases h1 with
  | mk i hi h1 =>
  rename_i q0 C' fs
  obtain ⟨rfl, hl, h1⟩ := h1
  obtain ⟨dx, vs, e, rf⟩ := at_ob a1 hi
  obtain rfl := r1.raw_inv
  exact ⟨q0, dx, vs, rfl, e, lookup_none rf.1 hl, h1 σ H1 a1 (m1.sl a0 b0) (xk.mv m1) _ fun M2 ds vs2 H2 s a2 m2 r2 =>
    sp_use a2 (.cons (m2.rp a1 r1) (raws_dd r2 dd)) s (xk.mv (m1.trans m2)) fun M' d v H' hk a' m' r' => q M' d v H' hk a' ((m1.trans m2).trans m') r'⟩
theorem we_meth0C {S : SpD} {m : Str} {f C : Addr} {dd : List V} (cx : Ct X G W k) (ts : L2.Takes X W) (g : GfC X.prog X.w X.K X.mg X.base G j f dd S) (hj : j ≤ k) (cl : Cls X.K C) (me : Meth X.K C m f)
    (h : WE X G W o M ρ xr fun M1 d => OwI M1 d fun _ q C' fs => C' = C ∧ fs.lookup m = none ∧ S (Rf q :: dd.map D.raw) M1 xr R) {pl : Sem Bool}
    (ht : eval (.Call (.Attribute o m apos) [] [] pos) X.env = (do
      let ov ← eval o X.env
      standAt apos.atName
      let (f, first) ← holding [ov] (getMethod ov m pl)
      callWith pos f first (backTo pos (starEach [] X.env)) (backToKw pos (keywordEach [] X.env))) := by rfl) : WE X G W (.Call (.Attribute o m apos) [] [] pos) M ρ xr R := by
  obtain ⟨⟨fd, ps, dv, F, b, r⟩, kp⟩ := g
  refine we_of (pe_meth0S pe_wp cl me F (cx.hr.mono hj) b r (E := L2.WE W) (fun σ => L2.passAt ts σ) ht) fun σ H a0 b0 xk Q q => ?_
  refine h σ H a0 b0 xk _ fun M1 d v H1 h1 a1 m1 r1 => ?_
  cases h1 with
  | mk i hi h1 =>
  rename_i q0 C' fs
  obtain ⟨rfl, hl, h1⟩ := h1
  obtain ⟨dx, vs, e, rf⟩ := at_ob a1 hi
  obtain rfl := r1.raw_inv
  exact ⟨q0, dx, vs, rfl, e, lookup_none rf.1 hl, sp_use a1 (.cons r1 (raws_dd (ds := []) .nil dd)) h1 (xk.mv m1) fun M' d v H' hk a' m' r' => q M' d v H' hk a' (m1.trans m') r'⟩
theorem we_makeC {S : SpD} {x : Str} {f C : Addr} {dd : List V} (cx : Ct X G W k) (ts : L2.Takes X W) (g : GfC X.prog X.w X.K X.mg X.base G j f dd S) (hj : j + 1 ≤ k) (mk : Mk X.K C f) (hm : X.mg x = some (.ref C)) (hg : Gl X x)
    (h : WA X G W (e :: es) M ρ xr fun M1 ds => ∀ q, S (Rf q :: (ds ++ dd.map D.raw)) ((q, .ins C []) :: M1) xr fun M2 _ => R M2 (Rf q)) (hret : ∀ ds M xr R, S ds M xr R → S ds M xr fun M' d => R M' d ∧ d = N0)
    (hdb : (x == ("__debug__" : Str)) = false := by decide) (he : starEach (e :: es) X.env = (false, eval e X.env) :: starEach es X.env := by rfl) (hpl : (backTo pos (starEach es X.env)).any (·.1) = false := by rfl) :
    WE X G W (.Call (.Name x p) (e :: es) [] pos) M ρ xr R := by
  obtain ⟨⟨fd, ps, dv, F, b, r⟩, kp⟩ := g
  refine we_of (pe_makeS mk F (cx.hr.mono hj) hg hm b r (E := L2.WE W) (fun σ => L2.passAt ts σ) pa_wp hdb he hpl) fun σ H a0 b0 xk Q q => ?_
  refine h σ H a0 b0 xk _ fun M1 ds vs H1 s a1 m1 r1 => fun y dy hy hdy ne => ?_
  obtain ⟨a2, m2⟩ := made (C := C) cx.gs a1 hy hdy ne
  refine sp_use (xr := xr) a2 (.cons (.raw _) (raws_dd (m2.rpl a1 r1) dd)) (hret _ _ _ _ (s y)) (xk.mv (m1.trans m2)) fun M' d v H' hk a' m' r' => ?_
  obtain ⟨hk, rfl⟩ := hk
  exact ⟨r'.raw_inv, q M' _ _ H' hk a' ((m1.trans m2).trans m') (.raw _)⟩
theorem we_make0C {S : SpD} {x : Str} {f C : Addr} {dd : List V} (cx : Ct X G W k) (ts : L2.Takes X W) (g : GfC X.prog X.w X.K X.mg X.base G j f dd S) (hj : j + 1 ≤ k) (mk : Mk X.K C f) (hm : X.mg x = some (.ref C)) (hg : Gl X x)
    (h : ∀ q, S (Rf q :: dd.map D.raw) ((q, .ins C []) :: M) xr fun M2 _ => R M2 (Rf q)) (hret : ∀ ds M xr R, S ds M xr R → S ds M xr fun M' d => R M' d ∧ d = N0)
    (hdb : (x == ("__debug__" : Str)) = false := by decide) : WE X G W (.Call (.Name x p) [] [] pos) M ρ xr R := by
  obtain ⟨⟨fd, ps, dv, F, b, r⟩, kp⟩ := g
  refine we_of (pe_make0S mk F (cx.hr.mono hj) hg hm b r (E := L2.WE W) (fun σ => L2.passAt ts σ) hdb) fun σ H a0 b0 xk Q q => fun y dy hy hdy ne => ?_
  obtain ⟨a2, m2⟩ := made (C := C) cx.gs a0 hy hdy ne
  refine sp_use (xr := xr) a2 (.cons (.raw _) (raws_dd (ds := []) .nil dd)) (hret _ _ _ _ (h y)) (xk.mv m2) fun M' d v H' hk a' m' r' => ?_
  obtain ⟨hk, rfl⟩ := hk
  exact ⟨r'.raw_inv, q M' _ _ H' hk a' (m2.trans m') (.raw _)⟩
end
section
variable {P : Program} {w : World} {K : PySem.W.Frag} {mg : Str → Option Value} {base : Heap} {G : Hp → Prop}
/-- THE RULE of a def -/
theorem gf_ofC {x qual : Str} {st : Stmt} {f : Addr} {fd : FuncData} {N ps : List Str} {k : Nat} {S : SpD} {dd : List V} {dv : List Value} (F : Fun K x qual st f fd) (Sc : FnScope N ps (defScope st)) (gs : Gst G) (bd : Binds K fd ps dv) (dr : Vals dd dv)
    (len : ∀ ds M xr R, S ds M xr R → ds.length = ps.length)
    (hbody : ∀ (X : Cx) (W : WX) (M : Ms) (ds : List D) (xr : Value → Ms → Prop) (R : Ms → D → Prop), (∃ cdv A outer s H E, X = cxOf (L2.CX P w) P w K mg base N qual (defScope st) f cdv A outer s H E) → Ct X G W k → L2.Takes X W → (∀ hd : Option Value, PassesOwnAt (model X.prog X.w) (X.A.mark hd) X.A X.env X.xe) → S ds M xr R →
      WSs X G W (defBody st) M (startD N ds) { nx := fun M' _ => R M' N0, rt := R, bk := fun _ _ => False, ct := fun _ _ => False, xr := xr }) : GfC P w K mg base G (k + 1) f dd S := by
  refine ⟨⟨fd, ps, dv, F.okX Sc (fun vs H Q E h => ?_) (fun cdv A outer s H vs Q E hr h => ?_), bd, dr⟩, F.kp⟩
  · obtain ⟨M, ds, xr, R, _, r, hs, _⟩ := h
    rw [r.length]; exact len _ _ _ _ hs
  · obtain ⟨M, ds, xr, R, a, r, hs, q, e⟩ := h
    refine ⟨_, pss_wp, ?_⟩
    refine hbody _ (fun cls d _ H => E cls d H) M ds xr R ⟨cdv, A, outer, s, H, E, rfl⟩ ⟨gs, takesN (L2.takes_of rfl rfl rfl rfl), hr, passes_of rfl, rfl, Sc.nd⟩ (L2.takes_of rfl rfl rfl rfl) (L2H.passesAt_of rfl) hs _ H a (sl_start r) _ (fun M' H' cls σ' hx ha hm => e cls M' H' hx ha hm)
      (fun M' ρ' σ' H' hk ha hb hm => q M' _ _ H' hk ha hm (.raw _)) (fun M' d v H' hk ha hm hr => q M' d v H' hk ha hm hr) (fun _ _ _ _ h => h.elim) (fun _ _ _ _ h => h.elim)
/-- THE RULE of a def, its code object told -/
theorem gf_ofTC {x qual : Str} {st : Stmt} {f c : Addr} {fd : FuncData} {N ps : List Str} {k : Nat} {S : SpD} {dd : List V} {dv : List Value} (F : FunT K x qual st f fd c) (Sc : FnScope N ps (defScope st)) (gs : Gst G) (bd : L2.Binds K fd ps dv) (dr : Vals dd dv)
    (len : ∀ ds M xr R, S ds M xr R → ds.length = ps.length)
    (hbody : ∀ (X : Cx) (W : WX) (M : Ms) (ds : List D) (xr : Value → Ms → Prop) (R : Ms → D → Prop), (∃ A outer s H E, X = cxOf (L2.CX P w) P w K mg base N qual (defScope st) f (.ref c) A outer s H E) → Ct X G W k → L2.Takes X W → (∀ hd : Option Value, PassesOwnAt (model X.prog X.w) (X.A.mark hd) X.A X.env X.xe) → S ds M xr R →
      WSs X G W (defBody st) M (startD N ds) { nx := fun M' _ => R M' N0, rt := R, bk := fun _ _ => False, ct := fun _ _ => False, xr := xr }) : GfC P w K mg base G (k + 1) f dd S := by
  obtain ⟨oc, od, kV, doc, pm, an, ct, osl, rfl, lk, hcd⟩ := F.ex
  refine ⟨⟨_, ps, dv, fn_of lk hcd Sc (fun vs H Q E h => ?_) (fun A outer s H vs Q E hr h => ?_), bd, dr⟩, F.kp⟩
  · obtain ⟨M, ds, xr, R, _, r, hs, _⟩ := h
    rw [r.length]; exact len _ _ _ _ hs
  · obtain ⟨M, ds, xr, R, a, r, hs, q, e⟩ := h
    refine ⟨_, pss_wp, ?_⟩
    refine hbody _ (fun cls d _ H => E cls d H) M ds xr R ⟨A, outer, s, H, E, rfl⟩ ⟨gs, takesN (L2.takes_of rfl rfl rfl rfl), hr, passes_of rfl, rfl, Sc.nd⟩ (L2.takes_of rfl rfl rfl rfl) (L2H.passesAt_of rfl) hs _ H a (sl_start r) _ (fun M' H' cls σ' hx ha hm => e cls M' H' hx ha hm)
      (fun M' ρ' σ' H' hk ha hb hm => q M' _ _ H' hk ha hm (.raw _)) (fun M' d v H' hk ha hm hr => q M' d v H' hk ha hm hr) (fun _ _ _ _ h => h.elim) (fun _ _ _ _ h => h.elim)
/-- gf_ofT, the def's record told -/
theorem fnok_ofTC {x qual : Str} {st : Stmt} {f c : Addr} {fd : FuncData} {N ps : List Str} {k : Nat} {S : SpD} (F : FunT K x qual st f fd c) (Sc : FnScope N ps (defScope st)) (gs : Gst G)
    (len : ∀ ds M xr R, S ds M xr R → ds.length = ps.length)
    (hbody : ∀ (X : Cx) (W : WX) (M : Ms) (ds : List D) (xr : Value → Ms → Prop) (R : Ms → D → Prop), (∃ A outer s H E, X = cxOf (L2.CX P w) P w K mg base N qual (defScope st) f (.ref c) A outer s H E) → Ct X G W k → L2.Takes X W → (∀ hd : Option Value, PassesOwnAt (model X.prog X.w) (X.A.mark hd) X.A X.env X.xe) → S ds M xr R →
      WSs X G W (defBody st) M (startD N ds) { nx := fun M' _ => R M' N0, rt := R, bk := fun _ _ => False, ct := fun _ _ => False, xr := xr }) : FnOk P w K mg base (L2.CX P w) (k + 1) f fd ps (spOf G K S) := by
  obtain ⟨oc, od, kV, doc, pm, an, ct, osl, rfl, lk, hcd⟩ := F.ex
  refine fn_of lk hcd Sc (fun vs H Q E h => ?_) (fun A outer s H vs Q E hr h => ?_)
  · obtain ⟨M, ds, xr, R, _, r, hs, _⟩ := h
    rw [r.length]; exact len _ _ _ _ hs
  · obtain ⟨M, ds, xr, R, a, r, hs, q, e⟩ := h
    refine ⟨_, pss_wp, ?_⟩
    refine hbody _ (fun cls d _ H => E cls d H) M ds xr R ⟨A, outer, s, H, E, rfl⟩ ⟨gs, takesN (L2.takes_of rfl rfl rfl rfl), hr, passes_of rfl, rfl, Sc.nd⟩ (L2.takes_of rfl rfl rfl rfl) (L2H.passesAt_of rfl) hs _ H a (sl_start r) _ (fun M' H' cls σ' hx ha hm => e cls M' H' hx ha hm)
      (fun M' ρ' σ' H' hk ha hb hm => q M' _ _ H' hk ha hm (.raw _)) (fun M' d v H' hk ha hm hr => q M' d v H' hk ha hm hr) (fun _ _ _ _ h => h.elim) (fun _ _ _ _ h => h.elim)
/-- THE RULE of a def with defaults -/
theorem gf_ofDC {x qual : Str} {st : Stmt} {f : Addr} {fd : FuncData} {N ps : List Str} {k : Nat} {S : SpD} {dvs dd : List V} {dv : List Value} (F : FunD K x qual (defArgs st) (defBody st) (defScope st) dvs [] f fd) (Sc : FnScope N ps (defScope st)) (gs : Gst G) (bd : L2.Binds K fd ps dv) (dr : Vals dd dv)
    (len : ∀ ds M xr R, S ds M xr R → ds.length = ps.length)
    (hbody : ∀ (X : Cx) (W : WX) (M : Ms) (ds : List D) (xr : Value → Ms → Prop) (R : Ms → D → Prop), (∃ cdv A outer s H E, X = cxOf (L2.CX P w) P w K mg base N qual (defScope st) f cdv A outer s H E) → Ct X G W k → L2.Takes X W → (∀ hd : Option Value, PassesOwnAt (model X.prog X.w) (X.A.mark hd) X.A X.env X.xe) → S ds M xr R →
      WSs X G W (defBody st) M (startD N ds) { nx := fun M' _ => R M' N0, rt := R, bk := fun _ _ => False, ct := fun _ _ => False, xr := xr }) : GfC P w K mg base G (k + 1) f dd S := by
  refine ⟨⟨fd, ps, dv, F.ok Sc (fun vs H Q E h => ?_) (fun cdv A outer s H vs Q E hr h => ?_), bd, dr⟩, F.kp⟩
  · obtain ⟨M, ds, xr, R, _, r, hs, _⟩ := h
    rw [r.length]; exact len _ _ _ _ hs
  · obtain ⟨M, ds, xr, R, a, r, hs, q, e⟩ := h
    refine ⟨_, pss_wp, ?_⟩
    refine hbody _ (fun cls d _ H => E cls d H) M ds xr R ⟨cdv, A, outer, s, H, E, rfl⟩ ⟨gs, takesN (L2.takes_of rfl rfl rfl rfl), hr, passes_of rfl, rfl, Sc.nd⟩ (L2.takes_of rfl rfl rfl rfl) (L2H.passesAt_of rfl) hs _ H a (sl_start r) _ (fun M' H' cls σ' hx ha hm => e cls M' H' hx ha hm)
      (fun M' ρ' σ' H' hk ha hb hm => q M' _ _ H' hk ha hm (.raw _)) (fun M' d v H' hk ha hm hr => q M' d v H' hk ha hm hr) (fun _ _ _ _ h => h.elim) (fun _ _ _ _ h => h.elim)
end
/-- a lambda's body takes every exception -/
theorem LamOf.ts {X Y : Cx} {scope : Scope} {E : XK} (h : LamOf X scope E Y) : L2.Takes Y (fun cls d _ H => E cls d H) := by
  obtain ⟨A, outer, s, H0, f, c', rfl⟩ := h
  exact L2.takes_of rfl rfl rfl rfl
end Wv
set_option maxRecDepth 100000
set_option maxHeartbeats 2000000
namespace Wv
open PySem PySem.Spec PyProof.Rows L2 PySem.W
section
variable {X : Cx} {G : Hp → Prop} {W : WX} {M : Ms} {ρ : Rh} {xr : Value → Ms → Prop} {N : En} {a b c e f o i : Expr} {es : List Expr} {pos p apos : Pos} {R : Ms → D → Prop} {k j : Nat}
/-- str(i) -/
theorem we_strI (hm : X.mg "str" = none) (hg : Gl X "str") (h : WE X G W e M ρ xr fun M1 d => ∃ i : Int, d = I i ∧ i.natAbs.log2 < 1920 ∧ R M1 (Z (toString i))) (he : starEach [e] X.env = (false, eval e X.env) :: starEach [] X.env := by rfl) :
    WE X G W (.Call (.Name "str" p) [e] [] pos) M ρ xr R :=
  we_bt (he := he) (RA := fun M1 ds => ∃ d, ds = [d] ∧ ∃ i : Int, d = I i ∧ i.natAbs.log2 < 1920 ∧ R M1 (Z (toString i))) call_str_int hm (by decide +kernel) hg (wa_one (h := ⟨fun σ H a0 b0 x Q q => h σ H a0 b0 x Q fun M1 d v H1 hd a1 m1 r1 => q M1 d v H1 ⟨d, rfl, hd⟩ a1 m1 r1⟩) he) fun M1 ds vs H1 Q ⟨d, hds, i, hd, hl, hk⟩ a1 r1 q => by
  subst hds
  subst hd
  obtain ⟨v, rfl, rv⟩ := r1.one
  rw [rv.raw_inv]
  exact ⟨i, rfl, hl, q M1 _ _ H1 hk a1 (Mv.refl _ _) (.raw _)⟩
/-- int(z) of a text of digits -/
theorem we_intZ (hm : X.mg "int" = none) (hg : Gl X "int") (h : WE X G W e M ρ xr fun M1 d => ∃ (z : Str) (n : Int), d = Z z ∧ PySem.intText? z = some n ∧ z.length ≤ 640 ∧ R M1 (I n)) (he : starEach [e] X.env = (false, eval e X.env) :: starEach [] X.env := by rfl) :
    WE X G W (.Call (.Name "int" p) [e] [] pos) M ρ xr R :=
  we_bt (he := he) (RA := fun M1 ds => ∃ d, ds = [d] ∧ ∃ (z : Str) (n : Int), d = Z z ∧ PySem.intText? z = some n ∧ z.length ≤ 640 ∧ R M1 (I n)) call_int_str hm (by decide +kernel) hg (wa_one (h := ⟨fun σ H a0 b0 x Q q => h σ H a0 b0 x Q fun M1 d v H1 hd a1 m1 r1 => q M1 d v H1 ⟨d, rfl, hd⟩ a1 m1 r1⟩) he) fun M1 ds vs H1 Q ⟨d, hds, z, n, hd, hn, hl, hk⟩ a1 r1 q => by
  subst hds
  subst hd
  obtain ⟨v, rfl, rv⟩ := r1.one
  rw [rv.raw_inv]
  exact ⟨z, n, rfl, hn, hl, q M1 _ _ H1 hk a1 (Mv.refl _ _) (.raw _)⟩
/-- dict(d): a new one with the same things -/
theorem we_dictD (gs : Gst G) (hm : X.mg "dict" = none) (hg : Gl X "dict") (h : WE X G W e M ρ xr fun M1 d => ∃ (j : Nat) (q : Addr) (kvs : List (Key × D)), d = Rf q ∧ M1[j]? = some (q, .dK kvs) ∧ ∀ q2, R ((q2, .dK kvs) :: M1) (Rf q2)) (he : starEach [e] X.env = (false, eval e X.env) :: starEach [] X.env := by rfl) :
    WE X G W (.Call (.Name "dict" p) [e] [] pos) M ρ xr R :=
  we_bt (he := he) (RA := fun M1 ds => ∃ d, ds = [d] ∧ ∃ (j : Nat) (q : Addr) (kvs : List (Key × D)), d = Rf q ∧ M1[j]? = some (q, .dK kvs) ∧ ∀ q2, R ((q2, .dK kvs) :: M1) (Rf q2)) call_dictD hm (by decide +kernel) hg (wa_one (h := ⟨fun σ H a0 b0 x Q q => h σ H a0 b0 x Q fun M1 d v H1 hd a1 m1 r1 => q M1 d v H1 ⟨d, rfl, hd⟩ a1 m1 r1⟩) he) fun M1 ds vs H1 Q ⟨d, hds, j, q0, kvs, hd, hj, hk⟩ a1 r1 q => by
  subst hds
  subst hd
  obtain ⟨v, rfl, rv⟩ := r1.one
  rw [rv.raw_inv]
  obtain ⟨ws, e1, g1, g2⟩ := at_obK a1 hj
  refine ⟨q0, ws, rfl, .inl e1, fun p hp => ?_⟩
  obtain ⟨a2, m2⟩ := a1.own gs (o := .dK kvs) (fun b v e => upd_grow hp b v e) hp ⟨ws, upd_same, g1, by
    have hg' : ∀ b o, H1 b = some o → upd H1 p (.dK ws) b = some o := fun b v e => upd_grow hp b v e
    refine g2.mono (fun _ _ h => hg' _ _ h) (fun _ _ h => hg' _ _ h) fun b xs h hn => ⟨hg' _ _ h, fun z => ?_⟩
    rcases List.mem_cons.mp z with z | z
    · subst z; rw [hp] at h; cases h
    · exact hn z⟩
  exact q _ _ _ _ (hk p) a2 m2 (.raw _)
/-- s.split(t) -/
theorem we_split (gs : Gst G) (h : WE X G W o M ρ xr fun M1 d => IsZ d fun z => WE X G W e M1 ρ xr fun M2 d' => IsZ d' fun y => (y.length == 0) = false ∧ z.length + 2 ≤ sizeLine ∧ R M2 (.lst ((Txt.split z y).map Z)))
    (he : starEach [e] X.env = [(false, eval e X.env)] := by rfl) (hb : attributeBase o "split" X.env (eval o X.env) = eval o X.env := by rfl) (hl : (apos.endLine == pos.line) = true := by rfl) : WE X G W (.Call (.Attribute o "split" apos) [e] [] pos) M ρ xr R :=
  we_of (pe_split pe_wp pe_wp he hb hl) fun σ H a0 b0 x Q q => h σ H a0 b0 x _ fun M1 d v H1 h1 a1 m1 r1 => by
  cases h1 with
  | mk h1 =>
  rename_i z
  obtain rfl := r1.raw_inv
  refine ⟨⟨z, rfl⟩, h1 σ H1 a1 (m1.sl a0 b0) (x.mv m1) _ fun M2 d' v' H2 h2 a2 m2 r2 => ?_⟩
  cases h2 with
  | mk h2 =>
  rename_i y
  obtain rfl := r2.raw_inv
  obtain ⟨h3, h4, hk⟩ := h2
  refine ⟨z, y, rfl, rfl, h3, h4, fun p hp => ?_⟩
  have e : (Txt.split z y).map Z = ((Txt.split z y).map V.str).map D.raw := by rw [List.map_map]; rfl
  exact new_lst gs a2 hp (by rw [e]; exact RpL.raws_mk _) hk fun M' d v H' hk a' m' r' => q M' d v H' hk a' ((m1.trans m2).trans m') r'
/-- s.strip(t) -/
theorem we_stripC (h : WE X G W o M ρ xr fun M1 d => IsZ d fun z => WE X G W e M1 ρ xr fun M2 d' => IsZ d' fun y => z.length ≤ sizeLine ∧ R M2 (Z (Txt.stripChars z y)))
    (he : starEach [e] X.env = [(false, eval e X.env)] := by rfl) (hb : attributeBase o "strip" X.env (eval o X.env) = eval o X.env := by rfl) (hl : (apos.endLine == pos.line) = true := by rfl) : WE X G W (.Call (.Attribute o "strip" apos) [e] [] pos) M ρ xr R :=
  we_of (pe_m1 PySem.F.slot_str_strip PySem.F.type_str_strip mt_stripChars pe_wp pe_wp he hb hl) fun σ H a0 b0 x Q q => h σ H a0 b0 x _ fun M1 d v H1 h1 a1 m1 r1 => by
  cases h1 with
  | mk h1 =>
  rename_i z
  obtain rfl := r1.raw_inv
  refine ⟨⟨z, rfl⟩, h1 σ H1 a1 (m1.sl a0 b0) (x.mv m1) _ fun M2 d' v' H2 h2 a2 m2 r2 => ?_⟩
  cases h2 with
  | mk h2 =>
  rename_i y
  obtain rfl := r2.raw_inv
  exact ⟨z, y, rfl, rfl, h2.1, q M2 _ _ H2 h2.2 a2 (m1.trans m2) (.raw _)⟩
/-- a is b, a is not b of bools -/
theorem wt_isB {R : Ms → Bool → Prop} (h : WE X G W a M ρ xr fun M1 d => WE X G W b M1 ρ xr fun M2 e => ∃ u v : Bool, d = B u ∧ e = B v ∧ R M2 (decide (u = v))) (hm : behindInMarks .Is b = false := by rfl) : WT X G W (.Compare a [.Is] [b] pos) M ρ xr R :=
  wt_of (pt_cmpR op_isBl pe_wp pe_wp hm) fun σ H a0 b0 x Q q => by
  refine h σ H a0 b0 x _ fun M1 d v H1 h1 a1 m1 r1 => ?_
  refine h1 σ H1 a1 (m1.sl a0 b0) (x.mv m1) _ fun M2 e u H2 h2 a2 m2 r2 => ?_
  obtain ⟨u', v', rfl, rfl, hk⟩ := h2
  exact ⟨u', v', by rw [r1.raw_inv], by rw [r2.raw_inv], _, rfl, q M2 _ H2 hk a2 (m1.trans m2)⟩
theorem wt_isNotB {R : Ms → Bool → Prop} (h : WE X G W a M ρ xr fun M1 d => WE X G W b M1 ρ xr fun M2 e => ∃ u v : Bool, d = B u ∧ e = B v ∧ R M2 (!decide (u = v))) (hm : behindInMarks .IsNot b = false := by rfl) : WT X G W (.Compare a [.IsNot] [b] pos) M ρ xr R :=
  wt_of (pt_cmpR op_notBl pe_wp pe_wp hm) fun σ H a0 b0 x Q q => by
  refine h σ H a0 b0 x _ fun M1 d v H1 h1 a1 m1 r1 => ?_
  refine h1 σ H1 a1 (m1.sl a0 b0) (x.mv m1) _ fun M2 e u H2 h2 a2 m2 r2 => ?_
  obtain ⟨u', v', rfl, rfl, hk⟩ := h2
  exact ⟨u', v', by rw [r1.raw_inv], by rw [r2.raw_inv], _, rfl, q M2 _ H2 hk a2 (m1.trans m2)⟩
end
end Wv
set_option maxRecDepth 100000
set_option maxHeartbeats 2000000
namespace Wv
open PySem PySem.Spec PyProof.Rows L2 PySem.W
/-- a list of whole numbers: data, or ours -/
inductive IntsD (M : Ms) : D → List Int → Prop
  | lst (ns : List Int) : IntsD M (.lst (ns.map fun i => I i)) ns
  | own {q : Addr} {ns : List Int} (j : Nat) (o : M[j]? = some (q, .lst (ns.map fun i => I i))) : IntsD M (Rf q) ns
theorem ints_vs {K : PySem.W.Frag} {Y : List Addr} {H : Hp} {ns : List Int} {xs : List V} (h : RpL K Y H xs (ns.map fun i => I i)) : xs = ns.map V.int := by
  have e : (ns.map fun i => I i) = (ns.map V.int).map D.raw := by rw [List.map_map]; rfl
  rw [e] at h
  exact h.raws
theorem ints_rp {K : PySem.W.Frag} {Y : List Addr} {H : Hp} (ns : List Int) : RpL K Y H (ns.map V.int) (ns.map fun i => I i) := by
  have e : (ns.map fun i => I i) = (ns.map V.int).map D.raw := by rw [List.map_map]; rfl
  rw [e]
  exact RpL.raws_mk _
theorem ints_sq {G : Hp → Prop} {K : PySem.W.Frag} {M : Ms} {H : Hp} {v : V} {d : D} {ns : List Int} (a : AtM G K M H) (r : Rp K (dom M) H v d) (h : IntsD M d ns) : ∃ p, v = .ref p ∧ SqL K H p (ns.map V.int) := by
  cases h with
  | lst =>
    obtain ⟨p, xs, rfl, e, _, l⟩ := r.lst_inv
    rw [ints_vs l] at e
    exact ⟨p, rfl, SqL.of e⟩
  | own j o =>
    obtain ⟨xs, e, l⟩ := at_obK a o
    rw [ints_vs l] at e
    exact ⟨_, r.raw_inv, SqL.of e⟩
section
variable {X : Cx} {G : Hp → Prop} {W : WX} {M : Ms} {ρ : Rh} {xr : Value → Ms → Prop} {N : En} {a b c e f o i : Expr} {es : List Expr} {pos p apos : Pos} {R : Ms → D → Prop} {k j : Nat}
theorem wa1 {P : Ms → D → Prop} (h : WE X G W e M ρ xr P) (he : starEach [e] X.env = (false, eval e X.env) :: starEach [] X.env := by rfl) : WA X G W [e] M ρ xr (fun M1 ds => ∃ d, ds = [d] ∧ P M1 d) :=
  wa_one (h := ⟨fun σ H a0 b0 x Q q => h σ H a0 b0 x Q fun M1 d v H1 hd a1 m1 r1 => q M1 d v H1 ⟨d, rfl, hd⟩ a1 m1 r1⟩) he
theorem we_sumI (cx : Ct X G W k) (hm : X.mg "sum" = none) (hg : Gl X "sum") (h : WE X G W e M ρ xr fun M1 d => ∃ ns, IntsD M1 d ns ∧ R M1 (I ns.sum)) (he : starEach [e] X.env = (false, eval e X.env) :: starEach [] X.env := by rfl) : WE X G W (.Call (.Name "sum" p) [e] [] pos) M ρ xr R :=
  we_bi (he := he) (cr_sum cx.hc) hm (by decide +kernel) hg (wa1 h he) fun M1 ds vs H1 Q ⟨d, hds, ns, hi, hk⟩ a1 r1 q => by
  subst hds
  obtain ⟨v, rfl, rv⟩ := r1.one
  obtain ⟨pp, rfl, s1⟩ := ints_sq a1 rv hi
  exact ⟨pp, ns, rfl, s1, q M1 _ _ H1 hk a1 (Mv.refl _ _) (.raw _)⟩
theorem we_maxI (cx : Ct X G W k) (hm : X.mg "max" = none) (hg : Gl X "max") (h : WE X G W e M ρ xr fun M1 d => ∃ ns, IntsD M1 d ns ∧ 0 < ns.length ∧ ∀ m, m ∈ ns → (∀ y, y ∈ ns → y ≤ m) → R M1 (I m)) (he : starEach [e] X.env = (false, eval e X.env) :: starEach [] X.env := by rfl) : WE X G W (.Call (.Name "max" p) [e] [] pos) M ρ xr R :=
  we_bi (he := he) (cr_max cx.hc) hm (by decide +kernel) hg (wa1 h he) fun M1 ds vs H1 Q ⟨d, hds, ns, hi, h0, hk⟩ a1 r1 q => by
  subst hds
  obtain ⟨v, rfl, rv⟩ := r1.one
  obtain ⟨pp, rfl, s1⟩ := ints_sq a1 rv hi
  exact ⟨pp, ns, rfl, s1, h0, fun m h1 h2 => q M1 _ _ H1 (hk m h1 h2) a1 (Mv.refl _ _) (.raw _)⟩
theorem we_minI (cx : Ct X G W k) (hm : X.mg "min" = none) (hg : Gl X "min") (h : WE X G W e M ρ xr fun M1 d => ∃ ns, IntsD M1 d ns ∧ 0 < ns.length ∧ ∀ m, m ∈ ns → (∀ y, y ∈ ns → m ≤ y) → R M1 (I m)) (he : starEach [e] X.env = (false, eval e X.env) :: starEach [] X.env := by rfl) : WE X G W (.Call (.Name "min" p) [e] [] pos) M ρ xr R :=
  we_bi (he := he) (cr_min cx.hc) hm (by decide +kernel) hg (wa1 h he) fun M1 ds vs H1 Q ⟨d, hds, ns, hi, h0, hk⟩ a1 r1 q => by
  subst hds
  obtain ⟨v, rfl, rv⟩ := r1.one
  obtain ⟨pp, rfl, s1⟩ := ints_sq a1 rv hi
  exact ⟨pp, ns, rfl, s1, h0, fun m h1 h2 => q M1 _ _ H1 (hk m h1 h2) a1 (Mv.refl _ _) (.raw _)⟩
theorem we_sortedI (cx : Ct X G W k) (hm : X.mg "sorted" = none) (hg : Gl X "sorted") (h : WE X G W e M ρ xr fun M1 d => ∃ ns, IntsD M1 d ns ∧ ∀ ys : List Int, ys.Perm ns → ys.Pairwise (· ≤ ·) → R M1 (.lst (ys.map fun i => I i))) (he : starEach [e] X.env = (false, eval e X.env) :: starEach [] X.env := by rfl) : WE X G W (.Call (.Name "sorted" p) [e] [] pos) M ρ xr R :=
  we_bi (he := he) cr_sortedI hm (by decide +kernel) hg (wa1 h he) fun M1 ds vs H1 Q ⟨d, hds, ns, hi, hk⟩ a1 r1 q => by
  subst hds
  obtain ⟨v, rfl, rv⟩ := r1.one
  obtain ⟨pp, rfl, s1⟩ := ints_sq a1 rv hi
  exact ⟨pp, ns, rfl, s1, fun ys p' h1 h2 hp => new_lst cx.gs a1 hp (ints_rp ys) (hk ys h1 h2) q⟩
/-- max(a, b), min(a, b) of whole numbers -/
theorem we_max2 (cx : Ct X G W k) (hm : X.mg "max" = none) (hg : Gl X "max") (h : WA X G W [a, b] M ρ xr fun M1 ds => ∃ i j : Int, ds = [I i, I j] ∧ R M1 (I (if j > i then j else i))) (he : starEach [a, b] X.env = (false, eval a X.env) :: starEach [b] X.env := by rfl) (hpl : (backTo pos (starEach [b] X.env)).any (·.1) = false := by rfl) : WE X G W (.Call (.Name "max" p) [a, b] [] pos) M ρ xr R :=
  we_bi (he := he) (hpl := hpl) (call_max2 cx.hc) hm (by decide +kernel) hg h fun M1 ds vs H1 Q ⟨i, j, hds, hk⟩ a1 r1 q => by
  subst hds
  obtain ⟨v, v', rfl, rv, rv'⟩ := r1.two
  rw [rv.raw_inv, rv'.raw_inv]
  exact ⟨i, j, rfl, q M1 _ _ H1 hk a1 (Mv.refl _ _) (.raw _)⟩
theorem we_min2 (cx : Ct X G W k) (hm : X.mg "min" = none) (hg : Gl X "min") (h : WA X G W [a, b] M ρ xr fun M1 ds => ∃ i j : Int, ds = [I i, I j] ∧ R M1 (I (if j < i then j else i))) (he : starEach [a, b] X.env = (false, eval a X.env) :: starEach [b] X.env := by rfl) (hpl : (backTo pos (starEach [b] X.env)).any (·.1) = false := by rfl) : WE X G W (.Call (.Name "min" p) [a, b] [] pos) M ρ xr R :=
  we_bi (he := he) (hpl := hpl) (call_min2 cx.hc) hm (by decide +kernel) hg h fun M1 ds vs H1 Q ⟨i, j, hds, hk⟩ a1 r1 q => by
  subst hds
  obtain ⟨v, v', rfl, rv, rv'⟩ := r1.two
  rw [rv.raw_inv, rv'.raw_inv]
  exact ⟨i, j, rfl, q M1 _ _ H1 hk a1 (Mv.refl _ _) (.raw _)⟩
end
end Wv
set_option maxRecDepth 100000
set_option maxHeartbeats 2000000
namespace Wv
open PySem PySem.Spec PyProof.Rows L2 PySem.W
section
variable {X : Cx} {G : Hp → Prop} {W : WX} {M : Ms} {ρ : Rh} {xr : Value → Ms → Prop} {N : En} {st : Stmt} {e : Expr} {R : Ms → D → Prop} {j : Nat} {q : Addr}
/-- what is asked behind a statement that walks a dict of ours -/
def unK (q : Addr) (od : Obj) (vs : List (Key × V)) (kvs : List (Key × D)) (R : Ms → Prop) (M' : Ms) : Prop := ∃ i : Nat, M'[i]? = some (q, O.fK od vs kvs) ∧ R (M'.set i (q, .dK kvs))
theorem lock_in {H : Hp} {kvs : List (Key × D)} (gs : Gst G) (a0 : AtM G X.K M H) (hj : M[j]? = some (q, .dK kvs)) : ∃ vs, H q = some (.dK vs) ∧ ∀ od, AtM G X.K (M.set j (q, .fK od vs kvs)) (upd H q (.frz od (.dK vs))) ∧ Mv M H (M.set j (q, .fK od vs kvs)) (upd H q (.frz od (.dK vs))) := by
  obtain ⟨vs, e1, g1, g2⟩ := at_obK a0 hj
  refine ⟨vs, e1, fun od => ?_⟩
  have hm : Mv M H M (upd H q (.frz od (.dK vs))) := ⟨fun b w e n _ => by
      rw [upd_ne (fun z => n (by rw [z]; exact mem_at hj))]; exact e, fun _ h => .inl h⟩
  exact a0.write gs (o' := .fK od vs kvs) hj (u := .frz od (.dK vs)) (fun _ z => by cases z) ⟨upd_same, g1, hm.rpl a0 g2⟩
theorem lock_out {H : Hp} {od : Obj} {vs : List (Key × V)} {kvs : List (Key × D)} {i : Nat} (gs : Gst G) (a0 : AtM G X.K M H) (hj : M[i]? = some (q, .fK od vs kvs)) : H q = some (.frz od (.dK vs)) ∧ AtM G X.K (M.set i (q, .dK kvs)) (upd H q (.dK vs)) ∧ Mv M H (M.set i (q, .dK kvs)) (upd H q (.dK vs)) := by
  obtain ⟨e1, g1, g2⟩ := at_obK a0 hj
  have hm : Mv M H M (upd H q (.dK vs)) := ⟨fun b w e n _ => by
      rw [upd_ne (fun z => n (by rw [z]; exact mem_at hj))]; exact e, fun _ h => .inl h⟩
  exact ⟨e1, a0.write gs (o' := .dK kvs) hj (u := .dK vs) (fun _ z => by cases z) ⟨vs, upd_same, g1, hm.rpl a0 g2⟩⟩
theorem ws_lockK (gs : Gst G) {kvs : List (Key × D)} (j : Nat) (hj : M[j]? = some (q, .dK kvs))
    (h : ∀ od vs, WS X G W st (M.set j (q, .fK od vs kvs)) ρ { nx := fun M' ρ' => unK q od vs kvs (fun M'' => N.nx M'' ρ') M', rt := fun M' d => unK q od vs kvs (fun M'' => N.rt M'' d) M', bk := fun M' ρ' => unK q od vs kvs (fun M'' => N.bk M'' ρ') M', ct := fun M' ρ' => unK q od vs kvs (fun M'' => N.ct M'' ρ') M', xr := N.xr }) : WS X G W st M ρ N :=
  ws_of (ps_lock ps_wp) fun σ H a0 b0 Dn x n r bk ct => by
  obtain ⟨vs, e1, lk⟩ := lock_in gs a0 hj
  refine ⟨q, .dK vs, e1, True.intro, fun od => ?_⟩
  obtain ⟨a1, m1⟩ := lk od
  refine (h od vs).run σ _ a1 (m1.sl a0 b0) _ (fun M' H' cls σ' hx ha hm => x M' H' cls σ' hx ha (m1.trans hm)) ?_ ?_ ?_ ?_
  · rintro M' ρ' σ' H' ⟨i, hi, hk⟩ ha hb hm
    obtain ⟨e2, a2, m2⟩ := lock_out gs ha hi
    exact ⟨e2, n _ _ _ _ hk a2 (m2.sl ha hb) ((m1.trans hm).trans m2)⟩
  · rintro M' d v H' ⟨i, hi, hk⟩ ha hm hr
    obtain ⟨e2, a2, m2⟩ := lock_out gs ha hi
    exact ⟨e2, r _ _ _ _ hk a2 ((m1.trans hm).trans m2) (m2.rp ha hr)⟩
  · rintro M' ρ' σ' H' ⟨i, hi, hk⟩ ha hb hm
    obtain ⟨e2, a2, m2⟩ := lock_out gs ha hi
    exact ⟨e2, bk _ _ _ _ hk a2 (m2.sl ha hb) ((m1.trans hm).trans m2)⟩
  · rintro M' ρ' σ' H' ⟨i, hi, hk⟩ ha hb hm
    obtain ⟨e2, a2, m2⟩ := lock_out gs ha hi
    exact ⟨e2, ct _ _ _ _ hk a2 (m2.sl ha hb) ((m1.trans hm).trans m2)⟩
theorem we_lockK (gs : Gst G) {kvs : List (Key × D)} (j : Nat) (hj : M[j]? = some (q, .dK kvs))
    (h : ∀ od vs, WE X G W e (M.set j (q, .fK od vs kvs)) ρ xr fun M' d => unK q od vs kvs (fun M'' => R M'' d) M') : WE X G W e M ρ xr R :=
  we_of (pe_lock pe_wp) fun σ H a0 b0 x Q k => by
  obtain ⟨vs, e1, lk⟩ := lock_in gs a0 hj
  refine ⟨q, .dK vs, e1, True.intro, fun od => ?_⟩
  obtain ⟨a1, m1⟩ := lk od
  refine (h od vs).run σ _ a1 (m1.sl a0 b0) (fun cls M' H' hx ha hm => x cls M' H' hx ha (m1.trans hm)) _ ?_
  rintro M' d v H' ⟨i, hi, hk⟩ ha hm hr
  obtain ⟨e2, a2, m2⟩ := lock_out gs ha hi
  exact ⟨e2, k _ _ _ _ hk a2 ((m1.trans hm).trans m2) (m2.rp ha hr)⟩
/-! ### what is walked is ours -/
def WalkP (P : Ms → Prop) (G : Hp → Prop) (K : PySem.W.Frag) (M' : Ms) (H' : Hp) (J : It) (l : List D) : Prop := ∃ Gd Y, Walk J l.length Gd Y ∧ (∀ M2 H2, P M2 → AtM G K M2 H2 → Mv M' H' M2 H2 → Gd H2) ∧
  ∀ i H2 M2 v H3, P M2 → AtM G K M2 H2 → Mv M' H' M2 H2 → Y i H2 v H3 → ∃ z, l[i]? = some z ∧ AtM G K M2 H3 ∧ Mv M2 H2 M2 H3 ∧ Rp K (dom M2) H3 v z
def WIP (X : Cx) (G : Hp → Prop) (W : WX) (tg it : Expr) (M : Ms) (ρ : Rh) (xr : Value → Ms → Prop) (R : Ms → List D → (Ms → Prop) → Prop) : Prop := ∃ wi, PI X tg it wi ∧
  ∀ σ H, AtM G X.K M H → Sl X.K (dom M) H σ ρ → Xok W G X.K M H σ xr → ∀ Q : It → Hp → Prop, (∀ M' l P H' J, R M' l P → AtM G X.K M' H' → Mv M H M' H' → WalkP P G X.K M' H' J l → Q J H') → wi σ H Q
end
section
variable {X : Cx} {G : Hp → Prop} {W : WX} {M : Ms} {ρ : Rh} {N : En} {pos : Pos} {k : Nat} {tg it e : Expr} {g : TG} {as : D → Rh → (Rh → Prop) → Prop} {body : List Stmt} {xr : Value → Ms → Prop} {RI : Ms → List D → (Ms → Prop) → Prop} {apos cpos tpos : Pos}
/-- a for over what is ours -/
theorem ws_forP (cx : Ct X G W k) (hg : PG X tg g) (ok : GOk G X.K g as) (J : List D → Nat → Ms → Rh → Prop)
    (h : WIP X G W tg it M ρ N.xr fun M1 l P => (∀ i M' ρ', J l i M' ρ' → P M') ∧ J l 0 M1 ρ ∧ (∀ n z, l[n]? = some z → Turn X G W as body N (J l) n z) ∧ ∀ M' ρ', J l l.length M' ρ' → N.nx M' ρ')
    (hsf : ∀ x, foldedSetIterable it X.env x = pure x := by intro _; rfl) : WS X G W (.For tg it body [] pos) M ρ N := by
  obtain ⟨wi, hi, h⟩ := h
  refine ws_of (ps_for cx.hp cx.hc hi hg pss_wp hsf) fun σ H a0 b0 Dn x n r bk ct => h σ H a0 b0 (xok_of x) _ fun M1 l P H1 Jt h1 a1 m1 wd => ?_
  obtain ⟨hP, j0, ht, he⟩ := h1
  obtain ⟨Gd, Y, w, hG, hY⟩ := wd
  refine for_it w (fun i σ' H' => ∃ M' ρ', J l i M' ρ' ∧ AtM G X.K M' H' ∧ Sl X.K (dom M') H' σ' ρ' ∧ Mv M1 H1 M' H') ⟨M1, ρ, j0, a1, m1.sl a0 b0, Mv.refl _ _⟩ (fun i σ' H' _ ⟨M', ρ', hj, ha, _, hm⟩ => hG _ _ (hP _ _ _ hj) ha hm) ?_ ?_
  · rintro i v σ' H' H3 hi ⟨M', ρ', hj, ha, hb, hm⟩ y
    obtain ⟨z, hz, ha3, hm3, rz⟩ := hY i H' M' v H3 (hP _ _ _ hj) ha hm y
    refine ok v z M' ρ' σ' H3 _ _ ha3 (hm3.sl ha hb) rz (ht i z hz M' ρ' hj) fun ρ2 σ2 hw hs => ?_
    have m13 := (m1.trans hm).trans hm3
    exact hw σ2 H3 ha3 hs _ (fun M2 H2 cls σ3 hx ha2 hm2 => x M2 H2 cls σ3 hx ha2 (m13.trans hm2)) (fun M2 ρ3 σ3 H3 hk ha2 hb2 hm2 => ⟨M2, ρ3, hk, ha2, hb2, (hm.trans hm3).trans hm2⟩)
      (fun M2 d v H2 hk ha2 hm2 => r M2 d v H2 hk ha2 (m13.trans hm2)) (fun M2 ρ3 σ3 H3 hk ha2 hb2 hm2 => n M2 ρ3 σ3 H3 hk ha2 hb2 (m13.trans hm2)) (fun M2 ρ3 σ3 H3 hk ha2 hb2 hm2 => ⟨M2, ρ3, hk, ha2, hb2, (hm.trans hm3).trans hm2⟩)
  · rintro σ' H' ⟨M', ρ', hj, ha, hb, hm⟩
    exact n M' ρ' σ' H' (he M' ρ' hj) ha hb (m1.trans hm)
/-- for k in d, d.keys(), d.values(), d.items() of a dict that is locked -/
abbrev hasK (q : Addr) (o : Obj) (vs : List (Key × V)) (kvs : List (Key × D)) : Ms → Prop := fun M' => ∃ i : Nat, M'[i]? = some (q, O.fK o vs kvs)
theorem walkK_keys {M' : Ms} {H' : Hp} {q : Addr} {o : Obj} {vs : List (Key × V)} {kvs : List (Key × D)} (hl : vs.length = kvs.length) (hk : vs.map (·.1) = kvs.map (·.1)) : WalkP (hasK q o vs kvs) G X.K M' H' (Itk q o vs) (kvs.map fun kv => kD kv.1) := by
  refine ⟨fun H => H q = some (.frz o (.dK vs)), fun i H x H' => H' = H ∧ ∃ k v, vs[i]? = some (k, v) ∧ x = kV k, ⟨fun i H hi hg => ⟨hg, ?_⟩, fun H hg => ⟨hg, ?_⟩, fun i H x H' _ _ y => y⟩, fun M2 H2 ⟨i, hi⟩ a2 _ => (at_obK a2 hi).1, fun i H2 M2 v H3 ⟨i2, hi2⟩ a2 hm y => ?_⟩
  · rw [List.length_map] at hi; omega
  · rw [List.length_map]; omega
  · obtain ⟨rfl, k, v', hv, rfl⟩ := y
    have e : (kvs.map (·.1))[i]? = some k := by rw [← hk, List.getElem?_map, hv]; rfl
    refine ⟨kD k, ?_, a2, Mv.refl _ _, .raw _⟩
    have e2 : (kvs.map fun kv => kD kv.1) = (kvs.map (·.1)).map kD := by rw [List.map_map]; rfl
    rw [e2, List.getElem?_map, e]
    rfl
theorem wi_keysK (h : WE X G W it M ρ xr fun M1 d => ∃ (j : Nat) (q : Addr) (o : Obj) (vs : List (Key × V)) (kvs : List (Key × D)), d = Rf q ∧ M1[j]? = some (q, .fK o vs kvs) ∧ RI M1 (kvs.map fun kv => kD kv.1) (hasK q o vs kvs)) : WIP X G W tg it M ρ xr RI :=
  ⟨_, pi_keys pe_wp, fun σ H a0 b0 x Q k => h σ H a0 b0 x _ fun M1 d v H1 h1 a1 m1 r1 => by
  obtain ⟨j, q, o, vs, kvs, rfl, hj, hk⟩ := h1
  obtain ⟨e1, g1, g2⟩ := at_obK a1 hj
  exact ⟨q, o, r1.raw_inv, .inl ⟨vs, e1, k M1 _ _ H1 _ hk a1 m1 (walkK_keys (by simpa using congrArg List.length g1) g1)⟩⟩⟩
theorem wi_valsK (h : WE X G W e M ρ xr fun M1 d => ∃ (j : Nat) (q : Addr) (o : Obj) (vs : List (Key × V)) (kvs : List (Key × D)), d = Rf q ∧ M1[j]? = some (q, .fK o vs kvs) ∧ RI M1 (kvs.map (·.2)) (hasK q o vs kvs))
    (hp : ∀ td, PE X e td → PI X tg (.Call (.Attribute e "values" apos) [] [] cpos) (iVals td) := by intro td h; exact pi_values h) : WIP X G W tg (.Call (.Attribute e "values" apos) [] [] cpos) M ρ xr RI :=
  ⟨_, hp _ pe_wp, fun σ H a0 b0 x Q k => h σ H a0 b0 x _ fun M1 d v H1 h1 a1 m1 r1 => by
  obtain ⟨j, q, o, vs, kvs, rfl, hj, hk⟩ := h1
  obtain ⟨e1, g1, g2⟩ := at_obK a1 hj
  have hl : vs.length = kvs.length := by simpa using congrArg List.length g1
  refine ⟨q, o, vs, r1.raw_inv, e1, k M1 _ _ H1 _ hk a1 m1 ⟨fun H => H q = some (.frz o (.dK vs)), fun i H x H' => H' = H ∧ ∃ k, vs[i]? = some (k, x), ⟨fun i H hi hg => ⟨hg, ?_⟩, fun H hg => ⟨hg, ?_⟩, fun i H x H' _ _ y => y⟩, fun M2 H2 ⟨i, hi⟩ a2 _ => (at_obK a2 hi).1, fun i H2 M2 v H3 ⟨i2, hi2⟩ a2 hm y => ?_⟩⟩
  · rw [List.length_map] at hi; omega
  · rw [List.length_map]; omega
  · obtain ⟨rfl, k, hv⟩ := y
    obtain ⟨_, _, g3⟩ := at_obK a2 hi2
    obtain ⟨z, hz, rz⟩ := g3.getV (i := i) (v := v) (by rw [List.getElem?_map, hv]; rfl)
    exact ⟨z, hz, a2, Mv.refl _ _, rz⟩⟩
theorem wi_itemsK {elts : List Expr} {kk : Nat} (h : WE X G W e M ρ xr fun M1 d => ∃ (j : Nat) (q : Addr) (o : Obj) (vs : List (Key × V)) (kvs : List (Key × D)), d = Rf q ∧ M1[j]? = some (q, .fK o vs kvs) ∧ RI M1 (kvs.map fun kv => .tup [kD kv.1, kv.2]) (hasK q o vs kvs)) (gs : Gst G)
    (hp : ∀ td, PE X e td → PI X (.Tuple elts kk tpos) (.Call (.Attribute e "items" apos) [] [] cpos) (iItems td) := by intro td h; exact pi_items h) : WIP X G W (.Tuple elts kk tpos) (.Call (.Attribute e "items" apos) [] [] cpos) M ρ xr RI :=
  ⟨_, hp _ pe_wp, fun σ H a0 b0 x Q k => h σ H a0 b0 x _ fun M1 d v H1 h1 a1 m1 r1 => by
  obtain ⟨j, q, o, vs, kvs, rfl, hj, hk⟩ := h1
  obtain ⟨e1, g1, g2⟩ := at_obK a1 hj
  have hl : vs.length = kvs.length := by simpa using congrArg List.length g1
  refine ⟨q, o, vs, r1.raw_inv, e1, k M1 _ _ H1 _ hk a1 m1 ⟨fun H => H q = some (.frz o (.dK vs)), fun i H x H' => ∃ T k v, vs[i]? = some (k, v) ∧ x = .ref T ∧ H T = none ∧ H' = upd H T (.tup [kV k, v]), ⟨fun i H hi hg => ⟨hg, ?_⟩, fun H hg => ⟨hg, ?_⟩, fun i H x H' _ _ y => y⟩, fun M2 H2 ⟨i, hi⟩ a2 _ => (at_obK a2 hi).1, fun i H2 M2 v H3 ⟨i2, hi2⟩ a2 hm y => ?_⟩⟩
  · rw [List.length_map] at hi; omega
  · rw [List.length_map]; omega
  · obtain ⟨T, k, v', hv, rfl, hT, rfl⟩ := y
    obtain ⟨_, g4, g3⟩ := at_obK a2 hi2
    obtain ⟨z, hz, rz⟩ := g3.getV (i := i) (v := v') (by rw [List.getElem?_map, hv]; rfl)
    have e : (kvs.map (·.1))[i]? = some k := by rw [← g4, List.getElem?_map, hv]; rfl
    obtain ⟨a3, m3⟩ := Mv.up (X := X) (o := .tup [kV k, v']) gs a2 hT
    refine ⟨.tup [kD k, z], ?_, a3, m3, .tup upd_same (.cons (.raw _) (.cons (m3.rp a2 rz) .nil))⟩
    rw [List.getElem?_map] at hz e ⊢
    cases hkv : kvs[i]? with
    | none => rw [hkv] at hz; cases hz
    | some kv =>
      rw [hkv] at hz e
      cases hz
      cases e
      rfl⟩
/-- a list of ours is walked -/
abbrev hasL (q : Addr) (l : List D) : Ms → Prop := fun M' => ∃ i : Nat, M'[i]? = some (q, O.lst l)
theorem wi_lstP (h : WE X G W it M ρ xr fun M1 d => ∃ (j : Nat) (q : Addr) (l : List D), d = Rf q ∧ M1[j]? = some (q, .lst l) ∧ RI M1 l (fun M' => ∃ i : Nat, M'[i]? = some (q, O.lst l))) : WIP X G W tg it M ρ xr RI :=
  ⟨_, pi_list pe_wp, fun σ H a0 b0 x Q k => h σ H a0 b0 x _ fun M1 d v H1 h1 a1 m1 r1 => by
  obtain ⟨j, q, l, rfl, hj, hk⟩ := h1
  obtain ⟨xs, e1, g1⟩ := at_obK a1 hj
  refine ⟨q, r1.raw_inv, ⟨xs, SqL.of e1⟩, k M1 _ _ H1 _ hk a1 m1 ⟨fun H => ∃ xs, H q = some (.lst xs) ∧ xs.length = l.length, fun i H x H' => H' = H ∧ ∃ xs, H q = some (.lst xs) ∧ xs[i]? = some x, ⟨fun i H hi ⟨xs, s, e⟩ => ?_, fun H ⟨xs, s, e⟩ => ?_, fun i H x H' hi ⟨xs, s, e⟩ y => ?_⟩, fun M2 H2 ⟨i, hi⟩ a2 _ => ?_, fun i H2 M2 v H3 ⟨i2, hi2⟩ a2 hm y => ?_⟩⟩
  · exact (walk_list (K := X.K) (a := q) (xs := xs)).goes i H (by omega) (SqL.of s)
  · have := (walk_list (K := X.K) (a := q) (xs := xs)).stops H (SqL.of s)
    rw [e] at this
    exact this
  · obtain ⟨y1, y2⟩ := (walk_list (K := X.K) (a := q) (xs := xs)).yields i H x H' (by omega) (SqL.of s) y
    exact ⟨y1, xs, s, y2⟩
  · obtain ⟨ys, e2, g2⟩ := at_obK a2 hi
    exact ⟨ys, e2, g2.length⟩
  · obtain ⟨rfl, ys, s, hy⟩ := y
    obtain ⟨zs, e2, g2⟩ := at_obK a2 hi2
    rw [e2] at s
    cases s
    obtain ⟨z, hz, rz⟩ := g2.getV hy
    exact ⟨z, hz, a2, Mv.refl _ _, rz⟩⟩
end
end Wv
set_option maxRecDepth 100000
set_option maxHeartbeats 2000000
namespace Wv
open PySem PySem.Spec PyProof.Rows L2 PySem.W
/-! ### comprehensions over what is ours -/
section
variable {X : Cx} {G : Hp → Prop} {W : WX} {M : Ms} {ρ : Rh} {xr : Value → Ms → Prop} {N : En} {pos : Pos} {R : Ms → D → Prop} {k : Nat}
variable {tg it elt e : Expr} {g : TG} {as : D → Rh → (Rh → Prop) → Prop} {ifs : List Expr} {scope : Scope} {own : List (Str × Nat)}
def TIvP (G : Hp → Prop) (K : PySem.W.Frag) (W : WX) (wi : TI) (M : Ms) (ρ : Rh) (xr : Value → Ms → Prop) (R : Ms → List D → (Ms → Prop) → Prop) : Prop :=
  ∀ σ H, AtM G K M H → Sl K (dom M) H σ ρ → Xok W G K M H σ xr → ∀ Q : It → Hp → Prop, (∀ M' l P H' J, R M' l P → AtM G K M' H' → Mv M H M' H' → WalkP P G K M' H' J l → Q J H') → wi σ H Q
theorem tev_lcP (gs : Gst G) {wi : TI} (ok : GOk G X.K g as) (gw : GWipe g (own.map (·.2))) (J : Nat → Ms → List D → Prop) {Wt : TT} {We : TE}
    (h : TIvP G X.K W wi M ρ xr fun M1 l P => (∀ x M', P M' → P (x :: M')) ∧ (∀ i M' acc, J i M' acc → P M') ∧ J 0 M1 [] ∧ (∀ n z, l[n]? = some z → ∀ q M' acc, J n M' acc → as z (wipeD ρ (own.map (·.2))) fun ρ' => TTv G X.K (fun _ _ _ _ => False) Wt ((q, .lst acc) :: M') ρ' (fun _ _ => False) fun M2 b => if b = true then TEv G X.K (fun _ _ _ _ => False) We M2 ρ' (fun _ _ => False) fun M3 y => ∃ M4, M3 = (q, .lst acc) :: M4 ∧ acc.length < sizeLine ∧ J (n + 1) M4 (acc ++ [y]) else ∃ M4, M2 = (q, .lst acc) :: M4 ∧ J (n + 1) M4 acc) ∧ ∀ M' acc, J l.length M' acc → R M' (.lst acc)) :
    TEv G X.K W (tLc wi g Wt We (own.map (·.2))) M ρ xr R := by
  intro σ H a0 b0 x Q q
  refine h σ H a0 b0 x _ fun M1 l P H1 Jt h1 a1 m1 wd => fun Dl hD => ?_
  obtain ⟨hP, hJ, j0, ht, he⟩ := h1
  obtain ⟨Gd, Y, w, hG, hY⟩ := wd
  obtain ⟨a2, m2⟩ := own_lst (X := X) gs a1 hD .nil
  refine lc_it w (fun i H' => ∃ M' acc, J i M' acc ∧ AtM G X.K ((Dl, .lst acc) :: M') H' ∧ Mv M1 H1 ((Dl, .lst acc) :: M') H') ⟨M1, [], j0, a2, m2⟩ (fun i H' _ ⟨M', acc, hj, ha, hm⟩ => hG _ _ (hP _ _ (hJ _ _ _ hj)) ha hm) ?_ ?_
  · rintro i v H' H3 hi ⟨M', acc, hj, ha, hm⟩ y
    obtain ⟨z, hz, ha3, hm3, rz⟩ := hY i H' _ v H3 (hP _ _ (hJ _ _ _ hj)) ha hm y
    have hmm := m1.trans (hm.trans hm3)
    have bs : Sl X.K (dom ((Dl, O.lst acc) :: M')) H3 (L2.wipe σ (own.map (·.2))) (wipeD ρ (own.map (·.2))) := (hmm.sl a0 b0).wipes _
    refine gw v σ H3 _ (ok v z _ _ _ H3 _ _ ha3 bs rz (ht i z hz Dl M' acc hj) fun ρ2 σ2 hw hs => ?_)
    refine hw σ2 H3 ha3 hs (fun _ _ _ z => z.elim) _ fun M2 b H4 h2 a4 m4 => ?_
    cases b with
    | false =>
      obtain ⟨M4, rfl, hj4⟩ := (show ∃ M4, M2 = (Dl, O.lst acc) :: M4 ∧ J (i + 1) M4 acc from h2)
      exact iteF ⟨M4, acc, hj4, a4, (hm.trans hm3).trans m4⟩
    | true =>
      refine iteT ((show TEv G X.K _ We M2 ρ2 _ _ from h2) σ2 H4 a4 (m4.sl ha3 hs) (fun _ _ _ z => z.elim) _ fun M3 y v5 H5 h5 a5 m5 r5 => ?_)
      obtain ⟨M4, rfl, hl, hj4⟩ := h5
      obtain ⟨xs, e5, rl⟩ := a5.ob (Dl, .lst acc) List.mem_cons_self
      refine ⟨xs, e5, by rw [rl.length]; exact hl, M4, acc ++ [y], hj4, ?_⟩
      have hmw : Mv ((Dl, O.lst acc) :: M4) H5 ((Dl, O.lst acc) :: M4) (upd H5 Dl (.lst (xs ++ [v5]))) := ⟨fun b w e n _ => by
        rw [upd_ne (fun z => n (by rw [z]; exact List.mem_cons_self))]; exact e, fun _ h => .inl h⟩
      obtain ⟨a6, m6⟩ := a5.write gs (i := 0) (o' := .lst (acc ++ [y])) rfl (u := .lst (xs ++ [v5])) (fun _ z => by cases z) ⟨_, upd_same, (hmw.rpl a5 rl).app (.cons (hmw.rp a5 r5) .nil)⟩
      exact ⟨a6, (((hm.trans hm3).trans m4).trans m5).trans m6⟩
  · rintro H' ⟨M', acc, hj, ha, hm⟩
    obtain ⟨a3, m3, r3⟩ := ha.drop
    exact q M' _ _ H' (he M' acc hj) a3 ((m1.trans hm).trans m3) r3
/-- the reading of a comprehension's parts -/
theorem tiv_lcP (cx : Ct X G W k) {wi : TI} {vs : List Nat} {J : Nat → Ms → List D → Prop}
    (h : TIvP G X.K W wi M ρ xr fun M1 l P => (∀ x M', P M' → P (x :: M')) ∧ (∀ i M' acc, J i M' acc → P M') ∧ J 0 M1 [] ∧ (∀ n z, l[n]? = some z → TurnC X G k scope as ifs elt (wipeD ρ vs) J n z) ∧ ∀ M' acc, J l.length M' acc → R M' (.lst acc)) (mono : ∀ d ρ (k k' : Rh → Prop), (∀ r, k r → k' r) → as d ρ k → as d ρ k') :
    TIvP G X.K W wi M ρ xr fun M1 l P => (∀ x M', P M' → P (x :: M')) ∧ (∀ i M' acc, J i M' acc → P M') ∧ J 0 M1 [] ∧ (∀ n z, l[n]? = some z → ∀ q M' acc, J n M' acc → as z (wipeD ρ vs) fun ρ' => TTv G X.K (fun _ _ _ _ => False) (fun σ H Q => ∀ Y, Blk X scope Y → ifsT Y ifs σ H Q) ((q, .lst acc) :: M') ρ' (fun _ _ => False) fun M2 b =>
      if b = true then TEv G X.K (fun _ _ _ _ => False) (fun σ H Q => ∀ Y, Blk X scope Y → eT Y elt σ H Q) M2 ρ' (fun _ _ => False) fun M3 y => ∃ M4, M3 = (q, .lst acc) :: M4 ∧ acc.length < sizeLine ∧ J (n + 1) M4 (acc ++ [y]) else ∃ M4, M2 = (q, .lst acc) :: M4 ∧ J (n + 1) M4 acc) ∧ ∀ M' acc, J l.length M' acc → R M' (.lst acc) := by
  intro σ H a0 b0 x Q q
  refine h σ H a0 b0 x _ fun M1 l P H1 Jt h1 a1 m1 wd => q M1 l P H1 Jt ?_ a1 m1 wd
  obtain ⟨hP, hJ, j0, ht, he⟩ := h1
  refine ⟨hP, hJ, j0, fun n z hz q0 M' acc hj => mono _ _ _ _ (fun ρ' hr => ?_) (ht n z hz q0 M' acc hj), he⟩
  intro σ2 H2 a2 b2 x2 Q2 q2 Y hY
  have hK : Y.K = X.K := by obtain ⟨s, H, C, cl, fp, rfl⟩ := hY; rfl
  have h3 := wts_run (hr Y hY (cx.blk hY))
  rw [hK] at h3
  refine h3 σ2 H2 a2 b2 x2 Q2 fun M3 b H3 hb a3 m3 => q2 M3 b H3 ?_ a3 m3
  cases b with
  | false => exact hb
  | true =>
    intro σ4 H4 a4 b4 x4 Q4 q4 Y' hY'
    have hK' : Y'.K = X.K := by obtain ⟨s, H, C, cl, fp, rfl⟩ := hY'; rfl
    have h5 := (show ∀ Y', Blk X scope Y' → Ct Y' G (fun _ _ _ _ => False) k → WE Y' G (fun _ _ _ _ => False) elt M3 ρ' (fun _ _ => False) _ from hb) Y' hY' (cx.blk hY')
    replace h5 := h5.run
    rw [hK'] at h5
    exact h5 σ4 H4 a4 b4 x4 Q4 q4
/-- [elt for tg in it if ..] -/
theorem we_lcP (cx : Ct X G W k) (hN : X.N.Nodup) (own : List (Str × Nat)) (J : Nat → Ms → List D → Prop) (gok : GOk G X.K g as) (gw : GWipe g (own.map (·.2))) (mono : ∀ d ρ (k k' : Rh → Prop), (∀ r, k r → k' r) → as d ρ k → as d ρ k')
    (hg : ∀ (s : Shared) (H : Hp) (C : Addr) (cl : List (Str × Addr)) (fp : List Addr), PG (X.blk s H scope (compEnvC scope cl C X.env) fp) tg g) (ok : BlkOk X.N X.env.scope scope own)
    (h : WIP X G W tg it M ρ xr fun M1 l P => (∀ x M', P M' → P (x :: M')) ∧ (∀ i M' acc, J i M' acc → P M') ∧ J 0 M1 [] ∧ (∀ n z, l[n]? = some z → TurnC X G k scope as ifs elt (wipeD ρ (own.map (·.2))) J n z) ∧ ∀ M' acc, J l.length M' acc → R M' (.lst acc))
    (hs : ∀ x, foldedSetIterable it X.env x = pure x := by intro _; rfl) : WE X G W (.ListComp elt [⟨tg, it, ifs, 0⟩] scope pos) M ρ xr R := by
  obtain ⟨wi, hi, h⟩ := h
  refine we_of (pe_lc (own := own) (tt := fun σ H Q => ∀ Y, Blk X scope Y → ifsT Y ifs σ H Q) (te := fun σ H Q => ∀ Y, Blk X scope Y → eT Y elt σ H Q) cx.hc hN hi ok hg
    (fun s H C cl fp => ⟨fun pins s' σ H' Q I h => pts_wp.run pins s' σ H' Q I (h _ ⟨s, H, C, cl, fp, rfl⟩)⟩) (fun s H C cl fp => ⟨fun pins s' σ H' Q I h => pe_wp.run pins s' σ H' Q I (h _ ⟨s, H, C, cl, fp, rfl⟩)⟩) hs) (tev_lcP cx.gs gok gw J (tiv_lcP cx h mono))
theorem hasK_cons {q : Addr} {o : Obj} {vs : List (Key × V)} {kvs : List (Key × D)} : ∀ (x : Addr × O) (M' : Ms), hasK q o vs kvs M' → hasK q o vs kvs (x :: M') := fun x M' ⟨i, h⟩ => ⟨i + 1, h⟩
theorem hasL_cons {q : Addr} {l : List D} : ∀ (x : Addr × O) (M' : Ms), hasL q l M' → hasL q l (x :: M') := fun x M' ⟨i, h⟩ => ⟨i + 1, h⟩
/-- sorted(d): its keys -/
theorem we_sortedDI (cx : Ct X G W k) {p : Pos} (hm : X.mg "sorted" = none) (hg : Gl X "sorted") (h : WE X G W e M ρ xr fun M1 d => ∃ (j : Nat) (q : Addr) (kvs : List (Key × D)) (ks : List Int), d = Rf q ∧ M1[j]? = some (q, .dK kvs) ∧ kvs.map (·.1) = ks.map Sum.inl ∧ ks.length < 64 ∧ ∀ ys : List Int, ys.Perm ks → ys.Pairwise (· ≤ ·) → R M1 (.lst (ys.map fun i => I i))) (he : starEach [e] X.env = (false, eval e X.env) :: starEach [] X.env := by rfl) : WE X G W (.Call (.Name "sorted" p) [e] [] pos) M ρ xr R :=
  we_bi (he := he) (call_sortedDI cx.hc) hm (by decide +kernel) hg (wa1 h he) fun M1 ds vs H1 Q ⟨d, hds, j, q0, kvs, ks, hd, hj, hk1, hl, hk⟩ a1 r1 q => by
  subst hds
  subst hd
  obtain ⟨v, rfl, rv⟩ := r1.one
  obtain ⟨ws, e1, g1, g2⟩ := at_obK a1 hj
  exact ⟨q0, ws, ks, by rw [rv.raw_inv], .inl e1, g1.trans hk1, hl, fun ys p' h1 h2 hp => new_lst cx.gs a1 hp (ints_rp ys) (hk ys h1 h2) q⟩
theorem we_sortedDS (cx : Ct X G W k) {p : Pos} (hm : X.mg "sorted" = none) (hg : Gl X "sorted") (h : WE X G W e M ρ xr fun M1 d => ∃ (j : Nat) (q : Addr) (kvs : List (Key × D)) (ks : List Str), d = Rf q ∧ M1[j]? = some (q, .dK kvs) ∧ kvs.map (·.1) = ks.map Sum.inr ∧ ks.length < 64 ∧ ∀ ys : List Str, ys.Perm ks → sortedS ys = true → R M1 (.lst (ys.map Z))) (he : starEach [e] X.env = (false, eval e X.env) :: starEach [] X.env := by rfl) : WE X G W (.Call (.Name "sorted" p) [e] [] pos) M ρ xr R :=
  we_bi (he := he) (call_sortedD cx.hc) hm (by decide +kernel) hg (wa1 h he) fun M1 ds vs H1 Q ⟨d, hds, j, q0, kvs, ks, hd, hj, hk1, hl, hk⟩ a1 r1 q => by
  subst hds
  subst hd
  obtain ⟨v, rfl, rv⟩ := r1.one
  obtain ⟨ws, e1, g1, g2⟩ := at_obK a1 hj
  refine ⟨q0, ws, ks, by rw [rv.raw_inv], .inl e1, g1.trans hk1, hl, fun ys p' h1 h2 hp => new_lst cx.gs a1 hp ?_ (hk ys h1 h2) q⟩
  have e : ys.map Z = (ys.map V.str).map D.raw := by rw [List.map_map]; rfl
  rw [e]
  exact RpL.raws_mk _
end
end Wv
set_option maxRecDepth 100000
set_option maxHeartbeats 2000000
namespace Wv
open PySem PySem.Spec PyProof.Rows L2 PySem.W
/-! ### displays of dicts -/
section
variable {X : Cx} {G : Hp → Prop} {W : WX} {M : Ms} {ρ : Rh} {xr : Value → Ms → Prop} {N : En} {pos : Pos} {R : Ms → D → Prop}
/-- keys and values, from the left -/
def WPs (X : Cx) (G : Hp → Prop) (W : WX) : List (Expr × Expr) → Ms → Rh → (Value → Ms → Prop) → (Ms → List (D × D) → Prop) → Prop
  | [], M, _, _, R => R M []
  | (k, v) :: r, M, ρ, xr, R => WE X G W k M ρ xr fun M1 d => WE X G W v M1 ρ xr fun M2 e => WPs X G W r M2 ρ xr fun M3 ps => R M3 ((d, e) :: ps)
def trsOf (X : Cx) (l : List (Expr × Expr)) : List (TE × TE) := l.map fun p => (eT X p.1, eT X p.2)
theorem pps_of : ∀ l : List (Expr × Expr), PPs X pos (l.map fun p => some p.1) (l.map (·.2)) (trsOf X l)
  | [] => pps_nil
  | (k, v) :: r => pps_cons pe_wp pe_wp (pps_of r)
theorem wps_run : ∀ (l : List (Expr × Expr)) (M : Ms) (R : Ms → List (D × D) → Prop) (σ : L2.St) (H : Hp) (Q : List (V × V) → Hp → Prop), WPs X G W l M ρ xr R → AtM G X.K M H → Sl X.K (dom M) H σ ρ → Xok W G X.K M H σ xr →
    (∀ M' ps vs H', ps.length = l.length → R M' ps → AtM G X.K M' H' → Mv M H M' H' → RpL X.K (dom M') H' (vs.map (·.1)) (ps.map (·.1)) → RpL X.K (dom M') H' (vs.map (·.2)) (ps.map (·.2)) → Q vs H') → tPairs (trsOf X l) σ H Q
  | [], M, R, σ, H, Q, h, a, b, x, q => q M [] [] H rfl h a (Mv.refl _ _) .nil .nil
  | (k, v) :: r, M, R, σ, H, Q, h, a, b, x, q => by
    refine (show WE X G W k M ρ xr _ from h).run σ H a b x _ fun M1 d v1 H1 h1 a1 m1 r1 => ?_
    refine (show WE X G W v M1 ρ xr _ from h1).run σ H1 a1 (m1.sl a b) (x.mv m1) _ fun M2 e v2 H2 h2 a2 m2 r2 => ?_
    refine wps_run r M2 _ σ H2 _ h2 a2 ((m1.trans m2).sl a b) (x.mv (m1.trans m2)) fun M3 ps vs H3 hl h3 a3 m3 l1 l2 => ?_
    exact q M3 _ _ H3 (by simp [hl]) h3 a3 ((m1.trans m2).trans m3) (.cons (m3.rp a2 (m2.rp a1 r1)) l1) (.cons (m3.rp a2 r2) l2)
def mergeM (kvs more : List (Key × D)) : List (Key × D) := more.foldl (fun acc kv => putM acc kv.1 kv.2) kvs
theorem RpG.merge {K : PySem.W.Frag} {Y : List Addr} {H : Hp} : ∀ {more : List (Key × D)} {ms : List (Key × V)} {fs : List (Key × D)} {vs : List (Key × V)}, RpG K Y H vs fs → RpG K Y H ms more → RpG K Y H (mergeK vs ms) (mergeM fs more)
  | [], ms, fs, vs, a, b => by
    have : ms = [] := by have := b.1; simpa using this
    subst this; exact a
  | (k, z) :: more, ms, fs, vs, a, b => by
    obtain ⟨v, mr, rfl, r, b'⟩ := b.cons_inv
    show RpG K Y H (mergeK (putK vs k v) mr) (mergeM (putM fs k z) more)
    exact RpG.merge (a.put r) b'
theorem we_disp (gs : Gst G) (l : List (Expr × Expr)) (h0 : l ≠ []) (h15 : l.length ≤ 15) (h : ∀ p, WPs X G W l ((p, .dK []) :: M) ρ xr fun M3 ps => ∃ (i : Nat) (kvs : List (Key × D)), M3[i]? = some (p, .dK []) ∧ ps = kvs.map (fun kv => (kD kv.1, kv.2)) ∧ R (M3.set i (p, .dK (mergeM [] kvs))) (Rf p)) :
    WE X G W (.Dict (l.map fun p => some p.1) (l.map (·.2)) pos) M ρ xr R :=
  we_of (pe_disp (pps_of l) (by simp) (by simp) (by simpa using h0) (by simpa using h15)) fun σ H a0 b0 x Q q => by
  intro p hp
  obtain ⟨a1, m1⟩ := a0.own gs (o := .dK []) (fun b v e => upd_grow hp b v e) hp ⟨[], upd_same, rfl, .nil⟩
  refine wps_run l _ _ σ _ _ (h p) a1 (m1.sl a0 b0) (x.mv m1) fun M3 ps vs H3 hlen h3 a3 m3 l1 l2 => ?_
  obtain ⟨i, kvs, hi, rfl, hk⟩ := h3
  obtain ⟨ws, e1, g1⟩ := at_obK a3 hi
  have hws : ws = [] := by have := g1.1; simpa using this
  subst hws
  -- the values with their keys
  have key : ∀ (kvs : List (Key × D)) (vs : List (V × V)), RpL X.K (dom M3) H3 (vs.map (·.1)) ((kvs.map fun kv => (kD kv.1, kv.2)).map (·.1)) → RpL X.K (dom M3) H3 (vs.map (·.2)) ((kvs.map fun kv => (kD kv.1, kv.2)).map (·.2)) →
      ∃ us : List (Key × V), vs = us.map (fun kv => (kV kv.1, kv.2)) ∧ RpG X.K (dom M3) H3 us kvs := by
    intro kvs
    induction kvs with
    | nil =>
      intro vs h1 h2
      have : vs = [] := by
        cases vs with
        | nil => rfl
        | cons a b => cases h1
      subst this
      exact ⟨[], rfl, .nil⟩
    | cons kv r ih =>
      intro vs h1 h2
      cases vs with
      | nil => cases h1
      | cons a b =>
        obtain ⟨k, z⟩ := kv
        obtain ⟨u, v⟩ := a
        simp only [List.map_cons] at h1 h2
        cases h1 with
        | cons x1 x2 => cases h2 with
          | cons y1 y2 =>
            obtain ⟨us, rfl, g⟩ := ih b x2 y2
            have eu : u = kV k := x1.raw_inv
            subst eu
            exact ⟨(k, v) :: us, rfl, .cons y1 g⟩
  obtain ⟨us, rfl, g⟩ := key kvs vs l1 l2
  have hm : Mv M3 H3 M3 (upd H3 p (.dK (mergeK [] us))) := ⟨fun b w e n _ => by
      rw [upd_ne (fun z => n (by rw [z]; exact mem_at hi))]; exact e, fun _ h => .inl h⟩
  obtain ⟨a4, m4⟩ := a3.write gs (o' := .dK (mergeM [] kvs)) hi (u := .dK (mergeK [] us)) (fun _ z => by cases z) ⟨_, upd_same, by
    have := RpG.merge (K := X.K) (Y := dom M3) (H := upd H3 p (.dK (mergeK [] us))) RpG.nil ⟨g.1, hm.rpl a3 g.2⟩
    exact this⟩
  have hl : us.length ≤ 15 := by
    have e1 := g.len
    rw [List.length_map] at hlen
    omega
  exact ⟨e1, us, rfl, hl, q _ _ _ _ hk a4 ((m1.trans m3).trans m4) (.raw _)⟩
end
end Wv
set_option maxRecDepth 100000
set_option maxHeartbeats 2000000
namespace Wv
open PySem PySem.Spec PyProof.Rows L2 PySem.W
open RZ (ItzT pi_zipA)
/-! ### targets that store only their own slots -/
theorem wipe_at (vs : List Nat) : ∀ (σ : L2.St) (j : Nat), (L2.wipe σ vs)[j]? = if j ∈ vs then (σ[j]?).map (fun _ => none) else σ[j]? := by
  induction vs with
  | nil => intro σ j; simp [L2.wipe]
  | cons v vs ih =>
    intro σ j
    show ((L2.wipe σ vs).set v none)[j]? = _
    by_cases e : v = j
    · subst e
      by_cases hl : v < (L2.wipe σ vs).length
      · rw [List.getElem?_set_self hl]
        rw [wipe_length] at hl
        simp [hl]
      · rw [List.getElem?_eq_none (by rw [List.length_set]; omega)]
        rw [wipe_length] at hl
        simp [hl]
    · rw [List.getElem?_set_ne e, ih]
      have e' : ¬ j = v := fun z => e z.symm
      simp [List.mem_cons, e']
theorem wipe_set {vs : List Nat} {i : Nat} (hi : i ∈ vs) (σ : L2.St) (x : Option V) : L2.wipe (σ.set i x) vs = L2.wipe σ vs := by
  refine List.ext_getElem? fun j => ?_
  rw [wipe_at, wipe_at]
  by_cases e : i = j
  · subst e
    simp only [if_pos hi]
    by_cases hl : i < σ.length
    · rw [List.getElem?_set_self hl, List.getElem?_eq_getElem hl]; rfl
    · rw [List.getElem?_eq_none (by rw [List.length_set]; omega), List.getElem?_eq_none (by omega)]
  · rw [List.getElem?_set_ne e]
theorem wipe_wipe {vs : List Nat} (σ : L2.St) : L2.wipe (L2.wipe σ vs) vs = L2.wipe σ vs := by
  refine List.ext_getElem? fun j => ?_
  rw [wipe_at, wipe_at]
  by_cases e : j ∈ vs
  · simp only [if_pos e]
    cases σ[j]? <;> rfl
  · simp only [if_neg e]
def GOnly (g : TG) (vs : List Nat) : Prop := ∀ v σ H (Q : L2.St → Hp → Prop), g v σ H Q → g v σ H fun σ2 H2 => L2.wipe σ2 vs = L2.wipe σ vs ∧ Q σ2 H2
def GsOnly (g : TGs) (vs : List Nat) : Prop := ∀ v σ H (Q : L2.St → Hp → Prop), g v σ H Q → g v σ H fun σ2 H2 => L2.wipe σ2 vs = L2.wipe σ vs ∧ Q σ2 H2
theorem gonly_name {i : Nat} {vs : List Nat} (h : i ∈ vs := by decide) : GOnly (gName i) vs := fun v σ H Q q => ⟨wipe_set h σ _, q⟩
theorem gonly_nil {vs : List Nat} : GsOnly gNil vs := fun v σ H Q q => ⟨q.1, rfl, q.2⟩
def GMono (g : TG) : Prop := ∀ v σ H (Q Q' : L2.St → Hp → Prop), (∀ a b, Q a b → Q' a b) → g v σ H Q → g v σ H Q'
def GsMono (g : TGs) : Prop := ∀ v σ H (Q Q' : L2.St → Hp → Prop), (∀ a b, Q a b → Q' a b) → g v σ H Q → g v σ H Q'
theorem gmono_name (i : Nat) : GMono (gName i) := fun v σ H Q Q' f q => f _ _ q
theorem gsmono_nil : GsMono gNil := fun v σ H Q Q' f q => ⟨q.1, f _ _ q.2⟩
theorem gsmono_cons {t : TG} {u : TGs} (h1 : GMono t) (h2 : GsMono u) : GsMono (gCons t u) := fun vs σ H Q Q' f ⟨v, r, e, h⟩ => ⟨v, r, e, h1 _ _ _ _ _ (fun a b z => h2 _ _ _ _ _ f z) h⟩
theorem gonly_cons {t : TG} {u : TGs} {vs : List Nat} (m : GMono t) (m2 : GsMono u) (h1 : GOnly t vs) (h2 : GsOnly u vs) : GsOnly (gCons t u) vs := fun l σ H Q ⟨v, r, e, h⟩ =>
  ⟨v, r, e, m _ _ _ _ _ (fun a b z => m2 _ _ _ _ _ (fun c d y => ⟨y.1.trans z.1, y.2⟩) (h2 _ _ _ _ z.2)) (h1 _ _ _ _ h)⟩
theorem gonly_tup {K : PySem.W.Frag} {n : Nat} {t : TGs} {vs : List Nat} (h : GsOnly t vs) : GOnly (gTup K n t) vs := fun v σ H Q ⟨a, xs, e1, e2, e3, q⟩ => ⟨a, xs, e1, e2, e3, h _ _ _ _ q⟩
theorem gmono_tup {K : PySem.W.Frag} {n : Nat} {t : TGs} (h : GsMono t) : GMono (gTup K n t) := fun v σ H Q Q' f ⟨a, xs, e1, e2, e3, q⟩ => ⟨a, xs, e1, e2, e3, h _ _ _ _ _ f q⟩
theorem gwipe_of {g : TG} {vs : List Nat} (h : GOnly g vs) (m : GMono g) : GWipe g vs := fun v σ H Q q => m _ _ _ _ _ (fun a b z => ⟨z.1.trans (wipe_wipe σ), z.2⟩) (h _ _ _ _ q)
/-- names two, three at once -/
theorem gwipe_two {K : PySem.W.Frag} {i j : Nat} {vs : List Nat} (hi : i ∈ vs := by decide) (hj : j ∈ vs := by decide) : GWipe (gTup K 2 (gCons (gName i) (gCons (gName j) gNil))) vs :=
  gwipe_of (gonly_tup (gonly_cons (gmono_name _) (gsmono_cons (gmono_name _) gsmono_nil) (gonly_name hi) (gonly_cons (gmono_name _) gsmono_nil (gonly_name hj) gonly_nil))) (gmono_tup (gsmono_cons (gmono_name _) (gsmono_cons (gmono_name _) gsmono_nil)))
theorem gwipe_three {K : PySem.W.Frag} {i j l : Nat} {vs : List Nat} (hi : i ∈ vs := by decide) (hj : j ∈ vs := by decide) (hl : l ∈ vs := by decide) : GWipe (gTup K 3 (gCons (gName i) (gCons (gName j) (gCons (gName l) gNil)))) vs :=
  gwipe_of (gonly_tup (gonly_cons (gmono_name _) (gsmono_cons (gmono_name _) (gsmono_cons (gmono_name _) gsmono_nil)) (gonly_name hi) (gonly_cons (gmono_name _) (gsmono_cons (gmono_name _) gsmono_nil) (gonly_name hj) (gonly_cons (gmono_name _) gsmono_nil (gonly_name hl) gonly_nil)))) (gmono_tup (gsmono_cons (gmono_name _) (gsmono_cons (gmono_name _) (gsmono_cons (gmono_name _) gsmono_nil))))
abbrev AMono (as : D → Rh → (Rh → Prop) → Prop) : Prop := ∀ d ρ (k k' : Rh → Prop), (∀ r, k r → k' r) → as d ρ k → as d ρ k'
theorem amono_name (i : Nat) : AMono (asN i) := fun _ _ _ _ f h => f _ h
theorem asL_mono : ∀ {as : List (D → Rh → (Rh → Prop) → Prop)}, (∀ a ∈ as, AMono a) → ∀ ds ρ (k k' : Rh → Prop), (∀ r, k r → k' r) → asL as ds ρ k → asL as ds ρ k'
  | [], _, _, _, _, _, f, h => ⟨h.1, f _ h.2⟩
  | a :: as, hm, _, _, _, _, f, ⟨d, r, e, h⟩ => ⟨d, r, e, hm a List.mem_cons_self _ _ _ _ (fun ρ' z => asL_mono (fun b hb => hm b (List.mem_cons_of_mem _ hb)) _ _ _ _ f z) h⟩
theorem amono_tup {as : List (D → Rh → (Rh → Prop) → Prop)} (hm : ∀ a ∈ as, AMono a) : AMono (asT as) := fun _ _ _ _ f ⟨ds, e, l, h⟩ => ⟨ds, e, l, asL_mono hm _ _ _ _ f h⟩
theorem amono_two {i j : Nat} : AMono (asT [asN i, asN j]) := amono_tup fun a ha => by
  simp only [List.mem_cons, List.not_mem_nil, or_false] at ha
  rcases ha with rfl | rfl <;> exact amono_name _
theorem amono_three {i j l : Nat} : AMono (asT [asN i, asN j, asN l]) := amono_tup fun a ha => by
  simp only [List.mem_cons, List.not_mem_nil, or_false] at ha
  rcases ha with rfl | rfl | rfl <;> exact amono_name _
theorem gok_two {G : Hp → Prop} {K : PySem.W.Frag} {i j : Nat} : GOk G K (gTup K 2 (gCons (gName i) (gCons (gName j) gNil))) (asT [asN i, asN j]) := gok_tup (gsok_cons (gok_name i) (gsok_cons (gok_name j) gsok_nil)) rfl
theorem gok_three {G : Hp → Prop} {K : PySem.W.Frag} {i j l : Nat} : GOk G K (gTup K 3 (gCons (gName i) (gCons (gName j) (gCons (gName l) gNil)))) (asT [asN i, asN j, asN l]) := gok_tup (gsok_cons (gok_name i) (gsok_cons (gok_name j) (gsok_cons (gok_name l) gsok_nil))) rfl
/-! ### bools -/
theorem bools_vs {K : PySem.W.Frag} {Y : List Addr} {H : Hp} {bs : List Bool} {xs : List V} (h : RpL K Y H xs (bs.map fun b => B b)) : xs = bs.map V.bl := by
  have e : (bs.map fun b => B b) = (bs.map V.bl).map D.raw := by rw [List.map_map]; rfl
  rw [e] at h
  exact h.raws
section
variable {X : Cx} {G : Hp → Prop} {W : WX} {M : Ms} {ρ : Rh} {xr : Value → Ms → Prop} {N : En} {a b c e e2 f o i : Expr} {es : List Expr} {pos p apos : Pos} {R : Ms → D → Prop} {k j : Nat}
theorem we_anyB (cx : Ct X G W k) (hm : X.mg "any" = none) (hg : Gl X "any") (h : WE X G W e M ρ xr fun M1 d => ∃ bs : List Bool, d = .lst (bs.map fun b => B b) ∧ R M1 (B (bs.any id))) (he : starEach [e] X.env = (false, eval e X.env) :: starEach [] X.env := by rfl) : WE X G W (.Call (.Name "any" p) [e] [] pos) M ρ xr R :=
  we_bi (he := he) (cr_any cx.hc) hm (by decide +kernel) hg (wa1 h he) fun M1 ds vs H1 Q ⟨d, hds, bs, hi, hk⟩ a1 r1 q => by
  subst hds
  subst hi
  obtain ⟨v, rfl, rv⟩ := r1.one
  obtain ⟨pp, xs, rfl, s1, _, l1⟩ := rv.lst_inv
  rw [bools_vs l1] at s1
  exact ⟨pp, bs, rfl, SqL.of s1, q M1 _ _ H1 hk a1 (Mv.refl _ _) (.raw _)⟩
theorem we_allB (cx : Ct X G W k) (hm : X.mg "all" = none) (hg : Gl X "all") (h : WE X G W e M ρ xr fun M1 d => ∃ bs : List Bool, d = .lst (bs.map fun b => B b) ∧ R M1 (B (bs.all id))) (he : starEach [e] X.env = (false, eval e X.env) :: starEach [] X.env := by rfl) : WE X G W (.Call (.Name "all" p) [e] [] pos) M ρ xr R :=
  we_bi (he := he) (cr_all cx.hc) hm (by decide +kernel) hg (wa1 h he) fun M1 ds vs H1 Q ⟨d, hds, bs, hi, hk⟩ a1 r1 q => by
  subst hds
  subst hi
  obtain ⟨v, rfl, rv⟩ := r1.one
  obtain ⟨pp, xs, rfl, s1, _, l1⟩ := rv.lst_inv
  rw [bools_vs l1] at s1
  exact ⟨pp, bs, rfl, SqL.of s1, q M1 _ _ H1 hk a1 (Mv.refl _ _) (.raw _)⟩
end
/-! ### zip, enumerate of data -/
theorem walk_zipT {K : PySem.W.Frag} {a b : Addr} {xs ys : List V} {n : Nat} (hn : n = min xs.length ys.length) : Walk (ItzT K a b) n (fun H => SqT K H a xs ∧ SqT K H b ys) (YPair (fun i => xs[i]?) (fun i => ys[i]?)) := by
  subst hn
  refine ⟨fun i _ hi q => ?_, fun _ q => ⟨xs, ys, q.1, q.2, by omega⟩, fun i H v H' _ q y => ?_⟩
  · have h1 : i < xs.length := by omega
    have h2 : i < ys.length := by omega
    exact ⟨xs, ys, xs[i], ys[i], q.1, q.2, by simp [h1], by simp [h2]⟩
  · obtain ⟨T, x, z, h1, h2, h3, h4, h5⟩ := y
    exact ⟨T, x, z, h1, h2, h3, h4 xs q.1, h5 ys q.2⟩
theorem zip_at {α β : Type} {l1 : List α} {l2 : List β} {i : Nat} {x : α} {y : β} (h1 : l1[i]? = some x) (h2 : l2[i]? = some y) : (l1.zip l2)[i]? = some (x, y) := by
  rw [List.getElem?_zip_eq_some]; exact ⟨h1, h2⟩
section
variable {X : Cx} {G : Hp → Prop} {W : WX} {M : Ms} {ρ : Rh} {xr : Value → Ms → Prop} {N : En} {a b c e e2 f o i : Expr} {es elts : List Expr} {pos p apos tpos : Pos} {R : Ms → D → Prop} {RI : Ms → List D → Prop} {k j kk : Nat}
theorem pair_rp (gs : Gst G) {M2 : Ms} {H2 : Hp} {T : Addr} {x y : V} {d e : D} (a2 : AtM G X.K M2 H2) (hT : H2 T = none) (rx : Rp X.K (dom M2) H2 x d) (ry : Rp X.K (dom M2) H2 y e) :
    AtM G X.K M2 (upd H2 T (.tup [x, y])) ∧ Mv M2 H2 M2 (upd H2 T (.tup [x, y])) ∧ Rp X.K (dom M2) (upd H2 T (.tup [x, y])) (.ref T) (.tup [d, e]) := by
  obtain ⟨a3, m3⟩ := Mv.up gs (o := .tup [x, y]) a2 hT
  exact ⟨a3, m3, .tup upd_same (.cons (m3.rp a2 rx) (.cons (m3.rp a2 ry) .nil))⟩
theorem wi_zip (gs : Gst G) (hm : X.mg "zip" = none) (hg : Gl X "zip") (h : WA X G W [e, e2] M ρ xr fun M1 ds => ∃ l1 l2, (ds = [.lst l1, .lst l2] ∨ ds = [.tup l1, .tup l2]) ∧ RI M1 ((l1.zip l2).map fun p => .tup [p.1, p.2]))
    (hs : starEach [e, e2] X.env = (false, eval e X.env) :: starEach [e2] X.env := by rfl) (hpl : (backTo pos (starEach [e2] X.env)).any (·.1) = false := by rfl) : WI X G W (.Tuple elts kk tpos) (.Call (.Name "zip" p) [e, e2] [] pos) M ρ xr RI :=
  ⟨_, pi_zipA hg hm pa_wp hs hpl, fun σ H a0 b0 x Q q => h σ H a0 b0 x _ fun M1 ds vs H1 h1 a1 m1 r1 => by
  obtain ⟨l1, l2, hd, hk⟩ := h1
  have fin : ∀ (p1 p2 : Addr) (xs ys : List V), RpL X.K (dom M1) H1 xs l1 → RpL X.K (dom M1) H1 ys l2 → (xs.length = l1.length ∧ ys.length = l2.length) →
      ∀ M2 H2 i v H3, AtM G X.K M2 H2 → Mv M1 H1 M2 H2 → YPair (fun i => xs[i]?) (fun i => ys[i]?) i H2 v H3 → ∃ z, ((l1.zip l2).map fun p => D.tup [p.1, p.2])[i]? = some z ∧ AtM G X.K M2 H3 ∧ Mv M2 H2 M2 H3 ∧ Rp X.K (dom M2) H3 v z := by
    rintro p1 p2 xs ys ra rb hl M2 H2 i v H3 a2 hm ⟨T, x, y, rfl, hT, rfl, hx, hy⟩
    obtain ⟨z1, hz1, rz1⟩ := mv_at (a := p1) hm a1 ra hx
    obtain ⟨z2, hz2, rz2⟩ := mv_at (a := p2) hm a1 rb hy
    obtain ⟨a3, m3, r3⟩ := pair_rp (X := X) gs a2 hT rz1 rz2
    exact ⟨_, by rw [List.getElem?_map, zip_at hz1 hz2]; rfl, a3, m3, r3⟩
  rcases hd with rfl | rfl
  · obtain ⟨v1, v2, rfl, rv1, rv2⟩ := r1.two
    obtain ⟨p1, xs, rfl, s1, n1, ra⟩ := rv1.lst_inv
    obtain ⟨p2, ys, rfl, s2, n2, rb⟩ := rv2.lst_inv
    refine ⟨p1, p2, xs, ys, rfl, .inl ⟨SqL.of s1, SqL.of s2, q M1 _ H1 _ hk a1 m1 ⟨_, _, walk_zip (K := X.K) (a := p1) (b := p2) (xs := xs) (ys := ys) (by rw [List.length_map, List.length_zip, ra.length, rb.length]), fun M2 H2 a2 hm => ⟨SqL.of (hm.lstR s1 n1).1, SqL.of (hm.lstR s2 n2).1⟩, fun i H2 M2 v H3 a2 hm y => ?_⟩⟩⟩
    exact fin p1 p2 xs ys ra rb ⟨ra.length, rb.length⟩ M2 H2 i v H3 a2 hm y
  · obtain ⟨v1, v2, rfl, rv1, rv2⟩ := r1.two
    obtain ⟨p1, xs, rfl, s1, ra⟩ := rv1.tup_inv
    obtain ⟨p2, ys, rfl, s2, rb⟩ := rv2.tup_inv
    refine ⟨p1, p2, xs, ys, rfl, .inr ⟨s1, s2, q M1 _ H1 _ hk a1 m1 ⟨_, _, walk_zipT (K := X.K) (a := p1) (b := p2) (xs := xs) (ys := ys) (by rw [List.length_map, List.length_zip, ra.length, rb.length]), fun M2 H2 a2 hm => ⟨hm.sqT a1 s1, hm.sqT a1 s2⟩, fun i H2 M2 v H3 a2 hm y => ?_⟩⟩⟩
    exact fin p1 p2 xs ys ra rb ⟨ra.length, rb.length⟩ M2 H2 i v H3 a2 hm y⟩
end
/-! ### comprehensions that know what they walk -/
section
variable {X : Cx} {G : Hp → Prop} {W : WX} {M : Ms} {ρ : Rh} {xr : Value → Ms → Prop} {N : En} {pos : Pos} {R : Ms → D → Prop} {k : Nat}
variable {tg it elt e : Expr} {g : TG} {as : D → Rh → (Rh → Prop) → Prop} {ifs : List Expr} {scope : Scope} {own : List (Str × Nat)}
theorem wip_of {RI : Ms → List D → (Ms → Prop) → Prop} (h : WI X G W tg it M ρ xr fun M1 l => RI M1 l fun _ => True) : WIP X G W tg it M ρ xr RI := by
  obtain ⟨wi, hi, h⟩ := h
  refine ⟨wi, hi, fun σ H a0 b0 x Q q => h σ H a0 b0 x Q fun M' l H' J hr a1 m1 wd => q M' l _ H' J hr a1 m1 ?_⟩
  obtain ⟨Gd, Y, w, hG, hY⟩ := wd
  exact ⟨Gd, Y, w, fun M2 H2 _ => hG M2 H2, fun i H2 M2 v H3 _ => hY i H2 M2 v H3⟩
theorem tev_lcG (cx : Ct X G W k) {wi : TI} (ok : GOk G X.K g as) (gw : GWipe g (own.map (·.2))) (J : Ms → List D → Nat → Ms → List D → Prop) (mono : ∀ d ρ (k k' : Rh → Prop), (∀ r, k r → k' r) → as d ρ k → as d ρ k')
    (h : TIvP G X.K W wi M ρ xr fun M1 l P => (∀ x M', P M' → P (x :: M')) ∧ (∀ i M' acc, J M1 l i M' acc → P M') ∧ J M1 l 0 M1 [] ∧ (∀ n z, l[n]? = some z → TurnC X G k scope as ifs elt (wipeD ρ (own.map (·.2))) (J M1 l) n z) ∧ ∀ M' acc, J M1 l l.length M' acc → R M' (.lst acc)) :
    TEv G X.K W (tLc wi g (fun σ H Q => ∀ Y, Blk X scope Y → ifsT Y ifs σ H Q) (fun σ H Q => ∀ Y, Blk X scope Y → eT Y elt σ H Q) (own.map (·.2))) M ρ xr R := by
  intro σ H a0 b0 x Q q
  refine h σ H a0 b0 x _ fun M1 l P H1 Jt h1 a1 m1 wd => fun Dl hD => ?_
  obtain ⟨hP, hJ, j0, ht, he⟩ := h1
  obtain ⟨Gd, Y, w, hG, hY⟩ := wd
  obtain ⟨a2, m2⟩ := own_lst (X := X) cx.gs a1 hD .nil
  refine lc_it (vs := own.map (·.2)) (g := g) (σ := σ) (tt := fun σ H Q => ∀ Y, Blk X scope Y → ifsT Y ifs σ H Q) (te := fun σ H Q => ∀ Y, Blk X scope Y → eT Y elt σ H Q) w (fun i H' => ∃ M' acc, J M1 l i M' acc ∧ AtM G X.K ((Dl, .lst acc) :: M') H' ∧ Mv M1 H1 ((Dl, .lst acc) :: M') H') ⟨M1, [], j0, a2, m2⟩ (fun i H' _ ⟨M', acc, hj, ha, hm⟩ => hG _ _ (hP _ _ (hJ _ _ _ hj)) ha hm) ?_ ?_
  · rintro i v H' H3 hi ⟨M', acc, hj, ha, hm⟩ y
    obtain ⟨z, hz, ha3, hm3, rz⟩ := hY i H' _ v H3 (hP _ _ (hJ _ _ _ hj)) ha hm y
    have hmm := m1.trans (hm.trans hm3)
    have bs : Sl X.K (dom ((Dl, O.lst acc) :: M')) H3 (L2.wipe σ (own.map (·.2))) (wipeD ρ (own.map (·.2))) := (hmm.sl a0 b0).wipes _
    refine gw v σ H3 _ (ok v z _ _ _ H3 _ _ ha3 bs rz (ht i z hz Dl M' acc hj) fun ρ2 σ2 hw hs => ?_)
    intro Y hY2
    have hK : Y.K = X.K := by obtain ⟨s, H, C, cl, fp, rfl⟩ := hY2; rfl
    have h3 := wts_run (hw Y hY2 (cx.blk hY2))
    rw [hK] at h3
    refine h3 σ2 H3 ha3 hs (fun _ _ _ z => z.elim) _ fun M2 b H4 h2 a4 m4 => ?_
    cases b with
    | false =>
      obtain ⟨M4, rfl, hj4⟩ := (show ∃ M4, M2 = (Dl, O.lst acc) :: M4 ∧ J M1 l (i + 1) M4 acc from h2)
      exact iteF ⟨M4, acc, hj4, a4, (hm.trans hm3).trans m4⟩
    | true =>
      refine iteT fun Y' hY' => ?_
      have hK' : Y'.K = X.K := by obtain ⟨s, H, C, cl, fp, rfl⟩ := hY'; rfl
      have h5 := ((show ∀ Y', Blk X scope Y' → Ct Y' G (fun _ _ _ _ => False) k → WE Y' G (fun _ _ _ _ => False) elt M2 ρ2 (fun _ _ => False) _ from h2) Y' hY' (cx.blk hY')).run
      rw [hK'] at h5
      refine h5 σ2 H4 a4 (m4.sl ha3 hs) (fun _ _ _ z => z.elim) _ fun M3 y v5 H5 h5 a5 m5 r5 => ?_
      obtain ⟨M4, rfl, hl, hj4⟩ := h5
      obtain ⟨xs, e5, rl⟩ := a5.ob (Dl, .lst acc) List.mem_cons_self
      refine ⟨xs, e5, by rw [rl.length]; exact hl, M4, acc ++ [y], hj4, ?_⟩
      have hmw : Mv ((Dl, O.lst acc) :: M4) H5 ((Dl, O.lst acc) :: M4) (upd H5 Dl (.lst (xs ++ [v5]))) := ⟨fun b w e n _ => by
        rw [upd_ne (fun z => n (by rw [z]; exact List.mem_cons_self))]; exact e, fun _ h => .inl h⟩
      obtain ⟨a6, m6⟩ := a5.write cx.gs (i := 0) (o' := .lst (acc ++ [y])) rfl (u := .lst (xs ++ [v5])) (fun _ z => by cases z) ⟨_, upd_same, (hmw.rpl a5 rl).app (.cons (hmw.rp a5 r5) .nil)⟩
      exact ⟨a6, (((hm.trans hm3).trans m4).trans m5).trans m6⟩
  · rintro H' ⟨M', acc, hj, ha, hm⟩
    obtain ⟨a3, m3, r3⟩ := ha.drop
    exact q M' _ _ H' (he M' acc hj) a3 ((m1.trans hm).trans m3) r3
theorem we_lcG (cx : Ct X G W k) (hN : X.N.Nodup) (own : List (Str × Nat)) (J : Ms → List D → Nat → Ms → List D → Prop) (gok : GOk G X.K g as) (gw : GWipe g (own.map (·.2))) (mono : AMono as)
    (hg : ∀ (s : Shared) (H : Hp) (C : Addr) (cl : List (Str × Addr)) (fp : List Addr), PG (X.blk s H scope (compEnvC scope cl C X.env) fp) tg g) (ok : BlkOk X.N X.env.scope scope own)
    (h : WIP X G W tg it M ρ xr fun M1 l P => (∀ x M', P M' → P (x :: M')) ∧ (∀ i M' acc, J M1 l i M' acc → P M') ∧ J M1 l 0 M1 [] ∧ (∀ n z, l[n]? = some z → TurnC X G k scope as ifs elt (wipeD ρ (own.map (·.2))) (J M1 l) n z) ∧ ∀ M' acc, J M1 l l.length M' acc → R M' (.lst acc))
    (hs : ∀ x, foldedSetIterable it X.env x = pure x := by intro _; rfl) : WE X G W (.ListComp elt [⟨tg, it, ifs, 0⟩] scope pos) M ρ xr R := by
  obtain ⟨wi, hi, h⟩ := h
  exact we_of (pe_lc (own := own) (tt := fun σ H Q => ∀ Y, Blk X scope Y → ifsT Y ifs σ H Q) (te := fun σ H Q => ∀ Y, Blk X scope Y → eT Y elt σ H Q) cx.hc hN hi ok hg
    (fun s H C cl fp => ⟨fun pins s' σ H' Q I h => pts_wp.run pins s' σ H' Q I (h _ ⟨s, H, C, cl, fp, rfl⟩)⟩) (fun s H C cl fp => ⟨fun pins s' σ H' Q I h => pe_wp.run pins s' σ H' Q I (h _ ⟨s, H, C, cl, fp, rfl⟩)⟩) hs) (tev_lcG cx gok gw J mono h)
theorem ws_setLcG (i : Nat) {y : Str} {py spos : Pos} (cx : Ct X G W k) (hN : X.N.Nodup) (own : List (Str × Nat)) (J : Ms → List D → Nat → Ms → List D → Prop) (gok : GOk G X.K g as) (gw : GWipe g (own.map (·.2))) (mono : AMono as)
    (hg : ∀ (s : Shared) (H : Hp) (C : Addr) (cl : List (Str × Addr)) (fp : List Addr), PG (X.blk s H scope (compEnvC scope cl C X.env) fp) tg g) (ok : BlkOk X.N X.env.scope scope own) (hsw : swapsWith (.ListComp elt [⟨tg, it, ifs, 0⟩] scope pos) (some (.Name y py)) spos.line X.env = pure true)
    (h : WIP X G W tg it M ρ N.xr fun M1 l P => (∀ x M', P M' → P (x :: M')) ∧ (∀ i M' acc, J M1 l i M' acc → P M') ∧ J M1 l 0 M1 [] ∧ (∀ n z, l[n]? = some z → TurnC X G k scope as ifs elt (wipeD ρ (own.map (·.2))) (J M1 l) n z) ∧ ∀ M' acc, J M1 l l.length M' acc → N.nx M' (ρ.set i (some (.lst acc))))
    (hy : X.N[i]? = some y := by rfl) (hyl : X.env.scope.names.lookup y = some .local := by rfl) (hs : ∀ x, foldedSetIterable it X.env x = pure x := by intro _; rfl) : WS X G W (.Assign [.Name y py] (.ListComp elt [⟨tg, it, ifs, 0⟩] scope pos) spos) M ρ N := by
  obtain ⟨wi, hi, h⟩ := h
  refine ws_of (ps_setLc (own := own) (tt := fun σ H Q => ∀ Y, Blk X scope Y → ifsT Y ifs σ H Q) (te := fun σ H Q => ∀ Y, Blk X scope Y → eT Y elt σ H Q) cx.hc hN hy hyl hsw hi ok hg
    (fun s H C cl fp => ⟨fun pins s' σ H' Q I h => pts_wp.run pins s' σ H' Q I (h _ ⟨s, H, C, cl, fp, rfl⟩)⟩) (fun s H C cl fp => ⟨fun pins s' σ H' Q I h => pe_wp.run pins s' σ H' Q I (h _ ⟨s, H, C, cl, fp, rfl⟩)⟩) hs) fun σ H a0 b0 Dn x n r bk ct => ?_
  exact tev_lcG (R := fun M' d => N.nx M' (ρ.set i (some d))) cx gok gw J mono h σ H a0 b0 (xok_of x) _ fun M' d v H' hk a' m' r' => n M' _ _ H' hk a' ((m'.sl a0 b0).set i r') m'
/-! ### comprehensions that change nothing -/
/-- what an item is to show: p: whether it is taken, f: what it gives -/
def ItemF (X : Cx) (G : Hp → Prop) (k : Nat) (scope : Scope) (as : D → Rh → (Rh → Prop) → Prop) (ifs : List Expr) (elt : Expr) (ρ : Rh) (M1 : Ms) (p : D → Bool) (f : D → D) (z : D) : Prop :=
  ∀ q acc, as z ρ fun ρ' => ∀ Y, Blk X scope Y → Ct Y G (fun _ _ _ _ => False) k → WTs Y G (fun _ _ _ _ => False) ifs ((q, O.lst acc) :: M1) ρ' (fun _ _ => False) fun M2 b => M2 = (q, O.lst acc) :: M1 ∧ b = p z ∧
    (p z = true → ∀ Y', Blk X scope Y' → Ct Y' G (fun _ _ _ _ => False) k → WE Y' G (fun _ _ _ _ => False) elt ((q, O.lst acc) :: M1) ρ' (fun _ _ => False) fun M3 y => M3 = (q, O.lst acc) :: M1 ∧ y = f z)
def JF (p : D → Bool) (f : D → D) (M1 : Ms) (l : List D) (n : Nat) (M' : Ms) (acc : List D) : Prop := M' = M1 ∧ acc = ((l.take n).filter p).map f
theorem turn_F {l : List D} {M1 : Ms} {p : D → Bool} {f : D → D} (mono : AMono as) (hl : l.length < sizeLine) (h : ∀ z ∈ l, ItemF X G k scope as ifs elt ρ M1 p f z) : ∀ n z, l[n]? = some z → TurnC X G k scope as ifs elt ρ (JF p f M1 l) n z := by
  rintro n z hz q M' acc ⟨rfl, rfl⟩
  refine mono _ _ _ _ ?_ (h z (List.mem_of_getElem? hz) q (((l.take n).filter p).map f))
  intro ρ' hr Y hY cy
  have ht : l.take (n + 1) = l.take n ++ [z] := by rw [List.take_add_one, hz]; rfl
  have hn : (((l.take n).filter p).map f).length < sizeLine := by
    rw [List.length_map]
    refine Nat.lt_of_le_of_lt (List.length_filter_le _ _) (Nat.lt_of_le_of_lt ?_ hl)
    rw [List.length_take]; omega
  have imp : ∀ {R R' : Ms → Bool → Prop}, (∀ M b, R M b → R' M b) → WTs Y G (fun _ _ _ _ => False) ifs ((q, O.lst (((l.take n).filter p).map f)) :: M') ρ' (fun _ _ => False) R → WTs Y G (fun _ _ _ _ => False) ifs ((q, O.lst (((l.take n).filter p).map f)) :: M') ρ' (fun _ _ => False) R' := by
    intro R R' f h
    unfold WTs at h ⊢
    split at h
    · exact f _ _ h
    · exact ⟨fun σ H a b x Q q => h.run σ H a b x Q fun M' b' H' hk => q M' b' H' (f _ _ hk)⟩
    · exact h.elim
  refine imp (fun M2 b hb => ?_) (hr Y hY cy)
  obtain ⟨rfl, rfl, hk⟩ := hb
  cases hp : p z with
  | false =>
    refine iteF ⟨M', rfl, rfl, ?_⟩
    rw [ht, List.filter_append, List.filter_cons_of_neg (by rw [hp]; simp), List.filter_nil, List.append_nil]
  | true =>
    refine iteT fun Y' hY' cy' => we_imp (hk hp Y' hY' cy') fun M3 y hy => ?_
    obtain ⟨rfl, rfl⟩ := hy
    refine ⟨M', rfl, hn, rfl, ?_⟩
    rw [ht, List.filter_append, List.filter_cons_of_pos hp, List.filter_nil, List.map_append]
    rfl
theorem we_lcF (cx : Ct X G W k) (hN : X.N.Nodup) (own : List (Str × Nat)) (p : D → Bool) (f : D → D) (gok : GOk G X.K g as) (gw : GWipe g (own.map (·.2))) (mono : AMono as)
    (hg : ∀ (s : Shared) (H : Hp) (C : Addr) (cl : List (Str × Addr)) (fp : List Addr), PG (X.blk s H scope (compEnvC scope cl C X.env) fp) tg g) (ok : BlkOk X.N X.env.scope scope own)
    (h : WIP X G W tg it M ρ xr fun M1 l P => (∀ x M', P M' → P (x :: M')) ∧ P M1 ∧ l.length < sizeLine ∧ (∀ z ∈ l, ItemF X G k scope as ifs elt (wipeD ρ (own.map (·.2))) M1 p f z) ∧ R M1 (.lst ((l.filter p).map f)))
    (hs : ∀ x, foldedSetIterable it X.env x = pure x := by intro _; rfl) : WE X G W (.ListComp elt [⟨tg, it, ifs, 0⟩] scope pos) M ρ xr R := by
  refine we_lcG cx hN own (JF p f) gok gw mono hg ok ?_ hs
  obtain ⟨wi, hi, h⟩ := h
  refine ⟨wi, hi, fun σ H a0 b0 x Q q => h σ H a0 b0 x Q fun M' l P H' J hr a1 m1 wd => q M' l P H' J ?_ a1 m1 wd⟩
  obtain ⟨h1, h2, h3, h4, h5⟩ := hr
  refine ⟨h1, fun i M'' acc hj => by rw [hj.1]; exact h2, ⟨rfl, by simp⟩, turn_F mono h3 h4, fun M'' acc hj => ?_⟩
  obtain ⟨rfl, rfl⟩ := hj
  rw [List.take_of_length_le (Nat.le_refl _)]
  exact h5
theorem ws_setLcF (i : Nat) {y : Str} {py spos : Pos} (cx : Ct X G W k) (hN : X.N.Nodup) (own : List (Str × Nat)) (p : D → Bool) (f : D → D) (gok : GOk G X.K g as) (gw : GWipe g (own.map (·.2))) (mono : AMono as)
    (hg : ∀ (s : Shared) (H : Hp) (C : Addr) (cl : List (Str × Addr)) (fp : List Addr), PG (X.blk s H scope (compEnvC scope cl C X.env) fp) tg g) (ok : BlkOk X.N X.env.scope scope own) (hsw : swapsWith (.ListComp elt [⟨tg, it, ifs, 0⟩] scope pos) (some (.Name y py)) spos.line X.env = pure true)
    (h : WIP X G W tg it M ρ N.xr fun M1 l P => (∀ x M', P M' → P (x :: M')) ∧ P M1 ∧ l.length < sizeLine ∧ (∀ z ∈ l, ItemF X G k scope as ifs elt (wipeD ρ (own.map (·.2))) M1 p f z) ∧ N.nx M1 (ρ.set i (some (.lst ((l.filter p).map f)))))
    (hy : X.N[i]? = some y := by rfl) (hyl : X.env.scope.names.lookup y = some .local := by rfl) (hs : ∀ x, foldedSetIterable it X.env x = pure x := by intro _; rfl) : WS X G W (.Assign [.Name y py] (.ListComp elt [⟨tg, it, ifs, 0⟩] scope pos) spos) M ρ N := by
  refine ws_setLcG i cx hN own (JF p f) gok gw mono hg ok hsw ?_ hy hyl hs
  obtain ⟨wi, hi, h⟩ := h
  refine ⟨wi, hi, fun σ H a0 b0 x Q q => h σ H a0 b0 x Q fun M' l P H' J hr a1 m1 wd => q M' l P H' J ?_ a1 m1 wd⟩
  obtain ⟨h1, h2, h3, h4, h5⟩ := hr
  refine ⟨h1, fun i M'' acc hj => by rw [hj.1]; exact h2, ⟨rfl, by simp⟩, turn_F mono h3 h4, fun M'' acc hj => ?_⟩
  obtain ⟨rfl, rfl⟩ := hj
  rw [List.take_of_length_le (Nat.le_refl _)]
  exact h5
/-- an item without a test -/
theorem itemM {M1 : Ms} {f : D → D} {z : D} (mono : AMono as) (h : ∀ q acc, as z ρ fun ρ' => ∀ Y', Blk X scope Y' → Ct Y' G (fun _ _ _ _ => False) k → WE Y' G (fun _ _ _ _ => False) elt ((q, O.lst acc) :: M1) ρ' (fun _ _ => False) fun M3 y => M3 = (q, O.lst acc) :: M1 ∧ y = f z) : ItemF X G k scope as [] elt ρ M1 (fun _ => true) f z :=
  fun q acc => mono _ _ _ _ (fun ρ' hr Y hY cy => (show _ ∧ _ ∧ _ from ⟨rfl, rfl, fun _ Y' hY' cy' => hr Y' hY' cy'⟩)) (h q acc)
/-- an item with one test -/
theorem itemP {c : Expr} {M1 : Ms} {p : D → Bool} {f : D → D} {z : D} (mono : AMono as) (h : ∀ q acc, as z ρ fun ρ' => ∀ Y, Blk X scope Y → Ct Y G (fun _ _ _ _ => False) k → WT Y G (fun _ _ _ _ => False) c ((q, O.lst acc) :: M1) ρ' (fun _ _ => False) fun M2 b => M2 = (q, O.lst acc) :: M1 ∧ b = p z ∧
    (p z = true → ∀ Y', Blk X scope Y' → Ct Y' G (fun _ _ _ _ => False) k → WE Y' G (fun _ _ _ _ => False) elt ((q, O.lst acc) :: M1) ρ' (fun _ _ => False) fun M3 y => M3 = (q, O.lst acc) :: M1 ∧ y = f z)) : ItemF X G k scope as [c] elt ρ M1 p f z :=
  fun q acc => mono _ _ _ _ (fun ρ' hr Y hY cy => hr Y hY cy) (h q acc)
end
end Wv
set_option maxRecDepth 100000
set_option maxHeartbeats 2000000
namespace Wv
open PySem PySem.Spec PyProof.Rows L2 PySem.W
section
variable {X : Cx} {G : Hp → Prop} {W : WX} {M : Ms} {ρ : Rh} {xr : Value → Ms → Prop} {N : En} {pos : Pos} {R : Ms → D → Prop} {k : Nat}
variable {tg it elt e : Expr} {g : TG} {as : D → Rh → (Rh → Prop) → Prop} {ifs : List Expr} {scope : Scope} {own : List (Str × Nat)}
/-- what an item of a comprehension without tests is to show -/
def ItemM (X : Cx) (G : Hp → Prop) (k : Nat) (scope : Scope) (as : D → Rh → (Rh → Prop) → Prop) (elt : Expr) (ρ : Rh) (M1 : Ms) (f : D → D) (z : D) : Prop :=
  ∀ q acc, as z ρ fun ρ' => ∀ Y', Blk X scope Y' → Ct Y' G (fun _ _ _ _ => False) k → WE Y' G (fun _ _ _ _ => False) elt ((q, O.lst acc) :: M1) ρ' (fun _ _ => False) fun M3 y => M3 = (q, O.lst acc) :: M1 ∧ y = f z
theorem we_lcM (cx : Ct X G W k) (hN : X.N.Nodup) (own : List (Str × Nat)) (f : D → D) (gok : GOk G X.K g as) (gw : GWipe g (own.map (·.2))) (mono : AMono as)
    (hg : ∀ (s : Shared) (H : Hp) (C : Addr) (cl : List (Str × Addr)) (fp : List Addr), PG (X.blk s H scope (compEnvC scope cl C X.env) fp) tg g) (ok : BlkOk X.N X.env.scope scope own)
    (h : WIP X G W tg it M ρ xr fun M1 l P => (∀ x M', P M' → P (x :: M')) ∧ P M1 ∧ l.length < sizeLine ∧ (∀ z ∈ l, ItemM X G k scope as elt (wipeD ρ (own.map (·.2))) M1 f z) ∧ R M1 (.lst (l.map f)))
    (hs : ∀ x, foldedSetIterable it X.env x = pure x := by intro _; rfl) : WE X G W (.ListComp elt [⟨tg, it, [], 0⟩] scope pos) M ρ xr R := by
  refine we_lcF cx hN own (fun _ => true) f gok gw mono hg ok ?_ hs
  obtain ⟨wi, hi, h⟩ := h
  refine ⟨wi, hi, fun σ H a0 b0 x Q q => h σ H a0 b0 x Q fun M' l P H' J hr a1 m1 wd => q M' l P H' J ?_ a1 m1 wd⟩
  obtain ⟨h1, h2, h3, h4, h5⟩ := hr
  refine ⟨h1, h2, h3, fun z hz => itemM mono (h4 z hz), ?_⟩
  rw [List.filter_eq_self.mpr fun _ _ => rfl]
  exact h5
theorem ws_setLcM (i : Nat) {y : Str} {py spos : Pos} (cx : Ct X G W k) (hN : X.N.Nodup) (own : List (Str × Nat)) (f : D → D) (gok : GOk G X.K g as) (gw : GWipe g (own.map (·.2))) (mono : AMono as)
    (hg : ∀ (s : Shared) (H : Hp) (C : Addr) (cl : List (Str × Addr)) (fp : List Addr), PG (X.blk s H scope (compEnvC scope cl C X.env) fp) tg g) (ok : BlkOk X.N X.env.scope scope own) (hsw : swapsWith (.ListComp elt [⟨tg, it, [], 0⟩] scope pos) (some (.Name y py)) spos.line X.env = pure true)
    (h : WIP X G W tg it M ρ N.xr fun M1 l P => (∀ x M', P M' → P (x :: M')) ∧ P M1 ∧ l.length < sizeLine ∧ (∀ z ∈ l, ItemM X G k scope as elt (wipeD ρ (own.map (·.2))) M1 f z) ∧ N.nx M1 (ρ.set i (some (.lst (l.map f)))))
    (hy : X.N[i]? = some y := by rfl) (hyl : X.env.scope.names.lookup y = some .local := by rfl) (hs : ∀ x, foldedSetIterable it X.env x = pure x := by intro _; rfl) : WS X G W (.Assign [.Name y py] (.ListComp elt [⟨tg, it, [], 0⟩] scope pos) spos) M ρ N := by
  refine ws_setLcF i cx hN own (fun _ => true) f gok gw mono hg ok hsw ?_ hy hyl hs
  obtain ⟨wi, hi, h⟩ := h
  refine ⟨wi, hi, fun σ H a0 b0 x Q q => h σ H a0 b0 x Q fun M' l P H' J hr a1 m1 wd => q M' l P H' J ?_ a1 m1 wd⟩
  obtain ⟨h1, h2, h3, h4, h5⟩ := hr
  refine ⟨h1, h2, h3, fun z hz => itemM mono (h4 z hz), ?_⟩
  rw [List.filter_eq_self.mpr fun _ _ => rfl]
  exact h5
end
end Wv
set_option maxRecDepth 100000
set_option maxHeartbeats 2000000
namespace Wv
open PySem PySem.Spec PyProof.Rows L2 PySem.W
/-! ### data of one shape: equality as it is -/
structure Enc {α : Type} [DecidableEq α] (n : Nat) (enc : α → D) : Prop where
  eq : ∀ a b, eqd (enc a) (enc b) = decide (a = b)
  pl : ∀ a, Pl n (enc a)
theorem encI {n : Nat} : Enc n (fun i : Int => I i) := ⟨eqd_int, fun i => .int i⟩
theorem encZ {n : Nat} : Enc n (fun i : Str => Z i) := ⟨eqd_str, fun i => .str i⟩
theorem encB {n : Nat} : Enc n (fun i : Bool => B i) := ⟨eqd_bl, fun i => .bl i⟩
theorem eqvAll_enc {α : Type} [DecidableEq α] {enc : α → D} (h : ∀ a b, eqd (enc a) (enc b) = decide (a = b)) : ∀ l m : List α, PyData.eqvAll (pyDs (l.map enc)) (pyDs (m.map enc)) = decide (l = m)
  | [], [] => rfl
  | [], b :: m => by simp [pyDs, PyData.eqvAll]
  | a :: l, [] => by simp [pyDs, PyData.eqvAll]
  | a :: l, b :: m => by
    simp only [List.map_cons, pyDs, PyData.eqvAll]
    have h1 := h a b
    unfold eqd at h1
    rw [h1, eqvAll_enc h l m]
    by_cases e : a = b <;> by_cases e2 : l = m <;> simp [e, e2]
theorem encT {α : Type} [DecidableEq α] {n : Nat} {enc : α → D} (h : Enc n enc) : Enc (n + 1) (fun l : List α => .tup (l.map enc)) :=
  ⟨fun l m => by unfold eqd pyD; simp only [PyData.eqv]; exact eqvAll_enc h.eq l m, fun l => .tup fun x hx => by obtain ⟨i, _, rfl⟩ := List.mem_map.mp hx; exact h.pl i⟩
theorem encL {α : Type} [DecidableEq α] {n : Nat} {enc : α → D} (h : Enc n enc) : Enc (n + 1) (fun l : List α => .lst (l.map enc)) :=
  ⟨fun l m => by unfold eqd pyD; simp only [PyData.eqv]; exact eqvAll_enc h.eq l m, fun l => .lst fun x hx => by obtain ⟨i, _, rfl⟩ := List.mem_map.mp hx; exact h.pl i⟩
theorem encP {α β : Type} [DecidableEq α] [DecidableEq β] {n : Nat} {enc : α → D} {enc2 : β → D} (h : Enc n enc) (h2 : Enc n enc2) : Enc (n + 1) (fun p : α × β => .tup [enc p.1, enc2 p.2]) := by
  refine ⟨fun p q => ?_, fun p => .tup fun x hx => ?_⟩
  · have e1 := h.eq p.1 q.1
    have e2 := h2.eq p.2 q.2
    unfold eqd at e1 e2 ⊢
    simp only [pyD, pyDs, PyData.eqv, PyData.eqvAll, e1, e2, Bool.and_true]
    obtain ⟨a, b⟩ := p
    obtain ⟨c, d⟩ := q
    by_cases z1 : a = c <;> by_cases z2 : b = d <;> simp [z1, z2]
  · simp only [List.mem_cons, List.not_mem_nil, or_false] at hx
    rcases hx with rfl | rfl
    · exact h.pl _
    · exact h2.pl _
theorem enc3 {α β γ : Type} [DecidableEq α] [DecidableEq β] [DecidableEq γ] {n : Nat} {enc : α → D} {enc2 : β → D} {enc3 : γ → D} (h : Enc n enc) (h2 : Enc n enc2) (h3 : Enc n enc3) : Enc (n + 1) (fun p : α × β × γ => .tup [enc p.1, enc2 p.2.1, enc3 p.2.2]) := by
  refine ⟨fun p q => ?_, fun p => .tup fun x hx => ?_⟩
  · have e1 := h.eq p.1 q.1
    have e2 := h2.eq p.2.1 q.2.1
    have e3 := h3.eq p.2.2 q.2.2
    unfold eqd at e1 e2 e3 ⊢
    simp only [pyD, pyDs, PyData.eqv, PyData.eqvAll, e1, e2, e3, Bool.and_true]
    obtain ⟨a, b, e⟩ := p
    obtain ⟨c, d, f⟩ := q
    by_cases z1 : a = c <;> by_cases z2 : b = d <;> by_cases z3 : e = f <;> simp [z1, z2, z3]
  · simp only [List.mem_cons, List.not_mem_nil, or_false] at hx
    rcases hx with rfl | rfl | rfl
    · exact h.pl _
    · exact h2.pl _
    · exact h3.pl _
theorem Pl.up : ∀ {n m : Nat} {d : D}, Pl n d → n ≤ m → Pl m d
  | _, _, _, .int i, _ => .int i
  | _, _, _, .bl i, _ => .bl i
  | _, _, _, .str i, _ => .str i
  | _, _, _, .non, _ => .non
  | _, m + 1, _, .tup h, q => .tup fun x hx => (h x hx).up (Nat.le_of_succ_le_succ q)
  | _, m + 1, _, .lst h, q => .lst fun x hx => (h x hx).up (Nat.le_of_succ_le_succ q)
section
variable {α : Type} [DecidableEq α] {n : Nat} {enc : α → D}
theorem CmpD.eqE {k : Bool → Prop} {a b : α} (e : Enc n enc) (h : k (decide (a = b))) (hn : n ≤ 60 := by decide) : CmpD .Eq (enc a) (enc b) k := .eq ((e.pl a).up hn) ((e.pl b).up hn) (by rw [e.eq]; exact h)
theorem CmpD.neE {k : Bool → Prop} {a b : α} (e : Enc n enc) (h : k (!decide (a = b))) (hn : n ≤ 60 := by decide) : CmpD .NotEq (enc a) (enc b) k := .ne ((e.pl a).up hn) ((e.pl b).up hn) (by rw [e.eq]; exact h)
theorem any_enc (e : Enc n enc) (a : α) (l : List α) : ((l.map enc).any fun x => eqd x (enc a)) = decide (a ∈ l) := by
  induction l with
  | nil => simp
  | cons b l ih =>
    rw [List.map_cons, List.any_cons, ih, e.eq]
    by_cases z : a = b
    · subst z; simp
    · have z' : ¬ b = a := fun q => z q.symm
      by_cases z2 : a ∈ l <;> simp [z, z', z2]
theorem CmpD.inE {k : Bool → Prop} {a : α} {l : List α} (e : Enc n enc) (h : k (decide (a ∈ l))) (hn : n ≤ 60 := by decide) : CmpD .In (enc a) (.lst (l.map enc)) k :=
  .inL ((e.pl a).up hn) (fun x hx => by obtain ⟨b, _, rfl⟩ := List.mem_map.mp hx; exact (e.pl b).up hn) (by rw [any_enc e]; exact h)
theorem CmpD.notInE {k : Bool → Prop} {a : α} {l : List α} (e : Enc n enc) (h : k (!decide (a ∈ l))) (hn : n ≤ 60 := by decide) : CmpD .NotIn (enc a) (.lst (l.map enc)) k :=
  .notInL ((e.pl a).up hn) (fun x hx => by obtain ⟨b, _, rfl⟩ := List.mem_map.mp hx; exact (e.pl b).up hn) (by rw [any_enc e]; exact h)
theorem CmpD.inET {k : Bool → Prop} {a : α} {l : List α} (e : Enc n enc) (h : k (decide (a ∈ l))) (hn : n ≤ 60 := by decide) : CmpD .In (enc a) (.tup (l.map enc)) k :=
  .inT ((e.pl a).up hn) (fun x hx => by obtain ⟨b, _, rfl⟩ := List.mem_map.mp hx; exact (e.pl b).up hn) (by rw [any_enc e]; exact h)
theorem CmpD.notInET {k : Bool → Prop} {a : α} {l : List α} (e : Enc n enc) (h : k (!decide (a ∈ l))) (hn : n ≤ 60 := by decide) : CmpD .NotIn (enc a) (.tup (l.map enc)) k :=
  .notInT ((e.pl a).up hn) (fun x hx => by obtain ⟨b, _, rfl⟩ := List.mem_map.mp hx; exact (e.pl b).up hn) (by rw [any_enc e]; exact h)
end
theorem we_negI {X : Cx} {G : Hp → Prop} {W : WX} {M : Ms} {ρ : Rh} {xr : Value → Ms → Prop} {R : Ms → D → Prop} {i : Int} {j : Nat} {p1 pos : Pos} (h : R M (I (-i))) : WE X G W (.UnaryOp .USub (.Constant (.int i) j p1) pos) M ρ xr R := we_neg (we_int ⟨i, rfl, h⟩)
theorem gSz {l : List D} {P : Prop} (h : P) (hl : l.length ≤ 1000000 := by simp) : l.length ≤ sizeLine ∧ P := ⟨sz1 hl, h⟩
/-! ### unlike data -/
theorem eqd_tup_str (l : List D) (z : Str) : eqd (.tup l) (Z z) = false := by unfold eqd pyD; simp only [PyData.eqv]
theorem eqd_str_tup (l : List D) (z : Str) : eqd (Z z) (.tup l) = false := by unfold eqd pyD; simp only [PyData.eqv]
theorem eqd_int_str (i : Int) (z : Str) : eqd (I i) (Z z) = false := by unfold eqd pyD; simp only [PyData.eqv]
theorem eqd_str_int (i : Int) (z : Str) : eqd (Z z) (I i) = false := by unfold eqd pyD; simp only [PyData.eqv]
/-! ### places, cuts -/
theorem atI_of {α : Type} {l : List α} {k : Nat} {x : α} (h : l[k]? = some x) : atI l (k : Int) = some x := by
  have hk : k < l.length := by
    rcases Nat.lt_or_ge k l.length with q | q
    · exact q
    · rw [List.getElem?_eq_none q] at h; cases h
  unfold atI ixN
  rw [if_pos (by omega), if_pos (by omega), Int.toNat_natCast]
  exact h
theorem atI_last {α : Type} {l : List α} {x : α} (h : l.getLast? = some x) : atI l (-1) = some x := by
  have hk : 0 < l.length := by
    cases l with
    | nil => cases h
    | cons a l => simp
  unfold atI ixN
  rw [if_neg (by omega), if_pos (by omega)]
  rw [List.getLast?_eq_getElem?] at h
  have e : (-1 + (l.length : Int)).toNat = l.length - 1 := by omega
  simp only [Option.bind_some, e]
  exact h
theorem cut_init (l : List D) : Wv.cutD l none (some (-1)) = l.dropLast := by
  unfold Wv.cutD
  have e1 : HT.sIx l.length 0 none = 0 := rfl
  have e2 : HT.sIx l.length l.length (some (-1)) = l.length - 1 := by
    simp only [HT.sIx]
    rw [if_pos (by decide)]
    omega
  rw [e1, e2, List.dropLast_eq_take]
  rfl
theorem cut_end (l : List D) : Wv.cutD l (some (-1)) none = l.drop (l.length - 1) := by
  unfold Wv.cutD
  have e1 : HT.sIx l.length 0 (some (-1)) = l.length - 1 := by
    simp only [HT.sIx]
    rw [if_pos (by decide)]
    omega
  have e2 : HT.sIx l.length l.length none = l.length := rfl
  rw [e1, e2, List.take_of_length_le (by simp)]
theorem cut_from (l : List D) (k : Nat) : Wv.cutD l (some (k : Int)) none = l.drop k := by
  unfold Wv.cutD
  have e1 : HT.sIx l.length 0 (some (k : Int)) = min k l.length := by
    simp only [HT.sIx]
    rw [if_neg (by omega)]
    omega
  have e2 : HT.sIx l.length l.length none = l.length := rfl
  rw [e1, e2]
  rcases Nat.le_total k l.length with q | q
  · rw [Nat.min_eq_left q, List.take_of_length_le (by simp)]
  · rw [Nat.min_eq_right q, List.drop_eq_nil_of_le q, List.drop_eq_nil_of_le (Nat.le_refl _)]; simp
theorem cut_to (l : List D) (k : Nat) : Wv.cutD l none (some (k : Int)) = l.take k := by
  unfold Wv.cutD
  have e1 : HT.sIx l.length 0 none = 0 := rfl
  have e2 : HT.sIx l.length l.length (some (k : Int)) = min k l.length := by
    simp only [HT.sIx]
    rw [if_neg (by omega)]
    omega
  rw [e1, e2]
  simp
theorem cut_mid (l : List D) (i j : Nat) (h : j ≤ l.length) : Wv.cutD l (some (i : Int)) (some (j : Int)) = (l.take j).drop i := by
  unfold Wv.cutD
  have e1 : HT.sIx l.length 0 (some (i : Int)) = min i l.length := by
    simp only [HT.sIx]
    rw [if_neg (by omega)]
    omega
  have e2 : HT.sIx l.length l.length (some (j : Int)) = j := by
    simp only [HT.sIx]
    rw [if_neg (by omega)]
    omega
  rw [e1, e2, List.drop_take]
  rcases Nat.le_total i l.length with q | q
  · rw [Nat.min_eq_left q]
  · rw [Nat.min_eq_right q, List.drop_eq_nil_of_le q, List.drop_eq_nil_of_le (Nat.le_refl _)]; simp
end Wv
set_option maxRecDepth 100000
set_option maxHeartbeats 2000000
namespace Wv
open PySem PySem.Spec PyProof.Rows L2
open LamX (CodeO TabS Tabs ExtN TabB lamEnv lamCx LamS among_app codeO_ne)
/-! ### lambdas as values -/
/-- the object of a lambda at f -/
def LamPhi (q : Str) (params : Arguments) (body : Expr) (scope : Scope) (cl : List (Str × Addr)) (pm : Value) (c' : Addr) (ctv : Value) (f : Addr) : HO := .ext fun h => h.get? f = some (PySem.W.kla_obj "<lambda>" q params body scope cl pm c' ctv)
def FnP (q : Str) (params : Arguments) (body : Expr) (scope : Scope) (cl : List (Str × Addr)) : ExtP :=
  ⟨fun f H => ∃ pm c' ctv, H f = some (LamPhi q params body scope cl pm c' ctv f) ∧ H c' = some (CodeO c' q), fun f H H' e ⟨pm, c', ctv, h1, h2⟩ => ⟨pm, c', ctv, e _ _ h1, e _ _ h2⟩⟩
abbrev FnD (q : Str) (params : Arguments) (body : Expr) (scope : Scope) (cl : List (Str × Addr)) : D := .ext (FnP q params body scope cl)
section
variable {X : Cx} {pins : List (Addr × Obj)} {σ : L2.St} {H HZ : Hp} {s s1 : Shared}
/-- the lambda is made and tracked -/
theorem lam_makeX {T : List (Addr × Str)} {c P : Addr} {params : Arguments} {body : Expr} {scope : Scope} {pos : Pos} {E : Value → Shared → Prop} {Q : Value → Shared → Prop} (I : Inv X pins σ H s) (TB : TabB X.base X.mg c P) (hcode : X.env.code = .ref c)
    (hm : (P, X.env.qual ++ "<lambda>") ∈ T) (hu : ∀ p ∈ T, p.1 = P → p.2 = X.env.qual ++ "<lambda>") (hT : Tabs T H) (hdef : defaultsOf params X.env = ([], [])) (hfree : ∀ y ∈ scope.names, y.2 = .free → ∃ c, X.env.cells.lookup y.1 = some c)
    (h : ∀ (f c' : Addr) (pm ctv : Value) (H1 : Hp) (s' : Shared), Inv X pins σ (upd H1 f (LamPhi (X.env.qual ++ "<lambda>") params body scope (cloFrom X.env.cells scope.names []) pm c' ctv f)) s' → ExtN H H1 → Tabs T H1 →
      H1 f = none → H1 c' = some (CodeO c' (X.env.qual ++ "<lambda>")) → Q (.ref f) s') :
    wpAny (model X.prog X.w) X.A (eval (.Lambda params body scope pos) X.env) Q E s := by
  obtain ⟨ps, hP, ht, ha⟩ := hT _ hm
  refine PySem.W.kla_eval hdef ?_
  have bP : s.heap.BuiltinsAt X.mg P := TB.bm.keeps I.bk
  have hP' : s.heap.get? P = some { cls := .none, data := .fields ps } := I.hok P _ hP
  have lay : ∀ {H1 : Hp} {h' : Heap} {tk tk2 : Nat} {pm ctv : Value} {c' : Addr}, Inv X pins σ H1 { s with heap := h', toks := tk } →
      Inv X pins σ (upd H1 h'.objs.size (LamPhi (X.env.qual ++ "<lambda>") params body scope (cloFrom X.env.cells scope.names []) pm c' ctv h'.objs.size)) { s with heap := h'.push (PySem.W.kla_obj "<lambda>" (X.env.qual ++ "<lambda>") params body scope (cloFrom X.env.cells scope.names []) pm c' ctv), toks := tk2 } := fun {H1 h' tk tk2 pm ctv c'} I1 =>
    I1.laid (t' := tk2) (fun b o e => Heap.get?_push_of_some _ e) (Nat.le_refl _) ⟨Heap.get?_push_size _ rfl, ⟨_, Heap.get?_push_size _ rfl⟩, fun h1 h2 e st => st _ e⟩
  cases hc : codeAmong pos ps.toList with
  | none =>
    refine PySem.W.kla_makeFunction (mg := X.mg) (c := c) (P := P) (ps := ps) (closure_ok hfree) I.ok.glob (I.mod.glob.keeps I.bk) hcode (TB.code.keeps I.bk) hP' ht hc TB.gP bP fun c' ctv h' tk hx hge hlt hrec htb => ?_
    obtain ⟨c2, oc, vs, t, e2, hoc, hd, hv⟩ := hrec
    cases e2
    have hsz : s.heap.objs.size ≤ h'.objs.size := Nat.le_trans hge (Nat.le_of_lt hlt)
    have nC : H c' = none := I.hok.fresh hge
    have I1 := LamX.inv_table (t' := tk) (more := #[rawInt pos.line, rawInt pos.col, .ref c']) (h' := h') I hP
      (fun b o hb e => hx b o hb e) htb hge ⟨oc, vs, t, hoc, hd, hv⟩
    have hE : ExtN H (upd (upd H P (.tbl (ps ++ #[rawInt pos.line, rawInt pos.col, .ref c']))) c' (CodeO c' (X.env.qual ++ "<lambda>"))) := fun b o e n => by
      rw [upd_ne (ne_of_none e nC), upd_ne (fun z => n ps (Option.some.inj (e.symm.trans (by rw [z]; exact hP))))]
      exact e
    have eL : (ps ++ #[rawInt pos.line, rawInt pos.col, .ref c']).toList = ps.toList ++ [rawInt pos.line, rawInt pos.col, .ref c'] := by simp
    refine h h'.objs.size c' ((X.mg "__name__").getD .none) ctv _ _ (lay I1) hE (fun p hp => ?_) ?_ upd_same
    · by_cases hb : p.1 = P
      · rw [hu p hp hb, hb]
        refine ⟨_, by rw [upd_ne (ne_of_none hP nC), upd_same], by rw [eL]; exact PySem.TriplesOk_snoc _ _ _ _ ht, fun p' cv hcv => ?_⟩
        rw [eL] at hcv
        rcases among_app _ ht hcv with z | z
        · obtain ⟨c0, e1, e2⟩ := ha p' cv z
          exact ⟨c0, e1, hE _ _ e2 codeO_ne⟩
        · exact ⟨c', z, upd_same⟩
      · obtain ⟨ps', a1, a2, a3⟩ := hT p hp
        refine ⟨ps', by rw [upd_ne (ne_of_none a1 nC), upd_ne hb]; exact a1, a2, fun p' cv hcv => ?_⟩
        obtain ⟨c0, e1, e2⟩ := a3 p' cv hcv
        exact ⟨c0, e1, hE _ _ e2 codeO_ne⟩
    · have n1 : h'.objs.size ≠ c' := Nat.ne_of_gt hlt
      have n2 : h'.objs.size ≠ P := Nat.ne_of_gt (Nat.lt_of_lt_of_le (Heap.lt_size hP') hsz)
      rw [upd_ne n1, upd_ne n2]
      exact I.hok.fresh hsz
  | some cv =>
    obtain ⟨c', e, hco⟩ := ha pos cv hc
    subst e
    refine PySem.W.kla_makeFunctionHit (mg := X.mg) (c := c) (P := P) (ps := ps) (closure_ok hfree) I.ok.glob (I.mod.glob.keeps I.bk) hcode (TB.code.keeps I.bk) hP' ht hc bP fun ctv h' tk hx hsz => ?_
    have I1 : Inv X pins σ H { s with heap := h', toks := tk } := I.kept fun b o e => hx b o e
    exact h h'.objs.size c' ((X.mg "__name__").getD .none) ctv H _ (lay I1) (ExtN.refl H) hT (I.hok.fresh hsz) hco
/-- x(), in the def that got the lambda -/
theorem pe_actX {CXg : CXT} {Eg : XK} {Ng : List Str} {qg : Str} {sg : Scope} {g f c' : Addr} {cdg pm ctv : Value} {params : Arguments} {body : Expr} {scope : Scope} {k i : Nat} {a : Str} {pn : List (Addr × Obj)} {xe : Value → Shared → Prop} {W : WX} {E : XK} {tb : TE} {p1 p2 : Pos}
    (I : Inv X pins σ H s) (L : LamS X.env.scope scope)
    (hbind : bindArgs (PySem.W.kla_fn "<lambda>" (X.env.qual ++ "<lambda>") params body scope (cloFrom X.env.cells scope.names []) pm (.ref c') ctv) ⟨[], []⟩ = pure [])
    (tk : L2.Takes ((cxOf CXg X.prog X.w X.K X.mg X.base Ng qg sg g cdg X.A X.stack s H Eg).tr pn xe) W) (hW : ∀ cls d σ' H', E cls d H' → W cls d σ' H') (hr : Room (k + 1) (X.A.deeper (envOfC qg sg s.heap.objs.size g cdg)))
    (hbody : ∀ (A : Around) (outer : List Env) (s : Shared) (H : Hp), Room k (A.deeper (lamEnv X scope s.heap.objs.size f c')) → PE (lamCx X A outer s H E scope f c') body tb)
    (hN : Ng[i]? = some a) (hv : Vis sg a) (hd : (a == ("__debug__" : Str)) = false := by decide) (hcd : (a == ("__classdict__" : Str)) = false := by decide) :
    PE ((cxOf CXg X.prog X.w X.K X.mg X.base Ng qg sg g cdg X.A X.stack s H Eg).tr pn xe) (.Call (.Name a p1) [] [] p2)
      (fun σZ HZ Q => σZ[i]? = some (some (.ref f)) ∧ HZ c' = some (CodeO c' (X.env.qual ++ "<lambda>")) ∧ HZ f = some (LamPhi (X.env.qual ++ "<lambda>") params body scope (cloFrom X.env.cells scope.names []) pm c' ctv f) ∧ tb σ HZ Q) := by
  refine ⟨fun pinsZ sZ σZ HZ Q IZ h => ?_⟩
  obtain ⟨hs, hc, hp, ht⟩ := h
  refine wpAny_Call_Name_kw (thn ((pe_var (pos := p1) (i := i) hN hv hd hcd).run pinsZ sZ σZ HZ (fun v H1 => v = .ref f ∧ H1 = HZ) IZ ⟨.ref f, hs, rfl, rfl⟩) fun u s1 ⟨v, H1, I1, r1, q1⟩ => ?_)
  obtain ⟨ev, eH⟩ := q1
  subst ev
  rw [eH] at I1
  obtain rfl : u = Value.ref f := r1
  have of1 : s1.heap.get? f = some (PySem.W.kla_obj "<lambda>" (X.env.qual ++ "<lambda>") params body scope (cloFrom X.env.cells scope.names []) pm c' ctv) := (I1.hok f _ hp).1
  refine PySem.W.callWith_F0 ⟨_, _, _, _, of1⟩ ?_
  have un : Un (frs X.stack) [] H HZ s.heap s1.heap := I1.base
  obtain ⟨⟨oc, vs, t, hoc, hdc, hvc⟩, _, _⟩ := I1.hok c' _ hc
  have rc : codeAny (model X.prog X.w) (X.A.deeper (envOfC qg sg s.heap.objs.size g cdg)) (.call (.ref f) ⟨[], []⟩) (CR (L2.CX X.prog X.w) (envOfC qg sg s.heap.objs.size g cdg :: X.stack) X.prog X.w HZ s1 Q E) s1 := by
    refine PySem.W.kla_callFunE hr.depth of1 rfl L.co L.gen rfl ⟨c', oc, vs, t, rfl, hoc, hdc, hvc⟩ ?_
    rw [hbind]
    refine wpAny_pure (wpAny_newFunctionEnv (fun y hy => (L.own y hy).2) (fun y hy => absurd hy (by simp)) (fun h₁ hns hsb => ⟨I1.nolimit.fresh _ hsb, ?_⟩) L.kind)
    show codeAny _ _ (.expr body (lamEnv X scope s1.heap.objs.size f c')) _ _
    have kp : ∀ b o, s1.heap.get? b = some o → h₁.get? b = some o := fun b o e => hsb.extBut b o (Nat.ne_of_lt (Heap.lt_size e)) (Heap.get?_push_of_some _ e)
    have J : Inv (lamCx X (X.A.deeper (envOfC qg sg s.heap.objs.size g cdg)) (envOfC qg sg s.heap.objs.size g cdg :: X.stack) s1 HZ E scope f c') [] σ HZ { s1 with heap := h₁, toks := s1.toks + ([] : List (Str × Value)).length } :=
      LamX.lam_start2 I L I1.env0 hr.hd un hns kp
    refine PySem.W.kla_codeExpr (wpAny_mono ((hbody _ _ s1 HZ (hr.deeper _)).run [] _ _ HZ Q J ht) (fun v s' hq => ?_) fun e s' hq => hq)
    obtain ⟨w', H', J', rv, q⟩ := hq
    exact ⟨w', H', J'.os, J'.bare, J'.base, J'.hok, rv, q⟩
  have hx : Passes (L2.CX X.prog X.w) ((cxOf CXg X.prog X.w X.K X.mg X.base Ng qg sg g cdg X.A X.stack s H Eg).tr pn xe) E := passes_call tk hW
  refine wpAny_call (codeAny_mono rc fun r s' hq => ?_)
  cases r with
  | error e => exact hx pinsZ σZ HZ s1 e s' I1 hq
  | ok fl =>
    cases fl with
    | ret u => exact I1.after hq
    | next => exact False.elim hq
    | brk => exact False.elim hq
    | cont => exact False.elim hq
end
section
variable {X : Cx} {W : WX} {M : Ms} {ρ : Rh} {xr : Value → Ms → Prop} {T : List (Addr × Str)} {pos p : Pos} {R : Ms → D → Prop} {k j : Nat}
/-- lambda: body, as a value -/
theorem we_lam {params : Arguments} {body : Expr} {scope : Scope} (cx : Ct X (Tabs T) W k) (TX : TabX X T "<lambda>") (L : LamS X.env.scope scope)
    (h : R M (FnD (X.env.qual ++ "<lambda>") params body scope (cloFrom X.env.cells scope.names []))) (hdef : defaultsOf params X.env = ([], []) := by rfl) : WE X (Tabs T) W (.Lambda params body scope pos) M ρ xr R := by
  obtain ⟨c, P, TB, hcode, hmT, hu⟩ := TX.ex
  constructor; intro σ H a0 b0 xk Q q pins s I
  refine lam_makeX I TB hcode hmT hu a0.g hdef (L.has I.ok) fun f c' pm ctv H1 s' I1 eN T1 hf hco => ?_
  obtain ⟨a1, m1⟩ := a0.ext eN T1
  have hg : ∀ b o, H1 b = some o → upd H1 f (LamPhi (X.env.qual ++ "<lambda>") params body scope (cloFrom X.env.cells scope.names []) pm c' ctv f) b = some o := fun b o e => upd_grow hf b o e
  have a2 := a1.grow cx.gs hg
  exact ⟨.ref f, _, I1, rfl, q M _ _ _ h a2 (m1.trans (Mv.grow hg)) (.ext ⟨pm, c', ctv, upd_same, hg _ _ hco⟩)⟩
/-- told(e), e a lambda -/
theorem we_toldV {x e ret : Str} {CS : Addr} {ee : Expr} (cx : Ct X (Tabs T) W (k + 2)) (hg : Gl X x) (TO : ToldOk X.K X.mg x e ret CS)
    (h : WE X (Tabs T) W ee M ρ xr fun M1 d => ∃ params body scope, d = FnD (X.env.qual ++ "<lambda>") params body scope (cloFrom X.env.cells scope.names []) ∧ LamS X.env.scope scope ∧
      (∀ (q : Str) (cl : List (Str × Addr)) (pm cv ctv : Value), bindArgs (PySem.W.kla_fn "<lambda>" q params body scope cl pm cv ctv) ⟨[], []⟩ = pure []) ∧
      ∀ Y E, LamOf X scope E Y → Ct Y (Tabs T) (fun cls d _ H => E cls d H) k → WE Y (Tabs T) (fun cls d _ H => E cls d H) body M1 ρ (fun cls M' => cls = .ref CS ∧ R M' (Z ret)) R)
    (he : starEach [ee] X.env = (false, eval ee X.env) :: starEach [] X.env := by rfl)
    (hdb : (x == ("__debug__" : Str)) = false := by decide) : WE X (Tabs T) W (.Call (.Name x p) [ee] [] pos) M ρ xr R := by
  obtain ⟨g, a, st, fd, Ng, p1, p2, p3, p4, p5, p6, p7, p8, jj, hm, F, hbody, hb, Sg, hNg, hva, hge, h0, da, dc⟩ := TO.ex
  have kp := F.kp
  obtain ⟨oc, od, kV, doc, pm, an, cdv, ct, osl, rfl, lk, hcd⟩ := F.ex
  rw [hbody] at lk hb
  constructor; intro σ H a0 b0 xk Q q pins s I
  refine wpAny_Call_Name_kw (ld_glob I hg hm ?_ hdb)
  refine PySem.W.callWith_K (h₀ := X.base) I.ok.mod.kin kp ?_ he (by rfl)
  rw [he]
  show wpAny _ _ (spliced ((false, eval ee X.env) :: backTo pos (starEach [] X.env))) _ _ s
  refine Calls.spliced_cons (thn (h σ H a0 b0 xk (fun v H1 => ∃ M1 d, (∃ params body scope, d = FnD (X.env.qual ++ "<lambda>") params body scope (cloFrom X.env.cells scope.names []) ∧ LamS X.env.scope scope ∧
      (∀ (q : Str) (cl : List (Str × Addr)) (pm cv ctv : Value), bindArgs (PySem.W.kla_fn "<lambda>" q params body scope cl pm cv ctv) ⟨[], []⟩ = pure []) ∧
      ∀ Y E, LamOf X scope E Y → Ct Y (Tabs T) (fun cls d _ H => E cls d H) k → WE Y (Tabs T) (fun cls d _ H => E cls d H) body M1 ρ (fun cls M' => cls = .ref CS ∧ R M' (Z ret)) R) ∧ AtM (Tabs T) X.K M1 H1 ∧ Mv M H M1 H1 ∧ Rp X.K (dom M1) H1 v d) (fun M1 d v H1 h1 a1 m1 r1 => ⟨M1, d, h1, a1, m1, r1⟩) pins s I) fun u s1 ⟨v, H1, I1, rv, M1, d, h1, a1, m1, r1⟩ => ?_)
  obtain ⟨params, body, scope, rfl, L, hbind, hk⟩ := h1
  obtain ⟨f, rfl, pm', c', ctv, hf, hco⟩ : ∃ f, v = V.ref f ∧ ∃ pm' c' ctv, H1 f = some (LamPhi (X.env.qual ++ "<lambda>") params body scope (cloFrom X.env.cells scope.names []) pm' c' ctv f) ∧ H1 c' = some (CodeO c' (X.env.qual ++ "<lambda>")) := by
    cases r1 with
    | ext h => exact ⟨_, rfl, h⟩
  obtain rfl : u = Value.ref f := rv
  refine Calls.spliced_nil ⟨I1.kIn, ?_⟩
  have rc : codeAny (model X.prog X.w) X.A (.call (.ref g) ⟨[.ref f], []⟩) (CR C8.CX0 X.stack X.prog X.w H1 s1 Q C8.E0) s1 := by
    refine LamX.run_ofS (N := Ng) (ps := [a]) (us := [.ref f]) (vs := [.ref f]) lk hcd Sg cx.hr I1.env0 (hb s1 [.ref f] I1.kIn rfl) (.cons rfl .nil) rfl fun hr' => ?_
    have act := LamX.told_gives (X := X) (Ng := Ng) (x := x) (g := g) (cdg := cdv) (q := X.env.qual ++ "<lambda>") (a := a) (j := jj) (p1 := p1) (p2 := p2) (p3 := p3) (p4 := p4) (p5 := p5) (p6 := p6) (p7 := p7) (p8 := p8) (ret := ret) hge TO.me TO.de h0 f c' s1 H1 Q
      (fun E H' Q' => H' f = some (LamPhi (X.env.qual ++ "<lambda>") params body scope (cloFrom X.env.cells scope.names []) pm' c' ctv f) ∧ ∀ Y, LamOf X scope E Y → Ct Y (Tabs T) (fun cls d _ H => E cls d H) k → eT Y body σ H' Q')
      (fun W2 pn xe E q1 q2 tk hW => pe_actX (i := 0) (f := f) (tb := fun σ' H' Q' => ∀ Y, LamOf X scope E Y → Ct Y (Tabs T) (fun cls d _ H => E cls d H) k → eT Y body σ' H' Q') I1 L (hbind _ _ _ _ _) tk hW hr' (fun A outer s H hr2 => ⟨fun pins s' σ H' Q I h => h _ ⟨A, outer, s, H, f, c', rfl⟩ ⟨cx.gs, takesN (L2.takes_of rfl rfl rfl rfl), hr2, passes_of rfl, rfl, cx.nd⟩ pins s' I⟩) hNg hva da dc) hco ?_
    · obtain ⟨t', ht', hq'⟩ := act
      exact ⟨t', ht'.nox, hq'⟩
    · refine ⟨hf, ?_⟩
      intro Y hY cy
      have hK : Y.K = X.K := by obtain ⟨A, outer, s, H0, f, c', rfl⟩ := hY; rfl
      have hw := hk Y _ hY cy
      replace hw := hw.run
      rw [hK] at hw
      refine hw σ H1 a1 (m1.sl a0 b0) (fun cls M' H' hx ha hm => ?_) Q fun M' d v H' hk ha hm hr => q M' d v H' hk ha (m1.trans hm) hr
      obtain ⟨rfl, hR⟩ := hx
      exact ⟨true, TO.exm, fun _ => q M' _ _ H' hR ha (m1.trans hm) (.raw _), fun z => by cases z⟩
  refine wpAny_call (codeAny_mono rc fun r s2 hq => ?_)
  cases r with
  | error e => exact (show False from hq).elim
  | ok fl =>
    cases fl with
    | ret u => exact I1.after hq
    | next => exact False.elim hq
    | brk => exact False.elim hq
    | cont => exact False.elim hq
end
/-! ### fields, for walks -/
theorem gFld {K : PySem.W.Frag} {C : Addr} {f : Str} {fs : List (Str × D)} {z : D} {P : D → Prop} (c : Cls K C) (n : NoAttr K C f) (l : fs.lookup f = some z) (h : P z) : Cls K C ∧ NoAttr K C f ∧ ∃ z, fs.lookup f = some z ∧ P z := ⟨c, n, z, l, h⟩
theorem gFldS {K : PySem.W.Frag} {C : Addr} {f : Str} {fs : List (Str × D)} {P : Prop} (c : Cls K C) (n : NoAttr K C f) (l : fs.length < 1000) (h : P) : Cls K C ∧ NoAttr K C f ∧ fs.length < 1000 ∧ P := ⟨c, n, l, h⟩
theorem gFldU {C : Addr} {fs : List (Str × D)} {P : Prop} (l : fs.length < 1000) (h : P) : C = C ∧ fs.length < 1000 ∧ P := ⟨rfl, l, h⟩
theorem plA {f : Str} {v : D} {n : Nat} : ∀ {fs : List (Str × D)}, fs.length + 1 < n → (putD f v fs).length < n := by
  intro fs h
  refine Nat.lt_of_le_of_lt ?_ h
  clear h
  induction fs with
  | nil => simp [putD]
  | cons a r ih =>
    obtain ⟨g, x⟩ := a
    unfold putD
    split
    · simp
    · simp only [List.length_cons]; omega
theorem plB {f : Str} {v : D} {n k : Nat} {fs : List (Str × D)} (h : fs.length + (k + 1) < n) : (putD f v fs).length + k < n := by
  have := plA (f := f) (v := v) (n := n - k) (fs := fs) (by omega)
  omega
section
variable {X : Cx} {G : Hp → Prop} {W : WX} {M : Ms} {ρ : Rh} {xr : Value → Ms → Prop} {N : En} {a b c e o : Expr} {es : List Expr} {pos p apos : Pos} {R : Ms → D → Prop} {k j : Nat}
/-- o.f -= e of ints -/
theorem ws_fldSub {f : Str} {tpos : Pos} (gs : Gst G) (h : WE X G W o M ρ N.xr fun M1 d => OwI M1 d fun _ q C fs => Cls X.K C ∧ NoAttr X.K C f ∧ ∃ z, fs.lookup f = some z ∧ IsI z fun i => WE X G W e M1 ρ N.xr fun M2 z => IsI z fun w => OwI M2 (Rf q) fun j _ C' fs' => C' = C ∧ fs'.length < 1000 ∧ N.nx (M2.set j (q, .ins C (putD f (I (i - w)) fs'))) ρ) : WS X G W (.AugAssign (.Attribute o f tpos) .Sub e pos) M ρ N :=
  ws_of (ps_fldaug pe_wp pe_wp in_sub) fun σ H a0 b0 Dn x n r bk ct => by
  refine h σ H a0 b0 (xok_of x) _ fun M1 d v H1 h1 a1 m1 r1 => ?_
  cases h1 with
  | mk i0 hi0 h1 =>
  rename_i q C fs
  obtain ⟨c, na, zz, hl, h1⟩ := h1
  cases h1 with
  | mk h1 =>
  rename_i i
  obtain ⟨dx, vs, e1, rf⟩ := at_ob a1 hi0
  obtain ⟨v', e', r'⟩ := rf.look hl
  refine ⟨q, C, dx, vs, v', r1.raw_inv, e1, c, na, e', ?_⟩
  refine h1 σ H1 a1 (m1.sl a0 b0) ((xok_of x).mv m1) _ fun M2 z u H2 h2 a2 m2 r2 => ?_
  cases h2 with
  | mk h2 =>
  rename_i w
  cases h2 with
  | mk j hj h2 =>
  rename_i C' fs'
  obtain ⟨rfl, hlen, hk⟩ := h2
  obtain ⟨dx2, vs2, e2, rf2⟩ := at_ob a2 hj
  refine ⟨i, w, r'.raw_inv, r2.raw_inv, dx2, vs2, e2, by rw [rf2.len]; exact hlen, ?_⟩
  have hm : Mv M2 H2 M2 (upd H2 q (.ins C' dx2 (putF f (.int (i - w)) vs2))) := ⟨fun b w e n _ => by
      rw [upd_ne (fun z => n (by rw [z]; exact mem_at hj))]; exact e, fun _ h => .inl h⟩
  obtain ⟨a3, m3⟩ := a2.write gs (o' := .ins C' (putD f (I (i - w)) fs')) hj (u := .ins C' dx2 (putF f (.int (i - w)) vs2)) (fun _ z => by cases z) ⟨dx2, _, upd_same, (rf2.put f (.raw _)).1, hm.rpl a2 (rf2.put f (.raw _)).2⟩
  exact n _ _ σ _ hk a3 (m3.sl a2 ((m1.trans m2).sl a0 b0)) ((m1.trans m2).trans m3)
/-- o.f += e of ints -/
theorem ws_fldAddW {f : Str} {tpos : Pos} (gs : Gst G) (h : WE X G W o M ρ N.xr fun M1 d => OwI M1 d fun _ q C fs => Cls X.K C ∧ NoAttr X.K C f ∧ ∃ z, fs.lookup f = some z ∧ IsI z fun i => WE X G W e M1 ρ N.xr fun M2 z => IsI z fun w => OwI M2 (Rf q) fun j _ C' fs' => C' = C ∧ fs'.length < 1000 ∧ N.nx (M2.set j (q, .ins C (putD f (I (i + w)) fs'))) ρ) : WS X G W (.AugAssign (.Attribute o f tpos) .Add e pos) M ρ N :=
  ws_of (ps_fldaug pe_wp pe_wp in_add) fun σ H a0 b0 Dn x n r bk ct => by
  refine h σ H a0 b0 (xok_of x) _ fun M1 d v H1 h1 a1 m1 r1 => ?_
  cases h1 with
  | mk i0 hi0 h1 =>
  rename_i q C fs
  obtain ⟨c, na, zz, hl, h1⟩ := h1
  cases h1 with
  | mk h1 =>
  rename_i i
  obtain ⟨dx, vs, e1, rf⟩ := at_ob a1 hi0
  obtain ⟨v', e', r'⟩ := rf.look hl
  refine ⟨q, C, dx, vs, v', r1.raw_inv, e1, c, na, e', ?_⟩
  refine h1 σ H1 a1 (m1.sl a0 b0) ((xok_of x).mv m1) _ fun M2 z u H2 h2 a2 m2 r2 => ?_
  cases h2 with
  | mk h2 =>
  rename_i w
  cases h2 with
  | mk j hj h2 =>
  rename_i C' fs'
  obtain ⟨rfl, hlen, hk⟩ := h2
  obtain ⟨dx2, vs2, e2, rf2⟩ := at_ob a2 hj
  refine ⟨i, w, r'.raw_inv, r2.raw_inv, dx2, vs2, e2, by rw [rf2.len]; exact hlen, ?_⟩
  have hm : Mv M2 H2 M2 (upd H2 q (.ins C' dx2 (putF f (.int (i + w)) vs2))) := ⟨fun b w e n _ => by
      rw [upd_ne (fun z => n (by rw [z]; exact mem_at hj))]; exact e, fun _ h => .inl h⟩
  obtain ⟨a3, m3⟩ := a2.write gs (o' := .ins C' (putD f (I (i + w)) fs')) hj (u := .ins C' dx2 (putF f (.int (i + w)) vs2)) (fun _ z => by cases z) ⟨dx2, _, upd_same, (rf2.put f (.raw _)).1, hm.rpl a2 (rf2.put f (.raw _)).2⟩
  exact n _ _ σ _ hk a3 (m3.sl a2 ((m1.trans m2).sl a0 b0)) ((m1.trans m2).trans m3)
end
end Wv
set_option maxRecDepth 100000
set_option maxHeartbeats 2000000
namespace Wv
open PySem PySem.Spec PyProof.Rows L2 PySem.W
/-! ### a list: data, or ours -/
inductive LstD (M : Ms) : D → List D → Prop
  | lst (l : List D) : LstD M (.lst l) l
  | own {q : Addr} {l : List D} (j : Nat) (e : M[j]? = some (q, .lst l)) : LstD M (Rf q) l
theorem LstD.len {M : Ms} {d : D} {l : List D} (h : LstD M d l) {k : Int → Prop} (hk : k l.length) : LenD M d k := by
  cases h with
  | lst => exact .lst hk
  | own j e => exact .own j e hk
theorem LstD.ix {M : Ms} {d : D} {l : List D} (h : LstD M d l) {i : Int} {z : D} (e : atI l i = some z) {k : D → Prop} (hk : k z) : IxD M d (I i) k := by
  cases h with
  | lst => exact .lst e hk
  | own j o => exact .own j o e hk
section
variable {X : Cx} {G : Hp → Prop} {W : WX} {M : Ms} {ρ : Rh} {xr : Value → Ms → Prop} {N : En} {pos : Pos} {R : Ms → D → Prop} {k : Nat}
variable {tg it elt e : Expr} {g : TG} {as : D → Rh → (Rh → Prop) → Prop} {ifs : List Expr} {scope : Scope} {own : List (Str × Nat)}
theorem wip_lstD {RI : Ms → List D → (Ms → Prop) → Prop} (h : WE X G W it M ρ xr fun M1 d => ∃ l, LstD M1 d l ∧ ∀ P : Ms → Prop, P M1 → (∀ x M', P M' → P (x :: M')) → RI M1 l P) : WIP X G W tg it M ρ xr RI := by
  refine ⟨_, pi_list pe_wp, fun σ H a0 b0 x Q q => h σ H a0 b0 x _ fun M1 d v H1 h1 a1 m1 r1 => ?_⟩
  obtain ⟨l, hl, hk⟩ := h1
  cases hl with
  | lst =>
    obtain ⟨p1, xs, rfl, s1, s2, l1⟩ := r1.lst_inv
    refine ⟨p1, rfl, ⟨xs, SqL.of s1⟩, q M1 l (fun _ => True) H1 _ (hk _ trivial fun _ _ h => h) a1 m1 ⟨_, _, by rw [← l1.length]; exact walk_list (K := X.K) (a := p1) (xs := xs), fun M2 H2 _ a2 hm => SqL.of (hm.lstR s1 s2).1, fun i H2 M2 v H3 _ a2 hm y => ?_⟩⟩
    obtain ⟨rfl, hy⟩ := y
    obtain ⟨z, hz, rz⟩ := mv_at (a := p1) hm a1 l1 hy
    exact ⟨z, hz, a2, Mv.refl _ _, rz⟩
  | own j e =>
    rename_i p1
    obtain ⟨xs, s1, l1⟩ := at_obK a1 e
    refine ⟨p1, r1.raw_inv, ⟨xs, SqL.of s1⟩, q M1 l (fun M' => ∃ i : Nat, M'[i]? = some (p1, O.lst l)) H1 _ (hk _ ⟨j, e⟩ fun x M' ⟨i, h⟩ => ⟨i + 1, h⟩) a1 m1 ⟨fun H => ∃ xs, H p1 = some (.lst xs) ∧ xs.length = l.length, fun i H x H' => H' = H ∧ ∃ xs, H p1 = some (.lst xs) ∧ xs[i]? = some x, ⟨fun i H hi ⟨xs, s, e⟩ => ?_, fun H ⟨xs, s, e⟩ => ?_, fun i H x H' hi ⟨xs, s, e⟩ y => ?_⟩, fun M2 H2 ⟨i, hi⟩ a2 _ => ?_, fun i H2 M2 v H3 ⟨i2, hi2⟩ a2 hm y => ?_⟩⟩
    · exact (walk_list (K := X.K) (a := p1) (xs := xs)).goes i H (by omega) (SqL.of s)
    · have := (walk_list (K := X.K) (a := p1) (xs := xs)).stops H (SqL.of s)
      rw [e] at this
      exact this
    · obtain ⟨y1, y2⟩ := (walk_list (K := X.K) (a := p1) (xs := xs)).yields i H x H' (by omega) (SqL.of s) y
      exact ⟨y1, xs, s, y2⟩
    · obtain ⟨ys, e2, g2⟩ := at_obK a2 hi
      exact ⟨ys, e2, g2.length⟩
    · obtain ⟨rfl, ys, s, hy⟩ := y
      obtain ⟨zs, e2, g2⟩ := at_obK a2 hi2
      rw [e2] at s
      cases s
      obtain ⟨z, hz, rz⟩ := g2.getV hy
      exact ⟨z, hz, a2, Mv.refl _ _, rz⟩
theorem ww_imp {e : Expr} {R R' : Ms → Bool → Prop} (h : WW X G W e M ρ xr R) (f : ∀ M b, R M b → R' M b) : WW X G W e M ρ xr R' := ⟨fun σ H a b x Q q => h.run σ H a b x Q fun M' b' H' hk => q M' b' H' (f _ _ hk)⟩
theorem wt_imp {e : Expr} {R R' : Ms → Bool → Prop} (h : WT X G W e M ρ xr R) (f : ∀ M b, R M b → R' M b) : WT X G W e M ρ xr R' := ⟨fun σ H a b x Q q => h.run σ H a b x Q fun M' b' H' hk => q M' b' H' (f _ _ hk)⟩
/-! ### comprehensions whose results are told one by one -/
def ItemY (X : Cx) (G : Hp → Prop) (k : Nat) (scope : Scope) (as : D → Rh → (Rh → Prop) → Prop) (elt : Expr) (ρ : Rh) (M1 : Ms) (z y : D) : Prop :=
  ∀ q acc, as z ρ fun ρ' => ∀ Y', Blk X scope Y' → Ct Y' G (fun _ _ _ _ => False) k → WE Y' G (fun _ _ _ _ => False) elt ((q, O.lst acc) :: M1) ρ' (fun _ _ => False) fun M3 y' => M3 = (q, O.lst acc) :: M1 ∧ y' = y
def JN (ys : List D) (M1 : Ms) (l : List D) (n : Nat) (M' : Ms) (acc : List D) : Prop := M' = M1 ∧ acc = ys.take n
theorem turn_N {l ys : List D} {M1 : Ms} (mono : AMono as) (hl : l.length < sizeLine) (he : ys.length = l.length) (h : ∀ (n : Nat) z y, l[n]? = some z → ys[n]? = some y → ItemY X G k scope as elt ρ M1 z y) : ∀ n z, l[n]? = some z → TurnC X G k scope as [] elt ρ (JN ys M1 l) n z := by
  rintro n z hz
  have hn : n < l.length := by
    rcases Nat.lt_or_ge n l.length with q | q
    · exact q
    · rw [List.getElem?_eq_none q] at hz; cases hz
  obtain ⟨y, hy⟩ : ∃ y, ys[n]? = some y := ⟨_, List.getElem?_eq_getElem (by omega)⟩
  refine turn_nil mono ?_
  rintro q M' acc ⟨rfl, rfl⟩
  refine mono _ _ _ _ ?_ (h n z y hz hy q (ys.take n))
  intro ρ' hr Y' hY' cy'
  refine we_imp (hr Y' hY' cy') fun M3 y' hy' => ?_
  obtain ⟨rfl, rfl⟩ := hy'
  refine ⟨M', rfl, ?_, rfl, ?_⟩
  · rw [List.length_take]; omega
  · rw [List.take_add_one, hy]; rfl
theorem we_lcN (cx : Ct X G W k) (hN : X.N.Nodup) (own : List (Str × Nat)) (ys : List D) (gok : GOk G X.K g as) (gw : GWipe g (own.map (·.2))) (mono : AMono as)
    (hg : ∀ (s : Shared) (H : Hp) (C : Addr) (cl : List (Str × Addr)) (fp : List Addr), PG (X.blk s H scope (compEnvC scope cl C X.env) fp) tg g) (ok : BlkOk X.N X.env.scope scope own)
    (h : WIP X G W tg it M ρ xr fun M1 l P => (∀ x M', P M' → P (x :: M')) ∧ P M1 ∧ l.length < sizeLine ∧ ys.length = l.length ∧ (∀ (n : Nat) z y, l[n]? = some z → ys[n]? = some y → ItemY X G k scope as elt (wipeD ρ (own.map (·.2))) M1 z y) ∧ R M1 (.lst ys))
    (hs : ∀ x, foldedSetIterable it X.env x = pure x := by intro _; rfl) : WE X G W (.ListComp elt [⟨tg, it, [], 0⟩] scope pos) M ρ xr R := by
  refine we_lcG cx hN own (JN ys) gok gw mono hg ok ?_ hs
  obtain ⟨wi, hi, h⟩ := h
  refine ⟨wi, hi, fun σ H a0 b0 x Q q => h σ H a0 b0 x Q fun M' l P H' J hr a1 m1 wd => q M' l P H' J ?_ a1 m1 wd⟩
  obtain ⟨h1, h2, h3, h4, h5, h6⟩ := hr
  refine ⟨h1, fun i M'' acc hj => by rw [hj.1]; exact h2, ⟨rfl, by simp⟩, turn_N mono h3 h4 h5, fun M'' acc hj => ?_⟩
  obtain ⟨rfl, rfl⟩ := hj
  rw [← h4, List.take_of_length_le (Nat.le_refl _)]
  exact h6
theorem ws_setLcN (i : Nat) {y : Str} {py spos : Pos} (cx : Ct X G W k) (hN : X.N.Nodup) (own : List (Str × Nat)) (ys : List D) (gok : GOk G X.K g as) (gw : GWipe g (own.map (·.2))) (mono : AMono as)
    (hg : ∀ (s : Shared) (H : Hp) (C : Addr) (cl : List (Str × Addr)) (fp : List Addr), PG (X.blk s H scope (compEnvC scope cl C X.env) fp) tg g) (ok : BlkOk X.N X.env.scope scope own) (hsw : swapsWith (.ListComp elt [⟨tg, it, [], 0⟩] scope pos) (some (.Name y py)) spos.line X.env = pure true)
    (h : WIP X G W tg it M ρ N.xr fun M1 l P => (∀ x M', P M' → P (x :: M')) ∧ P M1 ∧ l.length < sizeLine ∧ ys.length = l.length ∧ (∀ (n : Nat) z y, l[n]? = some z → ys[n]? = some y → ItemY X G k scope as elt (wipeD ρ (own.map (·.2))) M1 z y) ∧ N.nx M1 (ρ.set i (some (.lst ys))))
    (hy : X.N[i]? = some y := by rfl) (hyl : X.env.scope.names.lookup y = some .local := by rfl) (hs : ∀ x, foldedSetIterable it X.env x = pure x := by intro _; rfl) : WS X G W (.Assign [.Name y py] (.ListComp elt [⟨tg, it, [], 0⟩] scope pos) spos) M ρ N := by
  refine ws_setLcG i cx hN own (JN ys) gok gw mono hg ok hsw ?_ hy hyl hs
  obtain ⟨wi, hi, h⟩ := h
  refine ⟨wi, hi, fun σ H a0 b0 x Q q => h σ H a0 b0 x Q fun M' l P H' J hr a1 m1 wd => q M' l P H' J ?_ a1 m1 wd⟩
  obtain ⟨h1, h2, h3, h4, h5, h6⟩ := hr
  refine ⟨h1, fun i M'' acc hj => by rw [hj.1]; exact h2, ⟨rfl, by simp⟩, turn_N mono h3 h4 h5, fun M'' acc hj => ?_⟩
  obtain ⟨rfl, rfl⟩ := hj
  rw [← h4, List.take_of_length_le (Nat.le_refl _)]
  exact h6
end
end Wv
set_option maxRecDepth 100000
set_option maxHeartbeats 2000000
namespace Wv
open PySem PySem.Spec PyProof.Rows L2 PySem.W
/-! ### what a dict holds, by place -/
section
variable {κ : Type} [DecidableEq κ] {kvs : List (κ × D)} {i : Nat} {k : κ} {z z' : D}
theorem at_lt {α : Type} {l : List α} {i : Nat} {x : α} (h : l[i]? = some x) : i < l.length := by
  rcases Nat.lt_or_ge i l.length with q | q
  · exact q
  · rw [List.getElem?_eq_none q] at h; cases h
theorem valD_none (h : k ∉ kvs.map (·.1)) : valD kvs k = none := by
  unfold valD
  rw [List.find?_eq_none.mpr fun kv hkv => ?_]
  · rfl
  · simp only [decide_eq_true_eq]
    exact fun e => h (by rw [← e]; exact List.mem_map_of_mem hkv)
theorem valD_at (nd : (kvs.map (·.1)).Nodup) (h : kvs[i]? = some (k, z)) : valD kvs k = some z := by
  induction kvs generalizing i with
  | nil => cases h
  | cons a r ih =>
    rw [List.map_cons, List.nodup_cons] at nd
    unfold valD
    cases i with
    | zero => cases h; simp [List.find?_cons]
    | succ i =>
      rw [List.getElem?_cons_succ] at h
      have ne : ¬ a.1 = k := fun e => nd.1 (by rw [e]; exact List.mem_map_of_mem (f := (·.1)) (List.mem_of_getElem? h))
      rw [List.find?_cons, decide_eq_false ne]
      exact ih nd.2 h
theorem putM_new (h : k ∉ kvs.map (·.1)) : putM kvs k z = kvs ++ [(k, z)] := by
  unfold putM
  rw [if_neg]
  rw [List.any_eq_true]
  rintro ⟨kv, hkv, e⟩
  rw [decide_eq_true_iff] at e
  exact h (by rw [← e]; exact List.mem_map_of_mem hkv)
theorem putM_at (nd : (kvs.map (·.1)).Nodup) (h : kvs[i]? = some (k, z)) : putM kvs k z' = kvs.set i (k, z') := by
  unfold putM
  rw [if_pos (List.any_eq_true.mpr ⟨_, List.mem_of_getElem? h, decide_eq_true rfl⟩)]
  refine List.ext_getElem? fun j => ?_
  rw [List.getElem?_map]
  by_cases e : i = j
  · subst e
    rw [List.getElem?_set_self (at_lt h), h]
    simp
  · rw [List.getElem?_set_ne e]
    cases hj : kvs[j]? with
    | none => rfl
    | some kv =>
      have ne : ¬ kv.1 = k := fun q => by
        have h1 : (kvs.map (·.1))[i]? = some k := by rw [List.getElem?_map, h]; rfl
        have h2 : (kvs.map (·.1))[j]? = some k := by rw [List.getElem?_map, hj, ← q]; rfl
        exact e (nd_ix nd h1 h2)
      simp [ne]
theorem dropM_at (nd : (kvs.map (·.1)).Nodup) (h : kvs[i]? = some (k, z)) : dropM kvs k = kvs.eraseIdx i := by
  induction kvs generalizing i with
  | nil => cases h
  | cons a r ih =>
    rw [List.map_cons, List.nodup_cons] at nd
    unfold dropM
    cases i with
    | zero =>
      cases h
      rw [List.filter_cons_of_neg (by simp), List.eraseIdx_cons_zero, List.filter_eq_self.mpr]
      intro kv hkv
      simp only [ne_eq, decide_eq_true_eq]
      exact fun e => nd.1 (by show k ∈ _; rw [← e]; exact List.mem_map_of_mem hkv)
    | succ i =>
      rw [List.getElem?_cons_succ] at h
      have ne : a.1 ≠ k := fun e => nd.1 (by rw [e]; exact List.mem_map_of_mem (f := (·.1)) (List.mem_of_getElem? h))
      rw [List.filter_cons_of_pos (by simp [ne]), List.eraseIdx_cons_succ]
      congr 1
      exact ih nd.2 h
theorem map_set_same {α β : Type} {f : α → β} {l : List α} {i : Nat} {x y : α} (h : l[i]? = some x) (e : f y = f x) : (l.set i y).map f = l.map f := by
  refine List.ext_getElem? fun j => ?_
  rw [List.getElem?_map, List.getElem?_map]
  by_cases q : i = j
  · subst q
    rw [List.getElem?_set_self (at_lt h), h]
    simp [e]
  · rw [List.getElem?_set_ne q]
end
/-! ### assignments that change what is ours -/
section
variable {X : Cx} {G : Hp → Prop} {W : WX} {M : Ms} {ρ : Rh} {xr : Value → Ms → Prop} {N : En} {a b c e f o i : Expr} {es : List Expr} {pos p apos : Pos} {R : Ms → D → Prop} {k j : Nat}
def GM (X : Cx) (G : Hp → Prop) (W : WX) (xr : Value → Ms → Prop) (g : TG) (as : D → Ms → Rh → (Ms → Rh → Prop) → Prop) : Prop :=
  ∀ v d M ρ σ H (k : Ms → Rh → Prop) (Q : L2.St → Hp → Prop), AtM G X.K M H → Sl X.K (dom M) H σ ρ → Xok W G X.K M H σ xr → Rp X.K (dom M) H v d → as d M ρ k →
    (∀ M' ρ' σ' H', k M' ρ' → AtM G X.K M' H' → Sl X.K (dom M') H' σ' ρ' → Mv M H M' H' → Q σ' H') → g v σ H Q
/-- a pair of targets that are places in dicts -/
theorem gm_dsub (cx : Ct X G W k) (t : PE X o (eT X o)) : GM X G W xr (gSub (eT X o) (eT X i) rSetD) fun d M ρ k => WE X G W o M ρ xr fun M1 c => WE X G W i M1 ρ xr fun M2 y => DP M2 c y d fun M3 => k M3 ρ := by
  intro v d M ρ σ H kk Q a0 b0 x r h q
  refine h σ H a0 b0 x _ fun M1 dc vc H1 h1 a1 m1 r1 => h1 σ H1 a1 (m1.sl a0 b0) (x.mv m1) _ fun M2 dy vy H2 h2 a2 m2 r2 => ?_
  obtain ⟨pp, H4, e1, g, M4, hk, a4, m4⟩ := dp_put cx.gs a2 (m2.rp a1 r1) r2 (m2.rp a1 (m1.rp a0 r)) h2
  have mm := (m1.trans m2).trans m4
  exact ⟨pp, H4, e1, g, q M4 ρ σ H4 hk a4 (mm.sl a0 b0) mm⟩
theorem ws_dsub2 (cx : Ct X G W k) {o1 i1 o2 i2 : Expr} {sp1 sp2 tp : Pos} {kt : Nat} (h : WE X G W e M ρ N.xr fun M1 d => ∃ z1 z2, d = .tup [z1, z2] ∧ WE X G W o1 M1 ρ N.xr fun M2 d1 => WE X G W i1 M2 ρ N.xr fun M3 y => DP M3 d1 y z1 fun M4 =>
      WE X G W o2 M4 ρ N.xr fun M5 d2 => WE X G W i2 M5 ρ N.xr fun M6 y2 => DP M6 d2 y2 z2 fun M7 => N.nx M7 ρ)
    (hp : ∀ {t1 t2 t3 t4 : TE}, PE X o1 t1 → PE X i1 t2 → PE X o2 t3 → PE X i2 t4 → PG X (.Tuple [.Subscript o1 i1 sp1, .Subscript o2 i2 sp2] kt tp) (gTup X.K 2 (gCons (gSub t1 t2 rSetD) (gCons (gSub t3 t4 rSetD) gNil))))
    (hs : swapsWithSole [.Tuple [.Subscript o1 i1 sp1, .Subscript o2 i2 sp2] kt tp] e pos.line X.env = pure false := by rfl) (hw : swappedStores [.Tuple [.Subscript o1 i1 sp1, .Subscript o2 i2 sp2] kt tp] e X.env = pure none := by rfl)
    (h1 : (assignEach [.Tuple [.Subscript o1 i1 sp1, .Subscript o2 i2 sp2] kt tp] X.env).map (·.2) = [assign (.Tuple [.Subscript o1 i1 sp1, .Subscript o2 i2 sp2] kt tp) X.env] := by rfl) : WS X G W (.Assign [.Tuple [.Subscript o1 i1 sp1, .Subscript o2 i2 sp2] kt tp] e pos) M ρ N :=
  ws_of (ps_asg pe_wp (hp pe_wp pe_wp pe_wp pe_wp) hs hw h1) fun σ H a0 b0 Dn x n r bk ct => by
  refine h σ H a0 b0 (xok_of x) _ fun M1 d v H1 h1 a1 m1 r1 => ?_
  obtain ⟨z1, z2, rfl, h1⟩ := h1
  obtain ⟨pt, vs, rfl, st, lt⟩ := r1.tup_inv
  obtain ⟨v1, v2, rfl, rz1, rz2⟩ := lt.two
  refine ⟨pt, [v1, v2], rfl, st, rfl, v1, [v2], rfl, ?_⟩
  refine gm_dsub (xr := N.xr) cx pe_wp v1 z1 M1 ρ σ H1 (fun M4 ρ4 => WE X G W o2 M4 ρ4 N.xr fun M5 d2 => WE X G W i2 M5 ρ4 N.xr fun M6 y2 => DP M6 d2 y2 z2 fun M7 => N.nx M7 ρ4) _ a1 (m1.sl a0 b0) ((xok_of x).mv m1) rz1 h1 fun M2 ρ2 σ2 H2 hk a2 b2 m2 => ⟨v2, [], rfl, ?_⟩
  have m12 := m1.trans m2
  have x2 : Xok W G X.K M2 H2 σ2 N.xr := fun cls M' H' hx ha hm => x M' H' cls σ2 hx ha (m12.trans hm)
  exact gm_dsub (xr := N.xr) cx pe_wp v2 z2 M2 ρ2 σ2 H2 (fun M7 ρ7 => N.nx M7 ρ7) _ a2 b2 x2 (m2.rp a1 rz2) hk fun M3 ρ3 σ3 H3 hk3 a3 b3 m3 => ⟨rfl, n M3 ρ3 σ3 H3 hk3 a3 b3 (m12.trans m3)⟩
/-- d[y] += e of whole numbers -/
theorem ws_daugI (cx : Ct X G W k) {tpos : Pos} {op : Operator} {fo : Int → Int → Int} {rd : V → V → Hp → VK → Prop} (hop : InOp X op rd) (hrd : ∀ i j H Q, Q (.int (fo i j)) H → rd (.int i) (.int j) H Q)
    (h : WE X G W o M ρ N.xr fun M1 d => WE X G W i M1 ρ N.xr fun M2 y => ∃ u : Int, DV M2 d y (some (I u)) ∧ WE X G W e M2 ρ N.xr fun M3 z => IsI z fun w => DP M3 d y (I (fo u w)) fun M4 => N.nx M4 ρ)
    (ha : ∀ ov iv new, augStore i ov iv new = (do holding [new, ov, iv] (setItem ov iv new); release [new, ov, iv] []; pure .next) := by intro _ _ _; rfl) : WS X G W (.AugAssign (.Subscript o i tpos) op e pos) M ρ N :=
  ws_of (ps_daug (hu1 cx) pe_wp pe_wp pe_wp hop ha) fun σ H a0 b0 Dn x n r bk ct => by
  refine h σ H a0 b0 (xok_of x) _ fun M1 d v H1 h1 a1 m1 r1 => ?_
  refine h1 σ H1 a1 (m1.sl a0 b0) ((xok_of x).mv m1) _ fun M2 y u H2 h2 a2 m2 r2 => ?_
  obtain ⟨uu, hd, h2⟩ := h2
  obtain ⟨pp, ov, e1, _, g, hc⟩ := dv_get a2 (m2.rp a1 r1) r2 hd
  rcases hc with ⟨z1, _⟩ | ⟨z', wv, z1, rfl, rw'⟩
  · cases z1
  · cases z1
    refine ⟨pp, wv, e1, g, ?_⟩
    have m12 := m1.trans m2
    refine h2 σ H2 a2 (m12.sl a0 b0) ((xok_of x).mv m12) _ fun M3 z vz H3 h3 a3 m3 r3 => ?_
    cases h3 with
    | mk h3 =>
    rw [r3.raw_inv, rw'.raw_inv]
    refine hrd _ _ _ _ ?_
    have m13 := m12.trans m3
    obtain ⟨p2, H4, e2, g2, M4, hk, a4, m4⟩ := dp_put cx.gs a3 (m3.rp a2 (m2.rp a1 r1)) (m3.rp a2 r2) (.raw (.int (fo uu _))) h3
    rw [e1] at e2
    cases e2
    exact ⟨H4, g2, n M4 _ _ _ hk a4 ((m13.trans m4).sl a0 b0) (m13.trans m4)⟩
theorem ws_daugAdd (cx : Ct X G W k) {tpos : Pos}
    (h : WE X G W o M ρ N.xr fun M1 d => WE X G W i M1 ρ N.xr fun M2 y => ∃ u : Int, DV M2 d y (some (I u)) ∧ WE X G W e M2 ρ N.xr fun M3 z => IsI z fun w => DP M3 d y (I (u + w)) fun M4 => N.nx M4 ρ)
    (ha : ∀ ov iv new, augStore i ov iv new = (do holding [new, ov, iv] (setItem ov iv new); release [new, ov, iv] []; pure .next) := by intro _ _ _; rfl) : WS X G W (.AugAssign (.Subscript o i tpos) .Add e pos) M ρ N :=
  ws_daugI cx (fo := fun a b => a + b) in_add (fun i j H Q q => ⟨i, j, rfl, rfl, q⟩) h ha
theorem ws_daugSub (cx : Ct X G W k) {tpos : Pos}
    (h : WE X G W o M ρ N.xr fun M1 d => WE X G W i M1 ρ N.xr fun M2 y => ∃ u : Int, DV M2 d y (some (I u)) ∧ WE X G W e M2 ρ N.xr fun M3 z => IsI z fun w => DP M3 d y (I (u - w)) fun M4 => N.nx M4 ρ)
    (ha : ∀ ov iv new, augStore i ov iv new = (do holding [new, ov, iv] (setItem ov iv new); release [new, ov, iv] []; pure .next) := by intro _ _ _; rfl) : WS X G W (.AugAssign (.Subscript o i tpos) .Sub e pos) M ρ N :=
  ws_daugI cx (fo := fun a b => a - b) in_sub (fun i j H Q q => ⟨i, j, rfl, rfl, q⟩) h ha
/-- d == {}, d != {} of empty ones -/
theorem wt_dne0 (cx : Ct X G W k) {R : Ms → Bool → Prop} (h : WE X G W a M ρ xr fun M1 d => WE X G W b M1 ρ xr fun M2 e => ∃ (j1 j2 : Nat) (q1 q2 : Addr), d = Rf q1 ∧ e = Rf q2 ∧ M2[j1]? = some (q1, .dK []) ∧ M2[j2]? = some (q2, .dK []) ∧ R M2 false) (hm : behindInMarks .NotEq b = false := by rfl) : WT X G W (.Compare a [.NotEq] [b] pos) M ρ xr R :=
  wt_of (pt_cmpR (op_ne_dictA (by have := cx.hu; omega)) pe_wp pe_wp hm) fun σ H a0 b0 x Q q => by
  refine h σ H a0 b0 x _ fun M1 d v H1 h1 a1 m1 r1 => ?_
  refine h1 σ H1 a1 (m1.sl a0 b0) (x.mv m1) _ fun M2 e u H2 h2 a2 m2 r2 => ?_
  obtain ⟨j1, j2, q1, q2, rfl, rfl, e1, e2, hk⟩ := h2
  obtain ⟨vs1, f1, g1⟩ := at_obK a2 e1
  obtain ⟨vs2, f2, g2⟩ := at_obK a2 e2
  have z1 : vs1 = [] := by have := g1.1; simpa using this
  have z2 : vs2 = [] := by have := g2.1; simpa using this
  subst z1
  subst z2
  exact ⟨q1, q2, [], [], (m2.rp a1 r1).raw_inv, r2.raw_inv, f1, f2, rfl, (fun p hp => by cases hp), ⟨false, rfl, q M2 false H2 hk a2 (m1.trans m2)⟩⟩
end
/-! ### list.remove of texts -/
def eqkS (k : Str) (v : Value) : Bool := match v with
  | .str n _ => n.cps.toList == k.cps.toList
  | _ => false
theorem eqkS_gives {k : Str} {t : Tok} : ∀ {us : List Value} {ns : List Str}, StrsAre us ns → ∀ y ∈ us, MeetsSeq.EqGives y (.str k t) (eqkS k y)
  | _, _, .nil => fun y hy => by cases hy
  | _, _, .cons n t' h => fun y hy => by
    rcases List.mem_cons.mp hy with e | e
    · rw [e]
      exact PySem.SeqRoads2.EqGives.str n k t' t
    · exact eqkS_gives h y e
theorem erase_mapS : ∀ (l : List Str) (j : Nat), (l.map V.str).eraseIdx j = (l.eraseIdx j).map V.str
  | [], j => by simp
  | a :: r, 0 => by simp
  | a :: r, j + 1 => by
    have ih := erase_mapS r j
    simp [ih]
def rRemS : V → List V → Hp → VK → Prop := fun x xs H Q => ∃ (l : Addr) (n : Str) (ns : List Str), x = .ref l ∧ xs = [.str n] ∧ H l = some (.lst ((n :: ns).map V.str)) ∧ Q .non (upd H l (.lst (ns.map V.str)))
theorem mt_removeS {X : Cx} : MtM X "list.remove" rRemS := by
  intro pins s σ H x xs v us Q I rx rxs h
  obtain ⟨l, k, ns, rfl, rfl, hH, q⟩ := h
  cases rx
  obtain ⟨u, rfl, ru⟩ := rxs.one
  obtain ⟨t, rfl⟩ := ru
  obtain ⟨z, its, n, r, hl, e⟩ := I.lstM hH
  have hi := Vals.strs r
  rw [List.length_map] at hl z
  have hjl : 0 < its.toArray.size := by rw [List.size_toArray]; simp at hl; omega
  refine call_meets PySem.F.slot_list_remove ⟨_, e, rfl⟩ PySem.F.entry_list_remove (PySem.F.args_list_remove_2 _ _)
    (MeetsSeq.list_remove l its.toArray n (.str k t) (eqkS k) (fun y hy => eqkS_gives hi y (by simpa using hy)) 0 hjl ?_ (fun m hm h => absurd h (by omega)) (by rw [List.size_toArray]; omega)) ⟨e, ?_⟩
  · cases hi with
    | cons n t' h =>
      show (k.cps.toList == k.cps.toList) = true
      exact beq_self_eq_true _
  · have rr := r.eraseIdx 0
    rw [erase_mapS] at rr
    refine ⟨.non, _, I.lset (its' := its.eraseIdx 0) (t' := s.toks) hH e ?_ rr ?_, rfl, q⟩
    · show its.toArray.eraseIdxIfInBounds 0 = (its.eraseIdx 0).toArray
      rw [List.eraseIdxIfInBounds_toArray]
    · have z2 := len_erase (k :: ns) 0
      rw [List.length_map]
      omega
section
variable {X : Cx} {G : Hp → Prop} {W : WX} {M : Ms} {ρ : Rh} {xr : Value → Ms → Prop} {o e : Expr} {pos apos : Pos} {R : Ms → D → Prop}
/-- xs.remove(n), n the first one -/
theorem we_removeS (gs : Gst G) (h : WE X G W o M ρ xr fun M1 d => OwL M1 d fun _ q _ => WE X G W e M1 ρ xr fun M2 z => IsZ z fun n => OwL M2 (Rf q) fun i _ l => ∃ ns : List Str, l = (n :: ns).map Z ∧ R (M2.set i (q, .lst (ns.map Z))) N0)
    (hb : PE X (.Call (.Attribute o "remove" apos) [e] [] pos) (tBM X.K "list" rRemS (eT X o) (aT X [e]))) (he : starEach [e] X.env = (false, eval e X.env) :: starEach [] X.env := by rfl) : WE X G W (.Call (.Attribute o "remove" apos) [e] [] pos) M ρ xr R :=
  we_of hb fun σ H a0 b0 x Q q => by
  refine h σ H a0 b0 x _ fun M1 d v H1 h1 a1 m1 r1 => ?_
  cases h1 with
  | mk i0 hi0 h1 =>
  rename_i q0 l0
  obtain ⟨xs0, e0, l1⟩ := at_ob a1 hi0
  obtain rfl := r1.raw_inv
  refine ⟨.inl ⟨rfl, xs0, SqL.of e0⟩, ?_⟩
  refine wa_one (RA := fun M2 ds => ∃ n : Str, ds = [Z n] ∧ OwL M2 (Rf q0) fun i _ l => ∃ ns : List Str, l = (n :: ns).map Z ∧ R (M2.set i (q0, .lst (ns.map Z))) N0) (⟨fun σ H a0 b0 x Q q => h1 σ H a0 b0 x Q fun M1 d v H1 hd a1 m1 r1 => q M1 d v H1 (by cases hd with | mk h => exact ⟨_, rfl, h⟩) a1 m1 r1⟩) he σ H1 a1 (m1.sl a0 b0) (x.mv m1) _ fun M2 ds vs H2 h2 a2 m2 r2 => ?_
  obtain ⟨n, rfl, h2⟩ := h2
  cases h2 with
  | mk i hi h2 =>
  rename_i l
  obtain ⟨ns, rfl, hk⟩ := h2
  obtain ⟨u, rfl, ru⟩ := r2.one
  obtain rfl := ru.raw_inv
  obtain ⟨xs, s1, l1⟩ := at_ob a2 hi
  have ez : ∀ l : List Str, l.map Z = (l.map V.str).map D.raw := fun l => by rw [List.map_map]; rfl
  have e1 : xs = (n :: ns).map V.str := by
    rw [ez] at l1
    exact l1.raws
  refine ⟨q0, n, ns, rfl, rfl, by rw [← e1]; exact s1, ?_⟩
  have hm : Mv M2 H2 M2 (upd H2 q0 (.lst (ns.map V.str))) := ⟨fun b w e n _ => by
      rw [upd_ne (fun z => n (by rw [z]; exact mem_at hi))]; exact e, fun _ h => .inl h⟩
  obtain ⟨a3, m3⟩ := a2.write gs (o' := .lst (ns.map Z)) hi (u := .lst (ns.map V.str)) (fun _ z => by cases z) ⟨_, upd_same, by rw [ez]; exact RpL.raws_mk _⟩
  exact q _ _ _ _ hk a3 ((m1.trans m2).trans m3) (.raw _)
end
end Wv
set_option maxRecDepth 100000
set_option maxHeartbeats 4000000
namespace Wv
open PySem PySem.Spec PyProof.Rows L2 PySem.W
/-! ### a set of texts, however many -/
section
variable {prog : Program} {w : World}
/-- a set of the texts of xs, with their number -/
def Card (prog : Program) (w : World) (h : Heap) (S : Addr) (xs : List Str) : Prop :=
  ∃ c, h.SetOf (PySem.strKind prog w) S (fun k => decide (k ∈ xs)) c ∧ c ≤ xs.length ∧ (c = xs.length ↔ xs.Nodup)
theorem card_more {h : Heap} {S : Addr} {xs : List Str} {x : Str} {c : Nat} (le : c ≤ xs.length) (nd : c = xs.length ↔ xs.Nodup)
    (hS : h.SetOf (PySem.strKind prog w) S (fun k => decide (k ∈ xs) || decide (k = x)) (if decide (x ∈ xs) then c else c + 1)) : Card prog w h S (xs ++ [x]) := by
  refine ⟨if decide (x ∈ xs) then c else c + 1, SetOf_congr hS (fun k => ?_) rfl, ?_, ?_⟩
  · rw [Bool.eq_iff_iff]
    simp
  · rw [List.length_append]
    show _ ≤ xs.length + 1
    split <;> omega
  · rw [List.length_append, List.nodup_append]
    show _ = xs.length + 1 ↔ _
    by_cases hx : x ∈ xs
    · rw [if_pos (decide_eq_true hx)]
      constructor
      · intro z; omega
      · rintro ⟨_, _, z⟩
        exact absurd rfl (z x hx x (List.mem_singleton.mpr rfl))
    · rw [if_neg (by rw [decide_eq_false hx]; decide)]
      constructor
      · intro z
        refine ⟨nd.mp (by omega), List.nodup_cons.mpr ⟨List.not_mem_nil, List.nodup_nil⟩, fun a ha b hb e => ?_⟩
        rw [List.mem_singleton] at hb
        exact hx (by rw [← hb, ← e]; exact ha)
      · rintro ⟨z, _, _⟩
        have := nd.mpr z
        omega
variable {A : Around} {R : Result → Shared → Prop} {I : Addr} {fp wr : List Addr} {G : Array GenState → Array GenState → Prop} {n : Nat} {P : Nat → Value → Prop} {St : Nat → Shared → Prop}
theorem card_loop (W : WalksS prog w A.in1 I fp wr G n P St) {S : Addr} (out : S ∉ fp) {xs : List Str} (hsz : xs.length = n) (hb : n + 1 < scanBound) (at' : ∀ i v, P i v → ∃ x t, xs[i]? = some x ∧ v = .str x t) :
    ∀ (k i : Nat) (s : Shared), n - i = k → i ≤ n → St i s → Card prog w s.heap S (xs.take i) → (∀ s2, Moved (S :: wr) G s s2 → Card prog w s2.heap S xs → R (.ok (.ret .none)) s2) →
      codeAny (model prog w) A (.builtin "set.update.loop" ⟨[.ref S, .ref I], []⟩) R s := by
  have nw : S ∉ wr := fun z => out (W.sub _ z)
  have wide : ∀ b ∈ wr, b ∈ S :: wr := fun b z => List.mem_cons_of_mem _ z
  have still : ∀ {s1 s2 : Shared} {ys : List Str}, Moved wr G s1 s2 → Card prog w s1.heap S ys → Card prog w s2.heap S ys := by
    rintro s1 s2 ys m ⟨c, ⟨o, es, ep, tb, e0, e1⟩, le, nd⟩
    exact ⟨c, ⟨o, es, ep, tb, m.heap S _ nw e0, e1⟩, le, nd⟩
  intro k
  induction k with
  | zero =>
    intro i s h1 h2 h3 h4 h5
    obtain rfl : i = n := by omega
    rw [List.take_of_length_le (by omega)] at h4
    apply codeAny_builtin PyProof.Rows.F.entry_set_update_loop
    rw [Around.under_plainId PyProof.Rows.F.plain_set_update_loop]
    change wpAny _ A.in1 (pyNext (.ref I) >>= _) _ _ s
    apply wpAny_bind
    refine W.done s _ _ h3 fun s2 m => ?_
    change wpAny _ A.in1 (ret Value.none) _ _ s2
    exact wpAny_pure (h5 s2 (m.mono wide) (still m h4))
  | succ k ih =>
    intro i s h1 h2 h3 h4 h5
    have lt : i < n := by omega
    apply codeAny_builtin PyProof.Rows.F.entry_set_update_loop
    rw [Around.under_plainId PyProof.Rows.F.plain_set_update_loop]
    change wpAny _ A.in1 (pyNext (.ref I) >>= _) _ _ s
    apply wpAny_bind
    refine W.item i s _ _ lt h3 fun v s2 hv st2 m => ?_
    obtain ⟨x, t, hx, rfl⟩ := at' i v hv
    obtain ⟨c, hS, le, nd⟩ := still m h4
    change wpAny _ A.in1 (holding [Value.str x t] (setAdd S (.str x t)) >>= _) _ _ s2
    apply wpAny_bind
    apply wpAny_holding
    unfold setAdd
    apply wpAny_holding
    apply wpAny_bind
    refine (PySem.strKind prog w).pyHash (k := x) (strKind_is _ _ _ _) ?_
    have lc : c + 1 < scanBound := by
      have : (xs.take i).length ≤ i := by rw [List.length_take]; omega
      omega
    refine wpAny_setAddHashed_of (knd := PySem.strKind prog w) (s := { s2 with toks := s2.toks + 1 }) (strKind_is _ _ _ _) rfl hS lc fun h3' same hS3 => ?_
    have more := card_more (prog := prog) (w := w) le nd hS3
    have et : xs.take (i + 1) = xs.take i ++ [x] := by rw [List.take_add_one, hx]; rfl
    rw [← et] at more
    refine wpAny_pure ⟨plainId_quiet PyProof.Rows.F.plain_set_update_loop _, ?_⟩
    refine ih (i + 1) _ (by omega) lt ?_ more fun s4 m4 c4 => h5 s4 ?_ c4
    · exact W.frame _ s2 _ _ st2 (Nat.le_succ _) fun b z o e => by
        rw [same.2 b (fun y : b = S => out (y ▸ z))]
        exact e
    · exact Moved.trans W.gtrans ((m.mono wide).then_heap (Nat.le_succ _) fun b o z e => by
        rw [same.2 b (fun y : b = S => z (y ▸ List.mem_cons_self))]
        exact e) m4
end
section
variable {prog : Program} {w : World} {A : Around} {E : Value → Shared → Prop} {s : Shared}
/-- what set(..) has to give: a new set at the heap's end -/
def NewCard (prog : Program) (w : World) (s : Shared) (xs : List Str) (Q : Value → Shared → Prop) : Prop := ∀ (h' : Heap) (tk : Nat), Card prog w h' s.heap.objs.size xs → (∀ b o, s.heap.get? b = some o → h'.get? b = some o) → Q (.ref s.heap.objs.size) { s with heap := h', toks := tk }
def freshSet (led : Bool) : Obj := { cls := .type "set", dict := none, data := .set #[] 0 (.fresh 0 0 led) }
theorem texts_at : ∀ {us : List Value} {xs : List Str}, StrsAre us xs → ∀ (i : Nat) (v : Value), us[i]? = some v → ∃ x t, xs[i]? = some x ∧ v = .str x t
  | _, _, .nil, i, v, h => by cases h
  | _, _, .cons x t r, 0, v, h => by cases h; exact ⟨x, t, rfl, rfl⟩
  | _, _, .cons x t r, i + 1, v, h => texts_at r i v h
set_option maxHeartbeats 8000000 in
theorem set_of_texts {l : Addr} {its : Array Value} {xs : List Str} {Q : Value → Shared → Prop} (calm : A.handled = none) (hl : s.heap.IsList l its) (hi : StrsAre its.toList xs) (hb : xs.length + 1 < scanBound) (q : NewCard prog w s xs Q) :
    wpAny (model prog w) A (call (.type "set") [.ref l]) Q E s := by
  obtain ⟨cl0, tl0, mro0⟩ := PySem.F.called_set.mro
  have made0 := PySem.F.called_set.made
  have sub0 := PySem.F.called_set.sub
  apply wpAny_call
  apply codeAny_of_tree
  change wpAny _ _ (callAny (.type "set") _) _ _ _
  refine wpAny_pure ⟨Code.quiet_builtin _ (by decide +kernel), ?_⟩
  apply codeAny_builtin PySem.F.entry_type_call
  rw [Around.under_plain (weight_type_call_type "set" [.ref l] []) rfl]
  have nt0 := PySem.F.called_set.notType
  have cc0 := PySem.F.called_set.canCreate
  have tc0 := PySem.F.typeCall_set_1 (.ref l)
  repeat (any_goals (first | assumption | wp_step))
  let Made : Value → Shared → Prop := fun o s1 => ∃ led : Bool, o = .ref s.heap.objs.size ∧ s1 = { s with heap := s.heap.push (freshSet led) }
  have given : ∀ led : Bool, Made (.ref s.heap.objs.size) { s with heap := s.heap.push (freshSet led) } := fun led => ⟨led, rfl, rfl⟩
  refine codeAny_mono (code_set_new_1 (.ref l) (E := E) (Q₁ := Made) given) fun r s1 hr => ?_
  match r, hr with
  | .error e, hr => exact hr
  | .ok (.ret o), hr =>
    obtain ⟨led, rfl, rfl⟩ := hr
    have there : (s.heap.push (freshSet led)).get? s.heap.objs.size = some (freshSet led) := Heap.get?_push_size _ rfl
    have ty : Shared.TypeIs { s with heap := s.heap.push (freshSet led) } (.ref s.heap.objs.size) "set" := ⟨_, there, rfl⟩
    have lk0 := PySem.F.called_set.init.lookup
    have bd0 := PySem.F.called_set.init.bind (.ref s.heap.objs.size)
    repeat (any_goals (first | assumption | wp_step))
    let Done : Value → Shared → Prop := fun v s2 => v = .none ∧ ∃ h' tk, s2 = { s with heap := h', toks := tk } ∧ Card prog w h' s.heap.objs.size xs ∧ ∀ b o, s.heap.get? b = some o → h'.get? b = some o
    refine codeAny_mono (codeAny_call_builtin (R := wants Done E) PySem.F.called_set.init.plain PySem.F.entry_set_init (check_set_init_1 ty ?_)) fun r2 s2 hr2 => ?_
    · obtain ⟨⟨oc, od, oi, os⟩, ho, e1, nl, e2⟩ := hl
      subst e1
      subst e2
      have ho2 : (s.heap.push (freshSet led)).get? l = some ⟨.type "list", od, .seq its nl, os⟩ := Heap.get?_push_of_some _ ho
      have a1 := PySem.F.sub_list_set
      have a2 := PySem.F.sub_list_frozenset
      have a3 : (Value.type "list" == Value.type "dict") = false := by decide
      have il : (s.heap.push (freshSet led)).IsList l its := ⟨_, ho2, rfl, nl, rfl⟩
      unfold Builtin.«set.__init__» noKeywords Builtin.Frozenset.updateFrom
      generalize ei : pyIter = it0
      wp_walk
      subst ei
      refine wpAny_pyIter_list il ?_
      apply wpAny_bind
      apply wpAny_runValue
      have l1 : l < s.heap.objs.size := Heap.lt_size ho
      have big : (s.heap.push (freshSet led)).objs.size = s.heap.objs.size + 1 := Heap.size_push ..
      have quiet : A.in1.in1.in1.handled = none := by simp [calm]
      have ne1 : l ≠ (s.heap.push (freshSet led)).objs.size := by rw [big]; exact Nat.ne_of_lt (Nat.lt_succ_of_lt l1)
      have out : s.heap.objs.size ∉ [(s.heap.push (freshSet led)).objs.size, l] := by
        rw [big]
        intro z
        rcases List.mem_cons.mp z with z | z
        · exact absurd z (Nat.ne_of_lt (Nat.lt_succ_self _))
        · exact absurd (List.mem_singleton.mp z) (Nat.ne_of_gt l1)
      have len : xs.length = its.size := by rw [← StrsAre.len_eq hi, Array.length_toList]
      refine card_loop ((Walks.list quiet _ l ne1 its).toS) out len (by omega) (fun i v hv => texts_at hi i v (by rw [Array.getElem?_toList]; exact hv)) (its.size - 0) 0 _ (by omega) (Nat.zero_le _) ⟨⟨_, Heap.get?_push_size _ rfl, rfl, rfl⟩, il.push _⟩ ?start ?stop
      case start =>
        refine ⟨0, SetOf_congr ((setObjOf_fresh (knd := PySem.strKind prog w) led).setOf (Heap.get?_push_of_some _ there) (by unfold scanBound; omega)) (fun k => ?_) rfl, Nat.zero_le _, ?_⟩
        · rw [List.take_zero]
          simp
        · rw [List.take_zero]
          exact ⟨fun _ => List.nodup_nil, fun _ => rfl⟩
      case stop =>
        intro s3 m3 c3
        obtain ⟨h3, g3, d3, t3, o3⟩ := s3
        obtain rfl : g3 = s.gens := m3.gens
        obtain rfl : d3 = s.drawn := m3.drawn
        obtain rfl : o3 = s.os := m3.os
        change wpAny _ _ _ _ _ _
        apply wpAny_pure
        change wpAny _ _ (ret Value.none) _ _ _
        refine wpAny_pure ⟨rfl, h3, t3, rfl, c3, fun b o e => ?_⟩
        have lb : b < s.heap.objs.size := Heap.lt_size e
        refine m3.heap b o ?_ (Heap.get?_push_of_some _ (Heap.get?_push_of_some _ e))
        rw [big]
        intro z
        rcases List.mem_cons.mp z with z | z
        · exact absurd z (Nat.ne_of_lt lb)
        · exact absurd (List.mem_singleton.mp z) (Nat.ne_of_lt (Nat.lt_succ_of_lt lb))
    · match r2, hr2 with
      | .error e, hr2 => exact hr2
      | .ok (.ret v), hr2 =>
        obtain ⟨rfl, h2, t2, rfl, c2, k2⟩ := hr2
        repeat (any_goals (first | assumption | wp_step))
        exact q h2 t2 c2 k2
      | .ok .next, hr2 => exact hr2.elim
      | .ok .brk, hr2 => exact hr2.elim
      | .ok .cont, hr2 => exact hr2.elim
  | .ok .next, hr => exact hr.elim
  | .ok .brk, hr => exact hr.elim
  | .ok .cont, hr => exact hr.elim
end
/-- len(set(xs)), xs a list of texts -/
def tCard (K : PySem.W.Frag) (ta : TE) : TE := fun σ H Q => ta σ H fun x H1 => ∃ (l : Addr) (xs : List Str), x = .ref l ∧ SqL K H1 l (xs.map V.str) ∧ xs.length + 1 < scanBound ∧ ∀ c : Nat, c ≤ xs.length → (c = xs.length ↔ xs.Nodup) → Q (.int c) H1
section
variable {X : Cx}
theorem pe_card {a : Expr} {ta : TE} {p p2 q pos : Pos} (calm : X.calm = true) (hg : Gl X "len") (hm : X.mg "len" = none) (hg2 : Gl X "set") (hm2 : X.mg "set" = none) (ha : PE X a ta)
    (na : starEach [a] X.env = (false, eval a X.env) :: starEach [] X.env := by rfl) : PE X (.Call (.Name "len" p) [.Call (.Name "set" p2) [a] [] q] [] pos) (tCard X.K ta) := by
  constructor
  intro pins s σ H Q I h
  apply Call_ (ld_blt I hg hm boot_len ?_)
  refine PyProof.Rows.callWith_builtin1 (PyProof.Rows.args_cons ?_ rfl) rfl rfl
  apply Call_ (ld_blt I hg2 hm2 boot_set ?_)
  have inner := thn (ha.run pins s σ H _ I h) fun v s1 ⟨x, H1, I1, r1, q1⟩ => (show wpAny (model X.prog X.w) X.A (call (.type "set") [v]) (fun u s2 => wpAny (model X.prog X.w) X.A (spliced (backTo pos (starEach [] X.env))) (fun vs s3 => wpAny (model X.prog X.w) X.A (call (.builtin "len") (u :: vs)) (EP X pins σ Q) X.xe s3) X.xe s2) X.xe s1 by
    obtain ⟨l, xs, rfl, hq, hb, q1⟩ := q1
    cases r1
    obtain ⟨its, r, pl, hz⟩ := I1.list hq
    refine set_of_texts (I1.ok.hd calm) pl.isList (by simpa using strsAre_of r) hb fun h2 tk card keep => ?_
    obtain ⟨c, ⟨o, es, ep, t, ho, hex, hd, _, _, _, hf, hn⟩, le, nd⟩ := card
    refine PyProof.Rows.args_nil ?_
    have I2 : Inv X pins σ H1 { s1 with heap := h2, toks := tk } := I1.kept fun b o e => keep b o e
    refine call_len_set ho hex hd hf (by rw [hn]; unfold scanBound at hb; omega) ⟨.int c, H1, I2.tok _, ⟨_, by rw [hn]⟩, q1 c le nd⟩)
  refine PyProof.Rows.callWith_type1 (PyProof.Rows.args_cons (thn inner fun _ _ z => PyProof.Rows.args_nil z) na) na rfl
end
end Wv
set_option maxRecDepth 100000
set_option maxHeartbeats 4000000
namespace Wv
open PySem PySem.Spec PyProof.Rows L2 PySem.W
/-! ### the greatest of a list of ordered data -/
theorem datum_inj {α : Type} [DecidableEq α] [Datum α] {a b : α} (h : Datum.toD a = Datum.toD b) : a = b := by
  have e := Datum.eqv a b
  rw [← h, Datum.eqv a a, decide_eq_true rfl] at e
  exact of_decide_eq_true e.symm
theorem vals_at {xs : List V} {us : List Value} (r : Vals xs us) : ∀ {i : Nat} {u : Value}, us[i]? = some u → ∃ x, xs[i]? = some x ∧ RelV x u := by
  induction r with
  | nil => intro i u h; cases h
  | cons a b ih =>
    intro i u h
    cases i with
    | zero => cases h; exact ⟨_, rfl, a⟩
    | succ i => exact ih h
def rMaxO (α : Type) [DecidableEq α] [DatumOrd α] (K : PySem.W.Frag) : List V → Hp → VK → Prop := fun vs H Q => ∃ (a : Addr) (xs : List V) (x : α) (ys : List α), vs = [V.ref a] ∧ SqL K H a xs ∧ DpAll K H xs ((x :: ys).map Datum.toD) ∧
  ∀ (i : Nat) (v : V), xs[i]? = some v → (x :: ys)[i]? = some (maxOf x ys) → Q v H
theorem call_maxO {X : Cx} {α : Type} [DecidableEq α] [DatumOrd α] (hc : X.calm = true) (hu : X.A.units + 64 < cLine) (hd : Datum.depth α ≤ 60) : CallR X (.builtin "max") (rMaxO α X.K) := by
  intro pins s σ H vs us Q I r h
  obtain ⟨a, xs, x, ys, rfl, hs, dp, q⟩ := h
  obtain ⟨its, rv, pl, hz⟩ := I.list hs
  rw [Vals.ref1 r]
  obtain ⟨as, ra⟩ := Dp.readsAll I _ _ its dp rv
  refine max_list_datum (x := x) (xs := ys) (I.ok.hd hc) pl.isList ⟨as, by simpa using ra⟩ (by omega) fun i v h' tk hi hh hk => ?_
  obtain ⟨bs, rr⟩ := hh
  have hi' : its[i]? = some v := by simpa using hi
  obtain ⟨w, hw, rw'⟩ := vals_at rv hi'
  obtain ⟨cs, r1, lt, _⟩ := readsAll_at ra i v hi'
  have r2 := Reads.keeps hk r1
  have lt2 : i < (x :: ys).length := by simpa using lt
  have e1 : ((x :: ys).map Datum.toD).getD i .none = Datum.toD ((x :: ys)[i]) := by
    rw [List.getD_eq_getElem?_getD, List.getElem?_map, List.getElem?_eq_getElem lt2]
    rfl
  rw [e1] at r2
  have e2 := (Reads.unique rr _ _ r2).1
  have e3 := datum_inj e2
  exact ⟨w, H, I.kept hk, rw', q i w hw (by rw [List.getElem?_eq_getElem lt2, ← e3])⟩
theorem lstD_sq {G : Hp → Prop} {K : PySem.W.Frag} {M : Ms} {H : Hp} {v : V} {d : D} {l : List D} (a : AtM G K M H) (r : Rp K (dom M) H v d) (h : LstD M d l) : ∃ p xs, v = .ref p ∧ SqL K H p xs ∧ RpL K (dom M) H xs l := by
  cases h with
  | lst =>
    obtain ⟨p, xs, rfl, e, _, l⟩ := r.lst_inv
    exact ⟨p, xs, rfl, SqL.of e, l⟩
  | own j o =>
    obtain ⟨xs, e, l⟩ := at_obK a o
    exact ⟨_, xs, r.raw_inv, SqL.of e, l⟩
section
variable {X : Cx} {G : Hp → Prop} {W : WX} {M : Ms} {ρ : Rh} {xr : Value → Ms → Prop} {N : En} {a b c e f o i : Expr} {es : List Expr} {pos p p2 apos cpos q : Pos} {R : Ms → D → Prop} {k j : Nat}
theorem we_maxO {α : Type} [DecidableEq α] [DatumOrd α] (enc : α → D) (hp : ∀ a, Pl 50 (enc a)) (hd : ∀ a, pyD (enc a) = Datum.toD a) (hn : Datum.depth α ≤ 60) (cx : Ct X G W k) (hm : X.mg "max" = none) (hg : Gl X "max")
    (h : WE X G W e M ρ xr fun M1 d => ∃ (x : α) (ys : List α), LstD M1 d ((x :: ys).map enc) ∧ R M1 (enc (maxOf x ys))) (he : starEach [e] X.env = (false, eval e X.env) :: starEach [] X.env := by rfl) :
    WE X G W (.Call (.Name "max" p) [e] [] pos) M ρ xr R :=
  we_bi (he := he) (call_maxO (α := α) cx.hc cx.hu hn) hm (by decide +kernel) hg (wa1 h he) fun M1 ds vs H1 Q ⟨d, hds, x, ys, hl, hk⟩ a1 r1 qq => by
  subst hds
  obtain ⟨v, rfl, rv⟩ := r1.one
  obtain ⟨p1, xs, rfl, s1, l1⟩ := lstD_sq a1 rv hl
  have dp := RpL.dp (n := 50) (fun z hz => by obtain ⟨y, _, rfl⟩ := List.mem_map.mp hz; exact hp y) l1
  have e1 : pyDs ((x :: ys).map enc) = (x :: ys).map Datum.toD := by
    rw [pyDs_map, List.map_map]
    exact List.map_congr_left fun y _ => hd y
  rw [e1] at dp
  refine ⟨p1, xs, x, ys, rfl, s1, dp, fun i w hw hy => ?_⟩
  have hz : ((x :: ys).map enc)[i]? = some (enc (maxOf x ys)) := by rw [List.getElem?_map, hy]; rfl
  obtain ⟨w2, hw2, rp⟩ := l1.get hz
  rw [hw] at hw2
  cases hw2
  exact qq M1 _ _ H1 hk a1 (Mv.refl _ _) rp
end
end Wv
set_option maxRecDepth 100000
set_option maxHeartbeats 4000000
namespace Wv
open PySem PySem.Spec PyProof.Rows L2 PySem.W
theorem vals_ix : ∀ {xs : List V} {us : List Value}, xs.length = us.length → (∀ (j : Nat) (x : V) (u : Value), xs[j]? = some x → us[j]? = some u → RelV x u) → Vals xs us
  | [], [], _, _ => .nil
  | [], _ :: _, h, _ => by cases h
  | _ :: _, [], h, _ => by cases h
  | x :: xs, u :: us, h, f => .cons (f 0 x u rfl rfl) (vals_ix (Nat.succ.inj h) fun j y w h1 h2 => f (j + 1) y w h1 h2)
/-! ### list(d.values()) -/
/-- the values of a table, in a new list -/
def tListVals (te : TE) : TE := fun σ H Q => te σ H fun x H1 => ∃ (d : Addr) (kvs : List (Key × V)), x = .ref d ∧ H1 d = some (.dK kvs) ∧ ∀ p, H1 p = none → Q (.ref p) (upd H1 p (.lst (kvs.map (·.2))))
section
variable {X : Cx} {e : Expr} {te : TE} {p apos cpos pos : Pos}
theorem pe_listVals (calm : X.calm = true) (he : PE X e te) (hg : Gl X "list") (hm : X.mg "list" = none) (hv : bootBuiltins "list" = some (.type "list")) (hbase : attributeBase e "values" X.env (eval e X.env) = eval e X.env := by rfl) (hline : (apos.endLine == cpos.line) = true := by rfl)
    (hs : starEach [.Call (.Attribute e "values" apos) [] [] cpos] X.env = (false, eval (.Call (.Attribute e "values" apos) [] [] cpos) X.env) :: starEach [] X.env := by rfl) :
    PE X (.Call (.Name "list" p) [.Call (.Attribute e "values" apos) [] [] cpos] [] pos) (tListVals te) := by
  constructor
  intro pins s σ H Q I hq
  apply wpAny_Call_Name_kw
  apply ld_blt I hg hm hv
  refine PyProof.Rows.callWith_type1 ?_ hs rfl
  rw [hs]
  change wpAny _ _ (spliced ((false, eval (.Call (.Attribute e "values" apos) [] [] cpos) X.env) :: backTo pos (starEach [] X.env))) _ _ s
  apply Calls.spliced_cons
  have run := he.run pins s σ H _ I hq
  refine wpAny_Call_method (T := "dict") (id := "dict.values") hbase rfl hline F.plainAttrs_dict F.slot_dict_values F.type_dict_values (thn run fun u s1 ⟨x, H1, I1, rx, d, kvs, ex, hd, q⟩ => ?_)
  subst ex
  obtain rfl : u = Value.ref d := rx
  obtain ⟨hz, low, vs, kv, dict⟩ := I1.hok d _ hd
  obtain ⟨ep, at0⟩ := dict.dictAt
  have lk : kvs.length = vs.length := Paired.length kv
  have I2 : Inv X pins σ H1 { s1 with heap := s1.heap.push { cls := .type "dict_values", data := .fields #[.ref d] } } := I1.kept (t' := s1.toks) fun b ob y => Heap.get?_push_of_some _ y
  refine ⟨dict.typeIs, dict.mapOf.noDict, ?_⟩
  change wpAny _ _ (callWith cpos (.builtin "dict.values") [.ref d] [] []) _ X.xe s1
  refine method_meetsIn F.slot_dict_values F.entry_dict_values rfl (PySem.evalArgs_none ⟨rfl, dict.typeIs, F.args_dict_values_1 _, _, meets_dict_values (mixKind X.prog X.w) d low, ⟨⟨vs, dict⟩, ?_⟩⟩)
  apply Calls.spliced_nil
  refine kdl_call (kdl_values (knd := mixKind X.prog X.w) (kvs := vs) (ep := ep)) (I1.ok.hd calm) ⟨⟨_, Heap.get?_push_size _ rfl, rfl, rfl⟩, at0.push _⟩ (by omega) fun h2 tk acc c keep there items => ?_
  have vv : Vals (kvs.map (·.2)) acc.toList := by
    obtain ⟨sz, at1⟩ := items
    refine vals_ix (by have := Array.length_toList (xs := acc); rw [List.length_map]; omega) fun j y u h3 h4 => ?_
    rw [List.getElem?_map] at h3
    cases ek : kvs[j]? with
    | none => rw [ek] at h3; cases h3
    | some kp =>
      rw [ek] at h3
      cases h3
      obtain ⟨y2, g1, g2, g3⟩ := LiI.paired_get kv ek
      obtain ⟨k2, g4⟩ := at1 j u (by rw [← Array.getElem?_toList]; exact h4)
      rw [g1] at g4
      cases g4
      exact g3
  have I3 := I2.laid (a := _) (o := .lst (kvs.map (·.2))) (h' := h2) (t' := tk) keep (Nat.le_refl _) ⟨by rw [List.length_map]; exact hz, acc.toList, c, vv, by rw [Array.toArray_toList]; exact there⟩
  exact ⟨.ref _, _, I3, rfl, q _ (I2.hok.fresh (Nat.le_refl _))⟩
end
section
variable {X : Cx} {G : Hp → Prop} {W : WX} {M : Ms} {ρ : Rh} {xr : Value → Ms → Prop} {N : En} {a b c e f o i elt : Expr} {es rest : List Expr} {pos p p2 apos cpos q : Pos} {R : Ms → D → Prop} {k j : Nat}
/-- the new list is ours -/
theorem we_listVals (cx : Ct X G W k) (hm : X.mg "list" = none) (hg : Gl X "list") (h : WE X G W e M ρ xr fun M1 d => ∃ (j : Nat) (q : Addr) (kvs : List (Key × D)), d = Rf q ∧ M1[j]? = some (q, .dK kvs) ∧ R M1 (.lst (kvs.map (·.2))))
    (hbase : attributeBase e "values" X.env (eval e X.env) = eval e X.env := by rfl) (hline : (apos.endLine == cpos.line) = true := by rfl)
    (hs : starEach [.Call (.Attribute e "values" apos) [] [] cpos] X.env = (false, eval (.Call (.Attribute e "values" apos) [] [] cpos) X.env) :: starEach [] X.env := by rfl) :
    WE X G W (.Call (.Name "list" p) [.Call (.Attribute e "values" apos) [] [] cpos] [] pos) M ρ xr R :=
  we_of (pe_listVals cx.hc pe_wp hg hm (by decide +kernel) hbase hline hs) fun σ H a0 b0 x Q q => h σ H a0 b0 x _ fun M1 d v H1 h1 a1 m1 r1 => by
  obtain ⟨j, q0, kvs, rfl, hj, hk⟩ := h1
  obtain ⟨vs, e1, g1⟩ := at_obK a1 hj
  refine ⟨q0, vs, r1.raw_inv, e1, fun p1 hp => ?_⟩
  have gr := upd_grow (o := HO.lst (vs.map (·.2))) hp
  have a2 := a1.grow cx.gs gr
  have mv : Mv M1 H1 M1 (upd H1 p1 (.lst (vs.map (·.2)))) := Mv.grow gr
  refine q M1 _ _ _ hk a2 (m1.trans mv) (.lst upd_same (fun z => ?_) (mv.rpl a1 g1.2))
  obtain ⟨u, hu, _⟩ := a1.dom_ob z
  rw [hp] at hu
  cases hu
/-! ### texts with fields -/
def WJ (X : Cx) (G : Hp → Prop) (W : WX) : List Expr → Str → Ms → Rh → (Value → Ms → Prop) → (Ms → Str → Prop) → Prop
  | [], acc, M, _, _, R => R M acc
  | e :: es, acc, M, ρ, xr, R => WE X G W e M ρ xr fun M1 d => ∃ y : Str, d = Z y ∧ (acc ++ y).length ≤ sizeLine ∧ WJ X G W es (acc ++ y) M1 ρ xr R
theorem pj_wp : ∀ es : List Expr, PJ X es (es.map (eT X))
  | [] => .nil
  | e :: es => .cons pe_wp (pj_wp es)
theorem wj_run : ∀ (es : List Expr) (acc : Str) (M : Ms) (R : Ms → Str → Prop) (σ : L2.St) (H : Hp) (Q : Str → Hp → Prop), WJ X G W es acc M ρ xr R → AtM G X.K M H → Sl X.K (dom M) H σ ρ → Xok W G X.K M H σ xr →
    (∀ M1 z H1, R M1 z → AtM G X.K M1 H1 → Mv M H M1 H1 → Q z H1) → tJs (es.map (eT X)) acc σ H Q
  | [], acc, M, R, σ, H, Q, h, a, b, x, q => q M acc H h a (Mv.refl _ _)
  | e :: es, acc, M, R, σ, H, Q, h, a, b, x, q => by
    refine h.run σ H a b x _ fun M1 d v H1 h1 a1 m1 r1 => ?_
    obtain ⟨y, rfl, hz, h1⟩ := h1
    refine ⟨y, r1.raw_inv, hz, wj_run es _ M1 R σ H1 Q h1 a1 (m1.sl a b) (x.mv m1) fun M2 z H2 h2 a2 m2 => q M2 z H2 h2 a2 (m1.trans m2)⟩
theorem we_joined (h : WJ X G W (a :: b :: es) Str.empty M ρ xr fun M1 z => R M1 (Z z)) : WE X G W (.JoinedStr (a :: b :: es) pos) M ρ xr R :=
  we_of (pe_joined (pj_wp _)) fun σ H a0 b0 x Q q => wj_run _ _ M _ σ H _ h a0 b0 x fun M1 z H1 h1 a1 m1 => q M1 _ _ H1 h1 a1 m1 (.raw _)
theorem we_fmt (h : WE X G W e M ρ xr fun M1 d => (∃ y : Str, d = Z y ∧ y.length ≤ sizeLine ∧ R M1 (Z y)) ∨ ∃ i : Int, d = I i ∧ i.natAbs.log2 < 1920 ∧ R M1 (Z (toString i))) : WE X G W (.FormattedValue e (-1) none pos) M ρ xr R :=
  we_of (pe_fmt pe_wp) fun σ H a0 b0 x Q q => h σ H a0 b0 x _ fun M1 d v H1 h1 a1 m1 r1 => by
  rcases h1 with ⟨y, rfl, hz, hk⟩ | ⟨i, rfl, hz, hk⟩
  · exact .inl ⟨y, r1.raw_inv, hz, q M1 _ _ H1 hk a1 m1 (.raw _)⟩
  · exact .inr ⟨i, r1.raw_inv, hz, q M1 _ _ H1 hk a1 m1 (.raw _)⟩
/-- ord(c) -/
theorem we_ord (hm : X.mg "ord" = none) (hg : Gl X "ord") (h : WE X G W e M ρ xr fun M1 d => ∃ y : Str, d = Z y ∧ y.length = 1 ∧ R M1 (I (y.cps.getD 0 0 : Nat))) (he : starEach [e] X.env = (false, eval e X.env) :: starEach [] X.env := by rfl) :
    WE X G W (.Call (.Name "ord" p) [e] [] pos) M ρ xr R :=
  we_bi (he := he) call_ord hm (by decide +kernel) hg (wa1 h he) fun M1 ds vs H1 Q ⟨d, hds, y, hd, hy, hk⟩ a1 r1 q => by
  subst hds
  subst hd
  obtain ⟨v, rfl, rv⟩ := r1.one
  rw [rv.raw_inv]
  exact ⟨y, rfl, hy, q M1 _ _ H1 hk a1 (Mv.refl _ _) (.raw _)⟩
/-- x or y, x a list -/
theorem we_orL (h : WE X G W a M ρ xr fun M1 d => ∃ l, LstD M1 d l ∧ if l = [] then WE X G W (.BoolOp .Or (b :: es) pos) M1 ρ xr R else R M1 d) : WE X G W (.BoolOp .Or (a :: b :: es) pos) M ρ xr R :=
  we_of (pe_orT pe_wp pe_wp) fun σ H a0 b0 x Q q => h σ H a0 b0 x _ fun M1 d v H1 h1 a1 m1 r1 => by
  obtain ⟨l, hl, hk⟩ := h1
  obtain ⟨p1, xs, rfl, s1, l1⟩ := lstD_sq a1 r1 hl
  refine ⟨!xs.isEmpty, .inl ⟨xs, s1, rfl⟩, ?_⟩
  have len := l1.length
  cases xs with
  | nil =>
    have e : l = [] := List.eq_nil_of_length_eq_zero len.symm
    rw [if_pos e] at hk
    exact iteF (hk.run σ H1 a1 (m1.sl a0 b0) (x.mv m1) Q fun M2 d2 v2 H2 h2 a2 m2 r2 => q M2 d2 v2 H2 h2 a2 (m1.trans m2) r2)
  | cons y ys =>
    have e : l ≠ [] := fun z => by rw [z] at len; cases len
    rw [if_neg e] at hk
    exact iteT (q M1 d _ H1 hk a1 m1 r1)
/-! ### a list against a list of another length -/
theorem op_neLen (hu : X.A.units < cLine) : OpR X (compareOp .NotEq) (fun x y H Q => ∃ a b xs ys, x = .ref a ∧ y = .ref b ∧ SqL X.K H a xs ∧ SqL X.K H b ys ∧ xs.length ≠ ys.length ∧ Q (.bl true) H) := by
  intro pins s σ H x y v u Q I rx ry h
  obtain ⟨a, b, xs, ys, rfl, rfl, h1, h2, ne, q⟩ := h
  cases rx
  cases ry
  obtain ⟨i1, r1, p1, _⟩ := I.list h1
  obtain ⟨i2, r2, p2, _⟩ := I.list h2
  refine PySem.SeqAt.RcNeAt.lists_lengths p1.isList p2.isList ?_ hu X.prog X.w X.xe _ ⟨.bl true, H, I, rfl, q⟩
  have e1 := r1.length
  have e2 := r2.length
  rw [bne_iff_ne]
  intro z
  rw [List.size_toArray, List.size_toArray] at z
  omega
theorem op_neNil (hu : X.A.units + 64 < cLine) : OpR X (compareOp .NotEq) (fun x y H Q => ∃ a b xs, x = .ref a ∧ y = .ref b ∧ SqL X.K H a xs ∧ SqL X.K H b [] ∧ Q (.bl (!xs.isEmpty)) H) := by
  intro pins s σ H x y v u Q I rx ry h
  obtain ⟨a, b, xs, rfl, rfl, h1, h2, q⟩ := h
  cases xs with
  | nil => exact op_neD hu pins s σ H _ _ v u Q I rx ry ⟨.list [], .list [], .lst h1 .nil, .lst h2 .nil, rfl, rfl, q⟩
  | cons z zs => exact op_neLen (by omega) pins s σ H _ _ v u Q I rx ry ⟨a, b, z :: zs, [], rfl, rfl, h1, h2, (by simp), q⟩
/-- l != [], whatever stands in l -/
theorem wt_neNil (cx : Ct X G W k) {R : Ms → Bool → Prop} (h : WE X G W a M ρ xr fun M1 d => WE X G W b M1 ρ xr fun M2 e => ∃ l, LstD M2 d l ∧ e = .lst [] ∧ R M2 (!decide (l = []))) (hm : behindInMarks .NotEq b = false := by rfl) : WT X G W (.Compare a [.NotEq] [b] pos) M ρ xr R :=
  wt_of (pt_cmpR (op_neNil cx.hu) pe_wp pe_wp hm) fun σ H a0 b0 x Q q => by
  refine h σ H a0 b0 x _ fun M1 d v H1 h1 a1 m1 r1 => ?_
  refine h1 σ H1 a1 (m1.sl a0 b0) (x.mv m1) _ fun M2 e u H2 h2 a2 m2 r2 => ?_
  obtain ⟨l, hl, rfl, hk⟩ := h2
  obtain ⟨p1, xs, e1, s1, l1⟩ := lstD_sq a2 (m2.rp a1 r1) hl
  obtain ⟨p2, ys, e2, s2, _, l2⟩ := r2.lst_inv
  cases l2
  have len := l1.length
  refine ⟨p1, p2, xs, e1, e2, s1, SqL.of s2, !decide (l = []), ?_, q M2 _ H2 hk a2 (m1.trans m2)⟩
  cases xs with
  | nil =>
    rw [decide_eq_true (List.eq_nil_of_length_eq_zero len.symm)]
    rfl
  | cons y ys =>
    rw [decide_eq_false (fun z => by rw [z] at len; cases len)]
    rfl
end
end Wv
set_option maxRecDepth 100000
set_option maxHeartbeats 4000000
namespace Wv
open PySem PySem.Spec PyProof.Rows L2 PySem.W
/-! ### {k: v for ..} -/
section
variable {J : It} {n : Nat} {G : Hp → Prop} {Y : Nat → Hp → V → Hp → Prop}
theorem dc_it (w : Walk J n G Y) {g : TG} {tt : TT} {tk tv : TE} {vs : List Nat} {σ : L2.St} {H1 : Hp} {D : Addr} {Qd : Hp → Prop} (Pv : Nat → Hp → Prop) (h0 : Pv 0 (upd H1 D (.dK []))) (hG : ∀ i H, i ≤ n → Pv i H → G H)
    (hs : ∀ i x H H', i < n → Pv i H → Y i H x H' → g x (L2.wipe σ vs) H' fun σ2 H2 => L2.wipe σ2 vs = L2.wipe σ vs ∧ tt σ2 H2 fun b H3 =>
      if b = true then tk σ2 H3 fun y H4 => tv σ2 H4 fun z H5 => ∃ kvs k, y = kV k ∧ H5 D = some (.dK kvs) ∧ kvs.length < sizeLine ∧ Pv (i + 1) (upd H5 D (.dK (putK kvs k z))) else Pv (i + 1) H3) (hd : ∀ H, Pv n H → Qd H) :
    ∃ Wf : Nat → Nat → Hp → Prop, (∃ m, Wf 0 m (upd H1 D (.dK []))) ∧ ∀ i m H, Wf i m H →
      (J.stop i H ∧ Qd H) ∨ (J.go i H ∧ ∃ Nx : Hp → Prop, (∀ H', Nx H' → ∃ m', m' < m ∧ Wf (i + 1) m' H') ∧ ∀ x H', J.yld i H x H' → g x (L2.wipe σ vs) H' fun σ2 H2 => L2.wipe σ2 vs = L2.wipe σ vs ∧ tt σ2 H2 fun b H3 =>
        if b = true then tk σ2 H3 fun y H4 => tv σ2 H4 fun z H5 => ∃ kvs k, y = kV k ∧ H5 D = some (.dK kvs) ∧ kvs.length < sizeLine ∧ Nx (upd H5 D (.dK (putK kvs k z))) else Nx H3) := by
  let Wf : Nat → Nat → Hp → Prop := fun i m H => m = n - i ∧ i ≤ n ∧ Pv i H
  have step : ∀ i H, i ≤ n → Pv i H → i < n ∨ i = n := fun i H h _ => by omega
  refine ⟨Wf, ⟨n, by simp, Nat.zero_le _, h0⟩, fun i m H z => ?_⟩
  obtain ⟨e, le, pv⟩ := z
  have gd := hG i H le pv
  rcases step i H le pv with lt | eq
  · refine .inr ⟨w.goes i H lt gd, Pv (i + 1), fun H' p' => ⟨n - (i + 1), by omega, rfl, lt, p'⟩, ?_⟩
    exact fun x H' y => hs i x H H' lt pv (w.yields i H x H' lt gd y)
  · subst eq
    exact .inl ⟨w.stops H gd, hd H pv⟩
end
section
variable {X : Cx} {G : Hp → Prop} {W : WX} {M : Ms} {ρ : Rh} {xr : Value → Ms → Prop} {N : En} {a b c e f o i kx vx tg it : Expr} {es : List Expr} {pos p p2 apos cpos q : Pos} {R : Ms → D → Prop} {k j : Nat}
variable {g : TG} {as : D → Rh → (Rh → Prop) → Prop} {ifs : List Expr} {scope : Scope}
abbrev noX : Value → Ms → Prop := fun _ _ => False
abbrev noW : WX := fun _ _ _ _ => False
/-- one entry: the key, the value, the table at q with it -/
def TurnE (X : Cx) (G : Hp → Prop) (k : Nat) (scope : Scope) (as : D → Rh → (Rh → Prop) → Prop) (ifs : List Expr) (kx vx : Expr) (ρ : Rh) (J : Nat → Ms → Prop) (q : Addr) (n : Nat) (z : D) : Prop :=
  ∀ M', J n M' → as z ρ fun ρ' => ∀ Y, Blk X scope Y → Ct Y G noW k → WTs Y G noW ifs M' ρ' noX fun M2 b => if b = true then ∀ Y', Blk X scope Y' → Ct Y' G noW k → WE Y' G noW kx M2 ρ' noX fun M3 y => ∀ Y'', Blk X scope Y'' → Ct Y'' G noW k → WE Y'' G noW vx M3 ρ' noX fun M4 v =>
    ∃ (i : Nat) (kvs : List (Key × D)) (key : Key), y = kD key ∧ M4[i]? = some (q, .dK kvs) ∧ kvs.length < sizeLine ∧ J (n + 1) (M4.set i (q, .dK (putM kvs key v))) else J (n + 1) M2
theorem we_dcG (cx : Ct X G W k) (hN : X.N.Nodup) (own : List (Str × Nat)) (J : Ms → List D → Addr → Nat → Ms → Prop) (gok : GOk G X.K g as) (gw : GWipe g (own.map (·.2))) (mono : AMono as)
    (hg : ∀ (s : Shared) (H : Hp) (C : Addr) (cl : List (Str × Addr)) (fp : List Addr), PG (X.blk s H scope (compEnvC scope cl C X.env) fp) tg g) (ok : BlkOk X.N X.env.scope scope own)
    (h : WIP X G W tg it M ρ xr fun M1 l P => (∀ q i M', J M1 l q i M' → P M') ∧ (∀ q, J M1 l q 0 ((q, .dK []) :: M1)) ∧ (∀ q n z, l[n]? = some z → TurnE X G k scope as ifs kx vx (wipeD ρ (own.map (·.2))) (J M1 l q) q n z) ∧ ∀ q M', J M1 l q l.length M' → R M' (Rf q))
    (hs : ∀ x, foldedSetIterable it X.env x = pure x := by intro _; rfl) : WE X G W (.DictComp kx vx [⟨tg, it, ifs, 0⟩] scope pos) M ρ xr R := by
  obtain ⟨wi, hi, h⟩ := h
  refine we_of (pe_dc (own := own) (tt := fun σ H Q => ∀ Y, Blk X scope Y → ifsT Y ifs σ H Q) (tk := fun σ H Q => ∀ Y, Blk X scope Y → eT Y kx σ H Q) (tv := fun σ H Q => ∀ Y, Blk X scope Y → eT Y vx σ H Q) cx.hc hN hi ok hg
    (fun s H C cl fp => ⟨fun pins s' σ H' Q I h => pts_wp.run pins s' σ H' Q I (h _ ⟨s, H, C, cl, fp, rfl⟩)⟩) (fun s H C cl fp => ⟨fun pins s' σ H' Q I h => pe_wp.run pins s' σ H' Q I (h _ ⟨s, H, C, cl, fp, rfl⟩)⟩) (fun s H C cl fp => ⟨fun pins s' σ H' Q I h => pe_wp.run pins s' σ H' Q I (h _ ⟨s, H, C, cl, fp, rfl⟩)⟩) hs) ?_
  intro σ H a0 b0 x Q q
  refine h σ H a0 b0 x _ fun M1 l P H1 Jt h1 a1 m1 wd => fun Dl hD => ?_
  obtain ⟨hP, j0, ht, he⟩ := h1
  obtain ⟨Gd, Y, w, hG, hY⟩ := wd
  obtain ⟨a2, m2⟩ := a1.own cx.gs (o := .dK []) (fun b v e => upd_grow hD b v e) hD ⟨[], upd_same, rfl, .nil⟩
  refine dc_it (vs := own.map (·.2)) (g := g) (σ := σ) (tt := fun σ H Q => ∀ Y, Blk X scope Y → ifsT Y ifs σ H Q) (tk := fun σ H Q => ∀ Y, Blk X scope Y → eT Y kx σ H Q) (tv := fun σ H Q => ∀ Y, Blk X scope Y → eT Y vx σ H Q) w (fun i H' => ∃ M', J M1 l Dl i M' ∧ AtM G X.K M' H' ∧ Mv M1 H1 M' H') ⟨_, j0 Dl, a2, m2⟩ (fun i H' _ ⟨M', hj, ha, hm⟩ => hG _ _ (hP _ _ _ hj) ha hm) ?_ ?_
  · rintro i v H' H3 hi ⟨M', hj, ha, hm⟩ y
    obtain ⟨z, hz, ha3, hm3, rz⟩ := hY i H' _ v H3 (hP _ _ _ hj) ha hm y
    have hmm := m1.trans (hm.trans hm3)
    have bs : Sl X.K (dom M') H3 (L2.wipe σ (own.map (·.2))) (wipeD ρ (own.map (·.2))) := (hmm.sl a0 b0).wipes _
    refine gw v σ H3 _ (gok v z _ _ _ H3 _ _ ha3 bs rz (ht Dl i z hz M' hj) fun ρ2 σ2 hw hs => ?_)
    intro Y hY2
    have hK : Y.K = X.K := by obtain ⟨s, H, C, cl, fp, rfl⟩ := hY2; rfl
    have h3 := wts_run (hw Y hY2 (cx.blk hY2))
    rw [hK] at h3
    refine h3 σ2 H3 ha3 hs (fun _ _ _ z => z.elim) _ fun M2 b H4 h2 a4 m4 => ?_
    cases b with
    | false =>
      exact iteF ⟨M2, h2, a4, (hm.trans hm3).trans m4⟩
    | true =>
      refine iteT fun Y' hY' => ?_
      have hK' : Y'.K = X.K := by obtain ⟨s, H, C, cl, fp, rfl⟩ := hY'; rfl
      have h5 := ((show ∀ Y', Blk X scope Y' → Ct Y' G noW k → WE Y' G noW kx M2 ρ2 noX _ from h2) Y' hY' (cx.blk hY')).run
      rw [hK'] at h5
      refine h5 σ2 H4 a4 (m4.sl ha3 hs) (fun _ _ _ z => z.elim) _ fun M3 yk v5 H5 h5 a5 m5 r5 => ?_
      intro Y'' hY''
      have hK'' : Y''.K = X.K := by obtain ⟨s, H, C, cl, fp, rfl⟩ := hY''; rfl
      have h6 := (h5 Y'' hY'' (cx.blk hY'')).run
      rw [hK''] at h6
      refine h6 σ2 H5 a5 ((m4.trans m5).sl ha3 hs) (fun _ _ _ z => z.elim) _ fun M4 zv v6 H6 h6 a6 m6 r6 => ?_
      obtain ⟨i4, kvs, key, rfl, hi4, hl, hj4⟩ := h6
      obtain ⟨xs, e7, rl⟩ := at_obK a6 hi4
      refine ⟨xs, key, r5.raw_inv, e7, by rw [RpG.len (κ := Key) rl]; exact hl, _, hj4, ?_⟩
      have hmw : Mv M4 H6 M4 (upd H6 Dl (.dK (putK xs key v6))) := ⟨fun b w e n _ => by
        rw [upd_ne (fun z => n (by rw [z]; exact mem_at hi4))]; exact e, fun _ h => .inl h⟩
      have rl2 : RpG (κ := Key) X.K (dom M4) (upd H6 Dl (.dK (putK xs key v6))) xs kvs := ⟨rl.1, hmw.rpl a6 rl.2⟩
      obtain ⟨a7, m7⟩ := a6.write cx.gs (i := i4) (o' := .dK (putM kvs key zv)) hi4 (u := .dK (putK xs key v6)) (fun _ z => by cases z) ⟨_, upd_same, RpG.put (κ := Key) rl2 (hmw.rp a6 r6)⟩
      exact ⟨a7, ((((hm.trans hm3).trans m4).trans m5).trans m6).trans m7⟩
  · rintro H' ⟨M', hj, ha, hm⟩
    exact q M' _ _ H' (he Dl M' hj) ha (m1.trans hm) (.raw _)
/-- dict(l), l a list of pairs -/
theorem we_dictPs (cx : Ct X G W k) (hm : X.mg "dict" = none) (hg : Gl X "dict") (h : WE X G W e M ρ xr fun M1 d => ∃ (l : List D) (kvs : List (Key × D)), LstD M1 d l ∧ l = kvs.map (fun kv => .tup [kD kv.1, kv.2]) ∧ ∀ q, R ((q, .dK (mergeM [] kvs)) :: M1) (Rf q))
    (he : starEach [e] X.env = (false, eval e X.env) :: starEach [] X.env := by rfl) : WE X G W (.Call (.Name "dict" p) [e] [] pos) M ρ xr R :=
  we_bt (he := he) (call_dictP cx.hc) hm (by decide +kernel) hg (wa1 h he) fun M1 ds vs H1 Q ⟨d, hds, l, kvs, hl, hlk, hk⟩ a1 r1 q => by
  subst hds
  obtain ⟨v, rfl, rv⟩ := r1.one
  obtain ⟨p1, xs, rfl, s1, l1⟩ := lstD_sq a1 rv hl
  rw [hlk] at l1
  have key : ∀ (kvs : List (Key × D)) (xs : List V), RpL X.K (dom M1) H1 xs (kvs.map fun kv => .tup [kD kv.1, kv.2]) → ∃ (ps : List Addr) (us : List (Key × V)), xs = ps.map V.ref ∧ Paired (fun p kv => SqT X.K H1 p [kV kv.1, kv.2]) ps us ∧ RpG (κ := Key) X.K (dom M1) H1 us kvs := by
    intro kvs
    induction kvs with
    | nil => intro xs h; cases h; exact ⟨[], [], rfl, .nil, .nil⟩
    | cons kv r ih =>
      intro xs h
      cases h with
      | cons h1 h2 =>
        obtain ⟨pa, zs, rfl, sq, lz⟩ := h1.tup_inv
        obtain ⟨ps, us, rfl, pp, gg⟩ := ih _ h2
        cases lz with
        | cons z1 z2 =>
          cases z2 with
          | cons z3 z4 =>
            cases z4
            rw [z1.raw_inv] at sq
            exact ⟨pa :: ps, (kv.1, _) :: us, rfl, .cons sq pp, RpG.cons (κ := Key) z3 gg⟩
  obtain ⟨ps, us, rfl, pp, gg⟩ := key kvs xs l1
  refine ⟨p1, ps, us, rfl, s1, pp, fun p2 hp => ?_⟩
  obtain ⟨a2, m2⟩ := a1.own cx.gs (o := .dK []) (fun b v e => upd_grow hp b v e) hp ⟨[], upd_same, rfl, .nil⟩
  have g2 : RpG (κ := Key) X.K (dom ((p2, O.dK []) :: M1)) (upd H1 p2 (.dK [])) us kvs := ⟨gg.1, m2.rpl a1 gg.2⟩
  have twice : ∀ u : HO, upd (upd H1 p2 (.dK [])) p2 u = upd H1 p2 u := fun u => by
    funext b
    by_cases z : b = p2
    · rw [z, upd_same, upd_same]
    · rw [upd_ne z, upd_ne z, upd_ne z]
  have hmw : Mv ((p2, O.dK []) :: M1) (upd H1 p2 (.dK [])) ((p2, O.dK []) :: M1) (upd (upd H1 p2 (.dK [])) p2 (.dK (mergeK [] us))) := ⟨fun b w e n _ => by
    rw [upd_ne (fun z => n (by rw [z]; exact List.mem_cons_self))]; exact e, fun _ h => .inl h⟩
  have g3 : RpG (κ := Key) X.K (dom ((p2, O.dK []) :: M1)) (upd (upd H1 p2 (.dK [])) p2 (.dK (mergeK [] us))) us kvs := ⟨g2.1, hmw.rpl a2 g2.2⟩
  obtain ⟨a3, m3⟩ := a2.write cx.gs (i := 0) (o' := .dK (mergeM [] kvs)) rfl (u := .dK (mergeK [] us)) (fun _ z => by cases z) ⟨_, upd_same, RpG.merge .nil g3⟩
  rw [twice] at a3 m3
  exact q _ _ _ _ (hk p2) a3 (m2.trans m3) (.raw _)
/-! ### xs.count(t) of texts -/
theorem eqkS_count {k : Str} : ∀ {us : List Value} {ns : List Str}, StrsAre us ns → us.countP (eqkS k) = ns.count k
  | _, _, .nil => rfl
  | _, _, .cons n t h => by
    have ih := eqkS_count (k := k) h
    rw [List.countP_cons, List.count_cons, ih]
    have e : eqkS k (.str n t) = (n == k) := by
      show (n.cps.toList == k.cps.toList) = (n == k)
      rw [Bool.eq_iff_iff, beq_iff_eq, beq_iff_eq]
      constructor
      · intro z
        have z2 : n.cps = k.cps := Array.toList_inj.mp z
        cases n
        cases k
        exact congrArg _ z2
      · intro z; rw [z]
    rw [e]
def rCntS (K : PySem.W.Frag) : V → List V → Hp → VK → Prop := fun x xs H Q => ∃ (p : Addr) (ns : List Str) (k : Str), x = .ref p ∧ xs = [.str k] ∧ SqL K H p (ns.map V.str) ∧ Q (.int (ns.count k : Nat)) H
theorem mt_countS : MtR X "list.count" (rCntS X.K) := by
  intro pins s σ H x xs v us Q I rx rxs h
  obtain ⟨p, ns, k, rfl, rfl, hs, q⟩ := h
  cases rx
  obtain ⟨u, rfl, t, rfl⟩ := rxs.one
  obtain ⟨its, rv, ⟨⟨oc, od, oi, os⟩, n, ho, e1, e3, e2⟩, _⟩ := I.list hs
  subst e1
  subst e2
  have hi := strsAre_of rv
  have given := fun y (hy : y ∈ its.toArray) => (eqkS_gives (k := k) (t := t) hi y (by simpa using hy)).at X.A.in1 s
  refine call_meets PySem.F.slot_list_count ⟨_, ho, rfl⟩ PySem.F.entry_list_count (PySem.F.args_list_count_2 _ _) (SeqAt.list_countAt p its.toArray n od os (.str k t) (eqkS k)) ⟨ho, given, ?_⟩
  refine ⟨.int (ns.count k : Nat), H, I.tok _, ⟨s.toks, ?_⟩, q⟩
  rw [← eqkS_count hi]
end
end Wv
set_option maxRecDepth 100000
set_option maxHeartbeats 4000000
namespace Wv
open PySem PySem.Spec PyProof.Rows L2 PySem.W
theorem strs_vs {K : PySem.W.Frag} {Y : List Addr} {H : Hp} {ns : List Str} {xs : List V} (h : RpL K Y H xs (ns.map Z)) : xs = ns.map V.str := by
  have e : ns.map Z = (ns.map V.str).map D.raw := by rw [List.map_map]; rfl
  rw [e] at h
  exact h.raws
section
variable {X : Cx} {G : Hp → Prop} {W : WX} {M : Ms} {ρ : Rh} {xr : Value → Ms → Prop} {N : En} {a b c e f o i : Expr} {es : List Expr} {pos p p2 apos cpos q : Pos} {R : Ms → D → Prop} {k j : Nat}
/-- xs.count(t), texts -/
theorem we_countS (h : WE X G W o M ρ xr fun M1 d => ∃ ns : List Str, LstD M1 d (ns.map Z) ∧ WE X G W e M1 ρ xr fun M2 z => ∃ t : Str, z = Z t ∧ LstD M2 d (ns.map Z) ∧ R M2 (I (ns.count t : Nat)))
    (hb : PE X (.Call (.Attribute o "count" apos) [e] [] pos) (tBM X.K "list" (rCntS X.K) (eT X o) (aT X [e]))) (he : starEach [e] X.env = (false, eval e X.env) :: starEach [] X.env := by rfl) : WE X G W (.Call (.Attribute o "count" apos) [e] [] pos) M ρ xr R :=
  we_of hb fun σ H a0 b0 x Q q => by
  refine h σ H a0 b0 x _ fun M1 d v H1 h1 a1 m1 r1 => ?_
  obtain ⟨ns, l1, h1⟩ := h1
  obtain ⟨p1, xs1, rfl, s1, _⟩ := lstD_sq a1 r1 l1
  refine ⟨.inl ⟨rfl, xs1, s1⟩, ?_⟩
  refine wa1 h1 he σ H1 a1 (m1.sl a0 b0) (x.mv m1) _ fun M2 ds vs H2 h2 a2 m2 r2 => ?_
  obtain ⟨z, rfl, t, rfl, l2, hk⟩ := h2
  obtain ⟨u, rfl, ru⟩ := r2.one
  obtain rfl := ru.raw_inv
  obtain ⟨p2, xs2, e2, s2, lx⟩ := lstD_sq a2 (m2.rp a1 r1) l2
  cases e2
  rw [strs_vs lx] at s2
  exact ⟨p1, ns, t, rfl, rfl, s2, q _ _ _ _ hk a2 (m1.trans m2) (.raw _)⟩
/-- len(set(xs)), texts -/
theorem we_card (cx : Ct X G W k) (hm : X.mg "len" = none) (hg : Gl X "len") (hm2 : X.mg "set" = none) (hg2 : Gl X "set") (h : WE X G W e M ρ xr fun M1 d => ∃ ns : List Str, LstD M1 d (ns.map Z) ∧ ns.length + 1 < scanBound ∧ ∀ c : Nat, c ≤ ns.length → (c = ns.length ↔ ns.Nodup) → R M1 (I c))
    (he : starEach [e] X.env = (false, eval e X.env) :: starEach [] X.env := by rfl) : WE X G W (.Call (.Name "len" p) [.Call (.Name "set" p2) [e] [] q] [] pos) M ρ xr R :=
  we_of (pe_card cx.hc hg hm hg2 hm2 pe_wp he) fun σ H a0 b0 x Q q => h σ H a0 b0 x _ fun M1 d v H1 h1 a1 m1 r1 => by
  obtain ⟨ns, l1, hz, hk⟩ := h1
  obtain ⟨p1, xs1, rfl, s1, lx⟩ := lstD_sq a1 r1 l1
  rw [strs_vs lx] at s1
  exact ⟨p1, ns, rfl, s1, hz, fun c c1 c2 => q _ _ _ _ (hk c c1 c2) a1 m1 (.raw _)⟩
end
end Wv
set_option maxRecDepth 100000
set_option maxHeartbeats 4000000
namespace Wv
open PySem PySem.Spec PyProof.Rows L2 PySem.W
/-! ### comprehensions over what we know better than as data -/
section
variable {α : Type}
variable {X : Cx} {G : Hp → Prop} {W : WX} {M : Ms} {ρ : Rh} {xr : Value → Ms → Prop} {N : En} {pos : Pos} {R : Ms → D → Prop} {k : Nat}
variable {tg it elt e : Expr} {g : TG} {as : D → Rh → (Rh → Prop) → Prop} {ifs : List Expr} {scope : Scope}
def ItemA (X : Cx) (G : Hp → Prop) (k : Nat) (scope : Scope) (as : D → Rh → (Rh → Prop) → Prop) (ifs : List Expr) (elt : Expr) (ρ : Rh) (M1 : Ms) (enc : α → D) (p : α → Bool) (f : α → D) (y : α) : Prop :=
  ∀ q acc, as (enc y) ρ fun ρ' => ∀ Y, Blk X scope Y → Ct Y G noW k → WTs Y G noW ifs ((q, O.lst acc) :: M1) ρ' noX fun M2 b => M2 = (q, O.lst acc) :: M1 ∧ b = p y ∧
    (p y = true → ∀ Y', Blk X scope Y' → Ct Y' G noW k → WE Y' G noW elt ((q, O.lst acc) :: M1) ρ' noX fun M3 v => M3 = (q, O.lst acc) :: M1 ∧ v = f y)
def JA (ys : List α) (p : α → Bool) (f : α → D) (M1 : Ms) (n : Nat) (M' : Ms) (acc : List D) : Prop := M' = M1 ∧ acc = ((ys.take n).filter p).map f
theorem wts_imp {Y : Cx} {W : WX} {R R' : Ms → Bool → Prop} {M : Ms} (f : ∀ M b, R M b → R' M b) (h : WTs Y G W ifs M ρ xr R) : WTs Y G W ifs M ρ xr R' := by
  unfold WTs at h ⊢
  split at h
  · exact f _ _ h
  · exact wt_imp h f
  · exact h.elim
theorem wts_nil {Y : Cx} {W : WX} {R : Ms → Bool → Prop} {M : Ms} (h : R M true) : WTs Y G W [] M ρ xr R := h
theorem turn_A {ys : List α} {enc : α → D} {M1 : Ms} {p : α → Bool} {f : α → D} (mono : AMono as) (hl : ys.length < sizeLine) (h : ∀ y ∈ ys, ItemA X G k scope as ifs elt ρ M1 enc p f y) : ∀ n z, (ys.map enc)[n]? = some z → TurnC X G k scope as ifs elt ρ (JA ys p f M1) n z := by
  intro n z hz q M' acc hj
  obtain ⟨rfl, rfl⟩ := hj
  rw [List.getElem?_map] at hz
  cases hy : ys[n]? with
  | none => rw [hy] at hz; cases hz
  | some y =>
    rw [hy] at hz
    cases hz
    refine mono _ _ _ _ (fun ρ' hr Y hY cy => ?_) (h y (List.mem_of_getElem? hy) q (((ys.take n).filter p).map f))
    have ht : ys.take (n + 1) = ys.take n ++ [y] := by rw [List.take_add_one, hy]; rfl
    have short : (((ys.take n).filter p).map f).length < sizeLine := by
      have l1 := List.length_filter_le p (ys.take n)
      have l2 : (ys.take n).length ≤ ys.length := by rw [List.length_take]; omega
      rw [List.length_map]; omega
    refine wts_imp (fun M2 b hb => ?_) (hr Y hY cy)
    obtain ⟨rfl, rfl, hk⟩ := hb
    cases hp : p y with
    | false =>
      refine iteF ⟨_, rfl, rfl, ?_⟩
      rw [ht, List.filter_append, List.filter_cons_of_neg (by rw [hp]; simp), List.filter_nil, List.append_nil]
    | true =>
      refine iteT fun Y' hY' cy' => we_imp (hk hp Y' hY' cy') fun M3 v hv => ?_
      obtain ⟨rfl, rfl⟩ := hv
      refine ⟨_, rfl, short, rfl, ?_⟩
      rw [ht, List.filter_append, List.filter_cons_of_pos hp, List.filter_nil, List.map_append]
      rfl
theorem we_lcA (cx : Ct X G W k) (hN : X.N.Nodup) (own : List (Str × Nat)) (ys : List α) (enc : α → D) (p : α → Bool) (f : α → D) (gok : GOk G X.K g as) (gw : GWipe g (own.map (·.2))) (mono : AMono as)
    (hg : ∀ (s : Shared) (H : Hp) (C : Addr) (cl : List (Str × Addr)) (fp : List Addr), PG (X.blk s H scope (compEnvC scope cl C X.env) fp) tg g) (ok : BlkOk X.N X.env.scope scope own)
    (h : WIP X G W tg it M ρ xr fun M1 l P => l = ys.map enc ∧ (∀ x M', P M' → P (x :: M')) ∧ P M1 ∧ ys.length < sizeLine ∧ (∀ y ∈ ys, ItemA X G k scope as ifs elt (wipeD ρ (own.map (·.2))) M1 enc p f y) ∧ R M1 (.lst ((ys.filter p).map f)))
    (hs : ∀ x, foldedSetIterable it X.env x = pure x := by intro _; rfl) : WE X G W (.ListComp elt [⟨tg, it, ifs, 0⟩] scope pos) M ρ xr R := by
  refine we_lcG cx hN own (fun M1 _ => JA ys p f M1) gok gw mono hg ok ?_ hs
  obtain ⟨wi, hi, h⟩ := h
  refine ⟨wi, hi, fun σ H a0 b0 x Q q => h σ H a0 b0 x Q fun M' l P H' J hr a1 m1 wd => q M' l P H' J ?_ a1 m1 wd⟩
  obtain ⟨rfl, h1, h2, h3, h4, h5⟩ := hr
  refine ⟨h1, fun i M'' acc hj => by rw [hj.1]; exact h2, ⟨rfl, by simp⟩, turn_A mono h3 h4, fun M'' acc hj => ?_⟩
  obtain ⟨rfl, rfl⟩ := hj
  rw [List.length_map, List.take_of_length_le (Nat.le_refl _)]
  exact h5
theorem ws_setLcA (i : Nat) {y : Str} {py spos : Pos} (cx : Ct X G W k) (hN : X.N.Nodup) (own : List (Str × Nat)) (ys : List α) (enc : α → D) (p : α → Bool) (f : α → D) (gok : GOk G X.K g as) (gw : GWipe g (own.map (·.2))) (mono : AMono as)
    (hg : ∀ (s : Shared) (H : Hp) (C : Addr) (cl : List (Str × Addr)) (fp : List Addr), PG (X.blk s H scope (compEnvC scope cl C X.env) fp) tg g) (ok : BlkOk X.N X.env.scope scope own) (hsw : swapsWith (.ListComp elt [⟨tg, it, ifs, 0⟩] scope pos) (some (.Name y py)) spos.line X.env = pure true)
    (h : WIP X G W tg it M ρ N.xr fun M1 l P => l = ys.map enc ∧ (∀ x M', P M' → P (x :: M')) ∧ P M1 ∧ ys.length < sizeLine ∧ (∀ y ∈ ys, ItemA X G k scope as ifs elt (wipeD ρ (own.map (·.2))) M1 enc p f y) ∧ N.nx M1 (ρ.set i (some (.lst ((ys.filter p).map f)))))
    (hy : X.N[i]? = some y := by rfl) (hyl : X.env.scope.names.lookup y = some .local := by rfl) (hs : ∀ x, foldedSetIterable it X.env x = pure x := by intro _; rfl) : WS X G W (.Assign [.Name y py] (.ListComp elt [⟨tg, it, ifs, 0⟩] scope pos) spos) M ρ N := by
  refine ws_setLcG i cx hN own (fun M1 _ => JA ys p f M1) gok gw mono hg ok hsw ?_ hy hyl hs
  obtain ⟨wi, hi, h⟩ := h
  refine ⟨wi, hi, fun σ H a0 b0 x Q q => h σ H a0 b0 x Q fun M' l P H' J hr a1 m1 wd => q M' l P H' J ?_ a1 m1 wd⟩
  obtain ⟨rfl, h1, h2, h3, h4, h5⟩ := hr
  refine ⟨h1, fun i M'' acc hj => by rw [hj.1]; exact h2, ⟨rfl, by simp⟩, turn_A mono h3 h4, fun M'' acc hj => ?_⟩
  obtain ⟨rfl, rfl⟩ := hj
  rw [List.length_map, List.take_of_length_le (Nat.le_refl _)]
  exact h5
theorem itemA0 {M1 : Ms} {enc : α → D} {f : α → D} {y : α} (mono : AMono as) (h : ∀ q acc, as (enc y) ρ fun ρ' => ∀ Y', Blk X scope Y' → Ct Y' G noW k → WE Y' G noW elt ((q, O.lst acc) :: M1) ρ' noX fun M3 v => M3 = (q, O.lst acc) :: M1 ∧ v = f y) : ItemA X G k scope as [] elt ρ M1 enc (fun _ => true) f y :=
  fun q acc => mono _ _ _ _ (fun ρ' hr Y hY cy => (show _ ∧ _ ∧ _ from ⟨rfl, rfl, fun _ Y' hY' cy' => hr Y' hY' cy'⟩)) (h q acc)
theorem itemA1 {c : Expr} {M1 : Ms} {enc : α → D} {p : α → Bool} {f : α → D} {y : α} (mono : AMono as) (h : ∀ q acc, as (enc y) ρ fun ρ' => ∀ Y, Blk X scope Y → Ct Y G noW k → WT Y G noW c ((q, O.lst acc) :: M1) ρ' noX fun M2 b => M2 = (q, O.lst acc) :: M1 ∧ b = p y ∧
    (p y = true → ∀ Y', Blk X scope Y' → Ct Y' G noW k → WE Y' G noW elt ((q, O.lst acc) :: M1) ρ' noX fun M3 v => M3 = (q, O.lst acc) :: M1 ∧ v = f y)) : ItemA X G k scope as [c] elt ρ M1 enc p f y :=
  fun q acc => mono _ _ _ _ (fun ρ' hr Y hY cy => hr Y hY cy) (h q acc)
end
end Wv
set_option maxRecDepth 100000
set_option maxHeartbeats 4000000

namespace K24
open PySem PySem.Spec PyProof.Rows L2 Wv
open LamX (CodeO TabS Tabs ExtN TabB lamEnv lamCx LamS)
local macro_rules | `(tactic| walk_at "e.name") => `(tactic| first
    | refine we_var 0 _ rfl (by first | exact .inl rfl | exact .inr (.inl rfl) | exact .inr (.inr rfl)) rfl ?_
    | refine we_var 1 _ rfl (by first | exact .inl rfl | exact .inr (.inl rfl) | exact .inr (.inr rfl)) rfl ?_
    | refine we_var 2 _ rfl (by first | exact .inl rfl | exact .inr (.inl rfl) | exact .inr (.inr rfl)) rfl ?_
    | refine we_var 3 _ rfl (by first | exact .inl rfl | exact .inr (.inl rfl) | exact .inr (.inr rfl)) rfl ?_
    | refine we_var 4 _ rfl (by first | exact .inl rfl | exact .inr (.inl rfl) | exact .inr (.inr rfl)) rfl ?_
    | refine we_var 5 _ rfl (by first | exact .inl rfl | exact .inr (.inl rfl) | exact .inr (.inr rfl)) rfl ?_
    | refine we_var 6 _ rfl (by first | exact .inl rfl | exact .inr (.inl rfl) | exact .inr (.inr rfl)) rfl ?_
    | refine we_var 7 _ rfl (by first | exact .inl rfl | exact .inr (.inl rfl) | exact .inr (.inr rfl)) rfl ?_
    | refine we_var 8 _ rfl (by first | exact .inl rfl | exact .inr (.inl rfl) | exact .inr (.inr rfl)) rfl ?_
    | refine we_var 9 _ rfl (by first | exact .inl rfl | exact .inr (.inl rfl) | exact .inr (.inr rfl)) rfl ?_
    | refine we_var 10 _ rfl (by first | exact .inl rfl | exact .inr (.inl rfl) | exact .inr (.inr rfl)) rfl ?_
    | refine we_var 11 _ rfl (by first | exact .inl rfl | exact .inr (.inl rfl) | exact .inr (.inr rfl)) rfl ?_
    | refine we_var 12 _ rfl (by first | exact .inl rfl | exact .inr (.inl rfl) | exact .inr (.inr rfl)) rfl ?_
    | refine we_var 13 _ rfl (by first | exact .inl rfl | exact .inr (.inl rfl) | exact .inr (.inr rfl)) rfl ?_
    | refine we_var 14 _ rfl (by first | exact .inl rfl | exact .inr (.inl rfl) | exact .inr (.inr rfl)) rfl ?_
    | refine we_var 15 _ rfl (by first | exact .inl rfl | exact .inr (.inl rfl) | exact .inr (.inr rfl)) rfl ?_
    | refine we_var 16 _ rfl (by first | exact .inl rfl | exact .inr (.inl rfl) | exact .inr (.inr rfl)) rfl ?_
    | refine we_var 17 _ rfl (by first | exact .inl rfl | exact .inr (.inl rfl) | exact .inr (.inr rfl)) rfl ?_
    | refine we_var 18 _ rfl (by first | exact .inl rfl | exact .inr (.inl rfl) | exact .inr (.inr rfl)) rfl ?_
    | refine we_var 19 _ rfl (by first | exact .inl rfl | exact .inr (.inl rfl) | exact .inr (.inr rfl)) rfl ?_
    | refine we_var 20 _ rfl (by first | exact .inl rfl | exact .inr (.inl rfl) | exact .inr (.inr rfl)) rfl ?_
    | refine we_var 21 _ rfl (by first | exact .inl rfl | exact .inr (.inl rfl) | exact .inr (.inr rfl)) rfl ?_
    | refine we_var 22 _ rfl (by first | exact .inl rfl | exact .inr (.inl rfl) | exact .inr (.inr rfl)) rfl ?_
    | refine we_var 23 _ rfl (by first | exact .inl rfl | exact .inr (.inl rfl) | exact .inr (.inr rfl)) rfl ?_
    | refine we_var 24 _ rfl (by first | exact .inl rfl | exact .inr (.inl rfl) | exact .inr (.inr rfl)) rfl ?_
    | refine we_var 25 _ rfl (by first | exact .inl rfl | exact .inr (.inl rfl) | exact .inr (.inr rfl)) rfl ?_
    | refine we_var 26 _ rfl (by first | exact .inl rfl | exact .inr (.inl rfl) | exact .inr (.inr rfl)) rfl ?_
    | refine we_var 27 _ rfl (by first | exact .inl rfl | exact .inr (.inl rfl) | exact .inr (.inr rfl)) rfl ?_
    | refine we_var 28 _ rfl (by first | exact .inl rfl | exact .inr (.inl rfl) | exact .inr (.inr rfl)) rfl ?_
    | refine we_var 29 _ rfl (by first | exact .inl rfl | exact .inr (.inl rfl) | exact .inr (.inr rfl)) rfl ?_
    | refine we_globI (by assumption) rfl ?_
    | refine we_globS (by assumption) rfl ?_)
local macro_rules | `(tactic| walk_at "e.const") => `(tactic| first
    | refine we_int ?_
    | refine we_str ?_
    | refine we_bl ?_
    | refine we_non ?_)
local macro_rules | `(tactic| walk_at "e.call") => `(tactic| first
    | refine we_len (by assumption) rfl ?_
    | refine we_int2 (by assumption) rfl ?_
    | refine we_tuple (Ct.gs (by assumption)) (by assumption) rfl ?_
    | refine we_abs (by assumption) rfl ?_
    | refine we_find ?_)
local macro_rules | `(tactic| walk_at "e.we") => `(tactic| first
    | (refine gNm ?_; walk_at "e.name")
    | (refine gConst ?_; walk_at "e.const")
    | refine we_bin (Ct.gs (by assumption)) ?_
    | (refine gCall ?_; walk_at "e.call")
    | refine we_cmp (Ct.hu (by assumption)) ?_
    | refine we_ix ?_
    | refine we_slice (Ct.gs (by assumption)) ?_
    | refine we_fld ?_
    | refine we_tup (Ct.gs (by assumption)) ?_
    | refine we_chain (Ct.hu (by assumption)) ?_
    | refine we_lst1 (Ct.gs (by assumption)) ?_
    | refine we_ifx ?_
    | refine we_and ?_
    | refine we_or ?_
    | refine we_one ?_
    | refine we_not ?_
    | refine we_negI ?_
    | refine we_neg ?_)
local macro_rules | `(tactic| walk_at "e.wt") => `(tactic| first
    | refine wt_cmp (Ct.hu (by assumption)) ?_
    | refine wt_chain (Ct.hu (by assumption)) ?_
    | refine wt_not ?_
    | refine wt_bool ?_
    | refine wt_val ?_)
local macro_rules | `(tactic| walk_at "e.ww") => `(tactic| first
    | refine ww_and ?_
    | refine ww_or ?_
    | refine ww_and1 ?_
    | refine ww_or1 ?_)
local macro_rules | `(tactic| walk_at "e.wa") => `(tactic| first
    | refine wa_nil ?_
    | refine wa_cons ?_)
local macro_rules | `(tactic| walk_at "e.wss") => `(tactic| first
    | refine wss_cons ?_
    | refine wss_nil ?_)
local macro_rules | `(tactic| walk_at "e.ws") => `(tactic| first
    | refine ws_if ?_
    | refine ws_expr (we_append (Ct.gs (by assumption)) ?_ (pe_bm PySem.F.plainAttrs_list PySem.F.slot_list_append PySem.F.type_list_append mt_append pe_wp pa_wp))
    | refine ws_fldSub (Ct.gs (by assumption)) ?_
    | refine ws_fldAddW (Ct.gs (by assumption)) ?_
    | refine ws_expr ?_
    | refine ws_set 0 (Ct.nd (by assumption)) ?_
    | refine ws_set 1 (Ct.nd (by assumption)) ?_
    | refine ws_set 2 (Ct.nd (by assumption)) ?_
    | refine ws_set 3 (Ct.nd (by assumption)) ?_
    | refine ws_set 4 (Ct.nd (by assumption)) ?_
    | refine ws_set 5 (Ct.nd (by assumption)) ?_
    | refine ws_set 6 (Ct.nd (by assumption)) ?_
    | refine ws_set 7 (Ct.nd (by assumption)) ?_
    | refine ws_set 8 (Ct.nd (by assumption)) ?_
    | refine ws_set 9 (Ct.nd (by assumption)) ?_
    | refine ws_set 10 (Ct.nd (by assumption)) ?_
    | refine ws_set 11 (Ct.nd (by assumption)) ?_
    | refine ws_set 12 (Ct.nd (by assumption)) ?_
    | refine ws_set 13 (Ct.nd (by assumption)) ?_
    | refine ws_set 14 (Ct.nd (by assumption)) ?_
    | refine ws_set 15 (Ct.nd (by assumption)) ?_
    | refine ws_set 16 (Ct.nd (by assumption)) ?_
    | refine ws_set 17 (Ct.nd (by assumption)) ?_
    | refine ws_set 18 (Ct.nd (by assumption)) ?_
    | refine ws_set 19 (Ct.nd (by assumption)) ?_
    | refine ws_set 20 (Ct.nd (by assumption)) ?_
    | refine ws_set 21 (Ct.nd (by assumption)) ?_
    | refine ws_set 22 (Ct.nd (by assumption)) ?_
    | refine ws_set 23 (Ct.nd (by assumption)) ?_
    | refine ws_set 24 (Ct.nd (by assumption)) ?_
    | refine ws_set 25 (Ct.nd (by assumption)) ?_
    | refine ws_set 26 (Ct.nd (by assumption)) ?_
    | refine ws_set 27 (Ct.nd (by assumption)) ?_
    | refine ws_set 28 (Ct.nd (by assumption)) ?_
    | refine ws_set 29 (Ct.nd (by assumption)) ?_
    | refine ws_sub (Ct.gs (by assumption)) ?_ (fun a b => pg_sub a b set_list)
    | refine ws_fld (Ct.gs (by assumption)) ?_
    | refine ws_pass ?_
    | refine ws_break ?_
    | refine ws_cont ?_)
local macro_rules | `(tactic| walk_at "e.bin") => `(tactic| first
    | refine BinD.addI ?_
    | refine BinD.subI ?_
    | refine BinD.modP (by assumption) ?_
    | refine BinD.divP (by assumption) ?_
    | refine BinD.modI (by decide) ?_
    | refine BinD.modI (by assumption) ?_
    | refine BinD.divI (by decide) (by decide) ?_
    | refine BinD.divI (by assumption) (by assumption) ?_
    | refine BinD.mulI (by first | exact .inl ⟨by decide, by decide⟩ | exact .inr ⟨by decide, by decide⟩) ?_
    | refine BinD.xorI ?_
    | refine BinD.powI ⟨by decide, by decide, by decide⟩ ?_)
local macro_rules | `(tactic| walk_at "e.cmp") => `(tactic| first
    | refine CmpD.lt ?_
    | refine CmpD.le ?_
    | refine CmpD.gt ?_
    | refine CmpD.ge ?_
    | refine CmpD.isN ?_
    | refine CmpD.notN ?_
    | refine CmpD.neI_s ?_
    | refine CmpD.neT_s ?_
    | refine CmpD.neZ_s ?_
    | refine CmpD.eqZ_s ?_
    | refine CmpD.neN_s ?_
    | refine CmpD.eqN_s ?_
    | refine CmpD.neTZ ?_
    | refine CmpD.eqTZ ?_
    | refine CmpD.eqI ?_
    | refine CmpD.neI ?_
    | refine CmpD.eqZ ?_
    | refine CmpD.neZ ?_)
local macro_rules | `(tactic| walk_at "e.is") => `(tactic| first
    | refine gSz ?_
    | refine gFld (by assumption) (by assumption) rfl ?_
    | refine gFldS (by assumption) (by assumption) (by first | decide | (repeat (first | refine plA ?_ | refine plB ?_)); simp) ?_
    | refine gFldU (by first | decide | (repeat (first | refine plA ?_ | refine plB ?_)); simp) ?_
    | refine IsI.mk ?_
    | refine IsT.mk ?_
    | refine IsL.mk ?_
    | refine IsZ.mk ?_
    | refine IsB.mk ?_
    | refine OwL.mk 0 rfl ?_
    | refine OwL.mk 1 rfl ?_
    | refine OwL.mk 2 rfl ?_
    | refine OwL.mk 3 rfl ?_
    | refine OwL.mk 4 rfl ?_
    | refine OwL.mk 5 rfl ?_
    | refine OwI.mk 0 rfl ?_
    | refine OwI.mk 1 rfl ?_
    | refine OwI.mk 2 rfl ?_
    | refine OwI.mk 3 rfl ?_
    | refine OwI.mk 4 rfl ?_
    | refine OwI.mk 5 rfl ?_
    | refine OwI.mk _ (by assumption) ?_
    | refine OwI.mk _ (set_at (by assumption)) ?_
    | refine OwI.mk _ (set_at (set_at (by assumption))) ?_
    | refine OwL.mk _ (by assumption) ?_
    | refine OwL.mk _ (set_at (by assumption)) ?_
    | refine OwL.mk _ (set_at (set_at (by assumption))) ?_
    | refine OwL.mk _ (set_at (set_at (set_at (by assumption)))) ?_
    | refine IxD.own 0 rfl rfl ?_
    | refine IxD.own 1 rfl rfl ?_
    | refine IxD.own 2 rfl rfl ?_
    | refine IxD.own 3 rfl rfl ?_
    | refine IxD.own 4 rfl rfl ?_
    | refine IxD.own 5 rfl rfl ?_
    | refine IxD.own _ (by assumption) rfl ?_
    | refine IxD.own _ (set_at (by assumption)) rfl ?_
    | refine IxD.own _ (set_at (set_at (by assumption))) rfl ?_
    | refine IxD.own _ (set_at (set_at (set_at (by assumption)))) rfl ?_
    | refine IxD.tup rfl ?_
    | refine IxD.lst rfl ?_
    | refine IntD.int ?_
    | refine IntD.bl ?_
    | refine TruD.bl ?_
    | refine TruD.int ?_
    | refine TruD.tup ?_
    | refine TruD.lst ?_
    | refine LenD.tup ?_
    | refine LenD.lst ?_
    | refine SeqD.tup ?_
    | refine SeqD.lst ?_
    | refine SlD.tup ?_
    | refine SlD.lst ?_
    | refine SeqD.own 0 rfl ?_
    | refine SeqD.own 1 rfl ?_
    | refine SeqD.own 2 rfl ?_
    | refine SeqD.own 3 rfl ?_
    | refine SeqD.own 4 rfl ?_
    | refine SeqD.own 5 rfl ?_
    | refine LenD.own 0 rfl ?_
    | refine LenD.own 1 rfl ?_
    | refine LenD.own 2 rfl ?_
    | refine LenD.own 3 rfl ?_
    | refine LenD.own 4 rfl ?_
    | refine LenD.own 5 rfl ?_)
local macro_rules | `(tactic| walk_at "e1") => `(tactic| first
    | (refine gWE ?_; walk_at "e.we")
    | (refine gBinD ?_; walk_at "e.bin")
    | (refine gWSs ?_; walk_at "e.wss")
    | (refine gWS ?_; walk_at "e.ws")
    | (refine gWT ?_; walk_at "e.wt")
    | (refine gCmpD ?_; walk_at "e.cmp")
    | (refine gWA ?_; walk_at "e.wa")
    | (refine gWW ?_; walk_at "e.ww")
    | refine iteT ?_
    | refine iteF ?_
    | walk_at "e.is")
local macro_rules | `(tactic| walk_at "x1") => `(tactic| first
    | (refine gWE ?_; walk_at "e.we")
    | (refine gBinD ?_; walk_at "e.bin")
    | (refine gWT ?_; walk_at "e.wt")
    | (refine gCmpD ?_; walk_at "e.cmp")
    | (refine gWA ?_; walk_at "e.wa")
    | (refine gWW ?_; walk_at "e.ww")
    | refine iteT ?_
    | refine iteF ?_
    | walk_at "e.is")
local macro_rules | `(tactic| walk_at "e") => `(tactic| repeat (walk_at "e1"))
local macro_rules | `(tactic| walk_at "x") => `(tactic| repeat (walk_at "x1"))
def topS (i : Nat) : Stmt := PySem.Challenge.pw_wirestack_k24_streams_behind_one_address.main.body.getD i (.Pass ⟨0, 0, 0, 0⟩)
abbrev c_NetError : Stmt := topS 1
abbrev c_OctetError : Stmt := topS 2
abbrev c_SocketError : Stmt := topS 3
abbrev s_natural_bytes : Stmt := topS 6
abbrev N_natural_bytes : List Str := ["number", "found", "rest"]
theorem sc_natural_bytes : FnScope N_natural_bytes ["number"] (defScope s_natural_bytes) := ⟨rfl, rfl, rfl, by decide +kernel, rfl, by decide +kernel, by decide +kernel⟩
abbrev s_fixed_bytes : Stmt := topS 7
abbrev N_fixed_bytes : List Str := ["number", "many", "found", "rest", "_"]
theorem sc_fixed_bytes : FnScope N_fixed_bytes ["number", "many"] (defScope s_fixed_bytes) := ⟨rfl, rfl, rfl, by decide +kernel, rfl, by decide +kernel, by decide +kernel⟩
abbrev s_fixed_number : Stmt := topS 8
abbrev N_fixed_number : List Str := ["data", "number", "byte"]
theorem sc_fixed_number : FnScope N_fixed_number ["data"] (defScope s_fixed_number) := ⟨rfl, rfl, rfl, by decide +kernel, rfl, by decide +kernel, by decide +kernel⟩
abbrev c_Reader : Stmt := topS 9
abbrev s_Reader_init : Stmt := inClass (topS 9) 0
abbrev N_Reader_init : List Str := ["self", "data"]
theorem sc_Reader_init : FnScope N_Reader_init ["self", "data"] (defScope s_Reader_init) := ⟨rfl, rfl, rfl, by decide +kernel, rfl, by decide +kernel, by decide +kernel⟩
abbrev s_Reader_take : Stmt := inClass (topS 9) 1
abbrev N_Reader_take : List Str := ["self", "many", "begin"]
theorem sc_Reader_take : FnScope N_Reader_take ["self", "many"] (defScope s_Reader_take) := ⟨rfl, rfl, rfl, by decide +kernel, rfl, by decide +kernel, by decide +kernel⟩
abbrev s_Reader_natural : Stmt := inClass (topS 9) 2
abbrev N_Reader_natural : List Str := ["self", "begin", "found", "weight", "byte"]
theorem sc_Reader_natural : FnScope N_Reader_natural ["self"] (defScope s_Reader_natural) := ⟨rfl, rfl, rfl, by decide +kernel, rfl, by decide +kernel, by decide +kernel⟩
abbrev s_Reader_blob : Stmt := inClass (topS 9) 3
abbrev N_Reader_blob : List Str := ["self"]
theorem sc_Reader_blob : FnScope N_Reader_blob ["self"] (defScope s_Reader_blob) := ⟨rfl, rfl, rfl, by decide +kernel, rfl, by decide +kernel, by decide +kernel⟩
abbrev s_Reader_at_end : Stmt := inClass (topS 9) 4
abbrev N_Reader_at_end : List Str := ["self"]
theorem sc_Reader_at_end : FnScope N_Reader_at_end ["self"] (defScope s_Reader_at_end) := ⟨rfl, rfl, rfl, by decide +kernel, rfl, by decide +kernel, by decide +kernel⟩
abbrev s_blob_bytes : Stmt := topS 10
abbrev N_blob_bytes : List Str := ["data"]
theorem sc_blob_bytes : FnScope N_blob_bytes ["data"] (defScope s_blob_bytes) := ⟨rfl, rfl, rfl, by decide +kernel, rfl, by decide +kernel, by decide +kernel⟩
abbrev s_segment_bytes : Stmt := topS 15
abbrev N_segment_bytes : List Str := ["segment", "kind", "opener", "number", "place", "told", "room", "last", "data", "found", "part"]
theorem sc_segment_bytes : FnScope N_segment_bytes ["segment"] (defScope s_segment_bytes) := ⟨rfl, rfl, rfl, by decide +kernel, rfl, by decide +kernel, by decide +kernel⟩
abbrev s_read_segment : Stmt := topS 16
abbrev N_read_segment : List Str := ["data", "reader", "kind", "opener", "number", "place", "told", "room", "last", "found"]
theorem sc_read_segment : FnScope N_read_segment ["data"] (defScope s_read_segment) := ⟨rfl, rfl, rfl, by decide +kernel, rfl, by decide +kernel, by decide +kernel⟩
abbrev c_Flow : Stmt := topS 20
abbrev s_Flow_init : Stmt := inClass (topS 20) 0
abbrev N_Flow_init : List Str := ["self", "opener", "number", "outer", "peer", "time"]
theorem sc_Flow_init : FnScope N_Flow_init ["self", "opener", "number", "outer", "peer", "time"] (defScope s_Flow_init) := ⟨rfl, rfl, rfl, by decide +kernel, rfl, by decide +kernel, by decide +kernel⟩
abbrev s_begun_at : Stmt := topS 21
abbrev N_begun_at : List Str := ["segment", "opener", "number"]
theorem sc_begun_at : FnScope N_begun_at ["segment", "opener", "number"] (defScope s_begun_at) := ⟨rfl, rfl, rfl, by decide +kernel, rfl, by decide +kernel, by decide +kernel⟩
abbrev c_Translator : Stmt := topS 22
abbrev s_Translator_init : Stmt := inClass (topS 22) 0
abbrev N_Translator_init : List Str := ["self", "outside", "inside"]
theorem sc_Translator_init : FnScope N_Translator_init ["self", "outside", "inside"] (defScope s_Translator_init) := ⟨rfl, rfl, rfl, by decide +kernel, rfl, by decide +kernel, by decide +kernel⟩
abbrev s_Translator_open_door : Stmt := inClass (topS 22) 1
abbrev N_Translator_open_door : List Str := ["self", "peer", "inside"]
theorem sc_Translator_open_door : FnScope N_Translator_open_door ["self", "peer", "inside"] (defScope s_Translator_open_door) := ⟨rfl, rfl, rfl, by decide +kernel, rfl, by decide +kernel, by decide +kernel⟩
abbrev s_Translator_forget : Stmt := inClass (topS 22) 2
abbrev N_Translator_forget : List Str := ["self", "time", "flow"]
theorem sc_Translator_forget : FnScope N_Translator_forget ["self", "time"] (defScope s_Translator_forget) := ⟨rfl, rfl, rfl, by decide +kernel, rfl, by decide +kernel, by decide +kernel⟩
abbrev s_Translator_outgoing : Stmt := inClass (topS 22) 3
abbrev N_Translator_outgoing : List Str := ["self", "source", "target", "data", "time", "segment", "opener", "number", "let_in", "flow"]
theorem sc_Translator_outgoing : FnScope N_Translator_outgoing ["self", "source", "target", "data", "time"] (defScope s_Translator_outgoing) := ⟨rfl, rfl, rfl, by decide +kernel, rfl, by decide +kernel, by decide +kernel⟩
abbrev s_Translator_flow_of : Stmt := inClass (topS 22) 4
abbrev N_Translator_flow_of : List Str := ["self", "opener", "number", "peer", "time", "flow", "taken", "outer", "found"]
theorem sc_Translator_flow_of : FnScope N_Translator_flow_of ["self", "opener", "number", "peer", "time"] (defScope s_Translator_flow_of) := ⟨rfl, rfl, rfl, by decide +kernel, rfl, by decide +kernel, by decide +kernel⟩
abbrev s_Translator_incoming : Stmt := inClass (topS 22) 5
abbrev N_Translator_incoming : List Str := ["self", "source", "data", "time", "segment", "opener", "number", "flow"]
theorem sc_Translator_incoming : FnScope N_Translator_incoming ["self", "source", "data", "time"] (defScope s_Translator_incoming) := ⟨rfl, rfl, rfl, by decide +kernel, rfl, by decide +kernel, by decide +kernel⟩
abbrev s_law_dice : Stmt := topS 24
abbrev N_law_dice : List Str := ["cell"]
theorem sc_law_dice : FnScope N_law_dice ["cell"] (defScope s_law_dice) := ⟨rfl, rfl, rfl, by decide +kernel, rfl, by decide +kernel, by decide +kernel⟩
abbrev s_law_roll : Stmt := topS 25
abbrev N_law_roll : List Str := ["dice", "many", "found"]
theorem sc_law_roll : FnScope N_law_roll ["dice", "many"] (defScope s_law_roll) := ⟨rfl, rfl, rfl, by decide +kernel, rfl, by decide +kernel, by decide +kernel⟩
abbrev s_law_rounds : Stmt := topS 26
abbrev N_law_rounds : List Str := ["script", "most", "cells", "cell"]
theorem sc_law_rounds : FnScope N_law_rounds ["script", "most"] (defScope s_law_rounds) := ⟨rfl, rfl, rfl, by decide +kernel, rfl, by decide +kernel, by decide +kernel⟩
abbrev s_law_told : Stmt := topS 27
abbrev N_law_told : List Str := ["what"]
theorem sc_law_told : FnScope N_law_told ["what"] (defScope s_law_told) := ⟨rfl, rfl, rfl, by decide +kernel, rfl, by decide +kernel, by decide +kernel⟩
abbrev s_law_out : Stmt := topS 28
abbrev N_law_out : List Str := ["state", "source", "target", "segment", "time", "rows", "outer", "row", "k"]
theorem sc_law_out : FnScope N_law_out ["state", "source", "target", "segment", "time"] (defScope s_law_out) := ⟨rfl, rfl, rfl, by decide +kernel, rfl, by decide +kernel, by decide +kernel⟩
abbrev s_law_in : Stmt := topS 29
abbrev N_law_in : List Str := ["state", "source", "segment", "time", "row"]
theorem sc_law_in : FnScope N_law_in ["state", "source", "segment", "time"] (defScope s_law_in) := ⟨rfl, rfl, rfl, by decide +kernel, rfl, by decide +kernel, by decide +kernel⟩
abbrev s_law : Stmt := topS 30
abbrev N_law : List Str := ["script", "dice", "inside", "translator", "state", "time", "step", "host", "peer", "sort", "told_now", "opener", "segment", "source", "target", "due", "found", "pairs", "back", "kept", "k", "one", "row", "pair"]
theorem sc_law : FnScope N_law ["script"] (defScope s_law) := ⟨rfl, rfl, rfl, by decide +kernel, rfl, by decide +kernel, by decide +kernel⟩

end K24
set_option maxRecDepth 100000
set_option maxHeartbeats 4000000

namespace K24
open PySem PySem.Spec PyProof.Rows L2 Wv
open LamX (CodeO TabS Tabs ExtN TabB lamEnv lamCx LamS)
local macro_rules | `(tactic| walk_at "e.name") => `(tactic| first
    | refine we_var 0 _ rfl (by first | exact .inl rfl | exact .inr (.inl rfl) | exact .inr (.inr rfl)) rfl ?_
    | refine we_var 1 _ rfl (by first | exact .inl rfl | exact .inr (.inl rfl) | exact .inr (.inr rfl)) rfl ?_
    | refine we_var 2 _ rfl (by first | exact .inl rfl | exact .inr (.inl rfl) | exact .inr (.inr rfl)) rfl ?_
    | refine we_var 3 _ rfl (by first | exact .inl rfl | exact .inr (.inl rfl) | exact .inr (.inr rfl)) rfl ?_
    | refine we_var 4 _ rfl (by first | exact .inl rfl | exact .inr (.inl rfl) | exact .inr (.inr rfl)) rfl ?_
    | refine we_var 5 _ rfl (by first | exact .inl rfl | exact .inr (.inl rfl) | exact .inr (.inr rfl)) rfl ?_
    | refine we_var 6 _ rfl (by first | exact .inl rfl | exact .inr (.inl rfl) | exact .inr (.inr rfl)) rfl ?_
    | refine we_var 7 _ rfl (by first | exact .inl rfl | exact .inr (.inl rfl) | exact .inr (.inr rfl)) rfl ?_
    | refine we_var 8 _ rfl (by first | exact .inl rfl | exact .inr (.inl rfl) | exact .inr (.inr rfl)) rfl ?_
    | refine we_var 9 _ rfl (by first | exact .inl rfl | exact .inr (.inl rfl) | exact .inr (.inr rfl)) rfl ?_
    | refine we_var 10 _ rfl (by first | exact .inl rfl | exact .inr (.inl rfl) | exact .inr (.inr rfl)) rfl ?_
    | refine we_var 11 _ rfl (by first | exact .inl rfl | exact .inr (.inl rfl) | exact .inr (.inr rfl)) rfl ?_
    | refine we_var 12 _ rfl (by first | exact .inl rfl | exact .inr (.inl rfl) | exact .inr (.inr rfl)) rfl ?_
    | refine we_var 13 _ rfl (by first | exact .inl rfl | exact .inr (.inl rfl) | exact .inr (.inr rfl)) rfl ?_
    | refine we_var 14 _ rfl (by first | exact .inl rfl | exact .inr (.inl rfl) | exact .inr (.inr rfl)) rfl ?_
    | refine we_var 15 _ rfl (by first | exact .inl rfl | exact .inr (.inl rfl) | exact .inr (.inr rfl)) rfl ?_
    | refine we_var 16 _ rfl (by first | exact .inl rfl | exact .inr (.inl rfl) | exact .inr (.inr rfl)) rfl ?_
    | refine we_var 17 _ rfl (by first | exact .inl rfl | exact .inr (.inl rfl) | exact .inr (.inr rfl)) rfl ?_
    | refine we_var 18 _ rfl (by first | exact .inl rfl | exact .inr (.inl rfl) | exact .inr (.inr rfl)) rfl ?_
    | refine we_var 19 _ rfl (by first | exact .inl rfl | exact .inr (.inl rfl) | exact .inr (.inr rfl)) rfl ?_
    | refine we_var 20 _ rfl (by first | exact .inl rfl | exact .inr (.inl rfl) | exact .inr (.inr rfl)) rfl ?_
    | refine we_var 21 _ rfl (by first | exact .inl rfl | exact .inr (.inl rfl) | exact .inr (.inr rfl)) rfl ?_
    | refine we_var 22 _ rfl (by first | exact .inl rfl | exact .inr (.inl rfl) | exact .inr (.inr rfl)) rfl ?_
    | refine we_var 23 _ rfl (by first | exact .inl rfl | exact .inr (.inl rfl) | exact .inr (.inr rfl)) rfl ?_
    | refine we_var 24 _ rfl (by first | exact .inl rfl | exact .inr (.inl rfl) | exact .inr (.inr rfl)) rfl ?_
    | refine we_var 25 _ rfl (by first | exact .inl rfl | exact .inr (.inl rfl) | exact .inr (.inr rfl)) rfl ?_
    | refine we_var 26 _ rfl (by first | exact .inl rfl | exact .inr (.inl rfl) | exact .inr (.inr rfl)) rfl ?_
    | refine we_var 27 _ rfl (by first | exact .inl rfl | exact .inr (.inl rfl) | exact .inr (.inr rfl)) rfl ?_
    | refine we_var 28 _ rfl (by first | exact .inl rfl | exact .inr (.inl rfl) | exact .inr (.inr rfl)) rfl ?_
    | refine we_var 29 _ rfl (by first | exact .inl rfl | exact .inr (.inl rfl) | exact .inr (.inr rfl)) rfl ?_
    | refine we_globI (by assumption) rfl ?_
    | refine we_globS (by assumption) rfl ?_)
local macro_rules | `(tactic| walk_at "e.const") => `(tactic| first
    | refine we_int ?_
    | refine we_str ?_
    | refine we_bl ?_
    | refine we_non ?_)
local macro_rules | `(tactic| walk_at "e.call") => `(tactic| first
    | refine we_len (by assumption) rfl ?_
    | refine we_int2 (by assumption) rfl ?_
    | refine we_tuple (Ct.gs (by assumption)) (by assumption) rfl ?_
    | refine we_abs (by assumption) rfl ?_
    | refine we_find ?_)
local macro_rules | `(tactic| walk_at "e.we") => `(tactic| first
    | (refine gNm ?_; walk_at "e.name")
    | (refine gConst ?_; walk_at "e.const")
    | refine we_bin (Ct.gs (by assumption)) ?_
    | (refine gCall ?_; walk_at "e.call")
    | refine we_cmp (Ct.hu (by assumption)) ?_
    | refine we_ix ?_
    | refine we_slice (Ct.gs (by assumption)) ?_
    | refine we_fld ?_
    | refine we_tup (Ct.gs (by assumption)) ?_
    | refine we_chain (Ct.hu (by assumption)) ?_
    | refine we_lst1 (Ct.gs (by assumption)) ?_
    | refine we_ifx ?_
    | refine we_and ?_
    | refine we_or ?_
    | refine we_one ?_
    | refine we_not ?_
    | refine we_negI ?_
    | refine we_neg ?_)
local macro_rules | `(tactic| walk_at "e.wt") => `(tactic| first
    | refine wt_cmp (Ct.hu (by assumption)) ?_
    | refine wt_chain (Ct.hu (by assumption)) ?_
    | refine wt_not ?_
    | refine wt_bool ?_
    | refine wt_val ?_)
local macro_rules | `(tactic| walk_at "e.ww") => `(tactic| first
    | refine ww_and ?_
    | refine ww_or ?_
    | refine ww_and1 ?_
    | refine ww_or1 ?_)
local macro_rules | `(tactic| walk_at "e.wa") => `(tactic| first
    | refine wa_nil ?_
    | refine wa_cons ?_)
local macro_rules | `(tactic| walk_at "e.wss") => `(tactic| first
    | refine wss_cons ?_
    | refine wss_nil ?_)
local macro_rules | `(tactic| walk_at "e.ws") => `(tactic| first
    | refine ws_if ?_
    | refine ws_expr (we_append (Ct.gs (by assumption)) ?_ (pe_bm PySem.F.plainAttrs_list PySem.F.slot_list_append PySem.F.type_list_append mt_append pe_wp pa_wp))
    | refine ws_fldSub (Ct.gs (by assumption)) ?_
    | refine ws_fldAddW (Ct.gs (by assumption)) ?_
    | refine ws_expr ?_
    | refine ws_set 0 (Ct.nd (by assumption)) ?_
    | refine ws_set 1 (Ct.nd (by assumption)) ?_
    | refine ws_set 2 (Ct.nd (by assumption)) ?_
    | refine ws_set 3 (Ct.nd (by assumption)) ?_
    | refine ws_set 4 (Ct.nd (by assumption)) ?_
    | refine ws_set 5 (Ct.nd (by assumption)) ?_
    | refine ws_set 6 (Ct.nd (by assumption)) ?_
    | refine ws_set 7 (Ct.nd (by assumption)) ?_
    | refine ws_set 8 (Ct.nd (by assumption)) ?_
    | refine ws_set 9 (Ct.nd (by assumption)) ?_
    | refine ws_set 10 (Ct.nd (by assumption)) ?_
    | refine ws_set 11 (Ct.nd (by assumption)) ?_
    | refine ws_set 12 (Ct.nd (by assumption)) ?_
    | refine ws_set 13 (Ct.nd (by assumption)) ?_
    | refine ws_set 14 (Ct.nd (by assumption)) ?_
    | refine ws_set 15 (Ct.nd (by assumption)) ?_
    | refine ws_set 16 (Ct.nd (by assumption)) ?_
    | refine ws_set 17 (Ct.nd (by assumption)) ?_
    | refine ws_set 18 (Ct.nd (by assumption)) ?_
    | refine ws_set 19 (Ct.nd (by assumption)) ?_
    | refine ws_set 20 (Ct.nd (by assumption)) ?_
    | refine ws_set 21 (Ct.nd (by assumption)) ?_
    | refine ws_set 22 (Ct.nd (by assumption)) ?_
    | refine ws_set 23 (Ct.nd (by assumption)) ?_
    | refine ws_set 24 (Ct.nd (by assumption)) ?_
    | refine ws_set 25 (Ct.nd (by assumption)) ?_
    | refine ws_set 26 (Ct.nd (by assumption)) ?_
    | refine ws_set 27 (Ct.nd (by assumption)) ?_
    | refine ws_set 28 (Ct.nd (by assumption)) ?_
    | refine ws_set 29 (Ct.nd (by assumption)) ?_
    | refine ws_sub (Ct.gs (by assumption)) ?_ (fun a b => pg_sub a b set_list)
    | refine ws_fld (Ct.gs (by assumption)) ?_
    | refine ws_pass ?_
    | refine ws_break ?_
    | refine ws_cont ?_)
local macro_rules | `(tactic| walk_at "e.bin") => `(tactic| first
    | refine BinD.addI ?_
    | refine BinD.subI ?_
    | refine BinD.modP (by assumption) ?_
    | refine BinD.divP (by assumption) ?_
    | refine BinD.modI (by decide) ?_
    | refine BinD.modI (by assumption) ?_
    | refine BinD.divI (by decide) (by decide) ?_
    | refine BinD.divI (by assumption) (by assumption) ?_
    | refine BinD.mulI (by first | exact .inl ⟨by decide, by decide⟩ | exact .inr ⟨by decide, by decide⟩) ?_
    | refine BinD.xorI ?_
    | refine BinD.powI ⟨by decide, by decide, by decide⟩ ?_)
local macro_rules | `(tactic| walk_at "e.cmp") => `(tactic| first
    | refine CmpD.lt ?_
    | refine CmpD.le ?_
    | refine CmpD.gt ?_
    | refine CmpD.ge ?_
    | refine CmpD.isN ?_
    | refine CmpD.notN ?_
    | refine CmpD.neI_s ?_
    | refine CmpD.neT_s ?_
    | refine CmpD.neZ_s ?_
    | refine CmpD.eqZ_s ?_
    | refine CmpD.neN_s ?_
    | refine CmpD.eqN_s ?_
    | refine CmpD.neTZ ?_
    | refine CmpD.eqTZ ?_
    | refine CmpD.eqI ?_
    | refine CmpD.neI ?_
    | refine CmpD.eqZ ?_
    | refine CmpD.neZ ?_)
local macro_rules | `(tactic| walk_at "e.is") => `(tactic| first
    | refine gSz ?_
    | refine gFld (by assumption) (by assumption) rfl ?_
    | refine gFldS (by assumption) (by assumption) (by first | decide | (repeat (first | refine plA ?_ | refine plB ?_)); simp) ?_
    | refine gFldU (by first | decide | (repeat (first | refine plA ?_ | refine plB ?_)); simp) ?_
    | refine IsI.mk ?_
    | refine IsT.mk ?_
    | refine IsL.mk ?_
    | refine IsZ.mk ?_
    | refine IsB.mk ?_
    | refine OwL.mk 0 rfl ?_
    | refine OwL.mk 1 rfl ?_
    | refine OwL.mk 2 rfl ?_
    | refine OwL.mk 3 rfl ?_
    | refine OwL.mk 4 rfl ?_
    | refine OwL.mk 5 rfl ?_
    | refine OwI.mk 0 rfl ?_
    | refine OwI.mk 1 rfl ?_
    | refine OwI.mk 2 rfl ?_
    | refine OwI.mk 3 rfl ?_
    | refine OwI.mk 4 rfl ?_
    | refine OwI.mk 5 rfl ?_
    | refine OwI.mk _ (by assumption) ?_
    | refine OwI.mk _ (set_at (by assumption)) ?_
    | refine OwI.mk _ (set_at (set_at (by assumption))) ?_
    | refine OwL.mk _ (by assumption) ?_
    | refine OwL.mk _ (set_at (by assumption)) ?_
    | refine OwL.mk _ (set_at (set_at (by assumption))) ?_
    | refine OwL.mk _ (set_at (set_at (set_at (by assumption)))) ?_
    | refine IxD.own 0 rfl rfl ?_
    | refine IxD.own 1 rfl rfl ?_
    | refine IxD.own 2 rfl rfl ?_
    | refine IxD.own 3 rfl rfl ?_
    | refine IxD.own 4 rfl rfl ?_
    | refine IxD.own 5 rfl rfl ?_
    | refine IxD.own _ (by assumption) rfl ?_
    | refine IxD.own _ (set_at (by assumption)) rfl ?_
    | refine IxD.own _ (set_at (set_at (by assumption))) rfl ?_
    | refine IxD.own _ (set_at (set_at (set_at (by assumption)))) rfl ?_
    | refine IxD.tup rfl ?_
    | refine IxD.lst rfl ?_
    | refine IntD.int ?_
    | refine IntD.bl ?_
    | refine TruD.bl ?_
    | refine TruD.int ?_
    | refine TruD.tup ?_
    | refine TruD.lst ?_
    | refine LenD.tup ?_
    | refine LenD.lst ?_
    | refine SeqD.tup ?_
    | refine SeqD.lst ?_
    | refine SlD.tup ?_
    | refine SlD.lst ?_
    | refine SeqD.own 0 rfl ?_
    | refine SeqD.own 1 rfl ?_
    | refine SeqD.own 2 rfl ?_
    | refine SeqD.own 3 rfl ?_
    | refine SeqD.own 4 rfl ?_
    | refine SeqD.own 5 rfl ?_
    | refine LenD.own 0 rfl ?_
    | refine LenD.own 1 rfl ?_
    | refine LenD.own 2 rfl ?_
    | refine LenD.own 3 rfl ?_
    | refine LenD.own 4 rfl ?_
    | refine LenD.own 5 rfl ?_)
local macro_rules | `(tactic| walk_at "e1") => `(tactic| first
    | (refine gWE ?_; walk_at "e.we")
    | (refine gBinD ?_; walk_at "e.bin")
    | (refine gWSs ?_; walk_at "e.wss")
    | (refine gWS ?_; walk_at "e.ws")
    | (refine gWT ?_; walk_at "e.wt")
    | (refine gCmpD ?_; walk_at "e.cmp")
    | (refine gWA ?_; walk_at "e.wa")
    | (refine gWW ?_; walk_at "e.ww")
    | refine iteT ?_
    | refine iteF ?_
    | walk_at "e.is")
local macro_rules | `(tactic| walk_at "x1") => `(tactic| first
    | (refine gWE ?_; walk_at "e.we")
    | (refine gBinD ?_; walk_at "e.bin")
    | (refine gWT ?_; walk_at "e.wt")
    | (refine gCmpD ?_; walk_at "e.cmp")
    | (refine gWA ?_; walk_at "e.wa")
    | (refine gWW ?_; walk_at "e.ww")
    | refine iteT ?_
    | refine iteF ?_
    | walk_at "e.is")
local macro_rules | `(tactic| walk_at "e") => `(tactic| repeat (walk_at "e1"))
local macro_rules | `(tactic| walk_at "x") => `(tactic| repeat (walk_at "x1"))
theorem map_at {α β : Type} {f : α → β} {l : List α} {n : Nat} {z : β} (h : (l.map f)[n]? = some z) : ∃ b, l[n]? = some b ∧ z = f b := by
  rw [List.getElem?_map] at h
  cases e : l[n]? with
  | none => rw [e] at h; cases h
  | some b => rw [e] at h; cases h; exact ⟨b, rfl, rfl⟩
theorem take_succ {α : Type} {l : List α} {i : Nat} {x : α} (h : l[i]? = some x) : l.take (i + 1) = l.take i ++ [x] := by
  rw [List.take_add_one, h]; rfl
def S_dice : SpD := fun ds M xr R => ∃ c : Int, ds = [I c] ∧ ∀ p a b m, R ((p, O.lst [I a, I b, I m]) :: M) (Rf p)
def S_roll (B : Int) : SpD := fun ds M xr R => ∃ (p : Addr) (a b m many : Int) (j : Nat), ds = [Rf p, I many] ∧ M[j]? = some (p, O.lst [I a, I b, I m]) ∧ 0 < many ∧ many ≤ B ∧ ∀ a' b' m' r, 0 ≤ r → r < many → R (M.set j (p, O.lst [I a', I b', I m'])) (I r)
/-- a script: data, a list of ours, a list that stands -/
inductive ScrD (K : PySem.W.Frag) (M : Ms) : D → List Int → Prop
  | lst {cs : List Int} : ScrD K M (.lst (cs.map fun i => I i)) cs
  | own {q : Addr} {cs : List Int} (j : Nat) (h : M[j]? = some (q, .lst (cs.map fun i => I i))) : ScrD K M (Rf q) cs
  | frz {q : Addr} {o : Obj} {cs : List Int} (j : Nat) (h : M[j]? = some (q, .frz o (cs.map fun i => I i))) : ScrD K M (Rf q) cs
  | ko {q : Addr} {cs : List Int} (h : KL K q (cs.map V.int)) : ScrD K M (Rf q) cs
def S_rounds (K : PySem.W.Frag) : SpD := fun ds M xr R => ∃ (d : D) (cs : List Int), ds = [d, I 1] ∧ ScrD K M d cs ∧ ∀ p a b m, R ((p, O.lst [I a, I b, I m]) :: M) (.lst [Rf p])
theorem cut1 (cs : List Int) : Wv.cutD (cs.map fun i => I i) none (some 1) = (cs.take 1).map fun i => I i := by
  unfold Wv.cutD
  simp only [HT.sIx, List.length_map]
  rw [if_neg (by omega)]
  cases cs with
  | nil => rfl
  | cons c cs => simp
section
variable {P : Program} {w : World} {K : PySem.W.Frag} {mg : Str → Option Value} {base : Heap} {G : Hp → Prop}
theorem gf_dice {f : Addr} {fd : FuncData} (F : Fun K "_law_dice" "_law_dice" s_law_dice f fd) (gs : Gst G) (mi : mg "int" = none) (ma : mg "abs" = none) : Gf P w K mg base G 1 f [] S_dice := by
  refine gf_of F sc_law_dice gs (F.binds fun _ _ _ _ _ _ us hl => match us, hl with | [_], _ => rfl) .nil (fun ds M xr R h => by obtain ⟨n, rfl, _⟩ := h; rfl) ?_
  rintro X W M ds xr R ⟨cdv, A, outer, s, H, E0, rfl⟩ cx ⟨c, rfl, hok⟩
  have fin : WS (cxOf (L2N.CX P w) P w K mg base N_law_dice "_law_dice" (defScope s_law_dice) f cdv A outer s H E0) G W ((defBody s_law_dice).getD 1 (.Pass ⟨0, 0, 0, 0⟩)) M [some (I c)] { nx := fun M' _ => R M' N0, rt := R, bk := fun _ _ => False, ct := fun _ _ => False, xr := xr } := by
    refine ws_ret (we_lstO gs ?_)
    walk_at "e"
    exact fun p => hok _ _ _ _
  walk_at "e"
  refine ite_d (fun h => ?_) (fun h => ?_)
  · walk_at "e"
    refine ite_d (fun h2 => ?_) (fun h2 => ?_)
    · refine wss_one (ws_ret (we_lstO gs ?_))
      walk_at "e"
      exact fun p => hok _ _ _ _
    · exact wss_nil (wss_one fin)
  · exact iteF (wss_nil (wss_one fin))
theorem gf_roll {f : Addr} {fd : FuncData} {B B' : Int} {k : Nat} (F : Fun K "_law_roll" "_law_roll" s_law_roll f fd) (gs : Gst G) (mi : mg "int" = none) (mf : mg "_law_roll" = some (.ref f)) (hB : B < 1180591620717411303424) (g : B ≤ 100000000 ∨ (B / 100000000 + 1 ≤ B' ∧ 100000000 ≤ B' ∧ Gf P w K mg base G k f [] (S_roll B'))) : Gf P w K mg base G (k + 1) f [] (S_roll B) := by
  refine gf_of F sc_law_roll gs (F.binds fun _ _ _ _ _ _ us hl => match us, hl with | [_, _], _ => rfl) .nil (fun ds M xr R h => by obtain ⟨p, a, b, m, many, j, rfl, _⟩ := h; rfl) ?_
  rintro X W M ds xr R ⟨cdv, A, outer, s, H, E0, rfl⟩ cx ⟨p, a, b, m, many, j, rfl, hM, h0, hb, hok⟩
  have hmany : many < 1180591620717411303424 := by omega
  have first : ∀ nx0, WSs (cxOf (L2N.CX P w) P w K mg base N_law_roll "_law_roll" (defScope s_law_roll) f cdv A outer s H E0) G W (match (defBody s_law_roll).getD 0 (.Pass ⟨0, 0, 0, 0⟩) with | .If _ t _ _ => t | _ => []) M [some (Rf p), some (I many), none] { nx := nx0, rt := R, bk := fun _ _ => False, ct := fun _ _ => False, xr := xr } := by
    intro nx0
    walk_at "e"
    refine ⟨_, rfl, ?_⟩
    refine wss_one (ws_ret ?_)
    walk_at "e"
    exact hok _ _ _ _ (Int.emod_nonneg _ (by omega)) (Int.emod_lt_of_pos _ h0)
  have rest : WSs (cxOf (L2N.CX P w) P w K mg base N_law_roll "_law_roll" (defScope s_law_roll) f cdv A outer s H E0) G W ((defBody s_law_roll).drop 1) M [some (Rf p), some (I many), none] { nx := fun M' _ => R M' N0, rt := R, bk := fun _ _ => False, ct := fun _ _ => False, xr := xr } := by
    walk_at "e"
    refine ⟨_, rfl, ?_⟩
    walk_at "e"
    refine ite_d (fun h => ?_) (fun h => ?_)
    · rcases g with z | ⟨z1, z2, g⟩
      · omega
      · refine wss_one (ws_ret ?_)
        walk_at "e"
        refine we_call cx g (Nat.le_refl _) mf rfl ?_
        walk_at "e"
        refine ⟨p, _, _, _, _, j, rfl, set_at hM, by omega, by omega, fun a' b' m' r hr0 hr => ?_⟩
        walk_at "e"
        refine we_call cx g (Nat.le_refl _) mf rfl ?_
        walk_at "e"
        refine ⟨p, _, _, _, _, j, rfl, set_at (set_at hM), by omega, by omega, fun a2 b2 m2 r2 hr20 hr2 => ?_⟩
        walk_at "e"
        rw [set_set', set_set']
        exact hok _ _ _ _ (Int.emod_nonneg _ (by omega)) (Int.emod_lt_of_pos _ h0)
    · walk_at "e"
      refine ⟨_, rfl, ?_⟩
      walk_at "e"
      refine ⟨_, rfl, ?_⟩
      refine wss_one (ws_ret ?_)
      walk_at "e"
      rw [set_set', set_set']
      exact hok _ _ _ _ (Int.emod_nonneg _ (by omega)) (Int.emod_lt_of_pos _ h0)
  walk_at "e"
  refine ite_d (fun h => ?_) (fun h => ?_)
  · exact iteT (first _)
  · walk_at "e"
    refine ite_d (fun h1 => ?_) (fun h1 => ?_)
    · walk_at "e"
      refine ite_d (fun h2 => ?_) (fun h2 => ?_)
      · exact first _
      · exact wss_nil rest
    · refine iteF ?_
      first | exact wss_nil rest | (refine iteF ?_; exact wss_nil rest)
theorem gf_rounds {f fd1 : Addr} {fd : FuncData} (F : Fun K "_law_rounds" "_law_rounds" s_law_rounds f fd) (gs : Gst G) (mf : mg "_law_dice" = some (.ref fd1)) (g : Gf P w K mg base G 1 fd1 [] S_dice) : Gf P w K mg base G 2 f [] (S_rounds K) := by
  refine gf_of F sc_law_rounds gs (F.binds fun _ _ _ _ _ _ us hl => match us, hl with | [_, _], _ => rfl) .nil (fun ds M xr R h => by obtain ⟨d, cs, rfl, _⟩ := h; rfl) ?_
  rintro X W M ds xr R ⟨cdv, A, outer, s, H, E0, rfl⟩ cx ⟨d, cs, rfl, hd, hok⟩
  have fin : ∀ (c : Int) nx0, WS (cxOf (L2N.CX P w) P w K mg base N_law_rounds "_law_rounds" (defScope s_law_rounds) f cdv A outer s H E0) G W ((defBody s_law_rounds).getD 2 (.Pass ⟨0, 0, 0, 0⟩)) M [some d, some (I 1), some (.lst [I c]), none] { nx := nx0, rt := R, bk := fun _ _ => False, ct := fun _ _ => False, xr := xr } := by
    intro c nx0
    refine ws_ret (we_lc cx cx.nd [("cell", 3)] (fun n M' acc => (n = 0 ∧ M' = M ∧ acc = []) ∨ (n = 1 ∧ ∃ p a b m, M' = (p, O.lst [I a, I b, I m]) :: M ∧ acc = [Rf p])) (gok_name 3) (gwipe_name 3) (fun d ρ k k' h => h _) (fun s H C cl fp => pgn 3 cx.nd) (blkOk_by (by show blkC N_law_rounds (defScope s_law_rounds) _ _ = true; decide +kernel)) (wi_lst ?_))
    walk_at "e"
    refine ⟨.inl ⟨rfl, rfl, rfl⟩, fun n z hz => ?_, fun M' acc h => ?_⟩
    · refine turn_nil (fun d ρ k k' h => h _) ?_
      rintro q M' acc h
      have hn : n = 0 := by
        rcases n with _ | n
        · rfl
        · simp at hz
      subst hn
      cases hz
      rcases h with ⟨_, rfl, rfl⟩ | ⟨h, _⟩
      · intro Y' hY' cy'
        obtain ⟨s', H', C, cl, fp, rfl⟩ := hY'
        refine we_perm (we_call cy' g (by decide) mf rfl ?_)
        walk_at "e"
        refine ⟨c, rfl, fun p a b m => ⟨_, List.Perm.swap _ _ _, _, rfl, sz2 (by decide), .inr ⟨rfl, p, a, b, m, rfl, rfl⟩⟩⟩
      · cases h
    · rcases h with ⟨h, _⟩ | ⟨_, p, a, b, m, rfl, rfl⟩
      · cases h
      · exact hok _ _ _ _
  have mid : WSs (cxOf (L2N.CX P w) P w K mg base N_law_rounds "_law_rounds" (defScope s_law_rounds) f cdv A outer s H E0) G W ((defBody s_law_rounds).drop 1) M [some d, some (I 1), some (.lst ((cs.take 1).map fun i => I i)), none] { nx := fun M' _ => R M' N0, rt := R, bk := fun _ _ => False, ct := fun _ _ => False, xr := xr } := by
    refine wss_cons (ws_if (wt_cmp cx.hu ?_))
    walk_at "e"
    refine we_lst gs (wa_nil ⟨Nat.zero_le _, ?_⟩)
    refine CmpD.eqN ?_
    refine ite_d (fun h => ?_) (fun h => ?_)
    · walk_at "e"
      exact fin 0 _
    · cases cs with
      | nil => exact absurd rfl h
      | cons c cs => exact wss_nil (wss_one (fin c _))
  refine wss_cons (ws_set 2 cx.nd (we_slice gs ?_))
  walk_at "e"
  have key := cut1 cs
  cases hd with
  | lst =>
    refine SlD.lst ?_
    rw [key]
    exact mid
  | own j h =>
    refine SlD.own j h ?_
    rw [key]
    exact mid
  | frz j h =>
    refine SlD.frz j h ?_
    rw [key]
    exact mid
  | ko h =>
    refine SlD.ko h ?_
    rw [List.map_map]
    have key2 : Wv.cutD (cs.map (D.raw ∘ V.int)) none (some 1) = (cs.take 1).map fun i => I i := key
    rw [key2]
    exact mid
end
section
variable {P : Program} {w : World} {K : PySem.W.Frag} {mg : Str → Option Value} {base : Heap} {T : List (Addr × Str)}
theorem told_ok {f CS : Addr} {fd : FuncData} (F : Fun K "_law_told" "_law_told" s_law_told f fd) (mf : mg "_law_told" = some (.ref f)) (E : ExcC K mg "SocketError" CS) (exm : PySem.W.exmOne K (.ref CS) (.ref CS) = some true) : ToldOk K mg "_law_told" "SocketError" "SocketError" CS :=
  ⟨⟨f, "what", s_law_told, fd, N_law_told, _, _, _, _, _, _, _, _, _, mf, F, rfl, F.binds fun _ _ _ _ _ _ us hl => match us, hl with | [_], _ => rfl, sc_law_told, rfl, .inl rfl, rfl, fun _ => rfl, by decide, by decide⟩, E.g, by decide, exm⟩
theorem atI_nat {α : Type} {l : List α} {k : Nat} {x : α} (h : l[k]? = some x) : atI l (k : Int) = some x := by
  have hk : k < l.length := by
    rcases Nat.lt_or_ge k l.length with q | q
    · exact q
    · rw [List.getElem?_eq_none q] at h; cases h
  unfold atI ixN
  rw [if_pos (by omega), if_pos (by omega), Int.toNat_natCast]
  exact h
end
theorem in2 (b : Int) : ([I 126, I 125].any fun x => eqd x (I b)) = decide (b = 126 ∨ b = 125) := by
  simp only [List.any_cons, List.any_nil, eqd_int, Bool.or_false]
  rw [Bool.eq_iff_iff]
  simp only [Bool.or_eq_true, decide_eq_true_eq]
  omega
theorem in2' (b : Int) : ([I 125, I 126].any fun x => eqd x (I b)) = decide (b = 126 ∨ b = 125) := by
  simp only [List.any_cons, List.any_nil, eqd_int, Bool.or_false]
  rw [Bool.eq_iff_iff]
  simp only [Bool.or_eq_true, decide_eq_true_eq]
  omega
theorem putD_len (f : Str) (v : D) : ∀ fs : List (Str × D), (putD f v fs).length ≤ fs.length + 1
  | [] => by simp [putD]
  | (g, x) :: r => by
    unfold putD
    split
    · simp
    · have := putD_len f v r
      simp only [List.length_cons]
      omega
theorem pl1 {f : Str} {v : D} {fs : List (Str × D)} (h : fs.length < 900) : (putD f v fs).length < 1000 := Nat.lt_of_le_of_lt (putD_len f v fs) (by omega)
theorem pl2 {f : Str} {v : D} {fs : List (Str × D)} (h : fs.length < 800) : (putD f v fs).length < 900 := Nat.lt_of_le_of_lt (putD_len f v fs) (by omega)
theorem cut_drop (l : List Int) (k : Nat) (h : k ≤ l.length) : Wv.cutD (l.map fun i => I i) (some (k : Int)) none = (l.drop k).map fun i => I i := by
  unfold Wv.cutD
  have e1 : HT.sIx (l.map fun i => I i).length 0 (some (k : Int)) = k := by
    simp only [HT.sIx, List.length_map]
    rw [if_neg (by omega)]
    omega
  have e2 : HT.sIx (l.map fun i => I i).length (l.map fun i => I i).length none = l.length := by
    simp only [HT.sIx, List.length_map]
  rw [e1, e2, List.map_drop]
  rw [List.take_of_length_le (by simp)]
theorem cut_take (l : List Int) (k : Nat) (h : k ≤ l.length) : Wv.cutD (l.map fun i => I i) none (some (k : Int)) = (l.take k).map fun i => I i := by
  unfold Wv.cutD
  have e1 : HT.sIx (l.map fun i => I i).length 0 none = 0 := rfl
  have e2 : HT.sIx (l.map fun i => I i).length (l.map fun i => I i).length (some (k : Int)) = k := by
    simp only [HT.sIx, List.length_map]
    rw [if_neg (by omega)]
    omega
  rw [e1, e2, List.map_take]
  rfl
theorem cut_tail (x : D) (l : List D) : Wv.cutD (x :: l) (some 1) none = l := by
  unfold Wv.cutD
  have e1 : HT.sIx (x :: l).length 0 (some 1) = 1 := by
    simp only [HT.sIx, List.length_cons]
    rw [if_neg (by decide)]
    omega
  have e2 : HT.sIx (x :: l).length (x :: l).length none = (x :: l).length := rfl
  rw [e1, e2]
  simp

end K24
set_option maxRecDepth 100000
set_option maxHeartbeats 4000000

namespace K24
open PySem PySem.Spec PyProof.Rows L2 Wv
open LamX (CodeO TabS Tabs ExtN TabB lamEnv lamCx LamS)
local macro_rules | `(tactic| walk_at "e.name") => `(tactic| first
    | refine we_var 0 _ rfl (by first | exact .inl rfl | exact .inr (.inl rfl) | exact .inr (.inr rfl)) rfl ?_
    | refine we_var 1 _ rfl (by first | exact .inl rfl | exact .inr (.inl rfl) | exact .inr (.inr rfl)) rfl ?_
    | refine we_var 2 _ rfl (by first | exact .inl rfl | exact .inr (.inl rfl) | exact .inr (.inr rfl)) rfl ?_
    | refine we_var 3 _ rfl (by first | exact .inl rfl | exact .inr (.inl rfl) | exact .inr (.inr rfl)) rfl ?_
    | refine we_var 4 _ rfl (by first | exact .inl rfl | exact .inr (.inl rfl) | exact .inr (.inr rfl)) rfl ?_
    | refine we_var 5 _ rfl (by first | exact .inl rfl | exact .inr (.inl rfl) | exact .inr (.inr rfl)) rfl ?_
    | refine we_var 6 _ rfl (by first | exact .inl rfl | exact .inr (.inl rfl) | exact .inr (.inr rfl)) rfl ?_
    | refine we_var 7 _ rfl (by first | exact .inl rfl | exact .inr (.inl rfl) | exact .inr (.inr rfl)) rfl ?_
    | refine we_var 8 _ rfl (by first | exact .inl rfl | exact .inr (.inl rfl) | exact .inr (.inr rfl)) rfl ?_
    | refine we_var 9 _ rfl (by first | exact .inl rfl | exact .inr (.inl rfl) | exact .inr (.inr rfl)) rfl ?_
    | refine we_var 10 _ rfl (by first | exact .inl rfl | exact .inr (.inl rfl) | exact .inr (.inr rfl)) rfl ?_
    | refine we_var 11 _ rfl (by first | exact .inl rfl | exact .inr (.inl rfl) | exact .inr (.inr rfl)) rfl ?_
    | refine we_var 12 _ rfl (by first | exact .inl rfl | exact .inr (.inl rfl) | exact .inr (.inr rfl)) rfl ?_
    | refine we_var 13 _ rfl (by first | exact .inl rfl | exact .inr (.inl rfl) | exact .inr (.inr rfl)) rfl ?_
    | refine we_var 14 _ rfl (by first | exact .inl rfl | exact .inr (.inl rfl) | exact .inr (.inr rfl)) rfl ?_
    | refine we_var 15 _ rfl (by first | exact .inl rfl | exact .inr (.inl rfl) | exact .inr (.inr rfl)) rfl ?_
    | refine we_var 16 _ rfl (by first | exact .inl rfl | exact .inr (.inl rfl) | exact .inr (.inr rfl)) rfl ?_
    | refine we_var 17 _ rfl (by first | exact .inl rfl | exact .inr (.inl rfl) | exact .inr (.inr rfl)) rfl ?_
    | refine we_var 18 _ rfl (by first | exact .inl rfl | exact .inr (.inl rfl) | exact .inr (.inr rfl)) rfl ?_
    | refine we_var 19 _ rfl (by first | exact .inl rfl | exact .inr (.inl rfl) | exact .inr (.inr rfl)) rfl ?_
    | refine we_var 20 _ rfl (by first | exact .inl rfl | exact .inr (.inl rfl) | exact .inr (.inr rfl)) rfl ?_
    | refine we_var 21 _ rfl (by first | exact .inl rfl | exact .inr (.inl rfl) | exact .inr (.inr rfl)) rfl ?_
    | refine we_var 22 _ rfl (by first | exact .inl rfl | exact .inr (.inl rfl) | exact .inr (.inr rfl)) rfl ?_
    | refine we_var 23 _ rfl (by first | exact .inl rfl | exact .inr (.inl rfl) | exact .inr (.inr rfl)) rfl ?_
    | refine we_var 24 _ rfl (by first | exact .inl rfl | exact .inr (.inl rfl) | exact .inr (.inr rfl)) rfl ?_
    | refine we_var 25 _ rfl (by first | exact .inl rfl | exact .inr (.inl rfl) | exact .inr (.inr rfl)) rfl ?_
    | refine we_var 26 _ rfl (by first | exact .inl rfl | exact .inr (.inl rfl) | exact .inr (.inr rfl)) rfl ?_
    | refine we_var 27 _ rfl (by first | exact .inl rfl | exact .inr (.inl rfl) | exact .inr (.inr rfl)) rfl ?_
    | refine we_var 28 _ rfl (by first | exact .inl rfl | exact .inr (.inl rfl) | exact .inr (.inr rfl)) rfl ?_
    | refine we_var 29 _ rfl (by first | exact .inl rfl | exact .inr (.inl rfl) | exact .inr (.inr rfl)) rfl ?_
    | refine we_globI (by assumption) rfl ?_
    | refine we_globS (by assumption) rfl ?_)
local macro_rules | `(tactic| walk_at "e.const") => `(tactic| first
    | refine we_int ?_
    | refine we_str ?_
    | refine we_bl ?_
    | refine we_non ?_)
local macro_rules | `(tactic| walk_at "e.call") => `(tactic| first
    | refine we_len (by assumption) rfl ?_
    | refine we_int2 (by assumption) rfl ?_
    | refine we_tuple (Ct.gs (by assumption)) (by assumption) rfl ?_
    | refine we_abs (by assumption) rfl ?_
    | refine we_find ?_)
local macro_rules | `(tactic| walk_at "e.we") => `(tactic| first
    | (refine gNm ?_; walk_at "e.name")
    | (refine gConst ?_; walk_at "e.const")
    | refine we_bin (Ct.gs (by assumption)) ?_
    | (refine gCall ?_; walk_at "e.call")
    | refine we_cmp (Ct.hu (by assumption)) ?_
    | refine we_ix ?_
    | refine we_slice (Ct.gs (by assumption)) ?_
    | refine we_fld ?_
    | refine we_tup (Ct.gs (by assumption)) ?_
    | refine we_chain (Ct.hu (by assumption)) ?_
    | refine we_lst1 (Ct.gs (by assumption)) ?_
    | refine we_ifx ?_
    | refine we_and ?_
    | refine we_or ?_
    | refine we_one ?_
    | refine we_not ?_
    | refine we_negI ?_
    | refine we_neg ?_)
local macro_rules | `(tactic| walk_at "e.wt") => `(tactic| first
    | refine wt_cmp (Ct.hu (by assumption)) ?_
    | refine wt_chain (Ct.hu (by assumption)) ?_
    | refine wt_not ?_
    | refine wt_bool ?_
    | refine wt_val ?_)
local macro_rules | `(tactic| walk_at "e.ww") => `(tactic| first
    | refine ww_and ?_
    | refine ww_or ?_
    | refine ww_and1 ?_
    | refine ww_or1 ?_)
local macro_rules | `(tactic| walk_at "e.wa") => `(tactic| first
    | refine wa_nil ?_
    | refine wa_cons ?_)
local macro_rules | `(tactic| walk_at "e.wss") => `(tactic| first
    | refine wss_cons ?_
    | refine wss_nil ?_)
local macro_rules | `(tactic| walk_at "e.ws") => `(tactic| first
    | refine ws_if ?_
    | refine ws_expr (we_append (Ct.gs (by assumption)) ?_ (pe_bm PySem.F.plainAttrs_list PySem.F.slot_list_append PySem.F.type_list_append mt_append pe_wp pa_wp))
    | refine ws_fldSub (Ct.gs (by assumption)) ?_
    | refine ws_fldAddW (Ct.gs (by assumption)) ?_
    | refine ws_expr ?_
    | refine ws_set 0 (Ct.nd (by assumption)) ?_
    | refine ws_set 1 (Ct.nd (by assumption)) ?_
    | refine ws_set 2 (Ct.nd (by assumption)) ?_
    | refine ws_set 3 (Ct.nd (by assumption)) ?_
    | refine ws_set 4 (Ct.nd (by assumption)) ?_
    | refine ws_set 5 (Ct.nd (by assumption)) ?_
    | refine ws_set 6 (Ct.nd (by assumption)) ?_
    | refine ws_set 7 (Ct.nd (by assumption)) ?_
    | refine ws_set 8 (Ct.nd (by assumption)) ?_
    | refine ws_set 9 (Ct.nd (by assumption)) ?_
    | refine ws_set 10 (Ct.nd (by assumption)) ?_
    | refine ws_set 11 (Ct.nd (by assumption)) ?_
    | refine ws_set 12 (Ct.nd (by assumption)) ?_
    | refine ws_set 13 (Ct.nd (by assumption)) ?_
    | refine ws_set 14 (Ct.nd (by assumption)) ?_
    | refine ws_set 15 (Ct.nd (by assumption)) ?_
    | refine ws_set 16 (Ct.nd (by assumption)) ?_
    | refine ws_set 17 (Ct.nd (by assumption)) ?_
    | refine ws_set 18 (Ct.nd (by assumption)) ?_
    | refine ws_set 19 (Ct.nd (by assumption)) ?_
    | refine ws_set 20 (Ct.nd (by assumption)) ?_
    | refine ws_set 21 (Ct.nd (by assumption)) ?_
    | refine ws_set 22 (Ct.nd (by assumption)) ?_
    | refine ws_set 23 (Ct.nd (by assumption)) ?_
    | refine ws_set 24 (Ct.nd (by assumption)) ?_
    | refine ws_set 25 (Ct.nd (by assumption)) ?_
    | refine ws_set 26 (Ct.nd (by assumption)) ?_
    | refine ws_set 27 (Ct.nd (by assumption)) ?_
    | refine ws_set 28 (Ct.nd (by assumption)) ?_
    | refine ws_set 29 (Ct.nd (by assumption)) ?_
    | refine ws_sub (Ct.gs (by assumption)) ?_ (fun a b => pg_sub a b set_list)
    | refine ws_fld (Ct.gs (by assumption)) ?_
    | refine ws_pass ?_
    | refine ws_break ?_
    | refine ws_cont ?_)
local macro_rules | `(tactic| walk_at "e.bin") => `(tactic| first
    | refine BinD.addI ?_
    | refine BinD.subI ?_
    | refine BinD.modP (by assumption) ?_
    | refine BinD.divP (by assumption) ?_
    | refine BinD.modI (by decide) ?_
    | refine BinD.modI (by assumption) ?_
    | refine BinD.divI (by decide) (by decide) ?_
    | refine BinD.divI (by assumption) (by assumption) ?_
    | refine BinD.mulI (by first | exact .inl ⟨by decide, by decide⟩ | exact .inr ⟨by decide, by decide⟩) ?_
    | refine BinD.xorI ?_
    | refine BinD.powI ⟨by decide, by decide, by decide⟩ ?_)
local macro_rules | `(tactic| walk_at "e.cmp") => `(tactic| first
    | refine CmpD.lt ?_
    | refine CmpD.le ?_
    | refine CmpD.gt ?_
    | refine CmpD.ge ?_
    | refine CmpD.isN ?_
    | refine CmpD.notN ?_
    | refine CmpD.neI_s ?_
    | refine CmpD.neT_s ?_
    | refine CmpD.neZ_s ?_
    | refine CmpD.eqZ_s ?_
    | refine CmpD.neN_s ?_
    | refine CmpD.eqN_s ?_
    | refine CmpD.neTZ ?_
    | refine CmpD.eqTZ ?_
    | refine CmpD.eqI ?_
    | refine CmpD.neI ?_
    | refine CmpD.eqZ ?_
    | refine CmpD.neZ ?_)
local macro_rules | `(tactic| walk_at "e.is") => `(tactic| first
    | refine gSz ?_
    | refine gFld (by assumption) (by assumption) rfl ?_
    | refine gFldS (by assumption) (by assumption) (by first | decide | (repeat (first | refine plA ?_ | refine plB ?_)); simp) ?_
    | refine gFldU (by first | decide | (repeat (first | refine plA ?_ | refine plB ?_)); simp) ?_
    | refine IsI.mk ?_
    | refine IsT.mk ?_
    | refine IsL.mk ?_
    | refine IsZ.mk ?_
    | refine IsB.mk ?_
    | refine OwL.mk 0 rfl ?_
    | refine OwL.mk 1 rfl ?_
    | refine OwL.mk 2 rfl ?_
    | refine OwL.mk 3 rfl ?_
    | refine OwL.mk 4 rfl ?_
    | refine OwL.mk 5 rfl ?_
    | refine OwI.mk 0 rfl ?_
    | refine OwI.mk 1 rfl ?_
    | refine OwI.mk 2 rfl ?_
    | refine OwI.mk 3 rfl ?_
    | refine OwI.mk 4 rfl ?_
    | refine OwI.mk 5 rfl ?_
    | refine OwI.mk _ (by assumption) ?_
    | refine OwI.mk _ (set_at (by assumption)) ?_
    | refine OwI.mk _ (set_at (set_at (by assumption))) ?_
    | refine OwL.mk _ (by assumption) ?_
    | refine OwL.mk _ (set_at (by assumption)) ?_
    | refine OwL.mk _ (set_at (set_at (by assumption))) ?_
    | refine OwL.mk _ (set_at (set_at (set_at (by assumption)))) ?_
    | refine IxD.own 0 rfl rfl ?_
    | refine IxD.own 1 rfl rfl ?_
    | refine IxD.own 2 rfl rfl ?_
    | refine IxD.own 3 rfl rfl ?_
    | refine IxD.own 4 rfl rfl ?_
    | refine IxD.own 5 rfl rfl ?_
    | refine IxD.own _ (by assumption) rfl ?_
    | refine IxD.own _ (set_at (by assumption)) rfl ?_
    | refine IxD.own _ (set_at (set_at (by assumption))) rfl ?_
    | refine IxD.own _ (set_at (set_at (set_at (by assumption)))) rfl ?_
    | refine IxD.tup rfl ?_
    | refine IxD.lst rfl ?_
    | refine IntD.int ?_
    | refine IntD.bl ?_
    | refine TruD.bl ?_
    | refine TruD.int ?_
    | refine TruD.tup ?_
    | refine TruD.lst ?_
    | refine LenD.tup ?_
    | refine LenD.lst ?_
    | refine SeqD.tup ?_
    | refine SeqD.lst ?_
    | refine SlD.tup ?_
    | refine SlD.lst ?_
    | refine SeqD.own 0 rfl ?_
    | refine SeqD.own 1 rfl ?_
    | refine SeqD.own 2 rfl ?_
    | refine SeqD.own 3 rfl ?_
    | refine SeqD.own 4 rfl ?_
    | refine SeqD.own 5 rfl ?_
    | refine LenD.own 0 rfl ?_
    | refine LenD.own 1 rfl ?_
    | refine LenD.own 2 rfl ?_
    | refine LenD.own 3 rfl ?_
    | refine LenD.own 4 rfl ?_
    | refine LenD.own 5 rfl ?_)
local macro_rules | `(tactic| walk_at "e1") => `(tactic| first
    | (refine gWE ?_; walk_at "e.we")
    | (refine gBinD ?_; walk_at "e.bin")
    | (refine gWSs ?_; walk_at "e.wss")
    | (refine gWS ?_; walk_at "e.ws")
    | (refine gWT ?_; walk_at "e.wt")
    | (refine gCmpD ?_; walk_at "e.cmp")
    | (refine gWA ?_; walk_at "e.wa")
    | (refine gWW ?_; walk_at "e.ww")
    | refine iteT ?_
    | refine iteF ?_
    | walk_at "e.is")
local macro_rules | `(tactic| walk_at "x1") => `(tactic| first
    | (refine gWE ?_; walk_at "e.we")
    | (refine gBinD ?_; walk_at "e.bin")
    | (refine gWT ?_; walk_at "e.wt")
    | (refine gCmpD ?_; walk_at "e.cmp")
    | (refine gWA ?_; walk_at "e.wa")
    | (refine gWW ?_; walk_at "e.ww")
    | refine iteT ?_
    | refine iteF ?_
    | walk_at "e.is")
local macro_rules | `(tactic| walk_at "e") => `(tactic| repeat (walk_at "e1"))
local macro_rules | `(tactic| walk_at "x") => `(tactic| repeat (walk_at "x1"))
/-! ### octets -/
def nt (n : Int) : List D := if n < 128 then [I n] else [I (128 + n % 128), I (n / 128)]
def S_nat : SpD := fun ds M xr R => (∃ n : Int, ds = [I n] ∧ 0 ≤ n ∧ n < 16384 ∧ R M (.tup (nt n))) ∨ (∃ p : Bool, ds = [B p] ∧ R M (.tup [B p]))
def S_fix : SpD := fun ds M xr R => ∃ n : Int, ds = [I n, I 2] ∧ 0 ≤ n ∧ n < 65536 ∧ R M (.tup [I (n / 256), I (n % 256)])
def S_fixn : SpD := fun ds M xr R => ∃ a b : Int, ds = [.tup [I a, I b]] ∧ R M (I (256 * a + b))
section
variable {P : Program} {w : World} {K : PySem.W.Frag} {mg : Str → Option Value} {base : Heap} {G : Hp → Prop}
theorem gf_nat {f : Addr} {fd : FuncData} {t : Tok} (F : Fun K "natural_bytes" "natural_bytes" s_natural_bytes f fd) (gs : Gst G) (gM : mg "MOST_NUMBER" = some (.int 4611686018427387904 t)) : Gf P w K mg base G 1 f [] S_nat := by
  refine gf_of F sc_natural_bytes gs (F.binds fun _ _ _ _ _ _ us hl => match us, hl with | [_], _ => rfl) .nil (fun ds M xr R h => by rcases h with ⟨n, rfl, _⟩ | ⟨p, rfl, _⟩ <;> rfl) ?_
  rintro X W M ds xr R ⟨cdv, A, outer, s, H, E0, rfl⟩ cx h
  rcases h with ⟨n, rfl, h0, h1, hok⟩ | ⟨p, rfl, hok⟩
  · walk_at "e"
    refine ite_d (fun h => ?_) (fun h => absurd h0 h)
    walk_at "e"
    refine ite_nd (fun h => absurd (show n < 4611686018427387904 by omega) h) (fun h => wss_nil ?_)
    walk_at "e"
    unfold nt at hok
    refine ite_d (fun h => ?_) (fun h => ?_)
    · rw [if_pos h] at hok
      refine wss_one (ws_ret ?_)
      walk_at "e"
      exact hok
    · rw [if_neg h] at hok
      walk_at "e"
      refine ite_d (fun h => ?_) (fun h => absurd h1 h)
      refine wss_one (ws_ret ?_)
      walk_at "e"
      exact hok
  · have b0 : 0 ≤ bI p := by unfold bI; split <;> decide
    have b1 : bI p ≤ 1 := by unfold bI; split <;> decide
    refine wss_cons (ws_if (wt_not (wt_chain cx.hu ?_)))
    walk_at "e"
    refine CmpD.leIB (ite_d (fun h => ?_) (fun h => absurd b0 h))
    walk_at "e"
    refine CmpD.ltBI (ite_nd (fun h => absurd (show bI p < 4611686018427387904 by omega) h) (fun h => wss_nil ?_))
    refine wss_cons (ws_if (wt_cmp cx.hu ?_))
    walk_at "e"
    refine CmpD.ltBI (ite_d (fun h => ?_) (fun h => absurd (show bI p < 128 by omega) h))
    refine wss_one (ws_ret ?_)
    walk_at "e"
    exact hok
theorem gf_fix {f : Addr} {fd : FuncData} (F : Fun K "fixed_bytes" "fixed_bytes" s_fixed_bytes f fd) (gs : Gst G) : Gf P w K mg base G 1 f [] S_fix := by
  refine gf_of F sc_fixed_bytes gs (F.binds fun _ _ _ _ _ _ us hl => match us, hl with | [_, _], _ => rfl) .nil (fun ds M xr R h => by obtain ⟨n, rfl, _⟩ := h; rfl) ?_
  rintro X W M ds xr R ⟨cdv, A, outer, s, H, E0, rfl⟩ cx ⟨n, rfl, h0, h1, hok⟩
  walk_at "e"
  refine ite_d (fun h => ?_) (fun h => absurd h0 h)
  walk_at "e"
  refine ite_d (fun h => ?_) (fun h => absurd h1 h)
  refine wss_one (ws_ret ?_)
  walk_at "e"
  exact hok
theorem gf_fixn {f : Addr} {fd : FuncData} (F : Fun K "fixed_number" "fixed_number" s_fixed_number f fd) (gs : Gst G) : Gf P w K mg base G 1 f [] S_fixn := by
  refine gf_of F sc_fixed_number gs (F.binds fun _ _ _ _ _ _ us hl => match us, hl with | [_], _ => rfl) .nil (fun ds M xr R h => by obtain ⟨a, b, rfl, _⟩ := h; rfl) ?_
  rintro X W M ds xr R ⟨cdv, A, outer, s, H, E0, rfl⟩ cx ⟨a, b, rfl, hok⟩
  walk_at "e"
  refine ws_for cx (pgn 2 cx.nd) (gok_name 2) (fun i M' ρ' => M' = M ∧ ∃ z, ρ' = [some (.tup [I a, I b]), some (I (if i = 0 then 0 else if i = 1 then a else 256 * a + b)), z]) (wi_tup ?_)
  walk_at "e"
  refine ⟨⟨rfl, none, rfl⟩, ?_, ?_⟩
  · rintro i z hz M' ρ' ⟨rfl, y, rfl⟩
    rcases i with _ | _ | i
    · cases hz
      walk_at "e"
      exact ⟨rfl, some (I a), by simp⟩
    · cases hz
      walk_at "e"
      exact ⟨rfl, some (I b), by simp⟩
    · simp at hz
  · rintro M' ρ' ⟨rfl, y, rfl⟩
    refine wss_one (ws_ret ?_)
    walk_at "e"
    exact hok
end

end K24
set_option maxRecDepth 100000
set_option maxHeartbeats 4000000

namespace K24
open PySem PySem.Spec PyProof.Rows L2 Wv
open LamX (CodeO TabS Tabs ExtN TabB lamEnv lamCx LamS)
local macro_rules | `(tactic| walk_at "e.name") => `(tactic| first
    | refine we_var 0 _ rfl (by first | exact .inl rfl | exact .inr (.inl rfl) | exact .inr (.inr rfl)) rfl ?_
    | refine we_var 1 _ rfl (by first | exact .inl rfl | exact .inr (.inl rfl) | exact .inr (.inr rfl)) rfl ?_
    | refine we_var 2 _ rfl (by first | exact .inl rfl | exact .inr (.inl rfl) | exact .inr (.inr rfl)) rfl ?_
    | refine we_var 3 _ rfl (by first | exact .inl rfl | exact .inr (.inl rfl) | exact .inr (.inr rfl)) rfl ?_
    | refine we_var 4 _ rfl (by first | exact .inl rfl | exact .inr (.inl rfl) | exact .inr (.inr rfl)) rfl ?_
    | refine we_var 5 _ rfl (by first | exact .inl rfl | exact .inr (.inl rfl) | exact .inr (.inr rfl)) rfl ?_
    | refine we_var 6 _ rfl (by first | exact .inl rfl | exact .inr (.inl rfl) | exact .inr (.inr rfl)) rfl ?_
    | refine we_var 7 _ rfl (by first | exact .inl rfl | exact .inr (.inl rfl) | exact .inr (.inr rfl)) rfl ?_
    | refine we_var 8 _ rfl (by first | exact .inl rfl | exact .inr (.inl rfl) | exact .inr (.inr rfl)) rfl ?_
    | refine we_var 9 _ rfl (by first | exact .inl rfl | exact .inr (.inl rfl) | exact .inr (.inr rfl)) rfl ?_
    | refine we_var 10 _ rfl (by first | exact .inl rfl | exact .inr (.inl rfl) | exact .inr (.inr rfl)) rfl ?_
    | refine we_var 11 _ rfl (by first | exact .inl rfl | exact .inr (.inl rfl) | exact .inr (.inr rfl)) rfl ?_
    | refine we_var 12 _ rfl (by first | exact .inl rfl | exact .inr (.inl rfl) | exact .inr (.inr rfl)) rfl ?_
    | refine we_var 13 _ rfl (by first | exact .inl rfl | exact .inr (.inl rfl) | exact .inr (.inr rfl)) rfl ?_
    | refine we_var 14 _ rfl (by first | exact .inl rfl | exact .inr (.inl rfl) | exact .inr (.inr rfl)) rfl ?_
    | refine we_var 15 _ rfl (by first | exact .inl rfl | exact .inr (.inl rfl) | exact .inr (.inr rfl)) rfl ?_
    | refine we_var 16 _ rfl (by first | exact .inl rfl | exact .inr (.inl rfl) | exact .inr (.inr rfl)) rfl ?_
    | refine we_var 17 _ rfl (by first | exact .inl rfl | exact .inr (.inl rfl) | exact .inr (.inr rfl)) rfl ?_
    | refine we_var 18 _ rfl (by first | exact .inl rfl | exact .inr (.inl rfl) | exact .inr (.inr rfl)) rfl ?_
    | refine we_var 19 _ rfl (by first | exact .inl rfl | exact .inr (.inl rfl) | exact .inr (.inr rfl)) rfl ?_
    | refine we_var 20 _ rfl (by first | exact .inl rfl | exact .inr (.inl rfl) | exact .inr (.inr rfl)) rfl ?_
    | refine we_var 21 _ rfl (by first | exact .inl rfl | exact .inr (.inl rfl) | exact .inr (.inr rfl)) rfl ?_
    | refine we_var 22 _ rfl (by first | exact .inl rfl | exact .inr (.inl rfl) | exact .inr (.inr rfl)) rfl ?_
    | refine we_var 23 _ rfl (by first | exact .inl rfl | exact .inr (.inl rfl) | exact .inr (.inr rfl)) rfl ?_
    | refine we_var 24 _ rfl (by first | exact .inl rfl | exact .inr (.inl rfl) | exact .inr (.inr rfl)) rfl ?_
    | refine we_var 25 _ rfl (by first | exact .inl rfl | exact .inr (.inl rfl) | exact .inr (.inr rfl)) rfl ?_
    | refine we_var 26 _ rfl (by first | exact .inl rfl | exact .inr (.inl rfl) | exact .inr (.inr rfl)) rfl ?_
    | refine we_var 27 _ rfl (by first | exact .inl rfl | exact .inr (.inl rfl) | exact .inr (.inr rfl)) rfl ?_
    | refine we_var 28 _ rfl (by first | exact .inl rfl | exact .inr (.inl rfl) | exact .inr (.inr rfl)) rfl ?_
    | refine we_var 29 _ rfl (by first | exact .inl rfl | exact .inr (.inl rfl) | exact .inr (.inr rfl)) rfl ?_
    | refine we_globI (by assumption) rfl ?_
    | refine we_globS (by assumption) rfl ?_)
local macro_rules | `(tactic| walk_at "e.const") => `(tactic| first
    | refine we_int ?_
    | refine we_str ?_
    | refine we_bl ?_
    | refine we_non ?_)
local macro_rules | `(tactic| walk_at "e.call") => `(tactic| first
    | refine we_len (by assumption) rfl ?_
    | refine we_int2 (by assumption) rfl ?_
    | refine we_tuple (Ct.gs (by assumption)) (by assumption) rfl ?_
    | refine we_abs (by assumption) rfl ?_
    | refine we_find ?_)
local macro_rules | `(tactic| walk_at "e.we") => `(tactic| first
    | (refine gNm ?_; walk_at "e.name")
    | (refine gConst ?_; walk_at "e.const")
    | refine we_bin (Ct.gs (by assumption)) ?_
    | (refine gCall ?_; walk_at "e.call")
    | refine we_cmp (Ct.hu (by assumption)) ?_
    | refine we_ix ?_
    | refine we_slice (Ct.gs (by assumption)) ?_
    | refine we_fld ?_
    | refine we_tup (Ct.gs (by assumption)) ?_
    | refine we_chain (Ct.hu (by assumption)) ?_
    | refine we_lst1 (Ct.gs (by assumption)) ?_
    | refine we_ifx ?_
    | refine we_and ?_
    | refine we_or ?_
    | refine we_one ?_
    | refine we_not ?_
    | refine we_negI ?_
    | refine we_neg ?_)
local macro_rules | `(tactic| walk_at "e.wt") => `(tactic| first
    | refine wt_cmp (Ct.hu (by assumption)) ?_
    | refine wt_chain (Ct.hu (by assumption)) ?_
    | refine wt_not ?_
    | refine wt_bool ?_
    | refine wt_val ?_)
local macro_rules | `(tactic| walk_at "e.ww") => `(tactic| first
    | refine ww_and ?_
    | refine ww_or ?_
    | refine ww_and1 ?_
    | refine ww_or1 ?_)
local macro_rules | `(tactic| walk_at "e.wa") => `(tactic| first
    | refine wa_nil ?_
    | refine wa_cons ?_)
local macro_rules | `(tactic| walk_at "e.wss") => `(tactic| first
    | refine wss_cons ?_
    | refine wss_nil ?_)
local macro_rules | `(tactic| walk_at "e.ws") => `(tactic| first
    | refine ws_if ?_
    | refine ws_expr (we_append (Ct.gs (by assumption)) ?_ (pe_bm PySem.F.plainAttrs_list PySem.F.slot_list_append PySem.F.type_list_append mt_append pe_wp pa_wp))
    | refine ws_fldSub (Ct.gs (by assumption)) ?_
    | refine ws_fldAddW (Ct.gs (by assumption)) ?_
    | refine ws_expr ?_
    | refine ws_set 0 (Ct.nd (by assumption)) ?_
    | refine ws_set 1 (Ct.nd (by assumption)) ?_
    | refine ws_set 2 (Ct.nd (by assumption)) ?_
    | refine ws_set 3 (Ct.nd (by assumption)) ?_
    | refine ws_set 4 (Ct.nd (by assumption)) ?_
    | refine ws_set 5 (Ct.nd (by assumption)) ?_
    | refine ws_set 6 (Ct.nd (by assumption)) ?_
    | refine ws_set 7 (Ct.nd (by assumption)) ?_
    | refine ws_set 8 (Ct.nd (by assumption)) ?_
    | refine ws_set 9 (Ct.nd (by assumption)) ?_
    | refine ws_set 10 (Ct.nd (by assumption)) ?_
    | refine ws_set 11 (Ct.nd (by assumption)) ?_
    | refine ws_set 12 (Ct.nd (by assumption)) ?_
    | refine ws_set 13 (Ct.nd (by assumption)) ?_
    | refine ws_set 14 (Ct.nd (by assumption)) ?_
    | refine ws_set 15 (Ct.nd (by assumption)) ?_
    | refine ws_set 16 (Ct.nd (by assumption)) ?_
    | refine ws_set 17 (Ct.nd (by assumption)) ?_
    | refine ws_set 18 (Ct.nd (by assumption)) ?_
    | refine ws_set 19 (Ct.nd (by assumption)) ?_
    | refine ws_set 20 (Ct.nd (by assumption)) ?_
    | refine ws_set 21 (Ct.nd (by assumption)) ?_
    | refine ws_set 22 (Ct.nd (by assumption)) ?_
    | refine ws_set 23 (Ct.nd (by assumption)) ?_
    | refine ws_set 24 (Ct.nd (by assumption)) ?_
    | refine ws_set 25 (Ct.nd (by assumption)) ?_
    | refine ws_set 26 (Ct.nd (by assumption)) ?_
    | refine ws_set 27 (Ct.nd (by assumption)) ?_
    | refine ws_set 28 (Ct.nd (by assumption)) ?_
    | refine ws_set 29 (Ct.nd (by assumption)) ?_
    | refine ws_sub (Ct.gs (by assumption)) ?_ (fun a b => pg_sub a b set_list)
    | refine ws_fld (Ct.gs (by assumption)) ?_
    | refine ws_pass ?_
    | refine ws_break ?_
    | refine ws_cont ?_)
local macro_rules | `(tactic| walk_at "e.bin") => `(tactic| first
    | refine BinD.addI ?_
    | refine BinD.subI ?_
    | refine BinD.modP (by assumption) ?_
    | refine BinD.divP (by assumption) ?_
    | refine BinD.modI (by decide) ?_
    | refine BinD.modI (by assumption) ?_
    | refine BinD.divI (by decide) (by decide) ?_
    | refine BinD.divI (by assumption) (by assumption) ?_
    | refine BinD.mulI (by first | exact .inl ⟨by decide, by decide⟩ | exact .inr ⟨by decide, by decide⟩) ?_
    | refine BinD.xorI ?_
    | refine BinD.powI ⟨by decide, by decide, by decide⟩ ?_)
local macro_rules | `(tactic| walk_at "e.cmp") => `(tactic| first
    | refine CmpD.lt ?_
    | refine CmpD.le ?_
    | refine CmpD.gt ?_
    | refine CmpD.ge ?_
    | refine CmpD.isN ?_
    | refine CmpD.notN ?_
    | refine CmpD.neI_s ?_
    | refine CmpD.neT_s ?_
    | refine CmpD.neZ_s ?_
    | refine CmpD.eqZ_s ?_
    | refine CmpD.neN_s ?_
    | refine CmpD.eqN_s ?_
    | refine CmpD.neTZ ?_
    | refine CmpD.eqTZ ?_
    | refine CmpD.eqI ?_
    | refine CmpD.neI ?_
    | refine CmpD.eqZ ?_
    | refine CmpD.neZ ?_)
local macro_rules | `(tactic| walk_at "e.is") => `(tactic| first
    | refine gSz ?_
    | refine gFld (by assumption) (by assumption) rfl ?_
    | refine gFldS (by assumption) (by assumption) (by first | decide | (repeat (first | refine plA ?_ | refine plB ?_)); simp) ?_
    | refine gFldU (by first | decide | (repeat (first | refine plA ?_ | refine plB ?_)); simp) ?_
    | refine IsI.mk ?_
    | refine IsT.mk ?_
    | refine IsL.mk ?_
    | refine IsZ.mk ?_
    | refine IsB.mk ?_
    | refine OwL.mk 0 rfl ?_
    | refine OwL.mk 1 rfl ?_
    | refine OwL.mk 2 rfl ?_
    | refine OwL.mk 3 rfl ?_
    | refine OwL.mk 4 rfl ?_
    | refine OwL.mk 5 rfl ?_
    | refine OwI.mk 0 rfl ?_
    | refine OwI.mk 1 rfl ?_
    | refine OwI.mk 2 rfl ?_
    | refine OwI.mk 3 rfl ?_
    | refine OwI.mk 4 rfl ?_
    | refine OwI.mk 5 rfl ?_
    | refine OwI.mk _ (by assumption) ?_
    | refine OwI.mk _ (set_at (by assumption)) ?_
    | refine OwI.mk _ (set_at (set_at (by assumption))) ?_
    | refine OwL.mk _ (by assumption) ?_
    | refine OwL.mk _ (set_at (by assumption)) ?_
    | refine OwL.mk _ (set_at (set_at (by assumption))) ?_
    | refine OwL.mk _ (set_at (set_at (set_at (by assumption)))) ?_
    | refine IxD.own 0 rfl rfl ?_
    | refine IxD.own 1 rfl rfl ?_
    | refine IxD.own 2 rfl rfl ?_
    | refine IxD.own 3 rfl rfl ?_
    | refine IxD.own 4 rfl rfl ?_
    | refine IxD.own 5 rfl rfl ?_
    | refine IxD.own _ (by assumption) rfl ?_
    | refine IxD.own _ (set_at (by assumption)) rfl ?_
    | refine IxD.own _ (set_at (set_at (by assumption))) rfl ?_
    | refine IxD.own _ (set_at (set_at (set_at (by assumption)))) rfl ?_
    | refine IxD.tup rfl ?_
    | refine IxD.lst rfl ?_
    | refine IntD.int ?_
    | refine IntD.bl ?_
    | refine TruD.bl ?_
    | refine TruD.int ?_
    | refine TruD.tup ?_
    | refine TruD.lst ?_
    | refine LenD.tup ?_
    | refine LenD.lst ?_
    | refine SeqD.tup ?_
    | refine SeqD.lst ?_
    | refine SlD.tup ?_
    | refine SlD.lst ?_
    | refine SeqD.own 0 rfl ?_
    | refine SeqD.own 1 rfl ?_
    | refine SeqD.own 2 rfl ?_
    | refine SeqD.own 3 rfl ?_
    | refine SeqD.own 4 rfl ?_
    | refine SeqD.own 5 rfl ?_
    | refine LenD.own 0 rfl ?_
    | refine LenD.own 1 rfl ?_
    | refine LenD.own 2 rfl ?_
    | refine LenD.own 3 rfl ?_
    | refine LenD.own 4 rfl ?_
    | refine LenD.own 5 rfl ?_)
local macro_rules | `(tactic| walk_at "e1") => `(tactic| first
    | (refine gWE ?_; walk_at "e.we")
    | (refine gBinD ?_; walk_at "e.bin")
    | (refine gWSs ?_; walk_at "e.wss")
    | (refine gWS ?_; walk_at "e.ws")
    | (refine gWT ?_; walk_at "e.wt")
    | (refine gCmpD ?_; walk_at "e.cmp")
    | (refine gWA ?_; walk_at "e.wa")
    | (refine gWW ?_; walk_at "e.ww")
    | refine iteT ?_
    | refine iteF ?_
    | walk_at "e.is")
local macro_rules | `(tactic| walk_at "x1") => `(tactic| first
    | (refine gWE ?_; walk_at "e.we")
    | (refine gBinD ?_; walk_at "e.bin")
    | (refine gWT ?_; walk_at "e.wt")
    | (refine gCmpD ?_; walk_at "e.cmp")
    | (refine gWA ?_; walk_at "e.wa")
    | (refine gWW ?_; walk_at "e.ww")
    | refine iteT ?_
    | refine iteF ?_
    | walk_at "e.is")
local macro_rules | `(tactic| walk_at "e") => `(tactic| repeat (walk_at "e1"))
local macro_rules | `(tactic| walk_at "x") => `(tactic| repeat (walk_at "x1"))
/-! ### a reader of bytes -/
structure RdC (K : PySem.W.Frag) (C : Addr) : Prop where
  c : Cls K C
  nd : NoAttr K C "data"
  np : NoAttr K C "place"
abbrev rdM (C r : Addr) (ds : List D) (p : Nat) : Ms := [(r, .ins C [("data", .tup ds), ("place", I (p : Int))])]
def S_rinit (C : Addr) : SpD := fun ds M xr R => ∃ (r : Addr) (bs : List D) (M0 : Ms), ds = [Rf r, .tup bs] ∧ M = (r, .ins C []) :: M0 ∧ R (rdM C r bs 0 ++ M0) N0
theorem rinit_ret {C : Addr} : ∀ ds M xr R, S_rinit C ds M xr R → S_rinit C ds M xr fun M' d => R M' d ∧ d = N0 := fun ds M xr R ⟨r, bs, M0, h1, h2, h3⟩ => ⟨r, bs, M0, h1, h2, h3, rfl⟩
def S_rtake (C CE : Addr) : SpD := fun ds M xr R => ∃ (r : Addr) (bs : List D) (p m : Nat) (M0 : Ms), ds = [Rf r, I (m : Int)] ∧ SP (rdM C r bs p ++ M0) M ∧ (bs.length < p + m → xr (.ref CE) (rdM C r bs p ++ M0)) ∧ (p + m ≤ bs.length → R (rdM C r bs (p + m) ++ M0) (.tup ((bs.drop p).take m)))
/-- what is read of a number: one byte, two, nothing -/
inductive NatAt (bs : List D) (p : Nat) : D → Nat → Prop
  | one {n : Int} (h : bs[p]? = some (I n)) (h1 : n < 128) : NatAt bs p (I n) (p + 1)
  | bl {b : Bool} (h : bs[p]? = some (B b)) : NatAt bs p (B b) (p + 1)
  | two {a b : Int} (h : bs[p]? = some (I a)) (g : bs[p + 1]? = some (I b)) (h1 : 128 ≤ a) (h2 : a < 256) (g1 : 0 < b) (g2 : b < 128) : NatAt bs p (I (a - 128 + 128 * b)) (p + 2)
def S_rnat (C CE : Addr) : SpD := fun ds M xr R => ∃ (r : Addr) (bs : List D) (p : Nat) (M0 : Ms), ds = [Rf r] ∧ SP (rdM C r bs p ++ M0) M ∧ ((bs.length = p ∧ xr (.ref CE) (rdM C r bs p ++ M0)) ∨ ∃ d q, NatAt bs p d q ∧ R (rdM C r bs q ++ M0) d)
def S_rblob (C : Addr) : SpD := fun ds M xr R => ∃ (r : Addr) (bs : List D) (p m : Nat) (M0 : Ms), ds = [Rf r] ∧ SP (rdM C r bs p ++ M0) M ∧ bs[p]? = some (I (m : Int)) ∧ m < 128 ∧ p + 1 + m ≤ bs.length ∧ R (rdM C r bs (p + 1 + m) ++ M0) (.tup ((bs.drop (p + 1)).take m))
def S_rend (C : Addr) : SpD := fun ds M xr R => ∃ (r : Addr) (bs : List D) (p : Nat) (M0 : Ms), ds = [Rf r] ∧ SP (rdM C r bs p ++ M0) M ∧ R (rdM C r bs p ++ M0) (B (decide (bs.length ≤ p)))
theorem cut_nat {bs : List D} {p m : Nat} (h : p + m ≤ bs.length) : Wv.cutD bs (some (p : Int)) (some ((p : Int) + (m : Int))) = (bs.drop p).take m := by
  unfold Wv.cutD
  have e1 : HT.sIx bs.length 0 (some (p : Int)) = p := by
    simp only [HT.sIx]
    rw [if_neg (by omega)]
    omega
  have e2 : HT.sIx bs.length bs.length (some ((p : Int) + (m : Int))) = p + m := by
    simp only [HT.sIx]
    rw [if_neg (by omega)]
    omega
  rw [e1, e2, Nat.add_sub_cancel_left]
section
variable {P : Program} {w : World} {K : PySem.W.Frag} {mg : Str → Option Value} {base : Heap} {G : Hp → Prop}
theorem gf_rinit {f C : Addr} {fd : FuncData} (F : Fun K "__init__" "Reader.__init__" s_Reader_init f fd) (gs : Gst G) (dc : RdC K C) : Gf P w K mg base G 1 f [] (S_rinit C) := by
  refine gf_of F sc_Reader_init gs (F.binds fun _ _ _ _ _ _ us hl => match us, hl with | [_, _], _ => rfl) .nil (fun ds M xr R h => by obtain ⟨r, bs, M0, rfl, _⟩ := h; rfl) ?_
  rintro X W M ds xr R ⟨cdv, A, outer, s, H, E0, rfl⟩ cx ⟨r, bs, M0, rfl, rfl, hok⟩
  walk_at "e"
  refine ⟨dc.c, dc.nd, by simp, ?_⟩
  walk_at "e"
  refine ⟨dc.c, dc.np, by simp [putD], ?_⟩
  exact wss_nil hok
theorem gf_rtake {f C CE : Addr} {fd : FuncData} (F : Fun K "take" "Reader.take" s_Reader_take f fd) (gs : Gst G) (dc : RdC K C) (E : ExcC K mg "OctetError" CE) (ml : mg "len" = none) : Gf P w K mg base G 1 f [] (S_rtake C CE) := by
  refine gf_of F sc_Reader_take gs (F.binds fun _ _ _ _ _ _ us hl => match us, hl with | [_, _], _ => rfl) .nil (fun ds M xr R h => by obtain ⟨r, bs, p, m, M0, rfl, _⟩ := h; rfl) ?_
  rintro X W M ds xr R ⟨cdv, A, outer, s, H, E0, rfl⟩ cx ⟨r, bs, p, m, M0, rfl, hsp, hbad, hok⟩
  refine wss_sp hsp ?_
  walk_at "e"
  refine ⟨dc.c, dc.np, _, rfl, ?_⟩
  walk_at "e"
  refine ⟨dc.c, dc.nd, _, rfl, ?_⟩
  walk_at "e"
  refine ite_d (fun h => ?_) (fun h => ?_)
  · exact wss_one (ws_raiseC cx E rfl ⟨_, List.Sublist.refl _, hbad (by omega)⟩)
  · walk_at "e"
    refine ⟨dc.c, dc.np, _, rfl, ?_⟩
    walk_at "e"
    refine ⟨dc.c, dc.np, by simp, ?_⟩
    walk_at "e"
    refine ws_ret (we_slice gs ?_)
    walk_at "e"
    refine ⟨dc.c, dc.nd, _, rfl, ?_⟩
    walk_at "e"
    refine ⟨dc.c, dc.np, _, rfl, ?_⟩
    walk_at "e"
    rw [cut_nat (by omega)]
    exact hok (by omega)
theorem gf_rnat {f ft C CE : Addr} {fd : FuncData} {t : Tok} (F : Fun K "natural" "Reader.natural" s_Reader_natural f fd) (gs : Gst G) (dc : RdC K C) (gM : mg "MOST_NUMBER" = some (.int 4611686018427387904 t)) (ml : mg "len" = none) (Mt : Meth K C "take" ft) (g1 : Gf P w K mg base G 1 ft [] (S_rtake C CE)) : Gf P w K mg base G 2 f [] (S_rnat C CE) := by
  refine gf_of F sc_Reader_natural gs (F.binds fun _ _ _ _ _ _ us hl => match us, hl with | [_], _ => rfl) .nil (fun ds M xr R h => by obtain ⟨r, bs, p, M0, rfl, _⟩ := h; rfl) ?_
  rintro X W M ds xr R ⟨cdv, A, outer, s, H, E0, rfl⟩ cx ⟨r, bs, p, M0, rfl, hsp, hc⟩
  refine wss_sp hsp ?_
  walk_at "e"
  refine ⟨dc.c, dc.np, _, rfl, ?_⟩
  walk_at "e"
  refine ⟨dc.c, dc.nd, _, rfl, ?_⟩
  walk_at "e"
  have slow : ((bs.length = p ∧ xr (.ref CE) (rdM C r bs p ++ M0)) ∨ ∃ a b : Int, bs[p]? = some (I a) ∧ bs[p + 1]? = some (I b) ∧ 128 ≤ a ∧ a < 256 ∧ 0 < b ∧ b < 128 ∧ R (rdM C r bs (p + 2) ++ M0) (I (a - 128 + 128 * b))) → WSs (cxOf (L2N.CX P w) P w K mg base N_Reader_natural "Reader.natural" (defScope s_Reader_natural) f cdv A outer s H E0) G W ((defBody s_Reader_natural).drop 2) (rdM C r bs p ++ M0) [some (Rf r), some (I (p : Int)), none, none, none] { nx := fun M' _ => R M' N0, rt := R, bk := fun _ _ => False, ct := fun _ _ => False, xr := xr } := by
    intro hs
    walk_at "e"
    refine ws_while cx (fun m M' ρ' => (m = 2 ∧ M' = rdM C r bs p ++ M0 ∧ ρ' = [some (Rf r), some (I (p : Int)), some (I 0), some (I 1), some (I 128)]) ∨ ∃ a b : Int, bs[p]? = some (I a) ∧ bs[p + 1]? = some (I b) ∧ 128 ≤ a ∧ a < 256 ∧ 0 < b ∧ b < 128 ∧ R (rdM C r bs (p + 2) ++ M0) (I (a - 128 + 128 * b)) ∧
      ((m = 1 ∧ M' = rdM C r bs (p + 1) ++ M0 ∧ ρ' = [some (Rf r), some (I (p : Int)), some (I (a - 128)), some (I 128), some (I a)]) ∨ (m = 0 ∧ M' = rdM C r bs (p + 2) ++ M0 ∧ ρ' = [some (Rf r), some (I (p : Int)), some (I (a - 128 + 128 * b)), some (I 16384), some (I b)]))) ?_ ?_
    · exact ⟨2, .inl ⟨rfl, rfl, rfl⟩⟩
    · rintro m M' ρ' hJ
      rcases hJ with ⟨rfl, rfl, rfl⟩ | ⟨a, b, ha, hb, a1, a2, b1, b2, hR, ⟨rfl, rfl, rfl⟩ | ⟨rfl, rfl, rfl⟩⟩
      · walk_at "e"
        refine we_meth cx g1 (by decide) dc.c Mt ?_
        walk_at "e"
        refine ⟨rfl, rfl, ?_⟩
        walk_at "e"
        refine ⟨r, bs, p, 1, M0, rfl, ⟨_, List.Perm.refl _, List.Sublist.refl _⟩, fun z => ?_, fun z => ?_⟩
        · rcases hs with ⟨_, hx⟩ | ⟨a, b, ha, hb, _⟩
          · exact hx
          · exact absurd (at_lt hb) (by omega)
        · rcases hs with ⟨e, _⟩ | ⟨a, b, ha, hb, a1, a2, b1, b2, hR⟩
          · omega
          · walk_at "e"
            refine .tup (atI_of (k := 0) (x := I a) (by rw [List.getElem?_take_of_lt (by decide), List.getElem?_drop]; exact ha)) ?_
            walk_at "e"
            refine ⟨1, by decide, .inr ⟨a, b, ha, hb, a1, a2, b1, b2, hR, .inl ⟨rfl, rfl, ?_⟩⟩⟩
            rw [show (0 : Int) + a % 128 * 1 = a - 128 by omega]
            rfl
      · walk_at "e"
        refine ite_d (fun h => ?_) (fun h => absurd a1 h)
        walk_at "e"
        refine we_meth cx g1 (by decide) dc.c Mt ?_
        walk_at "e"
        refine ⟨rfl, rfl, ?_⟩
        walk_at "e"
        refine ⟨r, bs, p + 1, 1, M0, rfl, ⟨_, List.Perm.refl _, List.Sublist.refl _⟩, fun z => absurd (at_lt hb) (by omega), fun z => ?_⟩
        walk_at "e"
        refine .tup (atI_of (k := 0) (x := I b) (by rw [List.getElem?_take_of_lt (by decide), List.getElem?_drop]; exact hb)) ?_
        walk_at "e"
        refine ⟨0, by decide, .inr ⟨a, b, ha, hb, a1, a2, b1, b2, hR, .inr ⟨rfl, rfl, ?_⟩⟩⟩
        rw [show a - 128 + b % 128 * 128 = a - 128 + 128 * b by omega]
        rfl
      · walk_at "e"
        refine ite_d (fun h => absurd h (by omega)) (fun h => ?_)
        walk_at "e"
        refine ite_d (fun h => absurd h (by omega)) (fun h => ?_)
        walk_at "e"
        refine ite_d (fun h => absurd h (by omega)) (fun h => ?_)
        refine wss_nil (wss_one (ws_ret ?_))
        walk_at "e"
        exact hR
  refine ite_d (fun h => ?_) (fun h => ?_)
  · rcases hc with ⟨e, _⟩ | ⟨d, q, hn, hR⟩
    · omega
    · walk_at "e"
      refine ⟨dc.c, dc.nd, _, rfl, ?_⟩
      walk_at "e"
      cases hn with
      | one h h1 =>
        refine .tup (atI_of h) ?_
        walk_at "e"
        refine ite_d (fun h2 => ?_) (fun h2 => absurd h1 h2)
        walk_at "e"
        refine ⟨dc.c, dc.np, by simp, ?_⟩
        refine wss_one (ws_ret ?_)
        walk_at "e"
        refine ⟨dc.c, dc.nd, _, rfl, ?_⟩
        walk_at "e"
        exact .tup (atI_of h) hR
      | bl h =>
        refine .tup (atI_of h) ?_
        walk_at "e"
        rename_i b
        have b1 : bI b < 128 := by unfold bI; split <;> decide
        refine .ltBI (ite_d (fun h2 => ?_) (fun h2 => absurd b1 h2))
        walk_at "e"
        refine ⟨dc.c, dc.np, by simp, ?_⟩
        refine wss_one (ws_ret ?_)
        walk_at "e"
        refine ⟨dc.c, dc.nd, _, rfl, ?_⟩
        walk_at "e"
        exact .tup (atI_of h) hR
      | two h g h1 h2 g1 g2 =>
        refine .tup (atI_of h) ?_
        walk_at "e"
        refine ite_d (fun z => absurd z (by omega)) (fun _ => wss_nil (slow (.inr ⟨_, _, h, g, h1, h2, g1, g2, hR⟩)))
  · refine iteF (wss_nil (slow ?_))
    rcases hc with hc | ⟨d, q, hn, hR⟩
    · exact .inl hc
    · exact absurd (by cases hn with
        | one h _ => exact at_lt h
        | bl h => exact at_lt h
        | two h _ _ _ _ _ => exact at_lt h : p < bs.length) (by omega)
theorem gf_rblob {f fn ft C CE : Addr} {fd : FuncData} (F : Fun K "blob" "Reader.blob" s_Reader_blob f fd) (gs : Gst G) (dc : RdC K C) (Mt : Meth K C "take" ft) (g1 : Gf P w K mg base G 1 ft [] (S_rtake C CE)) (Mn : Meth K C "natural" fn) (g2 : Gf P w K mg base G 2 fn [] (S_rnat C CE)) : Gf P w K mg base G 3 f [] (S_rblob C) := by
  refine gf_of F sc_Reader_blob gs (F.binds fun _ _ _ _ _ _ us hl => match us, hl with | [_], _ => rfl) .nil (fun ds M xr R h => by obtain ⟨r, bs, p, m, M0, rfl, _⟩ := h; rfl) ?_
  rintro X W M ds xr R ⟨cdv, A, outer, s, H, E0, rfl⟩ cx ⟨r, bs, p, m, M0, rfl, hsp, hp, hm, hl, hok⟩
  refine wss_sp hsp ?_
  refine wss_one (ws_ret (we_meth cx g1 (by decide) dc.c Mt ?_))
  walk_at "e"
  refine ⟨rfl, rfl, ?_⟩
  refine wa_one (we_meth0 cx g2 (by decide) dc.c Mn ?_)
  walk_at "e"
  refine ⟨rfl, rfl, r, bs, p, M0, rfl, ⟨_, List.Perm.refl _, List.Sublist.refl _⟩, .inr ⟨_, _, .one hp (by omega), ?_⟩⟩
  refine ⟨r, bs, p + 1, m, M0, rfl, ⟨_, List.Perm.refl _, List.Sublist.refl _⟩, fun z => by omega, fun _ => hok⟩
theorem gf_rend {f C : Addr} {fd : FuncData} (F : Fun K "at_end" "Reader.at_end" s_Reader_at_end f fd) (gs : Gst G) (dc : RdC K C) (ml : mg "len" = none) : Gf P w K mg base G 1 f [] (S_rend C) := by
  refine gf_of F sc_Reader_at_end gs (F.binds fun _ _ _ _ _ _ us hl => match us, hl with | [_], _ => rfl) .nil (fun ds M xr R h => by obtain ⟨r, bs, p, M0, rfl, _⟩ := h; rfl) ?_
  rintro X W M ds xr R ⟨cdv, A, outer, s, H, E0, rfl⟩ cx ⟨r, bs, p, M0, rfl, hsp, hok⟩
  refine wss_sp hsp ?_
  refine wss_one (ws_ret ?_)
  walk_at "e"
  refine ⟨dc.c, dc.np, _, rfl, ?_⟩
  walk_at "e"
  refine ⟨dc.c, dc.nd, _, rfl, ?_⟩
  walk_at "e"
  rw [show decide ((bs.length : Int) ≤ (p : Int)) = decide (bs.length ≤ p) by simp]
  exact hok
end

end K24
set_option maxRecDepth 100000
set_option maxHeartbeats 4000000

namespace K24
open PySem PySem.Spec PyProof.Rows L2 Wv
open LamX (CodeO TabS Tabs ExtN TabB lamEnv lamCx LamS)
local macro_rules | `(tactic| walk_at "e.name") => `(tactic| first
    | refine we_var 0 _ rfl (by first | exact .inl rfl | exact .inr (.inl rfl) | exact .inr (.inr rfl)) rfl ?_
    | refine we_var 1 _ rfl (by first | exact .inl rfl | exact .inr (.inl rfl) | exact .inr (.inr rfl)) rfl ?_
    | refine we_var 2 _ rfl (by first | exact .inl rfl | exact .inr (.inl rfl) | exact .inr (.inr rfl)) rfl ?_
    | refine we_var 3 _ rfl (by first | exact .inl rfl | exact .inr (.inl rfl) | exact .inr (.inr rfl)) rfl ?_
    | refine we_var 4 _ rfl (by first | exact .inl rfl | exact .inr (.inl rfl) | exact .inr (.inr rfl)) rfl ?_
    | refine we_var 5 _ rfl (by first | exact .inl rfl | exact .inr (.inl rfl) | exact .inr (.inr rfl)) rfl ?_
    | refine we_var 6 _ rfl (by first | exact .inl rfl | exact .inr (.inl rfl) | exact .inr (.inr rfl)) rfl ?_
    | refine we_var 7 _ rfl (by first | exact .inl rfl | exact .inr (.inl rfl) | exact .inr (.inr rfl)) rfl ?_
    | refine we_var 8 _ rfl (by first | exact .inl rfl | exact .inr (.inl rfl) | exact .inr (.inr rfl)) rfl ?_
    | refine we_var 9 _ rfl (by first | exact .inl rfl | exact .inr (.inl rfl) | exact .inr (.inr rfl)) rfl ?_
    | refine we_var 10 _ rfl (by first | exact .inl rfl | exact .inr (.inl rfl) | exact .inr (.inr rfl)) rfl ?_
    | refine we_var 11 _ rfl (by first | exact .inl rfl | exact .inr (.inl rfl) | exact .inr (.inr rfl)) rfl ?_
    | refine we_var 12 _ rfl (by first | exact .inl rfl | exact .inr (.inl rfl) | exact .inr (.inr rfl)) rfl ?_
    | refine we_var 13 _ rfl (by first | exact .inl rfl | exact .inr (.inl rfl) | exact .inr (.inr rfl)) rfl ?_
    | refine we_var 14 _ rfl (by first | exact .inl rfl | exact .inr (.inl rfl) | exact .inr (.inr rfl)) rfl ?_
    | refine we_var 15 _ rfl (by first | exact .inl rfl | exact .inr (.inl rfl) | exact .inr (.inr rfl)) rfl ?_
    | refine we_var 16 _ rfl (by first | exact .inl rfl | exact .inr (.inl rfl) | exact .inr (.inr rfl)) rfl ?_
    | refine we_var 17 _ rfl (by first | exact .inl rfl | exact .inr (.inl rfl) | exact .inr (.inr rfl)) rfl ?_
    | refine we_var 18 _ rfl (by first | exact .inl rfl | exact .inr (.inl rfl) | exact .inr (.inr rfl)) rfl ?_
    | refine we_var 19 _ rfl (by first | exact .inl rfl | exact .inr (.inl rfl) | exact .inr (.inr rfl)) rfl ?_
    | refine we_var 20 _ rfl (by first | exact .inl rfl | exact .inr (.inl rfl) | exact .inr (.inr rfl)) rfl ?_
    | refine we_var 21 _ rfl (by first | exact .inl rfl | exact .inr (.inl rfl) | exact .inr (.inr rfl)) rfl ?_
    | refine we_var 22 _ rfl (by first | exact .inl rfl | exact .inr (.inl rfl) | exact .inr (.inr rfl)) rfl ?_
    | refine we_var 23 _ rfl (by first | exact .inl rfl | exact .inr (.inl rfl) | exact .inr (.inr rfl)) rfl ?_
    | refine we_var 24 _ rfl (by first | exact .inl rfl | exact .inr (.inl rfl) | exact .inr (.inr rfl)) rfl ?_
    | refine we_var 25 _ rfl (by first | exact .inl rfl | exact .inr (.inl rfl) | exact .inr (.inr rfl)) rfl ?_
    | refine we_var 26 _ rfl (by first | exact .inl rfl | exact .inr (.inl rfl) | exact .inr (.inr rfl)) rfl ?_
    | refine we_var 27 _ rfl (by first | exact .inl rfl | exact .inr (.inl rfl) | exact .inr (.inr rfl)) rfl ?_
    | refine we_var 28 _ rfl (by first | exact .inl rfl | exact .inr (.inl rfl) | exact .inr (.inr rfl)) rfl ?_
    | refine we_var 29 _ rfl (by first | exact .inl rfl | exact .inr (.inl rfl) | exact .inr (.inr rfl)) rfl ?_
    | refine we_globI (by assumption) rfl ?_
    | refine we_globS (by assumption) rfl ?_)
local macro_rules | `(tactic| walk_at "e.const") => `(tactic| first
    | refine we_int ?_
    | refine we_str ?_
    | refine we_bl ?_
    | refine we_non ?_)
local macro_rules | `(tactic| walk_at "e.call") => `(tactic| first
    | refine we_len (by assumption) rfl ?_
    | refine we_int2 (by assumption) rfl ?_
    | refine we_tuple (Ct.gs (by assumption)) (by assumption) rfl ?_
    | refine we_abs (by assumption) rfl ?_
    | refine we_find ?_)
local macro_rules | `(tactic| walk_at "e.we") => `(tactic| first
    | (refine gNm ?_; walk_at "e.name")
    | (refine gConst ?_; walk_at "e.const")
    | refine we_bin (Ct.gs (by assumption)) ?_
    | (refine gCall ?_; walk_at "e.call")
    | refine we_cmp (Ct.hu (by assumption)) ?_
    | refine we_ix ?_
    | refine we_slice (Ct.gs (by assumption)) ?_
    | refine we_fld ?_
    | refine we_tup (Ct.gs (by assumption)) ?_
    | refine we_chain (Ct.hu (by assumption)) ?_
    | refine we_lst1 (Ct.gs (by assumption)) ?_
    | refine we_ifx ?_
    | refine we_and ?_
    | refine we_or ?_
    | refine we_one ?_
    | refine we_not ?_
    | refine we_negI ?_
    | refine we_neg ?_)
local macro_rules | `(tactic| walk_at "e.wt") => `(tactic| first
    | refine wt_cmp (Ct.hu (by assumption)) ?_
    | refine wt_chain (Ct.hu (by assumption)) ?_
    | refine wt_not ?_
    | refine wt_bool ?_
    | refine wt_val ?_)
local macro_rules | `(tactic| walk_at "e.ww") => `(tactic| first
    | refine ww_and ?_
    | refine ww_or ?_
    | refine ww_and1 ?_
    | refine ww_or1 ?_)
local macro_rules | `(tactic| walk_at "e.wa") => `(tactic| first
    | refine wa_nil ?_
    | refine wa_cons ?_)
local macro_rules | `(tactic| walk_at "e.wss") => `(tactic| first
    | refine wss_cons ?_
    | refine wss_nil ?_)
local macro_rules | `(tactic| walk_at "e.ws") => `(tactic| first
    | refine ws_if ?_
    | refine ws_expr (we_append (Ct.gs (by assumption)) ?_ (pe_bm PySem.F.plainAttrs_list PySem.F.slot_list_append PySem.F.type_list_append mt_append pe_wp pa_wp))
    | refine ws_fldSub (Ct.gs (by assumption)) ?_
    | refine ws_fldAddW (Ct.gs (by assumption)) ?_
    | refine ws_expr ?_
    | refine ws_set 0 (Ct.nd (by assumption)) ?_
    | refine ws_set 1 (Ct.nd (by assumption)) ?_
    | refine ws_set 2 (Ct.nd (by assumption)) ?_
    | refine ws_set 3 (Ct.nd (by assumption)) ?_
    | refine ws_set 4 (Ct.nd (by assumption)) ?_
    | refine ws_set 5 (Ct.nd (by assumption)) ?_
    | refine ws_set 6 (Ct.nd (by assumption)) ?_
    | refine ws_set 7 (Ct.nd (by assumption)) ?_
    | refine ws_set 8 (Ct.nd (by assumption)) ?_
    | refine ws_set 9 (Ct.nd (by assumption)) ?_
    | refine ws_set 10 (Ct.nd (by assumption)) ?_
    | refine ws_set 11 (Ct.nd (by assumption)) ?_
    | refine ws_set 12 (Ct.nd (by assumption)) ?_
    | refine ws_set 13 (Ct.nd (by assumption)) ?_
    | refine ws_set 14 (Ct.nd (by assumption)) ?_
    | refine ws_set 15 (Ct.nd (by assumption)) ?_
    | refine ws_set 16 (Ct.nd (by assumption)) ?_
    | refine ws_set 17 (Ct.nd (by assumption)) ?_
    | refine ws_set 18 (Ct.nd (by assumption)) ?_
    | refine ws_set 19 (Ct.nd (by assumption)) ?_
    | refine ws_set 20 (Ct.nd (by assumption)) ?_
    | refine ws_set 21 (Ct.nd (by assumption)) ?_
    | refine ws_set 22 (Ct.nd (by assumption)) ?_
    | refine ws_set 23 (Ct.nd (by assumption)) ?_
    | refine ws_set 24 (Ct.nd (by assumption)) ?_
    | refine ws_set 25 (Ct.nd (by assumption)) ?_
    | refine ws_set 26 (Ct.nd (by assumption)) ?_
    | refine ws_set 27 (Ct.nd (by assumption)) ?_
    | refine ws_set 28 (Ct.nd (by assumption)) ?_
    | refine ws_set 29 (Ct.nd (by assumption)) ?_
    | refine ws_sub (Ct.gs (by assumption)) ?_ (fun a b => pg_sub a b set_list)
    | refine ws_fld (Ct.gs (by assumption)) ?_
    | refine ws_pass ?_
    | refine ws_break ?_
    | refine ws_cont ?_)
local macro_rules | `(tactic| walk_at "e.bin") => `(tactic| first
    | refine BinD.addI ?_
    | refine BinD.subI ?_
    | refine BinD.modP (by assumption) ?_
    | refine BinD.divP (by assumption) ?_
    | refine BinD.modI (by decide) ?_
    | refine BinD.modI (by assumption) ?_
    | refine BinD.divI (by decide) (by decide) ?_
    | refine BinD.divI (by assumption) (by assumption) ?_
    | refine BinD.mulI (by first | exact .inl ⟨by decide, by decide⟩ | exact .inr ⟨by decide, by decide⟩) ?_
    | refine BinD.xorI ?_
    | refine BinD.powI ⟨by decide, by decide, by decide⟩ ?_)
local macro_rules | `(tactic| walk_at "e.cmp") => `(tactic| first
    | refine CmpD.lt ?_
    | refine CmpD.le ?_
    | refine CmpD.gt ?_
    | refine CmpD.ge ?_
    | refine CmpD.isN ?_
    | refine CmpD.notN ?_
    | refine CmpD.neI_s ?_
    | refine CmpD.neT_s ?_
    | refine CmpD.neZ_s ?_
    | refine CmpD.eqZ_s ?_
    | refine CmpD.neN_s ?_
    | refine CmpD.eqN_s ?_
    | refine CmpD.neTZ ?_
    | refine CmpD.eqTZ ?_
    | refine CmpD.eqI ?_
    | refine CmpD.neI ?_
    | refine CmpD.eqZ ?_
    | refine CmpD.neZ ?_)
local macro_rules | `(tactic| walk_at "e.is") => `(tactic| first
    | refine gSz ?_
    | refine gFld (by assumption) (by assumption) rfl ?_
    | refine gFldS (by assumption) (by assumption) (by first | decide | (repeat (first | refine plA ?_ | refine plB ?_)); simp) ?_
    | refine gFldU (by first | decide | (repeat (first | refine plA ?_ | refine plB ?_)); simp) ?_
    | refine IsI.mk ?_
    | refine IsT.mk ?_
    | refine IsL.mk ?_
    | refine IsZ.mk ?_
    | refine IsB.mk ?_
    | refine OwL.mk 0 rfl ?_
    | refine OwL.mk 1 rfl ?_
    | refine OwL.mk 2 rfl ?_
    | refine OwL.mk 3 rfl ?_
    | refine OwL.mk 4 rfl ?_
    | refine OwL.mk 5 rfl ?_
    | refine OwI.mk 0 rfl ?_
    | refine OwI.mk 1 rfl ?_
    | refine OwI.mk 2 rfl ?_
    | refine OwI.mk 3 rfl ?_
    | refine OwI.mk 4 rfl ?_
    | refine OwI.mk 5 rfl ?_
    | refine OwI.mk _ (by assumption) ?_
    | refine OwI.mk _ (set_at (by assumption)) ?_
    | refine OwI.mk _ (set_at (set_at (by assumption))) ?_
    | refine OwL.mk _ (by assumption) ?_
    | refine OwL.mk _ (set_at (by assumption)) ?_
    | refine OwL.mk _ (set_at (set_at (by assumption))) ?_
    | refine OwL.mk _ (set_at (set_at (set_at (by assumption)))) ?_
    | refine IxD.own 0 rfl rfl ?_
    | refine IxD.own 1 rfl rfl ?_
    | refine IxD.own 2 rfl rfl ?_
    | refine IxD.own 3 rfl rfl ?_
    | refine IxD.own 4 rfl rfl ?_
    | refine IxD.own 5 rfl rfl ?_
    | refine IxD.own _ (by assumption) rfl ?_
    | refine IxD.own _ (set_at (by assumption)) rfl ?_
    | refine IxD.own _ (set_at (set_at (by assumption))) rfl ?_
    | refine IxD.own _ (set_at (set_at (set_at (by assumption)))) rfl ?_
    | refine IxD.tup rfl ?_
    | refine IxD.lst rfl ?_
    | refine IntD.int ?_
    | refine IntD.bl ?_
    | refine TruD.bl ?_
    | refine TruD.int ?_
    | refine TruD.tup ?_
    | refine TruD.lst ?_
    | refine LenD.tup ?_
    | refine LenD.lst ?_
    | refine SeqD.tup ?_
    | refine SeqD.lst ?_
    | refine SlD.tup ?_
    | refine SlD.lst ?_
    | refine SeqD.own 0 rfl ?_
    | refine SeqD.own 1 rfl ?_
    | refine SeqD.own 2 rfl ?_
    | refine SeqD.own 3 rfl ?_
    | refine SeqD.own 4 rfl ?_
    | refine SeqD.own 5 rfl ?_
    | refine LenD.own 0 rfl ?_
    | refine LenD.own 1 rfl ?_
    | refine LenD.own 2 rfl ?_
    | refine LenD.own 3 rfl ?_
    | refine LenD.own 4 rfl ?_
    | refine LenD.own 5 rfl ?_)
local macro_rules | `(tactic| walk_at "e1") => `(tactic| first
    | (refine gWE ?_; walk_at "e.we")
    | (refine gBinD ?_; walk_at "e.bin")
    | (refine gWSs ?_; walk_at "e.wss")
    | (refine gWS ?_; walk_at "e.ws")
    | (refine gWT ?_; walk_at "e.wt")
    | (refine gCmpD ?_; walk_at "e.cmp")
    | (refine gWA ?_; walk_at "e.wa")
    | (refine gWW ?_; walk_at "e.ww")
    | refine iteT ?_
    | refine iteF ?_
    | walk_at "e.is")
local macro_rules | `(tactic| walk_at "x1") => `(tactic| first
    | (refine gWE ?_; walk_at "e.we")
    | (refine gBinD ?_; walk_at "e.bin")
    | (refine gWT ?_; walk_at "e.wt")
    | (refine gCmpD ?_; walk_at "e.cmp")
    | (refine gWA ?_; walk_at "e.wa")
    | (refine gWW ?_; walk_at "e.ww")
    | refine iteT ?_
    | refine iteF ?_
    | walk_at "e.is")
local macro_rules | `(tactic| walk_at "e") => `(tactic| repeat (walk_at "e1"))
local macro_rules | `(tactic| walk_at "x") => `(tactic| repeat (walk_at "x1"))
/-! ### segments -/
structure Seg where
  kind : Int
  opener : Int
  number : Int
  place : Int
  told : Int
  room : Int
  last : Bool
  body : List D
abbrev Seg.d (s : Seg) : D := .tup [I s.kind, I s.opener, I s.number, I s.place, I s.told, I s.room, B s.last, .tup s.body]
structure Seg.Ok (s : Seg) : Prop where
  k0 : 1 ≤ s.kind
  k1 : s.kind ≤ 3
  o0 : 0 ≤ s.opener
  o1 : s.opener < 65536
  n0 : 0 ≤ s.number
  n1 : s.number < 16384
  p0 : 0 ≤ s.place
  p1 : s.place < 16384
  t0 : 0 ≤ s.told
  t1 : s.told < 16384
  r0 : 0 ≤ s.room
  r1 : s.room < 16384
  b1 : s.body.length < 100
def Seg.bytes (s : Seg) : List D := nt s.kind ++ [I (s.opener / 256), I (s.opener % 256)] ++ nt s.number ++ nt s.place ++ nt s.told ++ nt s.room ++ [B s.last] ++ (nt s.body.length ++ s.body)
theorem nt_len (n : Int) : (nt n).length ≤ 2 := by unfold nt; split <;> simp
def S_blobb : SpD := fun ds M xr R => ∃ bs : List D, ds = [.tup bs] ∧ bs.length < 16384 ∧ R M (.tup (nt bs.length ++ bs))
def S_segb : SpD := fun ds M xr R => ∃ s : Seg, ds = [s.d] ∧ s.Ok ∧ R M (.tup s.bytes)
def S_begun : SpD := fun ds M xr R => ∃ (s : Seg) (o n : Int), ds = [s.d, I o, I n] ∧ Seg.Ok { s with opener := o, number := n } ∧ R M (.tup (Seg.bytes { s with opener := o, number := n }))
section
variable {P : Program} {w : World} {K : PySem.W.Frag} {mg : Str → Option Value} {base : Heap} {G : Hp → Prop}
theorem gf_blobb {f fn : Addr} {fd : FuncData} (F : Fun K "blob_bytes" "blob_bytes" s_blob_bytes f fd) (gs : Gst G) (ml : mg "len" = none) (mn : mg "natural_bytes" = some (.ref fn)) (g1 : Gf P w K mg base G 1 fn [] S_nat) : Gf P w K mg base G 2 f [] S_blobb := by
  refine gf_of F sc_blob_bytes gs (F.binds fun _ _ _ _ _ _ us hl => match us, hl with | [_], _ => rfl) .nil (fun ds M xr R h => by obtain ⟨bs, rfl, _⟩ := h; rfl) ?_
  rintro X W M ds xr R ⟨cdv, A, outer, s, H, E0, rfl⟩ cx ⟨bs, rfl, hl, hok⟩
  refine wss_one (ws_ret (we_bin gs (we_call cx g1 (by decide) mn rfl ?_)))
  walk_at "e"
  refine .inl ⟨_, rfl, by omega, by omega, ?_⟩
  walk_at "e"
  have := nt_len bs.length
  exact BinD.addT (by simp only [sizeLine]; omega) hok
theorem gf_segb {f fn fx fb : Addr} {fd : FuncData} (F : Fun K "segment_bytes" "segment_bytes" s_segment_bytes f fd) (gs : Gst G) (mn : mg "natural_bytes" = some (.ref fn)) (g1 : Gf P w K mg base G 1 fn [] S_nat) (mx : mg "fixed_bytes" = some (.ref fx)) (g2 : Gf P w K mg base G 1 fx [] S_fix) (mb : mg "blob_bytes" = some (.ref fb)) (g3 : Gf P w K mg base G 2 fb [] S_blobb) : Gf P w K mg base G 3 f [] S_segb := by
  refine gf_of F sc_segment_bytes gs (F.binds fun _ _ _ _ _ _ us hl => match us, hl with | [_], _ => rfl) .nil (fun ds M xr R h => by obtain ⟨n, rfl, _⟩ := h; rfl) ?_
  rintro X W M ds xr R ⟨cdv, A, outer, s, H, E0, rfl⟩ cx ⟨g, rfl, hg, hok⟩
  refine wss_cons (ws_asg (pg_tup cx.hc (pgs_cons (pgn 1 cx.nd) (pgs_cons (pgn 2 cx.nd) (pgs_cons (pgn 3 cx.nd) (pgs_cons (pgn 4 cx.nd) (pgs_cons (pgn 5 cx.nd) (pgs_cons (pgn 6 cx.nd) (pgs_cons (pgn 7 cx.nd) (pgs_cons (pgn 8 cx.nd) pgs_nil))))))))) (gok_tup (gsok_cons (gok_name 1) (gsok_cons (gok_name 2) (gsok_cons (gok_name 3) (gsok_cons (gok_name 4) (gsok_cons (gok_name 5) (gsok_cons (gok_name 6) (gsok_cons (gok_name 7) (gsok_cons (gok_name 8) gsok_nil)))))))) rfl) ?_)
  walk_at "x"
  refine ⟨_, rfl, rfl, _, _, rfl, _, _, rfl, _, _, rfl, _, _, rfl, _, _, rfl, _, _, rfl, _, _, rfl, _, _, rfl, rfl, ?_⟩
  walk_at "e"
  refine we_call cx g1 (by decide) mn rfl ?_
  walk_at "e"
  have k0 := hg.k0
  have k1 := hg.k1
  refine .inl ⟨_, rfl, by omega, by omega, ?_⟩
  walk_at "e"
  refine we_call cx g2 (by decide) mx rfl ?_
  walk_at "e"
  refine ⟨_, rfl, hg.o0, hg.o1, BinD.addT (Nat.le_trans (Nat.add_le_add (nt_len _) (Nat.le_refl 2)) (by decide)) ?_⟩
  let ps : List (D × List D) := [(I g.number, nt g.number), (I g.place, nt g.place), (I g.told, nt g.told), (I g.room, nt g.room), (B g.last, [B g.last])]
  have hps : ∀ x ∈ ps, x.2.length ≤ 2 ∧ ∀ M xr R, R M (.tup x.2) → S_nat [x.1] M xr R := by
    intro x hx
    simp only [ps, List.mem_cons, List.not_mem_nil, or_false] at hx
    rcases hx with rfl | rfl | rfl | rfl | rfl
    · exact ⟨nt_len _, fun M xr R h => .inl ⟨_, rfl, hg.n0, hg.n1, h⟩⟩
    · exact ⟨nt_len _, fun M xr R h => .inl ⟨_, rfl, hg.p0, hg.p1, h⟩⟩
    · exact ⟨nt_len _, fun M xr R h => .inl ⟨_, rfl, hg.t0, hg.t1, h⟩⟩
    · exact ⟨nt_len _, fun M xr R h => .inl ⟨_, rfl, hg.r0, hg.r1, h⟩⟩
    · exact ⟨by simp, fun M xr R h => .inr ⟨_, rfl, h⟩⟩
  have hlen : ∀ i, (((ps.take i).map (·.2)).flatten).length ≤ 2 * i := by
    intro i
    rw [List.length_flatten, List.map_map]
    have : ∀ l : List (D × List D), (∀ x ∈ l, x.2.length ≤ 2) → (l.map (List.length ∘ (·.2))).sum ≤ 2 * l.length := by
      intro l
      induction l with
      | nil => intro _; simp
      | cons a l ih =>
        intro h
        have h1 := h a List.mem_cons_self
        have h2 := ih fun x hx => h x (List.mem_cons_of_mem _ hx)
        simp only [List.map_cons, List.sum_cons, List.length_cons, Function.comp]
        omega
    have h3 := this (ps.take i) fun x hx => (hps x (List.mem_of_mem_take hx)).1
    have h4 : (ps.take i).length ≤ i := by rw [List.length_take]; omega
    omega
  let b0 : List D := nt g.kind ++ [I (g.opener / 256), I (g.opener % 256)]
  have hb0 : b0.length ≤ 4 := by
    have := nt_len g.kind
    simp only [b0, List.length_append, List.length_cons, List.length_nil]
    omega
  refine wss_cons (ws_for cx (pgn 10 cx.nd) (gok_name 10) (fun i M' ρ' => M' = M ∧ ∃ z, ρ' = [some g.d, some (I g.kind), some (I g.opener), some (I g.number), some (I g.place), some (I g.told), some (I g.room), some (B g.last), some (.tup g.body), some (.tup (b0 ++ ((ps.take i).map (·.2)).flatten)), z]) (wi_tup ?_))
  walk_at "e"
  refine ⟨⟨rfl, none, by rw [List.take_zero, List.map_nil, List.flatten_nil, List.append_nil]; rfl⟩, ?_, ?_⟩
  · rintro i z hz M' ρ' ⟨rfl, y, rfl⟩
    have hz' : ∃ x, ps[i]? = some x ∧ x.1 = z := by
      have e : [I g.number, I g.place, I g.told, I g.room, B g.last] = ps.map (·.1) := rfl
      rw [e] at hz
      obtain ⟨x, h1, h2⟩ := map_at hz
      exact ⟨x, h1, h2.symm⟩
    obtain ⟨x, hx, rfl⟩ := hz'
    obtain ⟨x1, x2⟩ := hps x (List.mem_of_getElem? hx)
    have hi := at_lt hx
    have hl5 : ps.length = 5 := rfl
    walk_at "e"
    refine we_call cx g1 (by decide) mn rfl ?_
    walk_at "e"
    refine x2 _ _ _ (BinD.addT ?_ ?_)
    · rw [List.length_append]
      have := hlen i
      simp only [sizeLine]
      omega
    · refine wss_nil ⟨rfl, some x.1, ?_⟩
      have e : ((ps.take (i + 1)).map (·.2)).flatten = ((ps.take i).map (·.2)).flatten ++ x.2 := by
        rw [take_succ hx, List.map_append, List.flatten_append]
        simp
      rw [e, ← List.append_assoc]
      rfl
  · rintro M' ρ' ⟨rfl, y, rfl⟩
    refine wss_one (ws_ret (we_bin gs ?_))
    walk_at "e"
    refine we_call cx g3 (by decide) mb rfl ?_
    walk_at "e"
    have hb1 := hg.b1
    refine ⟨_, rfl, by omega, BinD.addT ?_ ?_⟩
    · have h5 := hlen 5
      have h6 := nt_len g.body.length
      have h7 : (b0 ++ ((ps.take 5).map (·.2)).flatten).length = b0.length + (((ps.take 5).map (·.2)).flatten).length := List.length_append
      have h8 : (nt g.body.length ++ g.body).length = (nt g.body.length).length + g.body.length := List.length_append
      show (b0 ++ ((ps.take 5).map (·.2)).flatten).length + (nt g.body.length ++ g.body).length ≤ sizeLine
      rw [h7, h8]
      simp only [sizeLine]
      omega
    · have e : Seg.bytes g = b0 ++ ((ps.take 5).map (·.2)).flatten ++ (nt g.body.length ++ g.body) := by
        simp [Seg.bytes, b0, ps]
      rw [e] at hok
      exact hok
end

end K24
set_option maxRecDepth 100000
set_option maxHeartbeats 4000000

namespace K24
open PySem PySem.Spec PyProof.Rows L2 Wv
open LamX (CodeO TabS Tabs ExtN TabB lamEnv lamCx LamS)
local macro_rules | `(tactic| walk_at "e.name") => `(tactic| first
    | refine we_var 0 _ rfl (by first | exact .inl rfl | exact .inr (.inl rfl) | exact .inr (.inr rfl)) rfl ?_
    | refine we_var 1 _ rfl (by first | exact .inl rfl | exact .inr (.inl rfl) | exact .inr (.inr rfl)) rfl ?_
    | refine we_var 2 _ rfl (by first | exact .inl rfl | exact .inr (.inl rfl) | exact .inr (.inr rfl)) rfl ?_
    | refine we_var 3 _ rfl (by first | exact .inl rfl | exact .inr (.inl rfl) | exact .inr (.inr rfl)) rfl ?_
    | refine we_var 4 _ rfl (by first | exact .inl rfl | exact .inr (.inl rfl) | exact .inr (.inr rfl)) rfl ?_
    | refine we_var 5 _ rfl (by first | exact .inl rfl | exact .inr (.inl rfl) | exact .inr (.inr rfl)) rfl ?_
    | refine we_var 6 _ rfl (by first | exact .inl rfl | exact .inr (.inl rfl) | exact .inr (.inr rfl)) rfl ?_
    | refine we_var 7 _ rfl (by first | exact .inl rfl | exact .inr (.inl rfl) | exact .inr (.inr rfl)) rfl ?_
    | refine we_var 8 _ rfl (by first | exact .inl rfl | exact .inr (.inl rfl) | exact .inr (.inr rfl)) rfl ?_
    | refine we_var 9 _ rfl (by first | exact .inl rfl | exact .inr (.inl rfl) | exact .inr (.inr rfl)) rfl ?_
    | refine we_var 10 _ rfl (by first | exact .inl rfl | exact .inr (.inl rfl) | exact .inr (.inr rfl)) rfl ?_
    | refine we_var 11 _ rfl (by first | exact .inl rfl | exact .inr (.inl rfl) | exact .inr (.inr rfl)) rfl ?_
    | refine we_var 12 _ rfl (by first | exact .inl rfl | exact .inr (.inl rfl) | exact .inr (.inr rfl)) rfl ?_
    | refine we_var 13 _ rfl (by first | exact .inl rfl | exact .inr (.inl rfl) | exact .inr (.inr rfl)) rfl ?_
    | refine we_var 14 _ rfl (by first | exact .inl rfl | exact .inr (.inl rfl) | exact .inr (.inr rfl)) rfl ?_
    | refine we_var 15 _ rfl (by first | exact .inl rfl | exact .inr (.inl rfl) | exact .inr (.inr rfl)) rfl ?_
    | refine we_var 16 _ rfl (by first | exact .inl rfl | exact .inr (.inl rfl) | exact .inr (.inr rfl)) rfl ?_
    | refine we_var 17 _ rfl (by first | exact .inl rfl | exact .inr (.inl rfl) | exact .inr (.inr rfl)) rfl ?_
    | refine we_var 18 _ rfl (by first | exact .inl rfl | exact .inr (.inl rfl) | exact .inr (.inr rfl)) rfl ?_
    | refine we_var 19 _ rfl (by first | exact .inl rfl | exact .inr (.inl rfl) | exact .inr (.inr rfl)) rfl ?_
    | refine we_var 20 _ rfl (by first | exact .inl rfl | exact .inr (.inl rfl) | exact .inr (.inr rfl)) rfl ?_
    | refine we_var 21 _ rfl (by first | exact .inl rfl | exact .inr (.inl rfl) | exact .inr (.inr rfl)) rfl ?_
    | refine we_var 22 _ rfl (by first | exact .inl rfl | exact .inr (.inl rfl) | exact .inr (.inr rfl)) rfl ?_
    | refine we_var 23 _ rfl (by first | exact .inl rfl | exact .inr (.inl rfl) | exact .inr (.inr rfl)) rfl ?_
    | refine we_var 24 _ rfl (by first | exact .inl rfl | exact .inr (.inl rfl) | exact .inr (.inr rfl)) rfl ?_
    | refine we_var 25 _ rfl (by first | exact .inl rfl | exact .inr (.inl rfl) | exact .inr (.inr rfl)) rfl ?_
    | refine we_var 26 _ rfl (by first | exact .inl rfl | exact .inr (.inl rfl) | exact .inr (.inr rfl)) rfl ?_
    | refine we_var 27 _ rfl (by first | exact .inl rfl | exact .inr (.inl rfl) | exact .inr (.inr rfl)) rfl ?_
    | refine we_var 28 _ rfl (by first | exact .inl rfl | exact .inr (.inl rfl) | exact .inr (.inr rfl)) rfl ?_
    | refine we_var 29 _ rfl (by first | exact .inl rfl | exact .inr (.inl rfl) | exact .inr (.inr rfl)) rfl ?_
    | refine we_globI (by assumption) rfl ?_
    | refine we_globS (by assumption) rfl ?_)
local macro_rules | `(tactic| walk_at "e.const") => `(tactic| first
    | refine we_int ?_
    | refine we_str ?_
    | refine we_bl ?_
    | refine we_non ?_)
local macro_rules | `(tactic| walk_at "e.call") => `(tactic| first
    | refine we_len (by assumption) rfl ?_
    | refine we_int2 (by assumption) rfl ?_
    | refine we_tuple (Ct.gs (by assumption)) (by assumption) rfl ?_
    | refine we_abs (by assumption) rfl ?_
    | refine we_find ?_)
local macro_rules | `(tactic| walk_at "e.we") => `(tactic| first
    | (refine gNm ?_; walk_at "e.name")
    | (refine gConst ?_; walk_at "e.const")
    | refine we_bin (Ct.gs (by assumption)) ?_
    | (refine gCall ?_; walk_at "e.call")
    | refine we_cmp (Ct.hu (by assumption)) ?_
    | refine we_ix ?_
    | refine we_slice (Ct.gs (by assumption)) ?_
    | refine we_fld ?_
    | refine we_tup (Ct.gs (by assumption)) ?_
    | refine we_chain (Ct.hu (by assumption)) ?_
    | refine we_lst1 (Ct.gs (by assumption)) ?_
    | refine we_ifx ?_
    | refine we_and ?_
    | refine we_or ?_
    | refine we_one ?_
    | refine we_not ?_
    | refine we_negI ?_
    | refine we_neg ?_)
local macro_rules | `(tactic| walk_at "e.wt") => `(tactic| first
    | refine wt_cmp (Ct.hu (by assumption)) ?_
    | refine wt_chain (Ct.hu (by assumption)) ?_
    | refine wt_not ?_
    | refine wt_bool ?_
    | refine wt_val ?_)
local macro_rules | `(tactic| walk_at "e.ww") => `(tactic| first
    | refine ww_and ?_
    | refine ww_or ?_
    | refine ww_and1 ?_
    | refine ww_or1 ?_)
local macro_rules | `(tactic| walk_at "e.wa") => `(tactic| first
    | refine wa_nil ?_
    | refine wa_cons ?_)
local macro_rules | `(tactic| walk_at "e.wss") => `(tactic| first
    | refine wss_cons ?_
    | refine wss_nil ?_)
local macro_rules | `(tactic| walk_at "e.ws") => `(tactic| first
    | refine ws_if ?_
    | refine ws_expr (we_append (Ct.gs (by assumption)) ?_ (pe_bm PySem.F.plainAttrs_list PySem.F.slot_list_append PySem.F.type_list_append mt_append pe_wp pa_wp))
    | refine ws_fldSub (Ct.gs (by assumption)) ?_
    | refine ws_fldAddW (Ct.gs (by assumption)) ?_
    | refine ws_expr ?_
    | refine ws_set 0 (Ct.nd (by assumption)) ?_
    | refine ws_set 1 (Ct.nd (by assumption)) ?_
    | refine ws_set 2 (Ct.nd (by assumption)) ?_
    | refine ws_set 3 (Ct.nd (by assumption)) ?_
    | refine ws_set 4 (Ct.nd (by assumption)) ?_
    | refine ws_set 5 (Ct.nd (by assumption)) ?_
    | refine ws_set 6 (Ct.nd (by assumption)) ?_
    | refine ws_set 7 (Ct.nd (by assumption)) ?_
    | refine ws_set 8 (Ct.nd (by assumption)) ?_
    | refine ws_set 9 (Ct.nd (by assumption)) ?_
    | refine ws_set 10 (Ct.nd (by assumption)) ?_
    | refine ws_set 11 (Ct.nd (by assumption)) ?_
    | refine ws_set 12 (Ct.nd (by assumption)) ?_
    | refine ws_set 13 (Ct.nd (by assumption)) ?_
    | refine ws_set 14 (Ct.nd (by assumption)) ?_
    | refine ws_set 15 (Ct.nd (by assumption)) ?_
    | refine ws_set 16 (Ct.nd (by assumption)) ?_
    | refine ws_set 17 (Ct.nd (by assumption)) ?_
    | refine ws_set 18 (Ct.nd (by assumption)) ?_
    | refine ws_set 19 (Ct.nd (by assumption)) ?_
    | refine ws_set 20 (Ct.nd (by assumption)) ?_
    | refine ws_set 21 (Ct.nd (by assumption)) ?_
    | refine ws_set 22 (Ct.nd (by assumption)) ?_
    | refine ws_set 23 (Ct.nd (by assumption)) ?_
    | refine ws_set 24 (Ct.nd (by assumption)) ?_
    | refine ws_set 25 (Ct.nd (by assumption)) ?_
    | refine ws_set 26 (Ct.nd (by assumption)) ?_
    | refine ws_set 27 (Ct.nd (by assumption)) ?_
    | refine ws_set 28 (Ct.nd (by assumption)) ?_
    | refine ws_set 29 (Ct.nd (by assumption)) ?_
    | refine ws_sub (Ct.gs (by assumption)) ?_ (fun a b => pg_sub a b set_list)
    | refine ws_fld (Ct.gs (by assumption)) ?_
    | refine ws_pass ?_
    | refine ws_break ?_
    | refine ws_cont ?_)
local macro_rules | `(tactic| walk_at "e.bin") => `(tactic| first
    | refine BinD.addI ?_
    | refine BinD.subI ?_
    | refine BinD.modP (by assumption) ?_
    | refine BinD.divP (by assumption) ?_
    | refine BinD.modI (by decide) ?_
    | refine BinD.modI (by assumption) ?_
    | refine BinD.divI (by decide) (by decide) ?_
    | refine BinD.divI (by assumption) (by assumption) ?_
    | refine BinD.mulI (by first | exact .inl ⟨by decide, by decide⟩ | exact .inr ⟨by decide, by decide⟩) ?_
    | refine BinD.xorI ?_
    | refine BinD.powI ⟨by decide, by decide, by decide⟩ ?_)
local macro_rules | `(tactic| walk_at "e.cmp") => `(tactic| first
    | refine CmpD.lt ?_
    | refine CmpD.le ?_
    | refine CmpD.gt ?_
    | refine CmpD.ge ?_
    | refine CmpD.isN ?_
    | refine CmpD.notN ?_
    | refine CmpD.neI_s ?_
    | refine CmpD.neT_s ?_
    | refine CmpD.neZ_s ?_
    | refine CmpD.eqZ_s ?_
    | refine CmpD.neN_s ?_
    | refine CmpD.eqN_s ?_
    | refine CmpD.neTZ ?_
    | refine CmpD.eqTZ ?_
    | refine CmpD.eqI ?_
    | refine CmpD.neI ?_
    | refine CmpD.eqZ ?_
    | refine CmpD.neZ ?_)
local macro_rules | `(tactic| walk_at "e.is") => `(tactic| first
    | refine gSz ?_
    | refine gFld (by assumption) (by assumption) rfl ?_
    | refine gFldS (by assumption) (by assumption) (by first | decide | (repeat (first | refine plA ?_ | refine plB ?_)); simp) ?_
    | refine gFldU (by first | decide | (repeat (first | refine plA ?_ | refine plB ?_)); simp) ?_
    | refine IsI.mk ?_
    | refine IsT.mk ?_
    | refine IsL.mk ?_
    | refine IsZ.mk ?_
    | refine IsB.mk ?_
    | refine OwL.mk 0 rfl ?_
    | refine OwL.mk 1 rfl ?_
    | refine OwL.mk 2 rfl ?_
    | refine OwL.mk 3 rfl ?_
    | refine OwL.mk 4 rfl ?_
    | refine OwL.mk 5 rfl ?_
    | refine OwI.mk 0 rfl ?_
    | refine OwI.mk 1 rfl ?_
    | refine OwI.mk 2 rfl ?_
    | refine OwI.mk 3 rfl ?_
    | refine OwI.mk 4 rfl ?_
    | refine OwI.mk 5 rfl ?_
    | refine OwI.mk _ (by assumption) ?_
    | refine OwI.mk _ (set_at (by assumption)) ?_
    | refine OwI.mk _ (set_at (set_at (by assumption))) ?_
    | refine OwL.mk _ (by assumption) ?_
    | refine OwL.mk _ (set_at (by assumption)) ?_
    | refine OwL.mk _ (set_at (set_at (by assumption))) ?_
    | refine OwL.mk _ (set_at (set_at (set_at (by assumption)))) ?_
    | refine IxD.own 0 rfl rfl ?_
    | refine IxD.own 1 rfl rfl ?_
    | refine IxD.own 2 rfl rfl ?_
    | refine IxD.own 3 rfl rfl ?_
    | refine IxD.own 4 rfl rfl ?_
    | refine IxD.own 5 rfl rfl ?_
    | refine IxD.own _ (by assumption) rfl ?_
    | refine IxD.own _ (set_at (by assumption)) rfl ?_
    | refine IxD.own _ (set_at (set_at (by assumption))) rfl ?_
    | refine IxD.own _ (set_at (set_at (set_at (by assumption)))) rfl ?_
    | refine IxD.tup rfl ?_
    | refine IxD.lst rfl ?_
    | refine IntD.int ?_
    | refine IntD.bl ?_
    | refine TruD.bl ?_
    | refine TruD.int ?_
    | refine TruD.tup ?_
    | refine TruD.lst ?_
    | refine LenD.tup ?_
    | refine LenD.lst ?_
    | refine SeqD.tup ?_
    | refine SeqD.lst ?_
    | refine SlD.tup ?_
    | refine SlD.lst ?_
    | refine SeqD.own 0 rfl ?_
    | refine SeqD.own 1 rfl ?_
    | refine SeqD.own 2 rfl ?_
    | refine SeqD.own 3 rfl ?_
    | refine SeqD.own 4 rfl ?_
    | refine SeqD.own 5 rfl ?_
    | refine LenD.own 0 rfl ?_
    | refine LenD.own 1 rfl ?_
    | refine LenD.own 2 rfl ?_
    | refine LenD.own 3 rfl ?_
    | refine LenD.own 4 rfl ?_
    | refine LenD.own 5 rfl ?_)
local macro_rules | `(tactic| walk_at "e1") => `(tactic| first
    | (refine gWE ?_; walk_at "e.we")
    | (refine gBinD ?_; walk_at "e.bin")
    | (refine gWSs ?_; walk_at "e.wss")
    | (refine gWS ?_; walk_at "e.ws")
    | (refine gWT ?_; walk_at "e.wt")
    | (refine gCmpD ?_; walk_at "e.cmp")
    | (refine gWA ?_; walk_at "e.wa")
    | (refine gWW ?_; walk_at "e.ww")
    | refine iteT ?_
    | refine iteF ?_
    | walk_at "e.is")
local macro_rules | `(tactic| walk_at "x1") => `(tactic| first
    | (refine gWE ?_; walk_at "e.we")
    | (refine gBinD ?_; walk_at "e.bin")
    | (refine gWT ?_; walk_at "e.wt")
    | (refine gCmpD ?_; walk_at "e.cmp")
    | (refine gWA ?_; walk_at "e.wa")
    | (refine gWW ?_; walk_at "e.ww")
    | refine iteT ?_
    | refine iteF ?_
    | walk_at "e.is")
local macro_rules | `(tactic| walk_at "e") => `(tactic| repeat (walk_at "e1"))
local macro_rules | `(tactic| walk_at "x") => `(tactic| repeat (walk_at "x1"))
section
variable {P : Program} {w : World} {K : PySem.W.Frag} {mg : Str → Option Value} {base : Heap} {G : Hp → Prop}
theorem gf_begun {f fs : Addr} {fd : FuncData} (F : Fun K "begun_at" "begun_at" s_begun_at f fd) (gs : Gst G) (ms : mg "segment_bytes" = some (.ref fs)) (g3 : Gf P w K mg base G 3 fs [] S_segb) : Gf P w K mg base G 4 f [] S_begun := by
  refine gf_of F sc_begun_at gs (F.binds fun _ _ _ _ _ _ us hl => match us, hl with | [_, _, _], _ => rfl) .nil (fun ds M xr R h => by obtain ⟨s, o, n, rfl, _⟩ := h; rfl) ?_
  rintro X W M ds xr R ⟨cdv, A, outer, s, H, E0, rfl⟩ cx ⟨g, o, n, rfl, hg, hok⟩
  refine wss_one (ws_ret (we_call cx g3 (by decide) ms rfl ?_))
  walk_at "e"
  exact BinD.addT (by show 3 + 5 ≤ sizeLine; decide) (wa_nil ⟨{ g with opener := o, number := n }, rfl, hg, hok⟩)
end
/-! ### reading a segment -/
theorem drop_at {α : Type} {l m : List α} {p : Nat} (h : l.length = p) : (l ++ m).drop p = m := by rw [← h]; exact List.drop_left
inductive RdAt (bs : List D) : Nat → List D → Prop
  | mk {p : Nat} {r : List D} (h : bs.drop p = r) (hl : p ≤ bs.length) : RdAt bs p r
theorem RdAt.nat {bs r : List D} {p : Nat} {n : Int} (h : RdAt bs p (nt n ++ r)) (h0 : 0 ≤ n) (h1 : n < 16384) : ∃ q, NatAt bs p (I n) q ∧ RdAt bs q r ∧ p ≤ q := by
  obtain ⟨h, hl⟩ := h
  have at0 : ∀ k, bs[p + k]? = (nt n ++ r)[k]? := fun k => by rw [← h, List.getElem?_drop]
  unfold nt at h at0
  by_cases z : n < 128
  · rw [if_pos z] at h at0
    refine ⟨p + 1, .one (at0 0) z, ⟨?_, ?_⟩, by omega⟩
    · rw [← List.drop_drop, h]; rfl
    · have := at_lt (at0 0); omega
  · rw [if_neg z] at h at0
    refine ⟨p + 2, ?_, ⟨?_, ?_⟩, by omega⟩
    · have := NatAt.two (at0 0) (at0 1) (by omega) (by omega) (by omega) (by omega)
      rw [show 128 + n % 128 - 128 + 128 * (n / 128) = n by omega] at this
      exact this
    · rw [← List.drop_drop, h]; rfl
    · have := at_lt (at0 1); omega
theorem RdAt.bl {bs r : List D} {p : Nat} {b : Bool} (h : RdAt bs p ([B b] ++ r)) : NatAt bs p (B b) (p + 1) ∧ RdAt bs (p + 1) r := by
  obtain ⟨h, hl⟩ := h
  have at0 : bs[p]? = some (B b) := by
    have : (bs.drop p)[0]? = some (B b) := by rw [h]; rfl
    rw [List.getElem?_drop] at this
    exact this
  refine ⟨.bl at0, ⟨?_, at_lt at0⟩⟩
  rw [← List.drop_drop, h]; rfl
theorem RdAt.two {bs r : List D} {p : Nat} {x y : D} (h : RdAt bs p ([x, y] ++ r)) : p + 2 ≤ bs.length ∧ (bs.drop p).take 2 = [x, y] ∧ RdAt bs (p + 2) r := by
  obtain ⟨h, hl⟩ := h
  have hl2 : p + 2 ≤ bs.length := by
    have := congrArg List.length h
    rw [List.length_drop] at this
    simp at this
    omega
  exact ⟨hl2, by rw [h]; rfl, ⟨by rw [← List.drop_drop, h]; rfl, hl2⟩⟩

end K24
set_option maxRecDepth 100000
set_option maxHeartbeats 4000000

namespace K24
open PySem PySem.Spec PyProof.Rows L2 Wv
open LamX (CodeO TabS Tabs ExtN TabB lamEnv lamCx LamS)
local macro_rules | `(tactic| walk_at "e.name") => `(tactic| first
    | refine we_var 0 _ rfl (by first | exact .inl rfl | exact .inr (.inl rfl) | exact .inr (.inr rfl)) rfl ?_
    | refine we_var 1 _ rfl (by first | exact .inl rfl | exact .inr (.inl rfl) | exact .inr (.inr rfl)) rfl ?_
    | refine we_var 2 _ rfl (by first | exact .inl rfl | exact .inr (.inl rfl) | exact .inr (.inr rfl)) rfl ?_
    | refine we_var 3 _ rfl (by first | exact .inl rfl | exact .inr (.inl rfl) | exact .inr (.inr rfl)) rfl ?_
    | refine we_var 4 _ rfl (by first | exact .inl rfl | exact .inr (.inl rfl) | exact .inr (.inr rfl)) rfl ?_
    | refine we_var 5 _ rfl (by first | exact .inl rfl | exact .inr (.inl rfl) | exact .inr (.inr rfl)) rfl ?_
    | refine we_var 6 _ rfl (by first | exact .inl rfl | exact .inr (.inl rfl) | exact .inr (.inr rfl)) rfl ?_
    | refine we_var 7 _ rfl (by first | exact .inl rfl | exact .inr (.inl rfl) | exact .inr (.inr rfl)) rfl ?_
    | refine we_var 8 _ rfl (by first | exact .inl rfl | exact .inr (.inl rfl) | exact .inr (.inr rfl)) rfl ?_
    | refine we_var 9 _ rfl (by first | exact .inl rfl | exact .inr (.inl rfl) | exact .inr (.inr rfl)) rfl ?_
    | refine we_var 10 _ rfl (by first | exact .inl rfl | exact .inr (.inl rfl) | exact .inr (.inr rfl)) rfl ?_
    | refine we_var 11 _ rfl (by first | exact .inl rfl | exact .inr (.inl rfl) | exact .inr (.inr rfl)) rfl ?_
    | refine we_var 12 _ rfl (by first | exact .inl rfl | exact .inr (.inl rfl) | exact .inr (.inr rfl)) rfl ?_
    | refine we_var 13 _ rfl (by first | exact .inl rfl | exact .inr (.inl rfl) | exact .inr (.inr rfl)) rfl ?_
    | refine we_var 14 _ rfl (by first | exact .inl rfl | exact .inr (.inl rfl) | exact .inr (.inr rfl)) rfl ?_
    | refine we_var 15 _ rfl (by first | exact .inl rfl | exact .inr (.inl rfl) | exact .inr (.inr rfl)) rfl ?_
    | refine we_var 16 _ rfl (by first | exact .inl rfl | exact .inr (.inl rfl) | exact .inr (.inr rfl)) rfl ?_
    | refine we_var 17 _ rfl (by first | exact .inl rfl | exact .inr (.inl rfl) | exact .inr (.inr rfl)) rfl ?_
    | refine we_var 18 _ rfl (by first | exact .inl rfl | exact .inr (.inl rfl) | exact .inr (.inr rfl)) rfl ?_
    | refine we_var 19 _ rfl (by first | exact .inl rfl | exact .inr (.inl rfl) | exact .inr (.inr rfl)) rfl ?_
    | refine we_var 20 _ rfl (by first | exact .inl rfl | exact .inr (.inl rfl) | exact .inr (.inr rfl)) rfl ?_
    | refine we_var 21 _ rfl (by first | exact .inl rfl | exact .inr (.inl rfl) | exact .inr (.inr rfl)) rfl ?_
    | refine we_var 22 _ rfl (by first | exact .inl rfl | exact .inr (.inl rfl) | exact .inr (.inr rfl)) rfl ?_
    | refine we_var 23 _ rfl (by first | exact .inl rfl | exact .inr (.inl rfl) | exact .inr (.inr rfl)) rfl ?_
    | refine we_var 24 _ rfl (by first | exact .inl rfl | exact .inr (.inl rfl) | exact .inr (.inr rfl)) rfl ?_
    | refine we_var 25 _ rfl (by first | exact .inl rfl | exact .inr (.inl rfl) | exact .inr (.inr rfl)) rfl ?_
    | refine we_var 26 _ rfl (by first | exact .inl rfl | exact .inr (.inl rfl) | exact .inr (.inr rfl)) rfl ?_
    | refine we_var 27 _ rfl (by first | exact .inl rfl | exact .inr (.inl rfl) | exact .inr (.inr rfl)) rfl ?_
    | refine we_var 28 _ rfl (by first | exact .inl rfl | exact .inr (.inl rfl) | exact .inr (.inr rfl)) rfl ?_
    | refine we_var 29 _ rfl (by first | exact .inl rfl | exact .inr (.inl rfl) | exact .inr (.inr rfl)) rfl ?_
    | refine we_globI (by assumption) rfl ?_
    | refine we_globS (by assumption) rfl ?_)
local macro_rules | `(tactic| walk_at "e.const") => `(tactic| first
    | refine we_int ?_
    | refine we_str ?_
    | refine we_bl ?_
    | refine we_non ?_)
local macro_rules | `(tactic| walk_at "e.call") => `(tactic| first
    | refine we_len (by assumption) rfl ?_
    | refine we_int2 (by assumption) rfl ?_
    | refine we_tuple (Ct.gs (by assumption)) (by assumption) rfl ?_
    | refine we_abs (by assumption) rfl ?_
    | refine we_find ?_)
local macro_rules | `(tactic| walk_at "e.we") => `(tactic| first
    | (refine gNm ?_; walk_at "e.name")
    | (refine gConst ?_; walk_at "e.const")
    | refine we_bin (Ct.gs (by assumption)) ?_
    | (refine gCall ?_; walk_at "e.call")
    | refine we_cmp (Ct.hu (by assumption)) ?_
    | refine we_ix ?_
    | refine we_slice (Ct.gs (by assumption)) ?_
    | refine we_fld ?_
    | refine we_tup (Ct.gs (by assumption)) ?_
    | refine we_chain (Ct.hu (by assumption)) ?_
    | refine we_lst1 (Ct.gs (by assumption)) ?_
    | refine we_ifx ?_
    | refine we_and ?_
    | refine we_or ?_
    | refine we_one ?_
    | refine we_not ?_
    | refine we_negI ?_
    | refine we_neg ?_)
local macro_rules | `(tactic| walk_at "e.wt") => `(tactic| first
    | refine wt_cmp (Ct.hu (by assumption)) ?_
    | refine wt_chain (Ct.hu (by assumption)) ?_
    | refine wt_not ?_
    | refine wt_bool ?_
    | refine wt_val ?_)
local macro_rules | `(tactic| walk_at "e.ww") => `(tactic| first
    | refine ww_and ?_
    | refine ww_or ?_
    | refine ww_and1 ?_
    | refine ww_or1 ?_)
local macro_rules | `(tactic| walk_at "e.wa") => `(tactic| first
    | refine wa_nil ?_
    | refine wa_cons ?_)
local macro_rules | `(tactic| walk_at "e.wss") => `(tactic| first
    | refine wss_cons ?_
    | refine wss_nil ?_)
local macro_rules | `(tactic| walk_at "e.ws") => `(tactic| first
    | refine ws_if ?_
    | refine ws_expr (we_append (Ct.gs (by assumption)) ?_ (pe_bm PySem.F.plainAttrs_list PySem.F.slot_list_append PySem.F.type_list_append mt_append pe_wp pa_wp))
    | refine ws_fldSub (Ct.gs (by assumption)) ?_
    | refine ws_fldAddW (Ct.gs (by assumption)) ?_
    | refine ws_expr ?_
    | refine ws_set 0 (Ct.nd (by assumption)) ?_
    | refine ws_set 1 (Ct.nd (by assumption)) ?_
    | refine ws_set 2 (Ct.nd (by assumption)) ?_
    | refine ws_set 3 (Ct.nd (by assumption)) ?_
    | refine ws_set 4 (Ct.nd (by assumption)) ?_
    | refine ws_set 5 (Ct.nd (by assumption)) ?_
    | refine ws_set 6 (Ct.nd (by assumption)) ?_
    | refine ws_set 7 (Ct.nd (by assumption)) ?_
    | refine ws_set 8 (Ct.nd (by assumption)) ?_
    | refine ws_set 9 (Ct.nd (by assumption)) ?_
    | refine ws_set 10 (Ct.nd (by assumption)) ?_
    | refine ws_set 11 (Ct.nd (by assumption)) ?_
    | refine ws_set 12 (Ct.nd (by assumption)) ?_
    | refine ws_set 13 (Ct.nd (by assumption)) ?_
    | refine ws_set 14 (Ct.nd (by assumption)) ?_
    | refine ws_set 15 (Ct.nd (by assumption)) ?_
    | refine ws_set 16 (Ct.nd (by assumption)) ?_
    | refine ws_set 17 (Ct.nd (by assumption)) ?_
    | refine ws_set 18 (Ct.nd (by assumption)) ?_
    | refine ws_set 19 (Ct.nd (by assumption)) ?_
    | refine ws_set 20 (Ct.nd (by assumption)) ?_
    | refine ws_set 21 (Ct.nd (by assumption)) ?_
    | refine ws_set 22 (Ct.nd (by assumption)) ?_
    | refine ws_set 23 (Ct.nd (by assumption)) ?_
    | refine ws_set 24 (Ct.nd (by assumption)) ?_
    | refine ws_set 25 (Ct.nd (by assumption)) ?_
    | refine ws_set 26 (Ct.nd (by assumption)) ?_
    | refine ws_set 27 (Ct.nd (by assumption)) ?_
    | refine ws_set 28 (Ct.nd (by assumption)) ?_
    | refine ws_set 29 (Ct.nd (by assumption)) ?_
    | refine ws_sub (Ct.gs (by assumption)) ?_ (fun a b => pg_sub a b set_list)
    | refine ws_fld (Ct.gs (by assumption)) ?_
    | refine ws_pass ?_
    | refine ws_break ?_
    | refine ws_cont ?_)
local macro_rules | `(tactic| walk_at "e.bin") => `(tactic| first
    | refine BinD.addI ?_
    | refine BinD.subI ?_
    | refine BinD.modP (by assumption) ?_
    | refine BinD.divP (by assumption) ?_
    | refine BinD.modI (by decide) ?_
    | refine BinD.modI (by assumption) ?_
    | refine BinD.divI (by decide) (by decide) ?_
    | refine BinD.divI (by assumption) (by assumption) ?_
    | refine BinD.mulI (by first | exact .inl ⟨by decide, by decide⟩ | exact .inr ⟨by decide, by decide⟩) ?_
    | refine BinD.xorI ?_
    | refine BinD.powI ⟨by decide, by decide, by decide⟩ ?_)
local macro_rules | `(tactic| walk_at "e.cmp") => `(tactic| first
    | refine CmpD.lt ?_
    | refine CmpD.le ?_
    | refine CmpD.gt ?_
    | refine CmpD.ge ?_
    | refine CmpD.isN ?_
    | refine CmpD.notN ?_
    | refine CmpD.neI_s ?_
    | refine CmpD.neT_s ?_
    | refine CmpD.neZ_s ?_
    | refine CmpD.eqZ_s ?_
    | refine CmpD.neN_s ?_
    | refine CmpD.eqN_s ?_
    | refine CmpD.neTZ ?_
    | refine CmpD.eqTZ ?_
    | refine CmpD.eqI ?_
    | refine CmpD.neI ?_
    | refine CmpD.eqZ ?_
    | refine CmpD.neZ ?_)
local macro_rules | `(tactic| walk_at "e.is") => `(tactic| first
    | refine gSz ?_
    | refine gFld (by assumption) (by assumption) rfl ?_
    | refine gFldS (by assumption) (by assumption) (by first | decide | (repeat (first | refine plA ?_ | refine plB ?_)); simp) ?_
    | refine gFldU (by first | decide | (repeat (first | refine plA ?_ | refine plB ?_)); simp) ?_
    | refine IsI.mk ?_
    | refine IsT.mk ?_
    | refine IsL.mk ?_
    | refine IsZ.mk ?_
    | refine IsB.mk ?_
    | refine OwL.mk 0 rfl ?_
    | refine OwL.mk 1 rfl ?_
    | refine OwL.mk 2 rfl ?_
    | refine OwL.mk 3 rfl ?_
    | refine OwL.mk 4 rfl ?_
    | refine OwL.mk 5 rfl ?_
    | refine OwI.mk 0 rfl ?_
    | refine OwI.mk 1 rfl ?_
    | refine OwI.mk 2 rfl ?_
    | refine OwI.mk 3 rfl ?_
    | refine OwI.mk 4 rfl ?_
    | refine OwI.mk 5 rfl ?_
    | refine OwI.mk _ (by assumption) ?_
    | refine OwI.mk _ (set_at (by assumption)) ?_
    | refine OwI.mk _ (set_at (set_at (by assumption))) ?_
    | refine OwL.mk _ (by assumption) ?_
    | refine OwL.mk _ (set_at (by assumption)) ?_
    | refine OwL.mk _ (set_at (set_at (by assumption))) ?_
    | refine OwL.mk _ (set_at (set_at (set_at (by assumption)))) ?_
    | refine IxD.own 0 rfl rfl ?_
    | refine IxD.own 1 rfl rfl ?_
    | refine IxD.own 2 rfl rfl ?_
    | refine IxD.own 3 rfl rfl ?_
    | refine IxD.own 4 rfl rfl ?_
    | refine IxD.own 5 rfl rfl ?_
    | refine IxD.own _ (by assumption) rfl ?_
    | refine IxD.own _ (set_at (by assumption)) rfl ?_
    | refine IxD.own _ (set_at (set_at (by assumption))) rfl ?_
    | refine IxD.own _ (set_at (set_at (set_at (by assumption)))) rfl ?_
    | refine IxD.tup rfl ?_
    | refine IxD.lst rfl ?_
    | refine IntD.int ?_
    | refine IntD.bl ?_
    | refine TruD.bl ?_
    | refine TruD.int ?_
    | refine TruD.tup ?_
    | refine TruD.lst ?_
    | refine LenD.tup ?_
    | refine LenD.lst ?_
    | refine SeqD.tup ?_
    | refine SeqD.lst ?_
    | refine SlD.tup ?_
    | refine SlD.lst ?_
    | refine SeqD.own 0 rfl ?_
    | refine SeqD.own 1 rfl ?_
    | refine SeqD.own 2 rfl ?_
    | refine SeqD.own 3 rfl ?_
    | refine SeqD.own 4 rfl ?_
    | refine SeqD.own 5 rfl ?_
    | refine LenD.own 0 rfl ?_
    | refine LenD.own 1 rfl ?_
    | refine LenD.own 2 rfl ?_
    | refine LenD.own 3 rfl ?_
    | refine LenD.own 4 rfl ?_
    | refine LenD.own 5 rfl ?_)
local macro_rules | `(tactic| walk_at "e1") => `(tactic| first
    | (refine gWE ?_; walk_at "e.we")
    | (refine gBinD ?_; walk_at "e.bin")
    | (refine gWSs ?_; walk_at "e.wss")
    | (refine gWS ?_; walk_at "e.ws")
    | (refine gWT ?_; walk_at "e.wt")
    | (refine gCmpD ?_; walk_at "e.cmp")
    | (refine gWA ?_; walk_at "e.wa")
    | (refine gWW ?_; walk_at "e.ww")
    | refine iteT ?_
    | refine iteF ?_
    | walk_at "e.is")
local macro_rules | `(tactic| walk_at "x1") => `(tactic| first
    | (refine gWE ?_; walk_at "e.we")
    | (refine gBinD ?_; walk_at "e.bin")
    | (refine gWT ?_; walk_at "e.wt")
    | (refine gCmpD ?_; walk_at "e.cmp")
    | (refine gWA ?_; walk_at "e.wa")
    | (refine gWW ?_; walk_at "e.ww")
    | refine iteT ?_
    | refine iteF ?_
    | walk_at "e.is")
local macro_rules | `(tactic| walk_at "e") => `(tactic| repeat (walk_at "e1"))
local macro_rules | `(tactic| walk_at "x") => `(tactic| repeat (walk_at "x1"))
def S_rseg (CS : Addr) : SpD := fun ds M xr R => (∃ s : Seg, ds = [.tup s.bytes] ∧ s.Ok ∧ R M s.d) ∨ (∃ bs, ds = [.tup bs] ∧ (bs = [] ∨ bs = [I 9]) ∧ ∀ Mx, xr (.ref CS) (Mx ++ M))
theorem in3 (k : Int) : ([I 1, I 2, I 3].any fun x => eqd x (I k)) = decide (k = 1 ∨ k = 2 ∨ k = 3) := by
  simp only [List.any_cons, List.any_nil, eqd_int, Bool.or_false]
  rw [Bool.eq_iff_iff]
  simp only [Bool.or_eq_true, decide_eq_true_eq]
  omega
theorem Seg.start (g : Seg) : RdAt g.bytes 0 (nt g.kind ++ ([I (g.opener / 256), I (g.opener % 256)] ++ (nt g.number ++ (nt g.place ++ (nt g.told ++ (nt g.room ++ ([B g.last] ++ (nt g.body.length ++ g.body)))))))) :=
  ⟨by rw [List.drop_zero]; unfold Seg.bytes; simp only [List.append_assoc], Nat.zero_le _⟩
section
variable {P : Program} {w : World} {K : PySem.W.Frag} {mg : Str → Option Value} {base : Heap} {G : Hp → Prop}
theorem gf_rseg {f C CE CS fi fn ft fb fe fx : Addr} {fd : FuncData} {t1 t2 t3 : Tok} (F : Fun K "read_segment" "read_segment" s_read_segment f fd) (gs : Gst G) (E : ExcC K mg "OctetError" CE) (ES : ExcC K mg "SocketError" CS) (exm : PySem.W.exmOne K (.ref CE) (.ref CE) = some true) (dc : RdC K C) (mC : mg "Reader" = some (.ref C)) (mk : Mk K C fi) (gi : Gf P w K mg base G 1 fi [] (S_rinit C))
    (Mn : Meth K C "natural" fn) (gn : Gf P w K mg base G 2 fn [] (S_rnat C CE)) (Mt : Meth K C "take" ft) (gt : Gf P w K mg base G 1 ft [] (S_rtake C CE)) (Mb : Meth K C "blob" fb) (gb : Gf P w K mg base G 3 fb [] (S_rblob C)) (Me : Meth K C "at_end" fe) (ge : Gf P w K mg base G 1 fe [] (S_rend C))
    (mx : mg "fixed_number" = some (.ref fx)) (gx : Gf P w K mg base G 1 fx [] S_fixn) (g1 : mg "OPEN" = some (.int 1 t1)) (g2 : mg "DATA" = some (.int 2 t2)) (g3 : mg "REFUSED" = some (.int 3 t3)) : GfC P w K mg base G 4 f [] (S_rseg CS) := by
  refine gf_ofC F sc_read_segment gs (F.binds fun _ _ _ _ _ _ us hl => match us, hl with | [_], _ => rfl) .nil (fun ds M xr R h => by rcases h with ⟨s, rfl, _⟩ | ⟨bs, rfl, _⟩ <;> rfl) ?_
  rintro X W M ds xr R ⟨cdv, A, outer, s, H, E0, rfl⟩ cx ts hpa h
  rcases h with ⟨g, rfl, hg, hok⟩ | ⟨bs, rfl, hbs, hbad⟩
  · have k0 := hg.k0
    have k1 := hg.k1
    have fin : ∀ (r : Addr) (bs : List D), WSs (cxOf (L2.CX P w) P w K mg base N_read_segment "read_segment" (defScope s_read_segment) f cdv A outer s H E0) G W ((defBody s_read_segment).drop 2) (rdM C r bs bs.length ++ M) [some (.tup bs), some (Rf r), some (I g.kind), some (I g.opener), some (I g.number), some (I g.place), some (I g.told), some (I g.room), some (B g.last), some (.tup g.body)] { nx := fun M' _ => R M' N0, rt := R, bk := fun _ _ => False, ct := fun _ _ => False, xr := xr } := by
      intro r bs
      walk_at "e"
      refine we_meth0 cx ge (by decide) dc.c Me ?_
      walk_at "e"
      refine ⟨rfl, rfl, r, _, _, M, rfl, ⟨_, List.Perm.refl _, List.Sublist.refl _⟩, ?_⟩
      rw [decide_eq_true (Nat.le_refl bs.length)]
      refine TruD.bl (iteF ?_)
      walk_at "e"
      refine CmpD.notInT (.int _) (fun x hx => ?_) ?_
      · simp only [List.mem_cons, List.not_mem_nil, or_false] at hx
        rcases hx with rfl | rfl | rfl <;> exact .int _
      · rw [in3, decide_eq_true (by omega)]
        refine iteF ?_
        walk_at "e"
        have hb : bI g.last ≤ 1 := by unfold bI; split <;> decide
        refine .gtBI (ite_d (fun z => absurd z (by omega)) (fun _ => wss_nil ?_))
        refine wss_one (ws_retS ?_)
        walk_at "e"
        exact ⟨M, List.sublist_cons_self _ _, hok⟩
    refine wss_cons (ws_set 1 cx.nd (we_make cx gi (by decide) mk mC rfl ?_ rinit_ret))
    walk_at "e"
    refine fun r => ⟨r, _, M, rfl, rfl, ?_⟩
    refine wss_cons (ws_tryR cx ts hpa E ES exm rfl rfl ?_)
    rintro Y W' ⟨pn, xe, rfl⟩ cy
    walk_at "e"
    obtain ⟨q1, n1, r1, _⟩ := g.start.nat (by omega) (by omega)
    refine we_meth0 cy gn (by decide) dc.c Mn ?_
    walk_at "e"
    refine ⟨rfl, rfl, r, _, _, M, rfl, ⟨_, List.Perm.refl _, List.Sublist.refl _⟩, .inr ⟨_, _, n1, ?_⟩⟩
    walk_at "e"
    obtain ⟨l2, e2, r2⟩ := r1.two
    refine we_call cy gx (by decide) mx rfl ?_
    refine wa_one (we_meth cy gt (by decide) dc.c Mt ?_)
    walk_at "e"
    refine ⟨rfl, rfl, ?_⟩
    walk_at "e"
    refine ⟨r, _, q1, 2, M, rfl, ⟨_, List.Perm.refl _, List.Sublist.refl _⟩, fun z => by omega, fun _ => ?_⟩
    rw [e2]
    refine ⟨_, _, rfl, ?_⟩
    rw [show 256 * (g.opener / 256) + g.opener % 256 = g.opener by omega]
    walk_at "e"
    obtain ⟨q3, n3, r3, _⟩ := r2.nat hg.n0 hg.n1
    refine we_meth0 cy gn (by decide) dc.c Mn ?_
    walk_at "e"
    refine ⟨rfl, rfl, r, _, _, M, rfl, ⟨_, List.Perm.refl _, List.Sublist.refl _⟩, .inr ⟨_, _, n3, ?_⟩⟩
    walk_at "e"
    obtain ⟨q4, n4, r4, _⟩ := r3.nat hg.p0 hg.p1
    refine we_meth0 cy gn (by decide) dc.c Mn ?_
    walk_at "e"
    refine ⟨rfl, rfl, r, _, _, M, rfl, ⟨_, List.Perm.refl _, List.Sublist.refl _⟩, .inr ⟨_, _, n4, ?_⟩⟩
    walk_at "e"
    obtain ⟨q5, n5, r5, _⟩ := r4.nat hg.t0 hg.t1
    refine we_meth0 cy gn (by decide) dc.c Mn ?_
    walk_at "e"
    refine ⟨rfl, rfl, r, _, _, M, rfl, ⟨_, List.Perm.refl _, List.Sublist.refl _⟩, .inr ⟨_, _, n5, ?_⟩⟩
    walk_at "e"
    obtain ⟨q6, n6, r6, _⟩ := r5.nat hg.r0 hg.r1
    refine we_meth0 cy gn (by decide) dc.c Mn ?_
    walk_at "e"
    refine ⟨rfl, rfl, r, _, _, M, rfl, ⟨_, List.Perm.refl _, List.Sublist.refl _⟩, .inr ⟨_, _, n6, ?_⟩⟩
    walk_at "e"
    obtain ⟨n7, r7⟩ := r6.bl
    refine we_meth0 cy gn (by decide) dc.c Mn ?_
    walk_at "e"
    refine ⟨rfl, rfl, r, _, _, M, rfl, ⟨_, List.Perm.refl _, List.Sublist.refl _⟩, .inr ⟨_, _, n7, ?_⟩⟩
    walk_at "e"
    have hb1 := hg.b1
    obtain ⟨r7, l7⟩ := r7
    have hnt : nt (g.body.length : Int) = [I (g.body.length : Int)] := by unfold nt; rw [if_pos (by omega)]
    rw [hnt] at r7
    have at7 : g.bytes[q6 + 1]? = some (I (g.body.length : Int)) := by
      have : (g.bytes.drop (q6 + 1))[0]? = some (I (g.body.length : Int)) := by rw [r7]; rfl
      rw [List.getElem?_drop] at this
      exact this
    have d8 : g.bytes.drop (q6 + 1 + 1) = g.body := by rw [← List.drop_drop, r7]; rfl
    have l8 : g.bytes.length = q6 + 1 + 1 + g.body.length := by
      have := congrArg List.length r7
      rw [List.length_drop] at this
      simp at this
      omega
    refine we_meth0 cy gb (by decide) dc.c Mb ?_
    walk_at "e"
    refine ⟨rfl, rfl, r, _, _, g.body.length, M, rfl, ⟨_, List.Perm.refl _, List.Sublist.refl _⟩, at7, by omega, by omega, ?_⟩
    rw [d8, List.take_length]
    rw [← l8]
    exact wss_nil (fin r _)
  · refine wss_cons (ws_set 1 cx.nd (we_make cx gi (by decide) mk mC rfl ?_ rinit_ret))
    walk_at "e"
    refine fun r => ⟨r, _, M, rfl, rfl, ?_⟩
    refine wss_cons (ws_tryR cx ts hpa E ES exm rfl rfl ?_)
    rintro Y W' ⟨pn, xe, rfl⟩ cy
    walk_at "e"
    refine we_meth0 cy gn (by decide) dc.c Mn ?_
    walk_at "e"
    rcases hbs with rfl | rfl
    · exact ⟨rfl, rfl, r, _, 0, M, rfl, ⟨_, List.Perm.refl _, List.Sublist.refl _⟩, .inl ⟨rfl, .inl ⟨rfl, hbad _⟩⟩⟩
    · refine ⟨rfl, rfl, r, _, 0, M, rfl, ⟨_, List.Perm.refl _, List.Sublist.refl _⟩, .inr ⟨_, _, .one rfl (by decide), ?_⟩⟩
      walk_at "e"
      refine we_call cy gx (by decide) mx rfl ?_
      refine wa_one (we_meth cy gt (by decide) dc.c Mt ?_)
      walk_at "e"
      refine ⟨rfl, rfl, ?_⟩
      walk_at "e"
      exact ⟨r, _, 1, 2, M, rfl, ⟨_, List.Perm.refl _, List.Sublist.refl _⟩, fun z => .inl ⟨rfl, hbad _⟩, fun z => absurd z (by decide)⟩
end

end K24
set_option maxRecDepth 100000
set_option maxHeartbeats 4000000
namespace Wv
open PySem PySem.Spec PyProof.Rows L2 PySem.W
/-! ### comprehensions whose list stays ours -/
section
variable {X : Cx} {G : Hp → Prop} {W : WX} {M : Ms} {ρ : Rh} {xr : Value → Ms → Prop} {N : En} {pos : Pos} {R : Ms → D → Prop} {k : Nat}
variable {tg it elt e : Expr} {g : TG} {as : D → Rh → (Rh → Prop) → Prop} {ifs : List Expr} {scope : Scope} {own : List (Str × Nat)}
theorem tev_lcGO (cx : Ct X G W k) {wi : TI} (ok : GOk G X.K g as) (gw : GWipe g (own.map (·.2))) (J : Ms → List D → Nat → Ms → List D → Prop) (mono : ∀ d ρ (k k' : Rh → Prop), (∀ r, k r → k' r) → as d ρ k → as d ρ k')
    (h : TIvP G X.K W wi M ρ xr fun M1 l P => (∀ x M', P M' → P (x :: M')) ∧ (∀ i M' acc, J M1 l i M' acc → P M') ∧ J M1 l 0 M1 [] ∧ (∀ n z, l[n]? = some z → TurnC X G k scope as ifs elt (wipeD ρ (own.map (·.2))) (J M1 l) n z) ∧ ∀ M' acc, J M1 l l.length M' acc → ∀ q, R ((q, O.lst acc) :: M') (Rf q)) :
    TEv G X.K W (tLc wi g (fun σ H Q => ∀ Y, Blk X scope Y → ifsT Y ifs σ H Q) (fun σ H Q => ∀ Y, Blk X scope Y → eT Y elt σ H Q) (own.map (·.2))) M ρ xr R := by
  intro σ H a0 b0 x Q q
  refine h σ H a0 b0 x _ fun M1 l P H1 Jt h1 a1 m1 wd => fun Dl hD => ?_
  obtain ⟨hP, hJ, j0, ht, he⟩ := h1
  obtain ⟨Gd, Y, w, hG, hY⟩ := wd
  obtain ⟨a2, m2⟩ := own_lst (X := X) cx.gs a1 hD .nil
  refine lc_it (vs := own.map (·.2)) (g := g) (σ := σ) (tt := fun σ H Q => ∀ Y, Blk X scope Y → ifsT Y ifs σ H Q) (te := fun σ H Q => ∀ Y, Blk X scope Y → eT Y elt σ H Q) w (fun i H' => ∃ M' acc, J M1 l i M' acc ∧ AtM G X.K ((Dl, .lst acc) :: M') H' ∧ Mv M1 H1 ((Dl, .lst acc) :: M') H') ⟨M1, [], j0, a2, m2⟩ (fun i H' _ ⟨M', acc, hj, ha, hm⟩ => hG _ _ (hP _ _ (hJ _ _ _ hj)) ha hm) ?_ ?_
  · rintro i v H' H3 hi ⟨M', acc, hj, ha, hm⟩ y
    obtain ⟨z, hz, ha3, hm3, rz⟩ := hY i H' _ v H3 (hP _ _ (hJ _ _ _ hj)) ha hm y
    have hmm := m1.trans (hm.trans hm3)
    have bs : Sl X.K (dom ((Dl, O.lst acc) :: M')) H3 (L2.wipe σ (own.map (·.2))) (wipeD ρ (own.map (·.2))) := (hmm.sl a0 b0).wipes _
    refine gw v σ H3 _ (ok v z _ _ _ H3 _ _ ha3 bs rz (ht i z hz Dl M' acc hj) fun ρ2 σ2 hw hs => ?_)
    intro Y hY2
    have hK : Y.K = X.K := by obtain ⟨s, H, C, cl, fp, rfl⟩ := hY2; rfl
    have h3 := wts_run (hw Y hY2 (cx.blk hY2))
    rw [hK] at h3
    refine h3 σ2 H3 ha3 hs (fun _ _ _ z => z.elim) _ fun M2 b H4 h2 a4 m4 => ?_
    cases b with
    | false =>
      obtain ⟨M4, rfl, hj4⟩ := (show ∃ M4, M2 = (Dl, O.lst acc) :: M4 ∧ J M1 l (i + 1) M4 acc from h2)
      exact iteF ⟨M4, acc, hj4, a4, (hm.trans hm3).trans m4⟩
    | true =>
      refine iteT fun Y' hY' => ?_
      have hK' : Y'.K = X.K := by obtain ⟨s, H, C, cl, fp, rfl⟩ := hY'; rfl
      have h5 := ((show ∀ Y', Blk X scope Y' → Ct Y' G (fun _ _ _ _ => False) k → WE Y' G (fun _ _ _ _ => False) elt M2 ρ2 (fun _ _ => False) _ from h2) Y' hY' (cx.blk hY')).run
      rw [hK'] at h5
      refine h5 σ2 H4 a4 (m4.sl ha3 hs) (fun _ _ _ z => z.elim) _ fun M3 y v5 H5 h5 a5 m5 r5 => ?_
      obtain ⟨M4, rfl, hl, hj4⟩ := h5
      obtain ⟨xs, e5, rl⟩ := a5.ob (Dl, .lst acc) List.mem_cons_self
      refine ⟨xs, e5, by rw [rl.length]; exact hl, M4, acc ++ [y], hj4, ?_⟩
      have hmw : Mv ((Dl, O.lst acc) :: M4) H5 ((Dl, O.lst acc) :: M4) (upd H5 Dl (.lst (xs ++ [v5]))) := ⟨fun b w e n _ => by
        rw [upd_ne (fun z => n (by rw [z]; exact List.mem_cons_self))]; exact e, fun _ h => .inl h⟩
      obtain ⟨a6, m6⟩ := a5.write cx.gs (i := 0) (o' := .lst (acc ++ [y])) rfl (u := .lst (xs ++ [v5])) (fun _ z => by cases z) ⟨_, upd_same, (hmw.rpl a5 rl).app (.cons (hmw.rp a5 r5) .nil)⟩
      exact ⟨a6, (((hm.trans hm3).trans m4).trans m5).trans m6⟩
  · rintro H' ⟨M', acc, hj, ha, hm⟩
    exact q _ _ _ H' (he M' acc hj Dl) ha (m1.trans hm) (.raw _)
theorem we_lcGO (cx : Ct X G W k) (hN : X.N.Nodup) (own : List (Str × Nat)) (J : Ms → List D → Nat → Ms → List D → Prop) (gok : GOk G X.K g as) (gw : GWipe g (own.map (·.2))) (mono : AMono as)
    (hg : ∀ (s : Shared) (H : Hp) (C : Addr) (cl : List (Str × Addr)) (fp : List Addr), PG (X.blk s H scope (compEnvC scope cl C X.env) fp) tg g) (ok : BlkOk X.N X.env.scope scope own)
    (h : WIP X G W tg it M ρ xr fun M1 l P => (∀ x M', P M' → P (x :: M')) ∧ (∀ i M' acc, J M1 l i M' acc → P M') ∧ J M1 l 0 M1 [] ∧ (∀ n z, l[n]? = some z → TurnC X G k scope as ifs elt (wipeD ρ (own.map (·.2))) (J M1 l) n z) ∧ ∀ M' acc, J M1 l l.length M' acc → ∀ q, R ((q, O.lst acc) :: M') (Rf q))
    (hs : ∀ x, foldedSetIterable it X.env x = pure x := by intro _; rfl) : WE X G W (.ListComp elt [⟨tg, it, ifs, 0⟩] scope pos) M ρ xr R := by
  obtain ⟨wi, hi, h⟩ := h
  exact we_of (pe_lc (own := own) (tt := fun σ H Q => ∀ Y, Blk X scope Y → ifsT Y ifs σ H Q) (te := fun σ H Q => ∀ Y, Blk X scope Y → eT Y elt σ H Q) cx.hc hN hi ok hg
    (fun s H C cl fp => ⟨fun pins s' σ H' Q I h => pts_wp.run pins s' σ H' Q I (h _ ⟨s, H, C, cl, fp, rfl⟩)⟩) (fun s H C cl fp => ⟨fun pins s' σ H' Q I h => pe_wp.run pins s' σ H' Q I (h _ ⟨s, H, C, cl, fp, rfl⟩)⟩) hs) (tev_lcGO cx gok gw J mono h)
end
section
variable {α : Type}
variable {X : Cx} {G : Hp → Prop} {W : WX} {M : Ms} {ρ : Rh} {xr : Value → Ms → Prop} {N : En} {pos : Pos} {R : Ms → D → Prop} {k : Nat}
variable {tg it elt e : Expr} {g : TG} {as : D → Rh → (Rh → Prop) → Prop} {ifs : List Expr} {scope : Scope}
theorem we_lcAO (cx : Ct X G W k) (hN : X.N.Nodup) (own : List (Str × Nat)) (ys : List α) (enc : α → D) (p : α → Bool) (f : α → D) (gok : GOk G X.K g as) (gw : GWipe g (own.map (·.2))) (mono : AMono as)
    (hg : ∀ (s : Shared) (H : Hp) (C : Addr) (cl : List (Str × Addr)) (fp : List Addr), PG (X.blk s H scope (compEnvC scope cl C X.env) fp) tg g) (ok : BlkOk X.N X.env.scope scope own)
    (h : WIP X G W tg it M ρ xr fun M1 l P => l = ys.map enc ∧ (∀ x M', P M' → P (x :: M')) ∧ P M1 ∧ ys.length < sizeLine ∧ (∀ y ∈ ys, ItemA X G k scope as ifs elt (wipeD ρ (own.map (·.2))) M1 enc p f y) ∧ ∀ q, R ((q, O.lst ((ys.filter p).map f)) :: M1) (Rf q))
    (hs : ∀ x, foldedSetIterable it X.env x = pure x := by intro _; rfl) : WE X G W (.ListComp elt [⟨tg, it, ifs, 0⟩] scope pos) M ρ xr R := by
  refine we_lcGO cx hN own (fun M1 _ => JA ys p f M1) gok gw mono hg ok ?_ hs
  obtain ⟨wi, hi, h⟩ := h
  refine ⟨wi, hi, fun σ H a0 b0 x Q q => h σ H a0 b0 x Q fun M' l P H' J hr a1 m1 wd => q M' l P H' J ?_ a1 m1 wd⟩
  obtain ⟨rfl, h1, h2, h3, h4, h5⟩ := hr
  refine ⟨h1, fun i M'' acc hj => by rw [hj.1]; exact h2, ⟨rfl, by simp⟩, turn_A mono h3 h4, fun M'' acc hj => ?_⟩
  obtain ⟨rfl, rfl⟩ := hj
  rw [List.length_map, List.take_of_length_le (Nat.le_refl _)]
  exact h5
end
end Wv
set_option maxRecDepth 100000
set_option maxHeartbeats 4000000

namespace K24
open PySem PySem.Spec PyProof.Rows L2 Wv
open LamX (CodeO TabS Tabs ExtN TabB lamEnv lamCx LamS)
local macro_rules | `(tactic| walk_at "e.name") => `(tactic| first
    | refine we_var 0 _ rfl (by first | exact .inl rfl | exact .inr (.inl rfl) | exact .inr (.inr rfl)) rfl ?_
    | refine we_var 1 _ rfl (by first | exact .inl rfl | exact .inr (.inl rfl) | exact .inr (.inr rfl)) rfl ?_
    | refine we_var 2 _ rfl (by first | exact .inl rfl | exact .inr (.inl rfl) | exact .inr (.inr rfl)) rfl ?_
    | refine we_var 3 _ rfl (by first | exact .inl rfl | exact .inr (.inl rfl) | exact .inr (.inr rfl)) rfl ?_
    | refine we_var 4 _ rfl (by first | exact .inl rfl | exact .inr (.inl rfl) | exact .inr (.inr rfl)) rfl ?_
    | refine we_var 5 _ rfl (by first | exact .inl rfl | exact .inr (.inl rfl) | exact .inr (.inr rfl)) rfl ?_
    | refine we_var 6 _ rfl (by first | exact .inl rfl | exact .inr (.inl rfl) | exact .inr (.inr rfl)) rfl ?_
    | refine we_var 7 _ rfl (by first | exact .inl rfl | exact .inr (.inl rfl) | exact .inr (.inr rfl)) rfl ?_
    | refine we_var 8 _ rfl (by first | exact .inl rfl | exact .inr (.inl rfl) | exact .inr (.inr rfl)) rfl ?_
    | refine we_var 9 _ rfl (by first | exact .inl rfl | exact .inr (.inl rfl) | exact .inr (.inr rfl)) rfl ?_
    | refine we_var 10 _ rfl (by first | exact .inl rfl | exact .inr (.inl rfl) | exact .inr (.inr rfl)) rfl ?_
    | refine we_var 11 _ rfl (by first | exact .inl rfl | exact .inr (.inl rfl) | exact .inr (.inr rfl)) rfl ?_
    | refine we_var 12 _ rfl (by first | exact .inl rfl | exact .inr (.inl rfl) | exact .inr (.inr rfl)) rfl ?_
    | refine we_var 13 _ rfl (by first | exact .inl rfl | exact .inr (.inl rfl) | exact .inr (.inr rfl)) rfl ?_
    | refine we_var 14 _ rfl (by first | exact .inl rfl | exact .inr (.inl rfl) | exact .inr (.inr rfl)) rfl ?_
    | refine we_var 15 _ rfl (by first | exact .inl rfl | exact .inr (.inl rfl) | exact .inr (.inr rfl)) rfl ?_
    | refine we_var 16 _ rfl (by first | exact .inl rfl | exact .inr (.inl rfl) | exact .inr (.inr rfl)) rfl ?_
    | refine we_var 17 _ rfl (by first | exact .inl rfl | exact .inr (.inl rfl) | exact .inr (.inr rfl)) rfl ?_
    | refine we_var 18 _ rfl (by first | exact .inl rfl | exact .inr (.inl rfl) | exact .inr (.inr rfl)) rfl ?_
    | refine we_var 19 _ rfl (by first | exact .inl rfl | exact .inr (.inl rfl) | exact .inr (.inr rfl)) rfl ?_
    | refine we_var 20 _ rfl (by first | exact .inl rfl | exact .inr (.inl rfl) | exact .inr (.inr rfl)) rfl ?_
    | refine we_var 21 _ rfl (by first | exact .inl rfl | exact .inr (.inl rfl) | exact .inr (.inr rfl)) rfl ?_
    | refine we_var 22 _ rfl (by first | exact .inl rfl | exact .inr (.inl rfl) | exact .inr (.inr rfl)) rfl ?_
    | refine we_var 23 _ rfl (by first | exact .inl rfl | exact .inr (.inl rfl) | exact .inr (.inr rfl)) rfl ?_
    | refine we_var 24 _ rfl (by first | exact .inl rfl | exact .inr (.inl rfl) | exact .inr (.inr rfl)) rfl ?_
    | refine we_var 25 _ rfl (by first | exact .inl rfl | exact .inr (.inl rfl) | exact .inr (.inr rfl)) rfl ?_
    | refine we_var 26 _ rfl (by first | exact .inl rfl | exact .inr (.inl rfl) | exact .inr (.inr rfl)) rfl ?_
    | refine we_var 27 _ rfl (by first | exact .inl rfl | exact .inr (.inl rfl) | exact .inr (.inr rfl)) rfl ?_
    | refine we_var 28 _ rfl (by first | exact .inl rfl | exact .inr (.inl rfl) | exact .inr (.inr rfl)) rfl ?_
    | refine we_var 29 _ rfl (by first | exact .inl rfl | exact .inr (.inl rfl) | exact .inr (.inr rfl)) rfl ?_
    | refine we_globI (by assumption) rfl ?_
    | refine we_globS (by assumption) rfl ?_)
local macro_rules | `(tactic| walk_at "e.const") => `(tactic| first
    | refine we_int ?_
    | refine we_str ?_
    | refine we_bl ?_
    | refine we_non ?_)
local macro_rules | `(tactic| walk_at "e.call") => `(tactic| first
    | refine we_len (by assumption) rfl ?_
    | refine we_int2 (by assumption) rfl ?_
    | refine we_tuple (Ct.gs (by assumption)) (by assumption) rfl ?_
    | refine we_abs (by assumption) rfl ?_
    | refine we_find ?_)
local macro_rules | `(tactic| walk_at "e.we") => `(tactic| first
    | (refine gNm ?_; walk_at "e.name")
    | (refine gConst ?_; walk_at "e.const")
    | refine we_bin (Ct.gs (by assumption)) ?_
    | (refine gCall ?_; walk_at "e.call")
    | refine we_cmp (Ct.hu (by assumption)) ?_
    | refine we_ix ?_
    | refine we_slice (Ct.gs (by assumption)) ?_
    | refine we_fld ?_
    | refine we_tup (Ct.gs (by assumption)) ?_
    | refine we_chain (Ct.hu (by assumption)) ?_
    | refine we_lst1 (Ct.gs (by assumption)) ?_
    | refine we_ifx ?_
    | refine we_and ?_
    | refine we_or ?_
    | refine we_one ?_
    | refine we_not ?_
    | refine we_negI ?_
    | refine we_neg ?_)
local macro_rules | `(tactic| walk_at "e.wt") => `(tactic| first
    | refine wt_cmp (Ct.hu (by assumption)) ?_
    | refine wt_chain (Ct.hu (by assumption)) ?_
    | refine wt_not ?_
    | refine wt_bool ?_
    | refine wt_val ?_)
local macro_rules | `(tactic| walk_at "e.ww") => `(tactic| first
    | refine ww_and ?_
    | refine ww_or ?_
    | refine ww_and1 ?_
    | refine ww_or1 ?_)
local macro_rules | `(tactic| walk_at "e.wa") => `(tactic| first
    | refine wa_nil ?_
    | refine wa_cons ?_)
local macro_rules | `(tactic| walk_at "e.wss") => `(tactic| first
    | refine wss_cons ?_
    | refine wss_nil ?_)
local macro_rules | `(tactic| walk_at "e.ws") => `(tactic| first
    | refine ws_if ?_
    | refine ws_expr (we_append (Ct.gs (by assumption)) ?_ (pe_bm PySem.F.plainAttrs_list PySem.F.slot_list_append PySem.F.type_list_append mt_append pe_wp pa_wp))
    | refine ws_fldSub (Ct.gs (by assumption)) ?_
    | refine ws_fldAddW (Ct.gs (by assumption)) ?_
    | refine ws_expr ?_
    | refine ws_set 0 (Ct.nd (by assumption)) ?_
    | refine ws_set 1 (Ct.nd (by assumption)) ?_
    | refine ws_set 2 (Ct.nd (by assumption)) ?_
    | refine ws_set 3 (Ct.nd (by assumption)) ?_
    | refine ws_set 4 (Ct.nd (by assumption)) ?_
    | refine ws_set 5 (Ct.nd (by assumption)) ?_
    | refine ws_set 6 (Ct.nd (by assumption)) ?_
    | refine ws_set 7 (Ct.nd (by assumption)) ?_
    | refine ws_set 8 (Ct.nd (by assumption)) ?_
    | refine ws_set 9 (Ct.nd (by assumption)) ?_
    | refine ws_set 10 (Ct.nd (by assumption)) ?_
    | refine ws_set 11 (Ct.nd (by assumption)) ?_
    | refine ws_set 12 (Ct.nd (by assumption)) ?_
    | refine ws_set 13 (Ct.nd (by assumption)) ?_
    | refine ws_set 14 (Ct.nd (by assumption)) ?_
    | refine ws_set 15 (Ct.nd (by assumption)) ?_
    | refine ws_set 16 (Ct.nd (by assumption)) ?_
    | refine ws_set 17 (Ct.nd (by assumption)) ?_
    | refine ws_set 18 (Ct.nd (by assumption)) ?_
    | refine ws_set 19 (Ct.nd (by assumption)) ?_
    | refine ws_set 20 (Ct.nd (by assumption)) ?_
    | refine ws_set 21 (Ct.nd (by assumption)) ?_
    | refine ws_set 22 (Ct.nd (by assumption)) ?_
    | refine ws_set 23 (Ct.nd (by assumption)) ?_
    | refine ws_set 24 (Ct.nd (by assumption)) ?_
    | refine ws_set 25 (Ct.nd (by assumption)) ?_
    | refine ws_set 26 (Ct.nd (by assumption)) ?_
    | refine ws_set 27 (Ct.nd (by assumption)) ?_
    | refine ws_set 28 (Ct.nd (by assumption)) ?_
    | refine ws_set 29 (Ct.nd (by assumption)) ?_
    | refine ws_sub (Ct.gs (by assumption)) ?_ (fun a b => pg_sub a b set_list)
    | refine ws_fld (Ct.gs (by assumption)) ?_
    | refine ws_pass ?_
    | refine ws_break ?_
    | refine ws_cont ?_)
local macro_rules | `(tactic| walk_at "e.bin") => `(tactic| first
    | refine BinD.addI ?_
    | refine BinD.subI ?_
    | refine BinD.modP (by assumption) ?_
    | refine BinD.divP (by assumption) ?_
    | refine BinD.modI (by decide) ?_
    | refine BinD.modI (by assumption) ?_
    | refine BinD.divI (by decide) (by decide) ?_
    | refine BinD.divI (by assumption) (by assumption) ?_
    | refine BinD.mulI (by first | exact .inl ⟨by decide, by decide⟩ | exact .inr ⟨by decide, by decide⟩) ?_
    | refine BinD.xorI ?_
    | refine BinD.powI ⟨by decide, by decide, by decide⟩ ?_)
local macro_rules | `(tactic| walk_at "e.cmp") => `(tactic| first
    | refine CmpD.lt ?_
    | refine CmpD.le ?_
    | refine CmpD.gt ?_
    | refine CmpD.ge ?_
    | refine CmpD.isN ?_
    | refine CmpD.notN ?_
    | refine CmpD.neI_s ?_
    | refine CmpD.neT_s ?_
    | refine CmpD.neZ_s ?_
    | refine CmpD.eqZ_s ?_
    | refine CmpD.neN_s ?_
    | refine CmpD.eqN_s ?_
    | refine CmpD.neTZ ?_
    | refine CmpD.eqTZ ?_
    | refine CmpD.eqI ?_
    | refine CmpD.neI ?_
    | refine CmpD.eqZ ?_
    | refine CmpD.neZ ?_)
local macro_rules | `(tactic| walk_at "e.is") => `(tactic| first
    | refine gSz ?_
    | refine gFld (by assumption) (by assumption) rfl ?_
    | refine gFldS (by assumption) (by assumption) (by first | decide | (repeat (first | refine plA ?_ | refine plB ?_)); simp) ?_
    | refine gFldU (by first | decide | (repeat (first | refine plA ?_ | refine plB ?_)); simp) ?_
    | refine IsI.mk ?_
    | refine IsT.mk ?_
    | refine IsL.mk ?_
    | refine IsZ.mk ?_
    | refine IsB.mk ?_
    | refine OwL.mk 0 rfl ?_
    | refine OwL.mk 1 rfl ?_
    | refine OwL.mk 2 rfl ?_
    | refine OwL.mk 3 rfl ?_
    | refine OwL.mk 4 rfl ?_
    | refine OwL.mk 5 rfl ?_
    | refine OwI.mk 0 rfl ?_
    | refine OwI.mk 1 rfl ?_
    | refine OwI.mk 2 rfl ?_
    | refine OwI.mk 3 rfl ?_
    | refine OwI.mk 4 rfl ?_
    | refine OwI.mk 5 rfl ?_
    | refine OwI.mk _ (by assumption) ?_
    | refine OwI.mk _ (set_at (by assumption)) ?_
    | refine OwI.mk _ (set_at (set_at (by assumption))) ?_
    | refine OwL.mk _ (by assumption) ?_
    | refine OwL.mk _ (set_at (by assumption)) ?_
    | refine OwL.mk _ (set_at (set_at (by assumption))) ?_
    | refine OwL.mk _ (set_at (set_at (set_at (by assumption)))) ?_
    | refine IxD.own 0 rfl rfl ?_
    | refine IxD.own 1 rfl rfl ?_
    | refine IxD.own 2 rfl rfl ?_
    | refine IxD.own 3 rfl rfl ?_
    | refine IxD.own 4 rfl rfl ?_
    | refine IxD.own 5 rfl rfl ?_
    | refine IxD.own _ (by assumption) rfl ?_
    | refine IxD.own _ (set_at (by assumption)) rfl ?_
    | refine IxD.own _ (set_at (set_at (by assumption))) rfl ?_
    | refine IxD.own _ (set_at (set_at (set_at (by assumption)))) rfl ?_
    | refine IxD.tup rfl ?_
    | refine IxD.lst rfl ?_
    | refine IntD.int ?_
    | refine IntD.bl ?_
    | refine TruD.bl ?_
    | refine TruD.int ?_
    | refine TruD.tup ?_
    | refine TruD.lst ?_
    | refine LenD.tup ?_
    | refine LenD.lst ?_
    | refine SeqD.tup ?_
    | refine SeqD.lst ?_
    | refine SlD.tup ?_
    | refine SlD.lst ?_
    | refine SeqD.own 0 rfl ?_
    | refine SeqD.own 1 rfl ?_
    | refine SeqD.own 2 rfl ?_
    | refine SeqD.own 3 rfl ?_
    | refine SeqD.own 4 rfl ?_
    | refine SeqD.own 5 rfl ?_
    | refine LenD.own 0 rfl ?_
    | refine LenD.own 1 rfl ?_
    | refine LenD.own 2 rfl ?_
    | refine LenD.own 3 rfl ?_
    | refine LenD.own 4 rfl ?_
    | refine LenD.own 5 rfl ?_)
local macro_rules | `(tactic| walk_at "e1") => `(tactic| first
    | (refine gWE ?_; walk_at "e.we")
    | (refine gBinD ?_; walk_at "e.bin")
    | (refine gWSs ?_; walk_at "e.wss")
    | (refine gWS ?_; walk_at "e.ws")
    | (refine gWT ?_; walk_at "e.wt")
    | (refine gCmpD ?_; walk_at "e.cmp")
    | (refine gWA ?_; walk_at "e.wa")
    | (refine gWW ?_; walk_at "e.ww")
    | refine iteT ?_
    | refine iteF ?_
    | walk_at "e.is")
local macro_rules | `(tactic| walk_at "x1") => `(tactic| first
    | (refine gWE ?_; walk_at "e.we")
    | (refine gBinD ?_; walk_at "e.bin")
    | (refine gWT ?_; walk_at "e.wt")
    | (refine gCmpD ?_; walk_at "e.cmp")
    | (refine gWA ?_; walk_at "e.wa")
    | (refine gWW ?_; walk_at "e.ww")
    | refine iteT ?_
    | refine iteF ?_
    | walk_at "e.is")
local macro_rules | `(tactic| walk_at "e") => `(tactic| repeat (walk_at "e1"))
local macro_rules | `(tactic| walk_at "x") => `(tactic| repeat (walk_at "x1"))
/-! ### the translator -/
structure Fw where
  addr : Addr
  opener : Int
  number : Int
  outer : Int
  peer : Int
  used : Int
structure FwC (K : PySem.W.Frag) (C : Addr) : Prop where
  c : Cls K C
  n1 : NoAttr K C "opener"
  n2 : NoAttr K C "number"
  n3 : NoAttr K C "outer"
  n4 : NoAttr K C "peer"
  n5 : NoAttr K C "used"
structure TrC (K : PySem.W.Frag) (C : Addr) : Prop where
  c : Cls K C
  n1 : NoAttr K C "outside"
  n2 : NoAttr K C "inside"
  n3 : NoAttr K C "flows"
  n4 : NoAttr K C "doors"
abbrev fwF (f : Fw) : List (Str × D) := [("opener", I f.opener), ("number", I f.number), ("outer", I f.outer), ("peer", I f.peer), ("used", I f.used)]
def fwM (CF : Addr) (fs : List Fw) : Ms := fs.map fun f => (f.addr, O.ins CF (fwF f))
structure Ta where
  t : Addr
  fl : Addr
  dr : Addr
/-- the doors: what the dict holds -/
structure DrOk (dk : List (Key × D)) (σ : Int → Option Int) (n : Nat) : Prop where
  len : dk.length ≤ n
  val : ∀ p, valD dk (.inl p) = (σ p).map fun h => I h
/-- where a translator lies: itself, its list of flows, its doors, the flows -/
abbrev trM (C CF : Addr) (a : Ta) (ins : List Int) (fs : List Fw) (dk : List (Key × D)) : Ms := (a.t, .ins C [("outside", I 90), ("inside", byt ins), ("flows", Rf a.fl), ("doors", Rf a.dr)]) :: (a.fl, .lst (fs.map fun f => Rf f.addr)) :: (a.dr, .dK dk) :: fwM CF fs
def S_finit (CF : Addr) : SpD := fun ds M xr R => ∃ (q : Addr) (o n u p t : Int) (M0 : Ms), ds = [Rf q, I o, I n, I u, I p, I t] ∧ M = (q, .ins CF []) :: M0 ∧ R ((q, .ins CF (fwF ⟨q, o, n, u, p, t⟩)) :: M0) N0
theorem finit_ret {C : Addr} : ∀ ds M xr R, S_finit C ds M xr R → S_finit C ds M xr fun M' d => R M' d ∧ d = N0 := fun ds M xr R ⟨q, o, n, u, p, t, M0, h1, h2, h3⟩ => ⟨q, o, n, u, p, t, M0, h1, h2, h3, rfl⟩
theorem plen (f : Str) (v : D) : ∀ fs : List (Str × D), (putD f v fs).length ≤ fs.length + 1
  | [] => by simp [putD]
  | (g, x) :: r => by
    unfold putD
    split
    · simp
    · have := plen f v r
      simp only [List.length_cons]
      omega
theorem pl {f : Str} {v : D} {fs : List (Str × D)} {k : Nat} (h : fs.length < k) : (putD f v fs).length < k + 1 := Nat.lt_of_le_of_lt (plen f v fs) (by omega)
section
variable {P : Program} {w : World} {K : PySem.W.Frag} {mg : Str → Option Value} {base : Heap} {G : Hp → Prop}
theorem gf_finit {f CF : Addr} {fd : FuncData} (F : Fun K "__init__" "Flow.__init__" s_Flow_init f fd) (gs : Gst G) (dc : FwC K CF) : Gf P w K mg base G 1 f [] (S_finit CF) := by
  refine gf_of F sc_Flow_init gs (F.binds fun _ _ _ _ _ _ us hl => match us, hl with | [_, _, _, _, _, _], _ => rfl) .nil (fun ds M xr R h => by obtain ⟨q, o, n, u, p, t, M0, rfl, _⟩ := h; rfl) ?_
  rintro X W M ds xr R ⟨cdv, A, outer, s, H, E0, rfl⟩ cx ⟨q, o, n, u, p, t, M0, rfl, rfl, hok⟩
  walk_at "e"
  refine ⟨dc.c, dc.n1, by simp, ?_⟩
  walk_at "e"
  refine ⟨dc.c, dc.n2, pl (by simp), ?_⟩
  walk_at "e"
  refine ⟨dc.c, dc.n3, pl (pl (by simp)), ?_⟩
  walk_at "e"
  refine ⟨dc.c, dc.n4, pl (pl (pl (by simp))), ?_⟩
  walk_at "e"
  refine ⟨dc.c, dc.n5, pl (pl (pl (pl (by simp)))), ?_⟩
  exact wss_nil hok
end

end K24
set_option maxRecDepth 100000
set_option maxHeartbeats 4000000

namespace K24
open PySem PySem.Spec PyProof.Rows L2 Wv
open LamX (CodeO TabS Tabs ExtN TabB lamEnv lamCx LamS)
local macro_rules | `(tactic| walk_at "e.name") => `(tactic| first
    | refine we_var 0 _ rfl (by first | exact .inl rfl | exact .inr (.inl rfl) | exact .inr (.inr rfl)) rfl ?_
    | refine we_var 1 _ rfl (by first | exact .inl rfl | exact .inr (.inl rfl) | exact .inr (.inr rfl)) rfl ?_
    | refine we_var 2 _ rfl (by first | exact .inl rfl | exact .inr (.inl rfl) | exact .inr (.inr rfl)) rfl ?_
    | refine we_var 3 _ rfl (by first | exact .inl rfl | exact .inr (.inl rfl) | exact .inr (.inr rfl)) rfl ?_
    | refine we_var 4 _ rfl (by first | exact .inl rfl | exact .inr (.inl rfl) | exact .inr (.inr rfl)) rfl ?_
    | refine we_var 5 _ rfl (by first | exact .inl rfl | exact .inr (.inl rfl) | exact .inr (.inr rfl)) rfl ?_
    | refine we_var 6 _ rfl (by first | exact .inl rfl | exact .inr (.inl rfl) | exact .inr (.inr rfl)) rfl ?_
    | refine we_var 7 _ rfl (by first | exact .inl rfl | exact .inr (.inl rfl) | exact .inr (.inr rfl)) rfl ?_
    | refine we_var 8 _ rfl (by first | exact .inl rfl | exact .inr (.inl rfl) | exact .inr (.inr rfl)) rfl ?_
    | refine we_var 9 _ rfl (by first | exact .inl rfl | exact .inr (.inl rfl) | exact .inr (.inr rfl)) rfl ?_
    | refine we_var 10 _ rfl (by first | exact .inl rfl | exact .inr (.inl rfl) | exact .inr (.inr rfl)) rfl ?_
    | refine we_var 11 _ rfl (by first | exact .inl rfl | exact .inr (.inl rfl) | exact .inr (.inr rfl)) rfl ?_
    | refine we_var 12 _ rfl (by first | exact .inl rfl | exact .inr (.inl rfl) | exact .inr (.inr rfl)) rfl ?_
    | refine we_var 13 _ rfl (by first | exact .inl rfl | exact .inr (.inl rfl) | exact .inr (.inr rfl)) rfl ?_
    | refine we_var 14 _ rfl (by first | exact .inl rfl | exact .inr (.inl rfl) | exact .inr (.inr rfl)) rfl ?_
    | refine we_var 15 _ rfl (by first | exact .inl rfl | exact .inr (.inl rfl) | exact .inr (.inr rfl)) rfl ?_
    | refine we_var 16 _ rfl (by first | exact .inl rfl | exact .inr (.inl rfl) | exact .inr (.inr rfl)) rfl ?_
    | refine we_var 17 _ rfl (by first | exact .inl rfl | exact .inr (.inl rfl) | exact .inr (.inr rfl)) rfl ?_
    | refine we_var 18 _ rfl (by first | exact .inl rfl | exact .inr (.inl rfl) | exact .inr (.inr rfl)) rfl ?_
    | refine we_var 19 _ rfl (by first | exact .inl rfl | exact .inr (.inl rfl) | exact .inr (.inr rfl)) rfl ?_
    | refine we_var 20 _ rfl (by first | exact .inl rfl | exact .inr (.inl rfl) | exact .inr (.inr rfl)) rfl ?_
    | refine we_var 21 _ rfl (by first | exact .inl rfl | exact .inr (.inl rfl) | exact .inr (.inr rfl)) rfl ?_
    | refine we_var 22 _ rfl (by first | exact .inl rfl | exact .inr (.inl rfl) | exact .inr (.inr rfl)) rfl ?_
    | refine we_var 23 _ rfl (by first | exact .inl rfl | exact .inr (.inl rfl) | exact .inr (.inr rfl)) rfl ?_
    | refine we_var 24 _ rfl (by first | exact .inl rfl | exact .inr (.inl rfl) | exact .inr (.inr rfl)) rfl ?_
    | refine we_var 25 _ rfl (by first | exact .inl rfl | exact .inr (.inl rfl) | exact .inr (.inr rfl)) rfl ?_
    | refine we_var 26 _ rfl (by first | exact .inl rfl | exact .inr (.inl rfl) | exact .inr (.inr rfl)) rfl ?_
    | refine we_var 27 _ rfl (by first | exact .inl rfl | exact .inr (.inl rfl) | exact .inr (.inr rfl)) rfl ?_
    | refine we_var 28 _ rfl (by first | exact .inl rfl | exact .inr (.inl rfl) | exact .inr (.inr rfl)) rfl ?_
    | refine we_var 29 _ rfl (by first | exact .inl rfl | exact .inr (.inl rfl) | exact .inr (.inr rfl)) rfl ?_
    | refine we_globI (by assumption) rfl ?_
    | refine we_globS (by assumption) rfl ?_)
local macro_rules | `(tactic| walk_at "e.const") => `(tactic| first
    | refine we_int ?_
    | refine we_str ?_
    | refine we_bl ?_
    | refine we_non ?_)
local macro_rules | `(tactic| walk_at "e.call") => `(tactic| first
    | refine we_len (by assumption) rfl ?_
    | refine we_int2 (by assumption) rfl ?_
    | refine we_tuple (Ct.gs (by assumption)) (by assumption) rfl ?_
    | refine we_abs (by assumption) rfl ?_
    | refine we_find ?_)
local macro_rules | `(tactic| walk_at "e.we") => `(tactic| first
    | (refine gNm ?_; walk_at "e.name")
    | (refine gConst ?_; walk_at "e.const")
    | refine we_bin (Ct.gs (by assumption)) ?_
    | (refine gCall ?_; walk_at "e.call")
    | refine we_cmp (Ct.hu (by assumption)) ?_
    | refine we_ix ?_
    | refine we_slice (Ct.gs (by assumption)) ?_
    | refine we_fld ?_
    | refine we_tup (Ct.gs (by assumption)) ?_
    | refine we_chain (Ct.hu (by assumption)) ?_
    | refine we_lst1 (Ct.gs (by assumption)) ?_
    | refine we_ifx ?_
    | refine we_and ?_
    | refine we_or ?_
    | refine we_one ?_
    | refine we_not ?_
    | refine we_negI ?_
    | refine we_neg ?_)
local macro_rules | `(tactic| walk_at "e.wt") => `(tactic| first
    | refine wt_cmp (Ct.hu (by assumption)) ?_
    | refine wt_chain (Ct.hu (by assumption)) ?_
    | refine wt_not ?_
    | refine wt_bool ?_
    | refine wt_val ?_)
local macro_rules | `(tactic| walk_at "e.ww") => `(tactic| first
    | refine ww_and ?_
    | refine ww_or ?_
    | refine ww_and1 ?_
    | refine ww_or1 ?_)
local macro_rules | `(tactic| walk_at "e.wa") => `(tactic| first
    | refine wa_nil ?_
    | refine wa_cons ?_)
local macro_rules | `(tactic| walk_at "e.wss") => `(tactic| first
    | refine wss_cons ?_
    | refine wss_nil ?_)
local macro_rules | `(tactic| walk_at "e.ws") => `(tactic| first
    | refine ws_if ?_
    | refine ws_expr (we_append (Ct.gs (by assumption)) ?_ (pe_bm PySem.F.plainAttrs_list PySem.F.slot_list_append PySem.F.type_list_append mt_append pe_wp pa_wp))
    | refine ws_fldSub (Ct.gs (by assumption)) ?_
    | refine ws_fldAddW (Ct.gs (by assumption)) ?_
    | refine ws_expr ?_
    | refine ws_set 0 (Ct.nd (by assumption)) ?_
    | refine ws_set 1 (Ct.nd (by assumption)) ?_
    | refine ws_set 2 (Ct.nd (by assumption)) ?_
    | refine ws_set 3 (Ct.nd (by assumption)) ?_
    | refine ws_set 4 (Ct.nd (by assumption)) ?_
    | refine ws_set 5 (Ct.nd (by assumption)) ?_
    | refine ws_set 6 (Ct.nd (by assumption)) ?_
    | refine ws_set 7 (Ct.nd (by assumption)) ?_
    | refine ws_set 8 (Ct.nd (by assumption)) ?_
    | refine ws_set 9 (Ct.nd (by assumption)) ?_
    | refine ws_set 10 (Ct.nd (by assumption)) ?_
    | refine ws_set 11 (Ct.nd (by assumption)) ?_
    | refine ws_set 12 (Ct.nd (by assumption)) ?_
    | refine ws_set 13 (Ct.nd (by assumption)) ?_
    | refine ws_set 14 (Ct.nd (by assumption)) ?_
    | refine ws_set 15 (Ct.nd (by assumption)) ?_
    | refine ws_set 16 (Ct.nd (by assumption)) ?_
    | refine ws_set 17 (Ct.nd (by assumption)) ?_
    | refine ws_set 18 (Ct.nd (by assumption)) ?_
    | refine ws_set 19 (Ct.nd (by assumption)) ?_
    | refine ws_set 20 (Ct.nd (by assumption)) ?_
    | refine ws_set 21 (Ct.nd (by assumption)) ?_
    | refine ws_set 22 (Ct.nd (by assumption)) ?_
    | refine ws_set 23 (Ct.nd (by assumption)) ?_
    | refine ws_set 24 (Ct.nd (by assumption)) ?_
    | refine ws_set 25 (Ct.nd (by assumption)) ?_
    | refine ws_set 26 (Ct.nd (by assumption)) ?_
    | refine ws_set 27 (Ct.nd (by assumption)) ?_
    | refine ws_set 28 (Ct.nd (by assumption)) ?_
    | refine ws_set 29 (Ct.nd (by assumption)) ?_
    | refine ws_sub (Ct.gs (by assumption)) ?_ (fun a b => pg_sub a b set_list)
    | refine ws_fld (Ct.gs (by assumption)) ?_
    | refine ws_pass ?_
    | refine ws_break ?_
    | refine ws_cont ?_)
local macro_rules | `(tactic| walk_at "e.bin") => `(tactic| first
    | refine BinD.addI ?_
    | refine BinD.subI ?_
    | refine BinD.modP (by assumption) ?_
    | refine BinD.divP (by assumption) ?_
    | refine BinD.modI (by decide) ?_
    | refine BinD.modI (by assumption) ?_
    | refine BinD.divI (by decide) (by decide) ?_
    | refine BinD.divI (by assumption) (by assumption) ?_
    | refine BinD.mulI (by first | exact .inl ⟨by decide, by decide⟩ | exact .inr ⟨by decide, by decide⟩) ?_
    | refine BinD.xorI ?_
    | refine BinD.powI ⟨by decide, by decide, by decide⟩ ?_)
local macro_rules | `(tactic| walk_at "e.cmp") => `(tactic| first
    | refine CmpD.lt ?_
    | refine CmpD.le ?_
    | refine CmpD.gt ?_
    | refine CmpD.ge ?_
    | refine CmpD.isN ?_
    | refine CmpD.notN ?_
    | refine CmpD.neI_s ?_
    | refine CmpD.neT_s ?_
    | refine CmpD.neZ_s ?_
    | refine CmpD.eqZ_s ?_
    | refine CmpD.neN_s ?_
    | refine CmpD.eqN_s ?_
    | refine CmpD.neTZ ?_
    | refine CmpD.eqTZ ?_
    | refine CmpD.eqI ?_
    | refine CmpD.neI ?_
    | refine CmpD.eqZ ?_
    | refine CmpD.neZ ?_)
local macro_rules | `(tactic| walk_at "e.is") => `(tactic| first
    | refine gSz ?_
    | refine gFld (by assumption) (by assumption) rfl ?_
    | refine gFldS (by assumption) (by assumption) (by first | decide | (repeat (first | refine plA ?_ | refine plB ?_)); simp) ?_
    | refine gFldU (by first | decide | (repeat (first | refine plA ?_ | refine plB ?_)); simp) ?_
    | refine IsI.mk ?_
    | refine IsT.mk ?_
    | refine IsL.mk ?_
    | refine IsZ.mk ?_
    | refine IsB.mk ?_
    | refine OwL.mk 0 rfl ?_
    | refine OwL.mk 1 rfl ?_
    | refine OwL.mk 2 rfl ?_
    | refine OwL.mk 3 rfl ?_
    | refine OwL.mk 4 rfl ?_
    | refine OwL.mk 5 rfl ?_
    | refine OwI.mk 0 rfl ?_
    | refine OwI.mk 1 rfl ?_
    | refine OwI.mk 2 rfl ?_
    | refine OwI.mk 3 rfl ?_
    | refine OwI.mk 4 rfl ?_
    | refine OwI.mk 5 rfl ?_
    | refine OwI.mk _ (by assumption) ?_
    | refine OwI.mk _ (set_at (by assumption)) ?_
    | refine OwI.mk _ (set_at (set_at (by assumption))) ?_
    | refine OwL.mk _ (by assumption) ?_
    | refine OwL.mk _ (set_at (by assumption)) ?_
    | refine OwL.mk _ (set_at (set_at (by assumption))) ?_
    | refine OwL.mk _ (set_at (set_at (set_at (by assumption)))) ?_
    | refine IxD.own 0 rfl rfl ?_
    | refine IxD.own 1 rfl rfl ?_
    | refine IxD.own 2 rfl rfl ?_
    | refine IxD.own 3 rfl rfl ?_
    | refine IxD.own 4 rfl rfl ?_
    | refine IxD.own 5 rfl rfl ?_
    | refine IxD.own _ (by assumption) rfl ?_
    | refine IxD.own _ (set_at (by assumption)) rfl ?_
    | refine IxD.own _ (set_at (set_at (by assumption))) rfl ?_
    | refine IxD.own _ (set_at (set_at (set_at (by assumption)))) rfl ?_
    | refine IxD.tup rfl ?_
    | refine IxD.lst rfl ?_
    | refine IntD.int ?_
    | refine IntD.bl ?_
    | refine TruD.bl ?_
    | refine TruD.int ?_
    | refine TruD.tup ?_
    | refine TruD.lst ?_
    | refine LenD.tup ?_
    | refine LenD.lst ?_
    | refine SeqD.tup ?_
    | refine SeqD.lst ?_
    | refine SlD.tup ?_
    | refine SlD.lst ?_
    | refine SeqD.own 0 rfl ?_
    | refine SeqD.own 1 rfl ?_
    | refine SeqD.own 2 rfl ?_
    | refine SeqD.own 3 rfl ?_
    | refine SeqD.own 4 rfl ?_
    | refine SeqD.own 5 rfl ?_
    | refine LenD.own 0 rfl ?_
    | refine LenD.own 1 rfl ?_
    | refine LenD.own 2 rfl ?_
    | refine LenD.own 3 rfl ?_
    | refine LenD.own 4 rfl ?_
    | refine LenD.own 5 rfl ?_)
local macro_rules | `(tactic| walk_at "e1") => `(tactic| first
    | (refine gWE ?_; walk_at "e.we")
    | (refine gBinD ?_; walk_at "e.bin")
    | (refine gWSs ?_; walk_at "e.wss")
    | (refine gWS ?_; walk_at "e.ws")
    | (refine gWT ?_; walk_at "e.wt")
    | (refine gCmpD ?_; walk_at "e.cmp")
    | (refine gWA ?_; walk_at "e.wa")
    | (refine gWW ?_; walk_at "e.ww")
    | refine iteT ?_
    | refine iteF ?_
    | walk_at "e.is")
local macro_rules | `(tactic| walk_at "x1") => `(tactic| first
    | (refine gWE ?_; walk_at "e.we")
    | (refine gBinD ?_; walk_at "e.bin")
    | (refine gWT ?_; walk_at "e.wt")
    | (refine gCmpD ?_; walk_at "e.cmp")
    | (refine gWA ?_; walk_at "e.wa")
    | (refine gWW ?_; walk_at "e.ww")
    | refine iteT ?_
    | refine iteF ?_
    | walk_at "e.is")
local macro_rules | `(tactic| walk_at "e") => `(tactic| repeat (walk_at "e1"))
local macro_rules | `(tactic| walk_at "x") => `(tactic| repeat (walk_at "x1"))
theorem map_at' {α β : Type} {f : α → β} {l : List α} {n : Nat} {x : α} (h : l[n]? = some x) : (l.map f)[n]? = some (f x) := by rw [List.getElem?_map, h]; rfl
theorem fwM_at {CF : Addr} {fs : List Fw} {i : Nat} {f : Fw} (h : fs[i]? = some f) : (fwM CF fs)[i]? = some (f.addr, O.ins CF (fwF f)) := map_at' h
theorem trM_at {C CF : Addr} {a : Ta} {ins : List Int} {fs : List Fw} {dk : List (Key × D)} {M0 : Ms} {i : Nat} {f : Fw} (h : fs[i]? = some f) : (trM C CF a ins fs dk ++ M0)[3 + i]? = some (f.addr, O.ins CF (fwF f)) := by
  show (_ :: _ :: _ :: (fwM CF fs ++ M0))[3 + i]? = _
  rw [show 3 + i = i + 1 + 1 + 1 by omega]
  simp only [List.getElem?_cons_succ]
  rw [List.getElem?_append_left (by unfold fwM; rw [List.length_map]; exact at_lt h)]
  exact fwM_at h
def S_tinit (C CF : Addr) : SpD := fun ds M xr R => ∃ (t : Addr) (ins : List Int) (M0 : Ms), ds = [Rf t, I 90, .lst (ins.map fun i => I i)] ∧ M = (t, .ins C []) :: M0 ∧ ∀ fl dr, R (trM C CF ⟨t, fl, dr⟩ ins [] [] ++ M0) N0
theorem tinit_ret {C CF : Addr} : ∀ ds M xr R, S_tinit C CF ds M xr R → S_tinit C CF ds M xr fun M' d => R M' d ∧ d = N0 := fun ds M xr R ⟨t, ins, M0, h1, h2, h3⟩ => ⟨t, ins, M0, h1, h2, fun fl dr => ⟨h3 fl dr, rfl⟩⟩
section
variable {κ : Type} [DecidableEq κ] {k k' : κ} {v : D}
theorem valD_cons (a : κ) (x : D) (l : List (κ × D)) : valD ((a, x) :: l) k = if a = k then some x else valD l k := by
  unfold valD
  rw [List.find?_cons]
  by_cases h : a = k
  · rw [if_pos h, decide_eq_true h]; rfl
  · rw [if_neg h, decide_eq_false h]
theorem valD_app (x : D) (a : κ) : ∀ l : List (κ × D), (l.any fun kv => decide (kv.1 = a)) = false → valD (l ++ [(a, x)]) k = if k = a then some x else valD l k
  | [], _ => by
    rw [List.nil_append, valD_cons]
    by_cases h : a = k
    · rw [if_pos h, if_pos h.symm]
    · rw [if_neg h, if_neg (Ne.symm h)]
  | (b, y) :: l, hn => by
    rw [List.any_cons, Bool.or_eq_false_iff] at hn
    have hb : b ≠ a := of_decide_eq_false hn.1
    rw [List.cons_append, valD_cons, valD_cons, valD_app x a l hn.2]
    by_cases h : b = k
    · rw [if_pos h, if_pos h, if_neg (fun z => hb (h.trans z))]
    · rw [if_neg h, if_neg h]
theorem valD_map : ∀ l : List (κ × D), valD (l.map fun kv => if kv.1 = k then (kv.1, v) else kv) k' = if k' = k ∧ (l.any fun kv => decide (kv.1 = k)) = true then some v else valD l k'
  | [] => by
    rw [if_neg (fun z => by simp at z)]; rfl
  | (b, y) :: l => by
    have ih := valD_map l
    rw [List.map_cons]
    by_cases h : b = k
    · rw [if_pos h, valD_cons, valD_cons, ih]
      by_cases h2 : k' = k
      · rw [if_pos (h.trans h2.symm), if_pos ⟨h2, by rw [List.any_cons, decide_eq_true h, Bool.true_or]⟩]
      · rw [if_neg (fun z => h2 (z.symm.trans h)), if_neg (fun z => h2 z.1), if_neg (fun z => h2 z.1), if_neg (fun z => h2 (z.symm.trans h))]
    · rw [if_neg h, valD_cons, valD_cons, ih, List.any_cons, decide_eq_false h, Bool.false_or]
      by_cases h3 : b = k'
      · rw [if_pos h3, if_pos h3, if_neg (fun z => h (h3.trans z.1))]
      · rw [if_neg h3, if_neg h3]
theorem valD_put (kvs : List (κ × D)) : valD (putM kvs k v) k' = if k' = k then some v else valD kvs k' := by
  unfold putM
  by_cases h : (kvs.any fun kv => decide (kv.1 = k)) = true
  · rw [if_pos h, valD_map]
    by_cases h2 : k' = k
    · rw [if_pos ⟨h2, h⟩, if_pos h2]
    · rw [if_neg (fun z => h2 z.1), if_neg h2]
  · rw [if_neg h]
    exact valD_app v k kvs (Bool.eq_false_iff.mpr h)
theorem putM_len (kvs : List (κ × D)) : (putM kvs k v).length ≤ kvs.length + 1 := by
  unfold putM
  split
  · rw [List.length_map]; omega
  · rw [List.length_append]; exact Nat.le_refl _
end
def updI (σ : Int → Option Int) (p h : Int) : Int → Option Int := fun q => if q = p then some h else σ q
def S_door (C CF CS : Addr) : SpD := fun ds M xr R => ∃ (a : Ta) (ins : List Int) (fs : List Fw) (dk : List (Key × D)) (σ : Int → Option Int) (n : Nat) (p h : Int) (M0 : Ms), ds = [Rf a.t, I p, I h] ∧ SP (trM C CF a ins fs dk ++ M0) M ∧ DrOk dk σ n ∧ n ≤ 100 ∧ (¬ (h ∈ ins ∧ p ∉ ins) → xr (.ref CS) (trM C CF a ins fs dk ++ M0)) ∧ (h ∈ ins ∧ p ∉ ins → ∀ dk', DrOk dk' (updI σ p h) (n + 1) → R (trM C CF a ins fs dk' ++ M0) N0)
def live (t : Int) (f : Fw) : Bool := decide (t - f.used < 200)
def S_forget (C CF : Addr) : SpD := fun ds M xr R => ∃ (a : Ta) (ins : List Int) (fs : List Fw) (dk : List (Key × D)) (t : Int) (M0 : Ms), ds = [Rf a.t, I t] ∧ SP (trM C CF a ins fs dk ++ M0) M ∧ fs.length ≤ 1000 ∧ ∀ fl', R (trM C CF { a with fl := fl' } ins (fs.filter (live t)) dk ++ M0) N0
section
variable {P : Program} {w : World} {K : PySem.W.Frag} {mg : Str → Option Value} {base : Heap} {G : Hp → Prop}
theorem gf_tinit {f C CF : Addr} {fd : FuncData} (F : Fun K "__init__" "Translator.__init__" s_Translator_init f fd) (gs : Gst G) (dc : TrC K C) (mt : mg "tuple" = none) : Gf P w K mg base G 1 f [] (S_tinit C CF) := by
  refine gf_of F sc_Translator_init gs (F.binds fun _ _ _ _ _ _ us hl => match us, hl with | [_, _, _], _ => rfl) .nil (fun ds M xr R h => by obtain ⟨t, ins, M0, rfl, _⟩ := h; rfl) ?_
  rintro X W M ds xr R ⟨cdv, A, outer, s, H, E0, rfl⟩ cx ⟨t, ins, M0, rfl, rfl, hok⟩
  walk_at "e"
  refine ⟨dc.c, dc.n1, by simp, ?_⟩
  walk_at "e"
  refine ⟨dc.c, dc.n2, pl (by simp), ?_⟩
  refine wss_cons (ws_fld gs (we_lstO gs (wa_nil ⟨Nat.zero_le _, fun fl => ?_⟩)))
  walk_at "e"
  refine ⟨dc.c, dc.n3, pl (pl (by simp)), ?_⟩
  refine wss_cons (ws_fld gs (we_sp (we_dnewK gs fun dr => ⟨(t, .ins C [("outside", I 90), ("inside", byt ins), ("flows", Rf fl)]) :: (fl, .lst []) :: (dr, .dK []) :: M0, ⟨_, (List.reverse_perm [(t, O.ins C [("outside", I 90), ("inside", byt ins), ("flows", Rf fl)]), (fl, .lst []), (dr, .dK [])]).append_right M0, List.Sublist.refl _⟩, ?_⟩)))
  walk_at "e"
  refine ⟨dc.c, dc.n4, by simp, ?_⟩
  exact wss_nil (hok fl dr)
theorem gf_door {f C CF CS : Addr} {fd : FuncData} (F : Fun K "open_door" "Translator.open_door" s_Translator_open_door f fd) (gs : Gst G) (dc : TrC K C) (E : ExcC K mg "SocketError" CS) : Gf P w K mg base G 1 f [] (S_door C CF CS) := by
  refine gf_of F sc_Translator_open_door gs (F.binds fun _ _ _ _ _ _ us hl => match us, hl with | [_, _, _], _ => rfl) .nil (fun ds M xr R h => by obtain ⟨a, ins, fs, dk, σ, n, p, h, M0, rfl, _⟩ := h; rfl) ?_
  rintro X W M ds xr R ⟨cdv, A, outer, s, H, E0, rfl⟩ cx ⟨a, ins, fs, dk, σ, n, p, h, M0, rfl, hsp, hd, hn, hbad, hok⟩
  refine wss_sp hsp ?_
  walk_at "e"
  refine ⟨dc.c, dc.n2, _, rfl, ?_⟩
  walk_at "e"
  refine CmpD.notInET (enc := fun i : Int => I i) (n := 1) encI (ite_nd (fun h1 => ?_) (fun h1 => ?_))
  · refine iteT (wss_one (ws_raiseC cx E rfl ⟨_, List.Sublist.refl _, hbad fun z => h1 z.1⟩))
  · walk_at "e"
    refine ⟨dc.c, dc.n2, _, rfl, ?_⟩
    walk_at "e"
    refine CmpD.inET (enc := fun i : Int => I i) (n := 1) encI (ite_d (fun h2 => ?_) (fun h2 => ?_))
    · exact wss_one (ws_raiseC cx E rfl ⟨_, List.Sublist.refl _, hbad fun z => z.2 h2⟩)
    · refine wss_nil (wss_one (ws_dput cx ?_))
      walk_at "x"
      refine ⟨dc.c, dc.n4, _, rfl, ?_⟩
      walk_at "x"
      refine DP.k 2 rfl (Sum.inl p) (sz2 (by have := hd.len; omega)) ?_
      refine hok ⟨h1, h2⟩ (putM dk (.inl p) (I h)) ⟨?_, fun q => ?_⟩
      · have := putM_len (k := (Sum.inl p : Key)) (v := I h) dk
        have := hd.len
        omega
      · rw [valD_put, hd.val]
        unfold updI
        by_cases z : q = p
        · rw [if_pos z, if_pos (by rw [z])]; rfl
        · rw [if_neg z, if_neg fun e => z (Sum.inl.inj e)]
theorem gf_forget {f C CF : Addr} {fd : FuncData} {t1 : Tok} (F : Fun K "forget" "Translator.forget" s_Translator_forget f fd) (gs : Gst G) (dc : TrC K C) (fc : FwC K CF) (gM : mg "MOST_UNUSED" = some (.int 200 t1)) : Gf P w K mg base G 1 f [] (S_forget C CF) := by
  refine gf_of F sc_Translator_forget gs (F.binds fun _ _ _ _ _ _ us hl => match us, hl with | [_, _], _ => rfl) .nil (fun ds M xr R h => by obtain ⟨a, ins, fs, dk, t, M0, rfl, _⟩ := h; rfl) ?_
  rintro X W M ds xr R ⟨cdv, A, outer, s, H, E0, rfl⟩ cx ⟨a, ins, fs, dk, t, M0, rfl, hsp, hl, hok⟩
  refine wss_sp hsp ?_
  refine wss_cons (ws_fld gs (we_lcAO cx cx.nd [("flow", 2)] fs (fun y => Rf y.addr) (live t) (fun y => Rf y.addr) (gok_name 2) (gwipe_name 2) (amono_name 2) (fun s H C cl fp => pgn 2 cx.nd) (blkOk_by (by show blkC N_Translator_forget (defScope s_Translator_forget) _ _ = true; decide +kernel)) (wi_lstP ?_)))
  walk_at "e"
  refine ⟨dc.c, dc.n3, _, rfl, ?_⟩
  refine ⟨1, a.fl, _, rfl, rfl, rfl, fun x M' ⟨i, h⟩ => ⟨i + 1, h⟩, ⟨1, rfl⟩, by simp only [sizeLine]; omega, fun y hy => ?_, fun fl' => ?_⟩
  · obtain ⟨i, hi⟩ := List.getElem?_of_mem hy
    refine itemA1 (amono_name 2) fun q acc => ?_
    rintro Y ⟨s', H', C', cl', fp', rfl⟩ cy
    have hx : ((q, O.lst acc) :: (trM C CF a ins fs dk ++ M0))[4 + i]? = some (y.addr, O.ins CF (fwF y)) := by
      rw [show 4 + i = 3 + i + 1 by omega, List.getElem?_cons_succ]
      exact trM_at hi
    walk_at "e"
    refine ⟨fc.c, fc.n5, _, rfl, ?_⟩
    walk_at "e"
    refine ⟨rfl, rfl, fun _ => ?_⟩
    rintro Y' ⟨s2, H2, C2, cl2, fp2, rfl⟩ cy2
    walk_at "e"
    exact ⟨rfl, rfl⟩
  · walk_at "e"
    refine ⟨dc.c, dc.n3, by simp, ?_⟩
    refine wss_sp (M0 := trM C CF { a with fl := fl' } ins (fs.filter (live t)) dk ++ M0) ⟨_, List.Perm.swap _ _ _, ?_⟩ (wss_nil (hok fl'))
    refine List.Sublist.cons_cons _ (List.Sublist.cons_cons _ (List.Sublist.cons _ (List.Sublist.cons_cons _ ?_)))
    exact (List.filter_sublist.map _).append_right M0
end

end K24
set_option maxRecDepth 100000
set_option maxHeartbeats 4000000

namespace K24
open PySem PySem.Spec PyProof.Rows L2 Wv
open LamX (CodeO TabS Tabs ExtN TabB lamEnv lamCx LamS)
local macro_rules | `(tactic| walk_at "e.name") => `(tactic| first
    | refine we_var 0 _ rfl (by first | exact .inl rfl | exact .inr (.inl rfl) | exact .inr (.inr rfl)) rfl ?_
    | refine we_var 1 _ rfl (by first | exact .inl rfl | exact .inr (.inl rfl) | exact .inr (.inr rfl)) rfl ?_
    | refine we_var 2 _ rfl (by first | exact .inl rfl | exact .inr (.inl rfl) | exact .inr (.inr rfl)) rfl ?_
    | refine we_var 3 _ rfl (by first | exact .inl rfl | exact .inr (.inl rfl) | exact .inr (.inr rfl)) rfl ?_
    | refine we_var 4 _ rfl (by first | exact .inl rfl | exact .inr (.inl rfl) | exact .inr (.inr rfl)) rfl ?_
    | refine we_var 5 _ rfl (by first | exact .inl rfl | exact .inr (.inl rfl) | exact .inr (.inr rfl)) rfl ?_
    | refine we_var 6 _ rfl (by first | exact .inl rfl | exact .inr (.inl rfl) | exact .inr (.inr rfl)) rfl ?_
    | refine we_var 7 _ rfl (by first | exact .inl rfl | exact .inr (.inl rfl) | exact .inr (.inr rfl)) rfl ?_
    | refine we_var 8 _ rfl (by first | exact .inl rfl | exact .inr (.inl rfl) | exact .inr (.inr rfl)) rfl ?_
    | refine we_var 9 _ rfl (by first | exact .inl rfl | exact .inr (.inl rfl) | exact .inr (.inr rfl)) rfl ?_
    | refine we_var 10 _ rfl (by first | exact .inl rfl | exact .inr (.inl rfl) | exact .inr (.inr rfl)) rfl ?_
    | refine we_var 11 _ rfl (by first | exact .inl rfl | exact .inr (.inl rfl) | exact .inr (.inr rfl)) rfl ?_
    | refine we_var 12 _ rfl (by first | exact .inl rfl | exact .inr (.inl rfl) | exact .inr (.inr rfl)) rfl ?_
    | refine we_var 13 _ rfl (by first | exact .inl rfl | exact .inr (.inl rfl) | exact .inr (.inr rfl)) rfl ?_
    | refine we_var 14 _ rfl (by first | exact .inl rfl | exact .inr (.inl rfl) | exact .inr (.inr rfl)) rfl ?_
    | refine we_var 15 _ rfl (by first | exact .inl rfl | exact .inr (.inl rfl) | exact .inr (.inr rfl)) rfl ?_
    | refine we_var 16 _ rfl (by first | exact .inl rfl | exact .inr (.inl rfl) | exact .inr (.inr rfl)) rfl ?_
    | refine we_var 17 _ rfl (by first | exact .inl rfl | exact .inr (.inl rfl) | exact .inr (.inr rfl)) rfl ?_
    | refine we_var 18 _ rfl (by first | exact .inl rfl | exact .inr (.inl rfl) | exact .inr (.inr rfl)) rfl ?_
    | refine we_var 19 _ rfl (by first | exact .inl rfl | exact .inr (.inl rfl) | exact .inr (.inr rfl)) rfl ?_
    | refine we_var 20 _ rfl (by first | exact .inl rfl | exact .inr (.inl rfl) | exact .inr (.inr rfl)) rfl ?_
    | refine we_var 21 _ rfl (by first | exact .inl rfl | exact .inr (.inl rfl) | exact .inr (.inr rfl)) rfl ?_
    | refine we_var 22 _ rfl (by first | exact .inl rfl | exact .inr (.inl rfl) | exact .inr (.inr rfl)) rfl ?_
    | refine we_var 23 _ rfl (by first | exact .inl rfl | exact .inr (.inl rfl) | exact .inr (.inr rfl)) rfl ?_
    | refine we_var 24 _ rfl (by first | exact .inl rfl | exact .inr (.inl rfl) | exact .inr (.inr rfl)) rfl ?_
    | refine we_var 25 _ rfl (by first | exact .inl rfl | exact .inr (.inl rfl) | exact .inr (.inr rfl)) rfl ?_
    | refine we_var 26 _ rfl (by first | exact .inl rfl | exact .inr (.inl rfl) | exact .inr (.inr rfl)) rfl ?_
    | refine we_var 27 _ rfl (by first | exact .inl rfl | exact .inr (.inl rfl) | exact .inr (.inr rfl)) rfl ?_
    | refine we_var 28 _ rfl (by first | exact .inl rfl | exact .inr (.inl rfl) | exact .inr (.inr rfl)) rfl ?_
    | refine we_var 29 _ rfl (by first | exact .inl rfl | exact .inr (.inl rfl) | exact .inr (.inr rfl)) rfl ?_
    | refine we_globI (by assumption) rfl ?_
    | refine we_globS (by assumption) rfl ?_)
local macro_rules | `(tactic| walk_at "e.const") => `(tactic| first
    | refine we_int ?_
    | refine we_str ?_
    | refine we_bl ?_
    | refine we_non ?_)
local macro_rules | `(tactic| walk_at "e.call") => `(tactic| first
    | refine we_len (by assumption) rfl ?_
    | refine we_int2 (by assumption) rfl ?_
    | refine we_tuple (Ct.gs (by assumption)) (by assumption) rfl ?_
    | refine we_abs (by assumption) rfl ?_
    | refine we_find ?_)
local macro_rules | `(tactic| walk_at "e.we") => `(tactic| first
    | (refine gNm ?_; walk_at "e.name")
    | (refine gConst ?_; walk_at "e.const")
    | refine we_bin (Ct.gs (by assumption)) ?_
    | (refine gCall ?_; walk_at "e.call")
    | refine we_cmp (Ct.hu (by assumption)) ?_
    | refine we_ix ?_
    | refine we_slice (Ct.gs (by assumption)) ?_
    | refine we_fld ?_
    | refine we_tup (Ct.gs (by assumption)) ?_
    | refine we_chain (Ct.hu (by assumption)) ?_
    | refine we_lst1 (Ct.gs (by assumption)) ?_
    | refine we_ifx ?_
    | refine we_and ?_
    | refine we_or ?_
    | refine we_one ?_
    | refine we_not ?_
    | refine we_negI ?_
    | refine we_neg ?_)
local macro_rules | `(tactic| walk_at "e.wt") => `(tactic| first
    | refine wt_cmp (Ct.hu (by assumption)) ?_
    | refine wt_chain (Ct.hu (by assumption)) ?_
    | refine wt_not ?_
    | refine wt_bool ?_
    | refine wt_val ?_)
local macro_rules | `(tactic| walk_at "e.ww") => `(tactic| first
    | refine ww_and ?_
    | refine ww_or ?_
    | refine ww_and1 ?_
    | refine ww_or1 ?_)
local macro_rules | `(tactic| walk_at "e.wa") => `(tactic| first
    | refine wa_nil ?_
    | refine wa_cons ?_)
local macro_rules | `(tactic| walk_at "e.wss") => `(tactic| first
    | refine wss_cons ?_
    | refine wss_nil ?_)
local macro_rules | `(tactic| walk_at "e.ws") => `(tactic| first
    | refine ws_if ?_
    | refine ws_expr (we_append (Ct.gs (by assumption)) ?_ (pe_bm PySem.F.plainAttrs_list PySem.F.slot_list_append PySem.F.type_list_append mt_append pe_wp pa_wp))
    | refine ws_fldSub (Ct.gs (by assumption)) ?_
    | refine ws_fldAddW (Ct.gs (by assumption)) ?_
    | refine ws_expr ?_
    | refine ws_set 0 (Ct.nd (by assumption)) ?_
    | refine ws_set 1 (Ct.nd (by assumption)) ?_
    | refine ws_set 2 (Ct.nd (by assumption)) ?_
    | refine ws_set 3 (Ct.nd (by assumption)) ?_
    | refine ws_set 4 (Ct.nd (by assumption)) ?_
    | refine ws_set 5 (Ct.nd (by assumption)) ?_
    | refine ws_set 6 (Ct.nd (by assumption)) ?_
    | refine ws_set 7 (Ct.nd (by assumption)) ?_
    | refine ws_set 8 (Ct.nd (by assumption)) ?_
    | refine ws_set 9 (Ct.nd (by assumption)) ?_
    | refine ws_set 10 (Ct.nd (by assumption)) ?_
    | refine ws_set 11 (Ct.nd (by assumption)) ?_
    | refine ws_set 12 (Ct.nd (by assumption)) ?_
    | refine ws_set 13 (Ct.nd (by assumption)) ?_
    | refine ws_set 14 (Ct.nd (by assumption)) ?_
    | refine ws_set 15 (Ct.nd (by assumption)) ?_
    | refine ws_set 16 (Ct.nd (by assumption)) ?_
    | refine ws_set 17 (Ct.nd (by assumption)) ?_
    | refine ws_set 18 (Ct.nd (by assumption)) ?_
    | refine ws_set 19 (Ct.nd (by assumption)) ?_
    | refine ws_set 20 (Ct.nd (by assumption)) ?_
    | refine ws_set 21 (Ct.nd (by assumption)) ?_
    | refine ws_set 22 (Ct.nd (by assumption)) ?_
    | refine ws_set 23 (Ct.nd (by assumption)) ?_
    | refine ws_set 24 (Ct.nd (by assumption)) ?_
    | refine ws_set 25 (Ct.nd (by assumption)) ?_
    | refine ws_set 26 (Ct.nd (by assumption)) ?_
    | refine ws_set 27 (Ct.nd (by assumption)) ?_
    | refine ws_set 28 (Ct.nd (by assumption)) ?_
    | refine ws_set 29 (Ct.nd (by assumption)) ?_
    | refine ws_sub (Ct.gs (by assumption)) ?_ (fun a b => pg_sub a b set_list)
    | refine ws_fld (Ct.gs (by assumption)) ?_
    | refine ws_pass ?_
    | refine ws_break ?_
    | refine ws_cont ?_)
local macro_rules | `(tactic| walk_at "e.bin") => `(tactic| first
    | refine BinD.addI ?_
    | refine BinD.subI ?_
    | refine BinD.modP (by assumption) ?_
    | refine BinD.divP (by assumption) ?_
    | refine BinD.modI (by decide) ?_
    | refine BinD.modI (by assumption) ?_
    | refine BinD.divI (by decide) (by decide) ?_
    | refine BinD.divI (by assumption) (by assumption) ?_
    | refine BinD.mulI (by first | exact .inl ⟨by decide, by decide⟩ | exact .inr ⟨by decide, by decide⟩) ?_
    | refine BinD.xorI ?_
    | refine BinD.powI ⟨by decide, by decide, by decide⟩ ?_)
local macro_rules | `(tactic| walk_at "e.cmp") => `(tactic| first
    | refine CmpD.lt ?_
    | refine CmpD.le ?_
    | refine CmpD.gt ?_
    | refine CmpD.ge ?_
    | refine CmpD.isN ?_
    | refine CmpD.notN ?_
    | refine CmpD.neI_s ?_
    | refine CmpD.neT_s ?_
    | refine CmpD.neZ_s ?_
    | refine CmpD.eqZ_s ?_
    | refine CmpD.neN_s ?_
    | refine CmpD.eqN_s ?_
    | refine CmpD.neTZ ?_
    | refine CmpD.eqTZ ?_
    | refine CmpD.eqI ?_
    | refine CmpD.neI ?_
    | refine CmpD.eqZ ?_
    | refine CmpD.neZ ?_)
local macro_rules | `(tactic| walk_at "e.is") => `(tactic| first
    | refine gSz ?_
    | refine gFld (by assumption) (by assumption) rfl ?_
    | refine gFldS (by assumption) (by assumption) (by first | decide | (repeat (first | refine plA ?_ | refine plB ?_)); simp) ?_
    | refine gFldU (by first | decide | (repeat (first | refine plA ?_ | refine plB ?_)); simp) ?_
    | refine IsI.mk ?_
    | refine IsT.mk ?_
    | refine IsL.mk ?_
    | refine IsZ.mk ?_
    | refine IsB.mk ?_
    | refine OwL.mk 0 rfl ?_
    | refine OwL.mk 1 rfl ?_
    | refine OwL.mk 2 rfl ?_
    | refine OwL.mk 3 rfl ?_
    | refine OwL.mk 4 rfl ?_
    | refine OwL.mk 5 rfl ?_
    | refine OwI.mk 0 rfl ?_
    | refine OwI.mk 1 rfl ?_
    | refine OwI.mk 2 rfl ?_
    | refine OwI.mk 3 rfl ?_
    | refine OwI.mk 4 rfl ?_
    | refine OwI.mk 5 rfl ?_
    | refine OwI.mk _ (by assumption) ?_
    | refine OwI.mk _ (set_at (by assumption)) ?_
    | refine OwI.mk _ (set_at (set_at (by assumption))) ?_
    | refine OwL.mk _ (by assumption) ?_
    | refine OwL.mk _ (set_at (by assumption)) ?_
    | refine OwL.mk _ (set_at (set_at (by assumption))) ?_
    | refine OwL.mk _ (set_at (set_at (set_at (by assumption)))) ?_
    | refine IxD.own 0 rfl rfl ?_
    | refine IxD.own 1 rfl rfl ?_
    | refine IxD.own 2 rfl rfl ?_
    | refine IxD.own 3 rfl rfl ?_
    | refine IxD.own 4 rfl rfl ?_
    | refine IxD.own 5 rfl rfl ?_
    | refine IxD.own _ (by assumption) rfl ?_
    | refine IxD.own _ (set_at (by assumption)) rfl ?_
    | refine IxD.own _ (set_at (set_at (by assumption))) rfl ?_
    | refine IxD.own _ (set_at (set_at (set_at (by assumption)))) rfl ?_
    | refine IxD.tup rfl ?_
    | refine IxD.lst rfl ?_
    | refine IntD.int ?_
    | refine IntD.bl ?_
    | refine TruD.bl ?_
    | refine TruD.int ?_
    | refine TruD.tup ?_
    | refine TruD.lst ?_
    | refine LenD.tup ?_
    | refine LenD.lst ?_
    | refine SeqD.tup ?_
    | refine SeqD.lst ?_
    | refine SlD.tup ?_
    | refine SlD.lst ?_
    | refine SeqD.own 0 rfl ?_
    | refine SeqD.own 1 rfl ?_
    | refine SeqD.own 2 rfl ?_
    | refine SeqD.own 3 rfl ?_
    | refine SeqD.own 4 rfl ?_
    | refine SeqD.own 5 rfl ?_
    | refine LenD.own 0 rfl ?_
    | refine LenD.own 1 rfl ?_
    | refine LenD.own 2 rfl ?_
    | refine LenD.own 3 rfl ?_
    | refine LenD.own 4 rfl ?_
    | refine LenD.own 5 rfl ?_)
local macro_rules | `(tactic| walk_at "e1") => `(tactic| first
    | (refine gWE ?_; walk_at "e.we")
    | (refine gBinD ?_; walk_at "e.bin")
    | (refine gWSs ?_; walk_at "e.wss")
    | (refine gWS ?_; walk_at "e.ws")
    | (refine gWT ?_; walk_at "e.wt")
    | (refine gCmpD ?_; walk_at "e.cmp")
    | (refine gWA ?_; walk_at "e.wa")
    | (refine gWW ?_; walk_at "e.ww")
    | refine iteT ?_
    | refine iteF ?_
    | walk_at "e.is")
local macro_rules | `(tactic| walk_at "x1") => `(tactic| first
    | (refine gWE ?_; walk_at "e.we")
    | (refine gBinD ?_; walk_at "e.bin")
    | (refine gWT ?_; walk_at "e.wt")
    | (refine gCmpD ?_; walk_at "e.cmp")
    | (refine gWA ?_; walk_at "e.wa")
    | (refine gWW ?_; walk_at "e.ww")
    | refine iteT ?_
    | refine iteF ?_
    | walk_at "e.is")
local macro_rules | `(tactic| walk_at "e") => `(tactic| repeat (walk_at "e1"))
local macro_rules | `(tactic| walk_at "x") => `(tactic| repeat (walk_at "x1"))
def hit (o n p : Int) (f : Fw) : Prop := f.opener = o ∧ f.number = n ∧ f.peer = p
def taken (fs : List Fw) (p : Int) : List Int := (fs.filter fun f => decide (f.peer = p)).map (·.outer)
structure Least (fs : List Fw) (p k : Int) : Prop where
  one : 1 ≤ k
  free : k ∉ taken fs p
  low : ∀ j, 1 ≤ j → j < k → j ∈ taken fs p
theorem nodup_le : ∀ {l m : List Int}, l.Nodup → (∀ x ∈ l, x ∈ m) → l.length ≤ m.length
  | [], m, _, _ => Nat.zero_le _
  | x :: l, m, h, hs => by
    have hx := hs x List.mem_cons_self
    obtain ⟨h1, h2⟩ := List.nodup_cons.mp h
    have ih := nodup_le (m := m.erase x) h2 fun y hy => (List.mem_erase_of_ne (fun e => h1 (by rw [← e]; exact hy))).mpr (hs y (List.mem_cons_of_mem _ hy))
    rw [List.length_erase_of_mem hx] at ih
    have := List.length_pos_of_mem hx
    rw [List.length_cons]
    omega
theorem run_le {l : List Int} {k : Nat} (h : ∀ j : Int, 1 ≤ j → j < k + 1 → j ∈ l) : k ≤ l.length := by
  have nd : ((List.range k).map (fun i : Nat => (i : Int) + 1)).Nodup := by
    refine List.Pairwise.map _ (fun a b (e : a ≠ b) z => e ?_) List.nodup_range
    have : (a : Int) + 1 = (b : Int) + 1 := z
    omega
  have := nodup_le nd fun x hx => by
    obtain ⟨i, hi, rfl⟩ := List.mem_map.mp hx
    have := List.mem_range.mp hi
    exact h _ (by omega) (by omega)
  rwa [List.length_map, List.length_range] at this
def S_flowof (C CF : Addr) : SpD := fun ds M xr R => ∃ (a : Ta) (ins : List Int) (fs : List Fw) (dk : List (Key × D)) (o n p t : Int) (M0 : Ms), ds = [Rf a.t, I o, I n, I p, I t] ∧ SP (trM C CF a ins fs dk ++ M0) M ∧ fs.length ≤ 100 ∧
  (∀ (i : Nat) (f : Fw), fs[i]? = some f → hit o n p f → (∀ (j : Nat) (g : Fw), j < i → fs[j]? = some g → ¬ hit o n p g) → R (trM C CF a ins fs dk ++ M0) (Rf f.addr)) ∧
  ((∀ f ∈ fs, ¬ hit o n p f) → 50 ≤ fs.length → R (trM C CF a ins fs dk ++ M0) N0) ∧
  ((∀ f ∈ fs, ¬ hit o n p f) → fs.length < 50 → ∀ q k, Least fs p k → R (trM C CF a ins (fs ++ [⟨q, o, n, k, p, t⟩]) dk ++ M0) (Rf q))
section
variable {P : Program} {w : World} {K : PySem.W.Frag} {mg : Str → Option Value} {base : Heap} {G : Hp → Prop}
theorem gf_flowof {f fi C CF : Addr} {fd : FuncData} {t1 : Tok} (F : Fun K "flow_of" "Translator.flow_of" s_Translator_flow_of f fd) (gs : Gst G) (dc : TrC K C) (fc : FwC K CF) (gM : mg "MOST_FLOWS" = some (.int 50 t1)) (ml : mg "len" = none) (mF : mg "Flow" = some (.ref CF)) (mk : Mk K CF fi) (gi : Gf P w K mg base G 1 fi [] (S_finit CF)) : Gf P w K mg base G 3 f [] (S_flowof C CF) := by
  refine gf_of F sc_Translator_flow_of gs (F.binds fun _ _ _ _ _ _ us hl => match us, hl with | [_, _, _, _, _], _ => rfl) .nil (fun ds M xr R h => by obtain ⟨a, ins, fs, dk, o, n, p, t, M0, rfl, _⟩ := h; rfl) ?_
  rintro X W M ds xr R ⟨cdv, A, outer, s, H, E0, rfl⟩ cx ⟨a, ins, fs, dk, o, n, p, t, M0, rfl, hsp, hl, h1, h2, h3⟩
  refine wss_sp hsp ?_
  refine wss_cons (ws_forP cx (pgn 5 cx.nd) (gok_name 5) (fun l i M' ρ' => M' = trM C CF a ins fs dk ++ M0 ∧ (∀ (j : Nat) (g : Fw), j < i → fs[j]? = some g → ¬ hit o n p g) ∧ ∃ z, ρ' = [some (Rf a.t), some (I o), some (I n), some (I p), some (I t), z, none, none, none]) (wi_lstP ?_))
  walk_at "e"
  refine ⟨dc.c, dc.n3, _, rfl, ?_⟩
  refine ⟨1, a.fl, _, rfl, rfl, fun i M' ρ' h => ⟨1, by rw [h.1]; rfl⟩, ⟨rfl, fun j g hj => absurd hj (Nat.not_lt_zero _), none, rfl⟩, ?_, ?_⟩
  · rintro i z hz M' ρ' ⟨rfl, hno, y, rfl⟩
    obtain ⟨g, hg, rfl⟩ := map_at hz
    have hx := trM_at (C := C) (CF := CF) (a := a) (ins := ins) (dk := dk) (M0 := M0) hg
    walk_at "e"
    refine ⟨fc.c, fc.n1, _, rfl, ?_⟩
    walk_at "e"
    refine ⟨fc.c, fc.n2, _, rfl, ?_⟩
    walk_at "e"
    refine ⟨fc.c, fc.n4, _, rfl, ?_⟩
    walk_at "e"
    refine CmpD.eqT (i := [g.opener, g.number, g.peer]) (j := [o, n, p]) (ite_d (fun hh => ?_) (fun hh => ?_))
    · refine wss_one (ws_ret ?_)
      walk_at "e"
      refine h1 i g hg ?_ hno
      obtain ⟨e1, hh⟩ := List.cons.inj hh
      obtain ⟨e2, hh⟩ := List.cons.inj hh
      obtain ⟨e3, hh⟩ := List.cons.inj hh
      exact ⟨e1, e2, e3⟩
    · refine wss_nil (wss_nil ⟨rfl, fun j g' hj hg' hh' => ?_, some (Rf g.addr), rfl⟩)
      rcases Nat.lt_or_ge j i with q | q
      · exact hno j g' q hg' hh'
      · obtain rfl : j = i := by omega
        rw [hg] at hg'
        cases hg'
        obtain ⟨e1, e2, e3⟩ := hh'
        exact hh (by rw [e1, e2, e3])
  · rintro M' ρ' ⟨rfl, hno, y, rfl⟩
    rw [List.length_map] at hno
    have hall : ∀ f ∈ fs, ¬ hit o n p f := fun f hf => by
      obtain ⟨j, hj⟩ := List.getElem?_of_mem hf
      exact hno j f (at_lt hj) hj
    walk_at "e"
    refine ⟨dc.c, dc.n3, _, rfl, ?_⟩
    walk_at "e"
    rw [List.length_map]
    refine ite_d (fun hf => ?_) (fun hf => ?_)
    · refine wss_one (ws_ret ?_)
      walk_at "e"
      exact h2 hall (by omega)
    · refine wss_nil (wss_cons (ws_setLcA 6 cx cx.nd [("flow", 5)] fs (fun y => Rf y.addr) (fun y => decide (y.peer = p)) (fun y => I y.outer) (gok_name 5) (gwipe_name 5) (amono_name 5) (fun s H C cl fp => pgn 5 cx.nd) (blkOk_by (by show blkC N_Translator_flow_of (defScope s_Translator_flow_of) _ _ = true; decide +kernel)) (sw_true rfl rfl rfl (by decide +kernel)) (wi_lstP ?_)))
      walk_at "e"
      refine ⟨dc.c, dc.n3, _, rfl, ?_⟩
      refine ⟨1, a.fl, _, rfl, rfl, rfl, fun x M' ⟨i, h⟩ => ⟨i + 1, h⟩, ⟨1, rfl⟩, by simp only [sizeLine]; omega, fun y hy => ?_, ?_⟩
      · obtain ⟨i, hi⟩ := List.getElem?_of_mem hy
        refine itemA1 (amono_name 5) fun q acc => ?_
        rintro Y ⟨s', H', C', cl', fp', rfl⟩ cy
        have hx : ((q, O.lst acc) :: (trM C CF a ins fs dk ++ M0))[4 + i]? = some (y.addr, O.ins CF (fwF y)) := by
          rw [show 4 + i = 3 + i + 1 by omega, List.getElem?_cons_succ]
          exact trM_at hi
        walk_at "e"
        refine ⟨fc.c, fc.n4, _, rfl, ?_⟩
        walk_at "e"
        refine ⟨rfl, rfl, fun _ => ?_⟩
        rintro Y' ⟨s2, H2, C2, cl2, fp2, rfl⟩ cy2
        walk_at "e"
        refine ⟨fc.c, fc.n3, _, rfl, ?_⟩
        exact ⟨rfl, rfl⟩
      · have etk : ((fs.filter fun y => decide (y.peer = p)).map fun y => I y.outer) = (taken fs p).map fun i => I i := by unfold taken; rw [List.map_map]; rfl
        rw [etk]
        have htl : (taken fs p).length ≤ fs.length := by unfold taken; rw [List.length_map]; exact List.length_filter_le _ _
        walk_at "e"
        refine ws_while cx (fun m M' ρ' => M' = trM C CF a ins fs dk ++ M0 ∧ ∃ k : Int, 1 ≤ k ∧ (∀ j : Int, 1 ≤ j → j < k → j ∈ taken fs p) ∧ m = (fs.length + 1 - k.toNat) ∧ ∃ y, ρ' = [some (Rf a.t), some (I o), some (I n), some (I p), some (I t), y, some (.lst ((taken fs p).map fun i => I i)), some (I k), none]) ?_ ?_
        · exact ⟨_, rfl, 1, by omega, fun j h1 h2 => by omega, rfl, _, rfl⟩
        · rintro m M' ρ' ⟨rfl, k, k1, kl, rfl, y, rfl⟩
          have hk : k.toNat - 1 ≤ (taken fs p).length := run_le fun j j1 j2 => kl j j1 (by omega)
          walk_at "e"
          refine CmpD.inE (enc := fun i : Int => I i) (n := 1) encI (ite_d (fun hin => ?_) (fun hin => ?_))
          · walk_at "e"
            refine ws_augI (f := fun i j => i + j) 7 cx.nd ip_add ⟨k, rfl, ?_⟩
            walk_at "e"
            try refine .mk ?_
            try refine wss_nil ?_
            refine ⟨_, ?_, rfl, k + 1, by omega, fun j j1 j2 => ?_, rfl, y, rfl⟩
            · have : k.toNat ≤ (taken fs p).length := run_le fun j j1 j2 => by
                rcases Int.lt_or_le j k with q | q
                · exact kl j j1 q
                · obtain rfl : j = k := by omega
                  exact hin
              omega
            · rcases Int.lt_or_le j k with q | q
              · exact kl j j1 q
              · obtain rfl : j = k := by omega
                exact hin
          · have lst : Least fs p k := ⟨k1, hin, kl⟩
            refine wss_cons (ws_set 8 cx.nd (we_make cx gi (by decide) mk mF rfl ?_ finit_ret))
            walk_at "e"
            refine fun q => ⟨q, o, n, k, p, t, _, rfl, rfl, ?_⟩
            refine wss_cons (ws_expr (we_append gs ?_ (pe_bm PySem.F.plainAttrs_list PySem.F.slot_list_append PySem.F.type_list_append mt_append pe_wp pa_wp)))
            walk_at "x"
            refine ⟨dc.c, dc.n3, _, rfl, ?_⟩
            refine .mk 2 rfl ?_
            walk_at "x"
            refine ⟨by rw [List.length_map]; exact sz2 (by omega), ?_⟩
            refine wss_sp (M0 := trM C CF a ins (fs ++ [⟨q, o, n, k, p, t⟩]) dk ++ M0) ⟨_, ?_, List.Sublist.refl _⟩ ?_
            · have e1 : fwM CF (fs ++ [⟨q, o, n, k, p, t⟩]) = fwM CF fs ++ [(q, .ins CF (fwF ⟨q, o, n, k, p, t⟩))] := by unfold fwM; rw [List.map_append]; rfl
              refine List.Perm.symm ?_
              show List.Perm ((a.t, O.ins C _) :: (a.fl, .lst ((fs ++ [Fw.mk q o n k p t]).map fun f => Rf f.addr)) :: (a.dr, .dK dk) :: (fwM CF (fs ++ [⟨q, o, n, k, p, t⟩]) ++ M0)) _
              rw [e1, List.map_append, List.append_assoc]
              exact (List.perm_middle (l₁ := (a.t, O.ins C _) :: (a.fl, .lst (fs.map (fun f => Rf f.addr) ++ [Rf q])) :: (a.dr, .dK dk) :: fwM CF fs) (a := (q, O.ins CF (fwF ⟨q, o, n, k, p, t⟩))) (l₂ := M0))
            · refine wss_one (ws_ret ?_)
              walk_at "e"
              exact h3 hall (by omega) q k lst
end

end K24
set_option maxRecDepth 100000
set_option maxHeartbeats 4000000

namespace K24
open PySem PySem.Spec PyProof.Rows L2 Wv
open LamX (CodeO TabS Tabs ExtN TabB lamEnv lamCx LamS)
local macro_rules | `(tactic| walk_at "e.name") => `(tactic| first
    | refine we_var 0 _ rfl (by first | exact .inl rfl | exact .inr (.inl rfl) | exact .inr (.inr rfl)) rfl ?_
    | refine we_var 1 _ rfl (by first | exact .inl rfl | exact .inr (.inl rfl) | exact .inr (.inr rfl)) rfl ?_
    | refine we_var 2 _ rfl (by first | exact .inl rfl | exact .inr (.inl rfl) | exact .inr (.inr rfl)) rfl ?_
    | refine we_var 3 _ rfl (by first | exact .inl rfl | exact .inr (.inl rfl) | exact .inr (.inr rfl)) rfl ?_
    | refine we_var 4 _ rfl (by first | exact .inl rfl | exact .inr (.inl rfl) | exact .inr (.inr rfl)) rfl ?_
    | refine we_var 5 _ rfl (by first | exact .inl rfl | exact .inr (.inl rfl) | exact .inr (.inr rfl)) rfl ?_
    | refine we_var 6 _ rfl (by first | exact .inl rfl | exact .inr (.inl rfl) | exact .inr (.inr rfl)) rfl ?_
    | refine we_var 7 _ rfl (by first | exact .inl rfl | exact .inr (.inl rfl) | exact .inr (.inr rfl)) rfl ?_
    | refine we_var 8 _ rfl (by first | exact .inl rfl | exact .inr (.inl rfl) | exact .inr (.inr rfl)) rfl ?_
    | refine we_var 9 _ rfl (by first | exact .inl rfl | exact .inr (.inl rfl) | exact .inr (.inr rfl)) rfl ?_
    | refine we_var 10 _ rfl (by first | exact .inl rfl | exact .inr (.inl rfl) | exact .inr (.inr rfl)) rfl ?_
    | refine we_var 11 _ rfl (by first | exact .inl rfl | exact .inr (.inl rfl) | exact .inr (.inr rfl)) rfl ?_
    | refine we_var 12 _ rfl (by first | exact .inl rfl | exact .inr (.inl rfl) | exact .inr (.inr rfl)) rfl ?_
    | refine we_var 13 _ rfl (by first | exact .inl rfl | exact .inr (.inl rfl) | exact .inr (.inr rfl)) rfl ?_
    | refine we_var 14 _ rfl (by first | exact .inl rfl | exact .inr (.inl rfl) | exact .inr (.inr rfl)) rfl ?_
    | refine we_var 15 _ rfl (by first | exact .inl rfl | exact .inr (.inl rfl) | exact .inr (.inr rfl)) rfl ?_
    | refine we_var 16 _ rfl (by first | exact .inl rfl | exact .inr (.inl rfl) | exact .inr (.inr rfl)) rfl ?_
    | refine we_var 17 _ rfl (by first | exact .inl rfl | exact .inr (.inl rfl) | exact .inr (.inr rfl)) rfl ?_
    | refine we_var 18 _ rfl (by first | exact .inl rfl | exact .inr (.inl rfl) | exact .inr (.inr rfl)) rfl ?_
    | refine we_var 19 _ rfl (by first | exact .inl rfl | exact .inr (.inl rfl) | exact .inr (.inr rfl)) rfl ?_
    | refine we_var 20 _ rfl (by first | exact .inl rfl | exact .inr (.inl rfl) | exact .inr (.inr rfl)) rfl ?_
    | refine we_var 21 _ rfl (by first | exact .inl rfl | exact .inr (.inl rfl) | exact .inr (.inr rfl)) rfl ?_
    | refine we_var 22 _ rfl (by first | exact .inl rfl | exact .inr (.inl rfl) | exact .inr (.inr rfl)) rfl ?_
    | refine we_var 23 _ rfl (by first | exact .inl rfl | exact .inr (.inl rfl) | exact .inr (.inr rfl)) rfl ?_
    | refine we_var 24 _ rfl (by first | exact .inl rfl | exact .inr (.inl rfl) | exact .inr (.inr rfl)) rfl ?_
    | refine we_var 25 _ rfl (by first | exact .inl rfl | exact .inr (.inl rfl) | exact .inr (.inr rfl)) rfl ?_
    | refine we_var 26 _ rfl (by first | exact .inl rfl | exact .inr (.inl rfl) | exact .inr (.inr rfl)) rfl ?_
    | refine we_var 27 _ rfl (by first | exact .inl rfl | exact .inr (.inl rfl) | exact .inr (.inr rfl)) rfl ?_
    | refine we_var 28 _ rfl (by first | exact .inl rfl | exact .inr (.inl rfl) | exact .inr (.inr rfl)) rfl ?_
    | refine we_var 29 _ rfl (by first | exact .inl rfl | exact .inr (.inl rfl) | exact .inr (.inr rfl)) rfl ?_
    | refine we_globI (by assumption) rfl ?_
    | refine we_globS (by assumption) rfl ?_)
local macro_rules | `(tactic| walk_at "e.const") => `(tactic| first
    | refine we_int ?_
    | refine we_str ?_
    | refine we_bl ?_
    | refine we_non ?_)
local macro_rules | `(tactic| walk_at "e.call") => `(tactic| first
    | refine we_len (by assumption) rfl ?_
    | refine we_int2 (by assumption) rfl ?_
    | refine we_tuple (Ct.gs (by assumption)) (by assumption) rfl ?_
    | refine we_abs (by assumption) rfl ?_
    | refine we_find ?_)
local macro_rules | `(tactic| walk_at "e.we") => `(tactic| first
    | (refine gNm ?_; walk_at "e.name")
    | (refine gConst ?_; walk_at "e.const")
    | refine we_bin (Ct.gs (by assumption)) ?_
    | (refine gCall ?_; walk_at "e.call")
    | refine we_cmp (Ct.hu (by assumption)) ?_
    | refine we_ix ?_
    | refine we_slice (Ct.gs (by assumption)) ?_
    | refine we_fld ?_
    | refine we_tup (Ct.gs (by assumption)) ?_
    | refine we_chain (Ct.hu (by assumption)) ?_
    | refine we_lst1 (Ct.gs (by assumption)) ?_
    | refine we_ifx ?_
    | refine we_and ?_
    | refine we_or ?_
    | refine we_one ?_
    | refine we_not ?_
    | refine we_negI ?_
    | refine we_neg ?_)
local macro_rules | `(tactic| walk_at "e.wt") => `(tactic| first
    | refine wt_cmp (Ct.hu (by assumption)) ?_
    | refine wt_chain (Ct.hu (by assumption)) ?_
    | refine wt_not ?_
    | refine wt_bool ?_
    | refine wt_val ?_)
local macro_rules | `(tactic| walk_at "e.ww") => `(tactic| first
    | refine ww_and ?_
    | refine ww_or ?_
    | refine ww_and1 ?_
    | refine ww_or1 ?_)
local macro_rules | `(tactic| walk_at "e.wa") => `(tactic| first
    | refine wa_nil ?_
    | refine wa_cons ?_)
local macro_rules | `(tactic| walk_at "e.wss") => `(tactic| first
    | refine wss_cons ?_
    | refine wss_nil ?_)
local macro_rules | `(tactic| walk_at "e.ws") => `(tactic| first
    | refine ws_if ?_
    | refine ws_expr (we_append (Ct.gs (by assumption)) ?_ (pe_bm PySem.F.plainAttrs_list PySem.F.slot_list_append PySem.F.type_list_append mt_append pe_wp pa_wp))
    | refine ws_fldSub (Ct.gs (by assumption)) ?_
    | refine ws_fldAddW (Ct.gs (by assumption)) ?_
    | refine ws_expr ?_
    | refine ws_set 0 (Ct.nd (by assumption)) ?_
    | refine ws_set 1 (Ct.nd (by assumption)) ?_
    | refine ws_set 2 (Ct.nd (by assumption)) ?_
    | refine ws_set 3 (Ct.nd (by assumption)) ?_
    | refine ws_set 4 (Ct.nd (by assumption)) ?_
    | refine ws_set 5 (Ct.nd (by assumption)) ?_
    | refine ws_set 6 (Ct.nd (by assumption)) ?_
    | refine ws_set 7 (Ct.nd (by assumption)) ?_
    | refine ws_set 8 (Ct.nd (by assumption)) ?_
    | refine ws_set 9 (Ct.nd (by assumption)) ?_
    | refine ws_set 10 (Ct.nd (by assumption)) ?_
    | refine ws_set 11 (Ct.nd (by assumption)) ?_
    | refine ws_set 12 (Ct.nd (by assumption)) ?_
    | refine ws_set 13 (Ct.nd (by assumption)) ?_
    | refine ws_set 14 (Ct.nd (by assumption)) ?_
    | refine ws_set 15 (Ct.nd (by assumption)) ?_
    | refine ws_set 16 (Ct.nd (by assumption)) ?_
    | refine ws_set 17 (Ct.nd (by assumption)) ?_
    | refine ws_set 18 (Ct.nd (by assumption)) ?_
    | refine ws_set 19 (Ct.nd (by assumption)) ?_
    | refine ws_set 20 (Ct.nd (by assumption)) ?_
    | refine ws_set 21 (Ct.nd (by assumption)) ?_
    | refine ws_set 22 (Ct.nd (by assumption)) ?_
    | refine ws_set 23 (Ct.nd (by assumption)) ?_
    | refine ws_set 24 (Ct.nd (by assumption)) ?_
    | refine ws_set 25 (Ct.nd (by assumption)) ?_
    | refine ws_set 26 (Ct.nd (by assumption)) ?_
    | refine ws_set 27 (Ct.nd (by assumption)) ?_
    | refine ws_set 28 (Ct.nd (by assumption)) ?_
    | refine ws_set 29 (Ct.nd (by assumption)) ?_
    | refine ws_sub (Ct.gs (by assumption)) ?_ (fun a b => pg_sub a b set_list)
    | refine ws_fld (Ct.gs (by assumption)) ?_
    | refine ws_pass ?_
    | refine ws_break ?_
    | refine ws_cont ?_)
local macro_rules | `(tactic| walk_at "e.bin") => `(tactic| first
    | refine BinD.addI ?_
    | refine BinD.subI ?_
    | refine BinD.modP (by assumption) ?_
    | refine BinD.divP (by assumption) ?_
    | refine BinD.modI (by decide) ?_
    | refine BinD.modI (by assumption) ?_
    | refine BinD.divI (by decide) (by decide) ?_
    | refine BinD.divI (by assumption) (by assumption) ?_
    | refine BinD.mulI (by first | exact .inl ⟨by decide, by decide⟩ | exact .inr ⟨by decide, by decide⟩) ?_
    | refine BinD.xorI ?_
    | refine BinD.powI ⟨by decide, by decide, by decide⟩ ?_)
local macro_rules | `(tactic| walk_at "e.cmp") => `(tactic| first
    | refine CmpD.lt ?_
    | refine CmpD.le ?_
    | refine CmpD.gt ?_
    | refine CmpD.ge ?_
    | refine CmpD.isN ?_
    | refine CmpD.notN ?_
    | refine CmpD.neI_s ?_
    | refine CmpD.neT_s ?_
    | refine CmpD.neZ_s ?_
    | refine CmpD.eqZ_s ?_
    | refine CmpD.neN_s ?_
    | refine CmpD.eqN_s ?_
    | refine CmpD.neTZ ?_
    | refine CmpD.eqTZ ?_
    | refine CmpD.eqI ?_
    | refine CmpD.neI ?_
    | refine CmpD.eqZ ?_
    | refine CmpD.neZ ?_)
local macro_rules | `(tactic| walk_at "e.is") => `(tactic| first
    | refine gSz ?_
    | refine gFld (by assumption) (by assumption) rfl ?_
    | refine gFldS (by assumption) (by assumption) (by first | decide | (repeat (first | refine plA ?_ | refine plB ?_)); simp) ?_
    | refine gFldU (by first | decide | (repeat (first | refine plA ?_ | refine plB ?_)); simp) ?_
    | refine IsI.mk ?_
    | refine IsT.mk ?_
    | refine IsL.mk ?_
    | refine IsZ.mk ?_
    | refine IsB.mk ?_
    | refine OwL.mk 0 rfl ?_
    | refine OwL.mk 1 rfl ?_
    | refine OwL.mk 2 rfl ?_
    | refine OwL.mk 3 rfl ?_
    | refine OwL.mk 4 rfl ?_
    | refine OwL.mk 5 rfl ?_
    | refine OwI.mk 0 rfl ?_
    | refine OwI.mk 1 rfl ?_
    | refine OwI.mk 2 rfl ?_
    | refine OwI.mk 3 rfl ?_
    | refine OwI.mk 4 rfl ?_
    | refine OwI.mk 5 rfl ?_
    | refine OwI.mk _ (by assumption) ?_
    | refine OwI.mk _ (set_at (by assumption)) ?_
    | refine OwI.mk _ (set_at (set_at (by assumption))) ?_
    | refine OwL.mk _ (by assumption) ?_
    | refine OwL.mk _ (set_at (by assumption)) ?_
    | refine OwL.mk _ (set_at (set_at (by assumption))) ?_
    | refine OwL.mk _ (set_at (set_at (set_at (by assumption)))) ?_
    | refine IxD.own 0 rfl rfl ?_
    | refine IxD.own 1 rfl rfl ?_
    | refine IxD.own 2 rfl rfl ?_
    | refine IxD.own 3 rfl rfl ?_
    | refine IxD.own 4 rfl rfl ?_
    | refine IxD.own 5 rfl rfl ?_
    | refine IxD.own _ (by assumption) rfl ?_
    | refine IxD.own _ (set_at (by assumption)) rfl ?_
    | refine IxD.own _ (set_at (set_at (by assumption))) rfl ?_
    | refine IxD.own _ (set_at (set_at (set_at (by assumption)))) rfl ?_
    | refine IxD.tup rfl ?_
    | refine IxD.lst rfl ?_
    | refine IntD.int ?_
    | refine IntD.bl ?_
    | refine TruD.bl ?_
    | refine TruD.int ?_
    | refine TruD.tup ?_
    | refine TruD.lst ?_
    | refine LenD.tup ?_
    | refine LenD.lst ?_
    | refine SeqD.tup ?_
    | refine SeqD.lst ?_
    | refine SlD.tup ?_
    | refine SlD.lst ?_
    | refine SeqD.own 0 rfl ?_
    | refine SeqD.own 1 rfl ?_
    | refine SeqD.own 2 rfl ?_
    | refine SeqD.own 3 rfl ?_
    | refine SeqD.own 4 rfl ?_
    | refine SeqD.own 5 rfl ?_
    | refine LenD.own 0 rfl ?_
    | refine LenD.own 1 rfl ?_
    | refine LenD.own 2 rfl ?_
    | refine LenD.own 3 rfl ?_
    | refine LenD.own 4 rfl ?_
    | refine LenD.own 5 rfl ?_)
local macro_rules | `(tactic| walk_at "e1") => `(tactic| first
    | (refine gWE ?_; walk_at "e.we")
    | (refine gBinD ?_; walk_at "e.bin")
    | (refine gWSs ?_; walk_at "e.wss")
    | (refine gWS ?_; walk_at "e.ws")
    | (refine gWT ?_; walk_at "e.wt")
    | (refine gCmpD ?_; walk_at "e.cmp")
    | (refine gWA ?_; walk_at "e.wa")
    | (refine gWW ?_; walk_at "e.ww")
    | refine iteT ?_
    | refine iteF ?_
    | walk_at "e.is")
local macro_rules | `(tactic| walk_at "x1") => `(tactic| first
    | (refine gWE ?_; walk_at "e.we")
    | (refine gBinD ?_; walk_at "e.bin")
    | (refine gWT ?_; walk_at "e.wt")
    | (refine gCmpD ?_; walk_at "e.cmp")
    | (refine gWA ?_; walk_at "e.wa")
    | (refine gWW ?_; walk_at "e.ww")
    | refine iteT ?_
    | refine iteF ?_
    | walk_at "e.is")
local macro_rules | `(tactic| walk_at "e") => `(tactic| repeat (walk_at "e1"))
local macro_rules | `(tactic| walk_at "x") => `(tactic| repeat (walk_at "x1"))
def S_in (C CF CS : Addr) : SpD := fun ds M xr R => ∃ (a : Ta) (ins : List Int) (fs : List Fw) (dk : List (Key × D)) (σ : Int → Option Int) (m : Nat) (src t : Int) (bs : List D) (M0 : Ms), ds = [Rf a.t, I src, .tup bs, I t] ∧ SP (trM C CF a ins fs dk ++ M0) M ∧ DrOk dk σ m ∧ fs.length ≤ 100 ∧
  ((bs = [] ∧ ∀ Mx, xr (.ref CS) (Mx ++ (trM C CF a ins fs dk ++ M0))) ∨ ∃ s : Seg, bs = s.bytes ∧ s.Ok ∧ ∀ fl',
    (∀ h, s.opener = src → σ src = some h → R (trM C CF { a with fl := fl' } ins (fs.filter (live t)) dk ++ M0) (.tup [I h, .tup s.bytes])) ∧
    (¬ (s.opener = src ∧ (σ src).isSome = true) → s.opener ≠ 90 → R (trM C CF { a with fl := fl' } ins (fs.filter (live t)) dk ++ M0) N0) ∧
    (¬ (s.opener = src ∧ (σ src).isSome = true) → s.opener = 90 → (∀ f ∈ fs.filter (live t), ¬ (f.outer = s.number ∧ f.peer = src)) → R (trM C CF { a with fl := fl' } ins (fs.filter (live t)) dk ++ M0) N0) ∧
    (¬ (s.opener = src ∧ (σ src).isSome = true) → s.opener = 90 → ∀ (i : Nat) (f : Fw), (fs.filter (live t))[i]? = some f → f.outer = s.number ∧ f.peer = src → (∀ (j : Nat) (g : Fw), j < i → (fs.filter (live t))[j]? = some g → ¬ (g.outer = s.number ∧ g.peer = src)) →
      Seg.Ok { s with opener := f.opener, number := f.number } ∧ R (trM C CF { a with fl := fl' } ins ((fs.filter (live t)).set i { f with used := t }) dk ++ M0) (.tup [I f.opener, .tup (Seg.bytes { s with opener := f.opener, number := f.number })])))
theorem trM_set {C CF : Addr} {a : Ta} {ins : List Int} {fs : List Fw} {dk : List (Key × D)} {M0 : Ms} {i : Nat} {f : Fw} {t : Int} (h : fs[i]? = some f) : (trM C CF a ins fs dk ++ M0).set (3 + i) (f.addr, .ins CF (fwF { f with used := t })) = trM C CF a ins (fs.set i { f with used := t }) dk ++ M0 := by
  have e1 : (fs.set i { f with used := t }).map (fun f => Rf f.addr) = fs.map fun f => Rf f.addr := map_set_same h rfl
  have e2 : fwM CF (fs.set i { f with used := t }) = (fwM CF fs).set i (f.addr, .ins CF (fwF { f with used := t })) := by unfold fwM; rw [List.map_set]
  show (_ :: _ :: _ :: (fwM CF fs ++ M0)).set (3 + i) _ = (_ :: (a.fl, .lst ((fs.set i { f with used := t }).map fun f => Rf f.addr)) :: _ :: (fwM CF (fs.set i { f with used := t }) ++ M0))
  rw [show 3 + i = i + 1 + 1 + 1 by omega, e1, e2]
  simp only [List.set_cons_succ]
  rw [List.set_append_left _ _ (by unfold fwM; rw [List.length_map]; exact at_lt h)]
section
variable {P : Program} {w : World} {K : PySem.W.Frag} {mg : Str → Option Value} {base : Heap} {G : Hp → Prop}
theorem gf_in {f fr ff fb C CF CS : Addr} {fd : FuncData} (F : Fun K "incoming" "Translator.incoming" s_Translator_incoming f fd) (gs : Gst G) (dc : TrC K C) (fc : FwC K CF) (mr : mg "read_segment" = some (.ref fr)) (gr : GfC P w K mg base G 4 fr [] (S_rseg CS)) (Mf : Meth K C "forget" ff) (gf : Gf P w K mg base G 1 ff [] (S_forget C CF)) (mb : mg "begun_at" = some (.ref fb)) (gb : Gf P w K mg base G 4 fb [] S_begun) : GfC P w K mg base G 5 f [] (S_in C CF CS) := by
  refine gf_ofC F sc_Translator_incoming gs (F.binds fun _ _ _ _ _ _ us hl => match us, hl with | [_, _, _, _], _ => rfl) .nil (fun ds M xr R h => by obtain ⟨a, ins, fs, dk, σ, m, src, t, bs, M0, rfl, _⟩ := h; rfl) ?_
  rintro X W M ds xr R ⟨cdv, A, outer, s, H, E0, rfl⟩ cx ts hpa ⟨a, ins, fs, dk, σ, m, src, t, bs, M0, rfl, hsp, hd, hl, hc⟩
  refine wss_sp hsp ?_
  refine wss_cons (ws_set 4 cx.nd (we_callC cx ts gr (by decide) mr rfl ?_))
  walk_at "e"
  rcases hc with ⟨rfl, hbad⟩ | ⟨g, rfl, hg, hk⟩
  · exact .inr ⟨_, rfl, .inl rfl, hbad⟩
  · refine .inl ⟨g, rfl, hg, ?_⟩
    refine wss_cons (ws_expr (we_meth cx gf (by decide) dc.c Mf ?_))
    walk_at "e"
    refine ⟨rfl, rfl, ?_⟩
    walk_at "e"
    refine ⟨a, ins, fs, dk, t, M0, rfl, ⟨_, List.Perm.refl _, List.Sublist.refl _⟩, by omega, fun fl' => ?_⟩
    obtain ⟨k1, k2, k3, k4⟩ := hk fl'
    refine wss_cons (ws_par 5 6 cx.hc cx.nd ?_ (ps_par cx.hc cx.nd rfl rfl (by decide) rfl rfl pa_wp rfl))
    walk_at "e"
    have fin : ¬ (g.opener = src ∧ (σ src).isSome = true) → WSs (cxOf (L2.CX P w) P w K mg base N_Translator_incoming "Translator.incoming" (defScope s_Translator_incoming) f cdv A outer s H E0) G W ((defBody s_Translator_incoming).drop 4) (trM C CF { a with fl := fl' } ins (fs.filter (live t)) dk ++ M0) [some (Rf a.t), some (I src), some (.tup g.bytes), some (I t), some g.d, some (I g.opener), some (I g.number), none] { nx := fun M' _ => R M' N0, rt := R, bk := fun _ _ => False, ct := fun _ _ => False, xr := xr } := by
      intro hno
      walk_at "e"
      refine ⟨dc.c, dc.n1, _, rfl, ?_⟩
      walk_at "e"
      refine ite_nd (fun h90 => ?_) (fun h90 => ?_)
      · refine wss_one (ws_ret ?_)
        walk_at "e"
        exact k2 hno h90
      · refine wss_nil (wss_cons (ws_forP cx (pgn 7 cx.nd) (gok_name 7) (fun l i M' ρ' => M' = trM C CF { a with fl := fl' } ins (fs.filter (live t)) dk ++ M0 ∧ (∀ (j : Nat) (f : Fw), j < i → (fs.filter (live t))[j]? = some f → ¬ (f.outer = g.number ∧ f.peer = src)) ∧ ∃ z, ρ' = [some (Rf a.t), some (I src), some (.tup g.bytes), some (I t), some g.d, some (I g.opener), some (I g.number), z]) (wi_lstP ?_)))
        walk_at "e"
        refine ⟨dc.c, dc.n3, _, rfl, ?_⟩
        refine ⟨1, fl', _, rfl, rfl, fun i M' ρ' h => ⟨1, by rw [h.1]; rfl⟩, ⟨rfl, fun j f hj => absurd hj (Nat.not_lt_zero _), none, rfl⟩, ?_, ?_⟩
        · rintro i z hz M' ρ' ⟨rfl, hno2, y, rfl⟩
          obtain ⟨f2, hf2, rfl⟩ := map_at hz
          have hx := trM_at (C := C) (CF := CF) (a := { a with fl := fl' }) (ins := ins) (dk := dk) (M0 := M0) hf2
          have back : ¬ (f2.outer = g.number ∧ f2.peer = src) → ∀ (j : Nat) (f : Fw), j < i + 1 → (fs.filter (live t))[j]? = some f → ¬ (f.outer = g.number ∧ f.peer = src) := fun h j f hj e h2 => by
            rcases Nat.lt_or_ge j i with q | q
            · exact hno2 j f q e h2
            · obtain rfl : j = i := by omega
              rw [hf2] at e
              cases e
              exact h h2
          walk_at "e"
          refine ⟨fc.c, fc.n3, _, rfl, ?_⟩
          walk_at "e"
          refine ite_d (fun e1 => ?_) (fun e1 => ?_)
          · walk_at "e"
            refine ⟨fc.c, fc.n4, _, rfl, ?_⟩
            walk_at "e"
            refine ite_d (fun e2 => ?_) (fun e2 => ?_)
            · obtain ⟨hok, hR⟩ := k4 hno h90 i f2 hf2 ⟨e1, e2⟩ hno2
              walk_at "e"
              refine ⟨fc.c, fc.n5, by simp, ?_⟩
              have hi := at_lt hf2
              have hs2 : ((fs.filter (live t)).set i { f2 with used := t })[i]? = some { f2 with used := t } := by rw [List.getElem?_set_self hi]
              have hx2 := trM_at (C := C) (CF := CF) (a := { a with fl := fl' }) (ins := ins) (dk := dk) (M0 := M0) hs2
              have es := trM_set (C := C) (CF := CF) (a := { a with fl := fl' }) (ins := ins) (dk := dk) (M0 := M0) (t := t) hf2
              show WSs _ _ _ _ ((trM C CF { a with fl := fl' } ins (fs.filter (live t)) dk ++ M0).set (3 + i) (f2.addr, .ins CF (fwF { f2 with used := t }))) _ _
              rw [es]
              refine wss_one (ws_ret ?_)
              walk_at "e"
              refine ⟨fc.c, fc.n1, _, rfl, ?_⟩
              walk_at "e"
              refine we_call cx gb (by decide) mb rfl ?_
              walk_at "e"
              refine ⟨fc.c, fc.n1, _, rfl, ?_⟩
              walk_at "e"
              refine ⟨fc.c, fc.n2, _, rfl, ?_⟩
              walk_at "e"
              refine ⟨g, f2.opener, f2.number, rfl, hok, ?_⟩
              walk_at "e"
              exact hR
            · exact wss_nil (wss_nil ⟨rfl, back fun z => e2 z.2, _, rfl⟩)
          · exact iteF (wss_nil (wss_nil ⟨rfl, back fun z => e1 z.1, _, rfl⟩))
        · rintro M' ρ' ⟨rfl, hno2, y, rfl⟩
          rw [List.length_map] at hno2
          refine wss_one (ws_ret ?_)
          walk_at "e"
          refine k3 hno h90 fun f hf => ?_
          obtain ⟨j, hj⟩ := List.getElem?_of_mem hf
          exact hno2 j f (at_lt hj) hj
    refine ⟨_, _, rfl, ?_⟩
    walk_at "e"
    refine ite_d (fun ho => ?_) (fun ho => ?_)
    · refine ww_and1 (wt_din cx ?_)
      walk_at "x"
      refine ⟨dc.c, dc.n4, _, rfl, ?_⟩
      refine ⟨_, .k 2 rfl (Sum.inl src), ?_⟩
      have hv := hd.val src
      rw [hv]
      cases hs : σ src with
      | none => exact iteF (wss_nil (fin fun z => by rw [hs] at z; cases z.2))
      | some h =>
        rw [hs] at hv
        refine iteT (wss_one (ws_ret ?_))
        refine we_tup gs (wa_cons (we_dget cx ?_))
        walk_at "x"
        refine ⟨dc.c, dc.n4, _, rfl, ?_⟩
        walk_at "x"
        refine ⟨I h, by have := DV.k (M := trM C CF { a with fl := fl' } ins (fs.filter (live t)) dk ++ M0) 2 rfl (Sum.inl src); rw [hv] at this; exact this, ?_⟩
        walk_at "e"
        exact k1 h ho hs
    · exact iteF (wss_nil (fin fun z => ho z.1))
end

end K24
set_option maxRecDepth 100000
set_option maxHeartbeats 4000000

namespace K24
open PySem PySem.Spec PyProof.Rows L2 Wv
open LamX (CodeO TabS Tabs ExtN TabB lamEnv lamCx LamS)
local macro_rules | `(tactic| walk_at "e.name") => `(tactic| first
    | refine we_var 0 _ rfl (by first | exact .inl rfl | exact .inr (.inl rfl) | exact .inr (.inr rfl)) rfl ?_
    | refine we_var 1 _ rfl (by first | exact .inl rfl | exact .inr (.inl rfl) | exact .inr (.inr rfl)) rfl ?_
    | refine we_var 2 _ rfl (by first | exact .inl rfl | exact .inr (.inl rfl) | exact .inr (.inr rfl)) rfl ?_
    | refine we_var 3 _ rfl (by first | exact .inl rfl | exact .inr (.inl rfl) | exact .inr (.inr rfl)) rfl ?_
    | refine we_var 4 _ rfl (by first | exact .inl rfl | exact .inr (.inl rfl) | exact .inr (.inr rfl)) rfl ?_
    | refine we_var 5 _ rfl (by first | exact .inl rfl | exact .inr (.inl rfl) | exact .inr (.inr rfl)) rfl ?_
    | refine we_var 6 _ rfl (by first | exact .inl rfl | exact .inr (.inl rfl) | exact .inr (.inr rfl)) rfl ?_
    | refine we_var 7 _ rfl (by first | exact .inl rfl | exact .inr (.inl rfl) | exact .inr (.inr rfl)) rfl ?_
    | refine we_var 8 _ rfl (by first | exact .inl rfl | exact .inr (.inl rfl) | exact .inr (.inr rfl)) rfl ?_
    | refine we_var 9 _ rfl (by first | exact .inl rfl | exact .inr (.inl rfl) | exact .inr (.inr rfl)) rfl ?_
    | refine we_var 10 _ rfl (by first | exact .inl rfl | exact .inr (.inl rfl) | exact .inr (.inr rfl)) rfl ?_
    | refine we_var 11 _ rfl (by first | exact .inl rfl | exact .inr (.inl rfl) | exact .inr (.inr rfl)) rfl ?_
    | refine we_var 12 _ rfl (by first | exact .inl rfl | exact .inr (.inl rfl) | exact .inr (.inr rfl)) rfl ?_
    | refine we_var 13 _ rfl (by first | exact .inl rfl | exact .inr (.inl rfl) | exact .inr (.inr rfl)) rfl ?_
    | refine we_var 14 _ rfl (by first | exact .inl rfl | exact .inr (.inl rfl) | exact .inr (.inr rfl)) rfl ?_
    | refine we_var 15 _ rfl (by first | exact .inl rfl | exact .inr (.inl rfl) | exact .inr (.inr rfl)) rfl ?_
    | refine we_var 16 _ rfl (by first | exact .inl rfl | exact .inr (.inl rfl) | exact .inr (.inr rfl)) rfl ?_
    | refine we_var 17 _ rfl (by first | exact .inl rfl | exact .inr (.inl rfl) | exact .inr (.inr rfl)) rfl ?_
    | refine we_var 18 _ rfl (by first | exact .inl rfl | exact .inr (.inl rfl) | exact .inr (.inr rfl)) rfl ?_
    | refine we_var 19 _ rfl (by first | exact .inl rfl | exact .inr (.inl rfl) | exact .inr (.inr rfl)) rfl ?_
    | refine we_var 20 _ rfl (by first | exact .inl rfl | exact .inr (.inl rfl) | exact .inr (.inr rfl)) rfl ?_
    | refine we_var 21 _ rfl (by first | exact .inl rfl | exact .inr (.inl rfl) | exact .inr (.inr rfl)) rfl ?_
    | refine we_var 22 _ rfl (by first | exact .inl rfl | exact .inr (.inl rfl) | exact .inr (.inr rfl)) rfl ?_
    | refine we_var 23 _ rfl (by first | exact .inl rfl | exact .inr (.inl rfl) | exact .inr (.inr rfl)) rfl ?_
    | refine we_var 24 _ rfl (by first | exact .inl rfl | exact .inr (.inl rfl) | exact .inr (.inr rfl)) rfl ?_
    | refine we_var 25 _ rfl (by first | exact .inl rfl | exact .inr (.inl rfl) | exact .inr (.inr rfl)) rfl ?_
    | refine we_var 26 _ rfl (by first | exact .inl rfl | exact .inr (.inl rfl) | exact .inr (.inr rfl)) rfl ?_
    | refine we_var 27 _ rfl (by first | exact .inl rfl | exact .inr (.inl rfl) | exact .inr (.inr rfl)) rfl ?_
    | refine we_var 28 _ rfl (by first | exact .inl rfl | exact .inr (.inl rfl) | exact .inr (.inr rfl)) rfl ?_
    | refine we_var 29 _ rfl (by first | exact .inl rfl | exact .inr (.inl rfl) | exact .inr (.inr rfl)) rfl ?_
    | refine we_globI (by assumption) rfl ?_
    | refine we_globS (by assumption) rfl ?_)
local macro_rules | `(tactic| walk_at "e.const") => `(tactic| first
    | refine we_int ?_
    | refine we_str ?_
    | refine we_bl ?_
    | refine we_non ?_)
local macro_rules | `(tactic| walk_at "e.call") => `(tactic| first
    | refine we_len (by assumption) rfl ?_
    | refine we_int2 (by assumption) rfl ?_
    | refine we_tuple (Ct.gs (by assumption)) (by assumption) rfl ?_
    | refine we_abs (by assumption) rfl ?_
    | refine we_find ?_)
local macro_rules | `(tactic| walk_at "e.we") => `(tactic| first
    | (refine gNm ?_; walk_at "e.name")
    | (refine gConst ?_; walk_at "e.const")
    | refine we_bin (Ct.gs (by assumption)) ?_
    | (refine gCall ?_; walk_at "e.call")
    | refine we_cmp (Ct.hu (by assumption)) ?_
    | refine we_ix ?_
    | refine we_slice (Ct.gs (by assumption)) ?_
    | refine we_fld ?_
    | refine we_tup (Ct.gs (by assumption)) ?_
    | refine we_chain (Ct.hu (by assumption)) ?_
    | refine we_lst1 (Ct.gs (by assumption)) ?_
    | refine we_ifx ?_
    | refine we_and ?_
    | refine we_or ?_
    | refine we_one ?_
    | refine we_not ?_
    | refine we_negI ?_
    | refine we_neg ?_)
local macro_rules | `(tactic| walk_at "e.wt") => `(tactic| first
    | refine wt_cmp (Ct.hu (by assumption)) ?_
    | refine wt_chain (Ct.hu (by assumption)) ?_
    | refine wt_not ?_
    | refine wt_bool ?_
    | refine wt_val ?_)
local macro_rules | `(tactic| walk_at "e.ww") => `(tactic| first
    | refine ww_and ?_
    | refine ww_or ?_
    | refine ww_and1 ?_
    | refine ww_or1 ?_)
local macro_rules | `(tactic| walk_at "e.wa") => `(tactic| first
    | refine wa_nil ?_
    | refine wa_cons ?_)
local macro_rules | `(tactic| walk_at "e.wss") => `(tactic| first
    | refine wss_cons ?_
    | refine wss_nil ?_)
local macro_rules | `(tactic| walk_at "e.ws") => `(tactic| first
    | refine ws_if ?_
    | refine ws_expr (we_append (Ct.gs (by assumption)) ?_ (pe_bm PySem.F.plainAttrs_list PySem.F.slot_list_append PySem.F.type_list_append mt_append pe_wp pa_wp))
    | refine ws_fldSub (Ct.gs (by assumption)) ?_
    | refine ws_fldAddW (Ct.gs (by assumption)) ?_
    | refine ws_expr ?_
    | refine ws_set 0 (Ct.nd (by assumption)) ?_
    | refine ws_set 1 (Ct.nd (by assumption)) ?_
    | refine ws_set 2 (Ct.nd (by assumption)) ?_
    | refine ws_set 3 (Ct.nd (by assumption)) ?_
    | refine ws_set 4 (Ct.nd (by assumption)) ?_
    | refine ws_set 5 (Ct.nd (by assumption)) ?_
    | refine ws_set 6 (Ct.nd (by assumption)) ?_
    | refine ws_set 7 (Ct.nd (by assumption)) ?_
    | refine ws_set 8 (Ct.nd (by assumption)) ?_
    | refine ws_set 9 (Ct.nd (by assumption)) ?_
    | refine ws_set 10 (Ct.nd (by assumption)) ?_
    | refine ws_set 11 (Ct.nd (by assumption)) ?_
    | refine ws_set 12 (Ct.nd (by assumption)) ?_
    | refine ws_set 13 (Ct.nd (by assumption)) ?_
    | refine ws_set 14 (Ct.nd (by assumption)) ?_
    | refine ws_set 15 (Ct.nd (by assumption)) ?_
    | refine ws_set 16 (Ct.nd (by assumption)) ?_
    | refine ws_set 17 (Ct.nd (by assumption)) ?_
    | refine ws_set 18 (Ct.nd (by assumption)) ?_
    | refine ws_set 19 (Ct.nd (by assumption)) ?_
    | refine ws_set 20 (Ct.nd (by assumption)) ?_
    | refine ws_set 21 (Ct.nd (by assumption)) ?_
    | refine ws_set 22 (Ct.nd (by assumption)) ?_
    | refine ws_set 23 (Ct.nd (by assumption)) ?_
    | refine ws_set 24 (Ct.nd (by assumption)) ?_
    | refine ws_set 25 (Ct.nd (by assumption)) ?_
    | refine ws_set 26 (Ct.nd (by assumption)) ?_
    | refine ws_set 27 (Ct.nd (by assumption)) ?_
    | refine ws_set 28 (Ct.nd (by assumption)) ?_
    | refine ws_set 29 (Ct.nd (by assumption)) ?_
    | refine ws_sub (Ct.gs (by assumption)) ?_ (fun a b => pg_sub a b set_list)
    | refine ws_fld (Ct.gs (by assumption)) ?_
    | refine ws_pass ?_
    | refine ws_break ?_
    | refine ws_cont ?_)
local macro_rules | `(tactic| walk_at "e.bin") => `(tactic| first
    | refine BinD.addI ?_
    | refine BinD.subI ?_
    | refine BinD.modP (by assumption) ?_
    | refine BinD.divP (by assumption) ?_
    | refine BinD.modI (by decide) ?_
    | refine BinD.modI (by assumption) ?_
    | refine BinD.divI (by decide) (by decide) ?_
    | refine BinD.divI (by assumption) (by assumption) ?_
    | refine BinD.mulI (by first | exact .inl ⟨by decide, by decide⟩ | exact .inr ⟨by decide, by decide⟩) ?_
    | refine BinD.xorI ?_
    | refine BinD.powI ⟨by decide, by decide, by decide⟩ ?_)
local macro_rules | `(tactic| walk_at "e.cmp") => `(tactic| first
    | refine CmpD.lt ?_
    | refine CmpD.le ?_
    | refine CmpD.gt ?_
    | refine CmpD.ge ?_
    | refine CmpD.isN ?_
    | refine CmpD.notN ?_
    | refine CmpD.neI_s ?_
    | refine CmpD.neT_s ?_
    | refine CmpD.neZ_s ?_
    | refine CmpD.eqZ_s ?_
    | refine CmpD.neN_s ?_
    | refine CmpD.eqN_s ?_
    | refine CmpD.neTZ ?_
    | refine CmpD.eqTZ ?_
    | refine CmpD.eqI ?_
    | refine CmpD.neI ?_
    | refine CmpD.eqZ ?_
    | refine CmpD.neZ ?_)
local macro_rules | `(tactic| walk_at "e.is") => `(tactic| first
    | refine gSz ?_
    | refine gFld (by assumption) (by assumption) rfl ?_
    | refine gFldS (by assumption) (by assumption) (by first | decide | (repeat (first | refine plA ?_ | refine plB ?_)); simp) ?_
    | refine gFldU (by first | decide | (repeat (first | refine plA ?_ | refine plB ?_)); simp) ?_
    | refine IsI.mk ?_
    | refine IsT.mk ?_
    | refine IsL.mk ?_
    | refine IsZ.mk ?_
    | refine IsB.mk ?_
    | refine OwL.mk 0 rfl ?_
    | refine OwL.mk 1 rfl ?_
    | refine OwL.mk 2 rfl ?_
    | refine OwL.mk 3 rfl ?_
    | refine OwL.mk 4 rfl ?_
    | refine OwL.mk 5 rfl ?_
    | refine OwI.mk 0 rfl ?_
    | refine OwI.mk 1 rfl ?_
    | refine OwI.mk 2 rfl ?_
    | refine OwI.mk 3 rfl ?_
    | refine OwI.mk 4 rfl ?_
    | refine OwI.mk 5 rfl ?_
    | refine OwI.mk _ (by assumption) ?_
    | refine OwI.mk _ (set_at (by assumption)) ?_
    | refine OwI.mk _ (set_at (set_at (by assumption))) ?_
    | refine OwL.mk _ (by assumption) ?_
    | refine OwL.mk _ (set_at (by assumption)) ?_
    | refine OwL.mk _ (set_at (set_at (by assumption))) ?_
    | refine OwL.mk _ (set_at (set_at (set_at (by assumption)))) ?_
    | refine IxD.own 0 rfl rfl ?_
    | refine IxD.own 1 rfl rfl ?_
    | refine IxD.own 2 rfl rfl ?_
    | refine IxD.own 3 rfl rfl ?_
    | refine IxD.own 4 rfl rfl ?_
    | refine IxD.own 5 rfl rfl ?_
    | refine IxD.own _ (by assumption) rfl ?_
    | refine IxD.own _ (set_at (by assumption)) rfl ?_
    | refine IxD.own _ (set_at (set_at (by assumption))) rfl ?_
    | refine IxD.own _ (set_at (set_at (set_at (by assumption)))) rfl ?_
    | refine IxD.tup rfl ?_
    | refine IxD.lst rfl ?_
    | refine IntD.int ?_
    | refine IntD.bl ?_
    | refine TruD.bl ?_
    | refine TruD.int ?_
    | refine TruD.tup ?_
    | refine TruD.lst ?_
    | refine LenD.tup ?_
    | refine LenD.lst ?_
    | refine SeqD.tup ?_
    | refine SeqD.lst ?_
    | refine SlD.tup ?_
    | refine SlD.lst ?_
    | refine SeqD.own 0 rfl ?_
    | refine SeqD.own 1 rfl ?_
    | refine SeqD.own 2 rfl ?_
    | refine SeqD.own 3 rfl ?_
    | refine SeqD.own 4 rfl ?_
    | refine SeqD.own 5 rfl ?_
    | refine LenD.own 0 rfl ?_
    | refine LenD.own 1 rfl ?_
    | refine LenD.own 2 rfl ?_
    | refine LenD.own 3 rfl ?_
    | refine LenD.own 4 rfl ?_
    | refine LenD.own 5 rfl ?_)
local macro_rules | `(tactic| walk_at "e1") => `(tactic| first
    | (refine gWE ?_; walk_at "e.we")
    | (refine gBinD ?_; walk_at "e.bin")
    | (refine gWSs ?_; walk_at "e.wss")
    | (refine gWS ?_; walk_at "e.ws")
    | (refine gWT ?_; walk_at "e.wt")
    | (refine gCmpD ?_; walk_at "e.cmp")
    | (refine gWA ?_; walk_at "e.wa")
    | (refine gWW ?_; walk_at "e.ww")
    | refine iteT ?_
    | refine iteF ?_
    | walk_at "e.is")
local macro_rules | `(tactic| walk_at "x1") => `(tactic| first
    | (refine gWE ?_; walk_at "e.we")
    | (refine gBinD ?_; walk_at "e.bin")
    | (refine gWT ?_; walk_at "e.wt")
    | (refine gCmpD ?_; walk_at "e.cmp")
    | (refine gWA ?_; walk_at "e.wa")
    | (refine gWW ?_; walk_at "e.ww")
    | refine iteT ?_
    | refine iteF ?_
    | walk_at "e.is")
local macro_rules | `(tactic| walk_at "e") => `(tactic| repeat (walk_at "e1"))
local macro_rules | `(tactic| walk_at "x") => `(tactic| repeat (walk_at "x1"))
def S_out (C CF CS : Addr) : SpD := fun ds M xr R => ∃ (a : Ta) (ins : List Int) (fs : List Fw) (dk : List (Key × D)) (σ : Int → Option Int) (m : Nat) (src tgt t : Int) (bs : List D) (M0 : Ms), ds = [Rf a.t, I src, I tgt, .tup bs, I t] ∧ SP (trM C CF a ins fs dk ++ M0) M ∧ DrOk dk σ m ∧ fs.length ≤ 100 ∧
  (((bs = [] ∨ bs = [I 9]) ∧ ∀ Mx, xr (.ref CS) (Mx ++ (trM C CF a ins fs dk ++ M0))) ∨ ∃ s : Seg, bs = s.bytes ∧ s.Ok ∧ ∀ fl',
    (¬ (src ∈ ins ∧ tgt ∉ ins) → R (trM C CF { a with fl := fl' } ins (fs.filter (live t)) dk ++ M0) N0) ∧
    (src ∈ ins ∧ tgt ∉ ins → s.opener ≠ src → s.opener = tgt ∧ σ tgt = some src → R (trM C CF { a with fl := fl' } ins (fs.filter (live t)) dk ++ M0) (.tup [I 90, .tup s.bytes])) ∧
    (src ∈ ins ∧ tgt ∉ ins → s.opener ≠ src → ¬ (s.opener = tgt ∧ σ tgt = some src) → R (trM C CF { a with fl := fl' } ins (fs.filter (live t)) dk ++ M0) N0) ∧
    (src ∈ ins ∧ tgt ∉ ins → s.opener = src → ∀ (i : Nat) (f : Fw), (fs.filter (live t))[i]? = some f → hit s.opener s.number tgt f → (∀ (j : Nat) (g : Fw), j < i → (fs.filter (live t))[j]? = some g → ¬ hit s.opener s.number tgt g) →
      Seg.Ok { s with opener := 90, number := f.outer } ∧ R (trM C CF { a with fl := fl' } ins ((fs.filter (live t)).set i { f with used := t }) dk ++ M0) (.tup [I 90, .tup (Seg.bytes { s with opener := 90, number := f.outer })])) ∧
    (src ∈ ins ∧ tgt ∉ ins → s.opener = src → (∀ f ∈ fs.filter (live t), ¬ hit s.opener s.number tgt f) → 50 ≤ (fs.filter (live t)).length → R (trM C CF { a with fl := fl' } ins (fs.filter (live t)) dk ++ M0) N0) ∧
    (src ∈ ins ∧ tgt ∉ ins → s.opener = src → (∀ f ∈ fs.filter (live t), ¬ hit s.opener s.number tgt f) → (fs.filter (live t)).length < 50 → ∀ q k, Least (fs.filter (live t)) tgt k →
      Seg.Ok { s with opener := 90, number := k } ∧ R (trM C CF { a with fl := fl' } ins (fs.filter (live t) ++ [⟨q, s.opener, s.number, k, tgt, t⟩]) dk ++ M0) (.tup [I 90, .tup (Seg.bytes { s with opener := 90, number := k })])))
section
variable {P : Program} {w : World} {K : PySem.W.Frag} {mg : Str → Option Value} {base : Heap} {G : Hp → Prop}
theorem gf_out {f fr ff fb fw C CF CS : Addr} {fd : FuncData} (F : Fun K "outgoing" "Translator.outgoing" s_Translator_outgoing f fd) (gs : Gst G) (dc : TrC K C) (fc : FwC K CF) (mr : mg "read_segment" = some (.ref fr)) (gr : GfC P w K mg base G 4 fr [] (S_rseg CS)) (Mf : Meth K C "forget" ff) (gf : Gf P w K mg base G 1 ff [] (S_forget C CF)) (Mw : Meth K C "flow_of" fw) (gw : Gf P w K mg base G 3 fw [] (S_flowof C CF)) (mb : mg "begun_at" = some (.ref fb)) (gb : Gf P w K mg base G 4 fb [] S_begun) : GfC P w K mg base G 5 f [] (S_out C CF CS) := by
  refine gf_ofC F sc_Translator_outgoing gs (F.binds fun _ _ _ _ _ _ us hl => match us, hl with | [_, _, _, _, _], _ => rfl) .nil (fun ds M xr R h => by obtain ⟨a, ins, fs, dk, σ, m, src, tgt, t, bs, M0, rfl, _⟩ := h; rfl) ?_
  rintro X W M ds xr R ⟨cdv, A, outer, s, H, E0, rfl⟩ cx ts hpa ⟨a, ins, fs, dk, σ, m, src, tgt, t, bs, M0, rfl, hsp, hd, hl, hc⟩
  refine wss_sp hsp ?_
  refine wss_cons (ws_set 5 cx.nd (we_callC cx ts gr (by decide) mr rfl ?_))
  walk_at "e"
  rcases hc with ⟨hb, hbad⟩ | ⟨g, rfl, hg, hk⟩
  · exact .inr ⟨_, rfl, hb, hbad⟩
  · refine .inl ⟨g, rfl, hg, ?_⟩
    refine wss_cons (ws_expr (we_meth cx gf (by decide) dc.c Mf ?_))
    walk_at "e"
    refine ⟨rfl, rfl, ?_⟩
    walk_at "e"
    refine ⟨a, ins, fs, dk, t, M0, rfl, ⟨_, List.Perm.refl _, List.Sublist.refl _⟩, by omega, fun fl' => ?_⟩
    obtain ⟨k1, k2, k3, k4, k5, k6⟩ := hk fl'
    have hfl : (fs.filter (live t)).length ≤ fs.length := List.length_filter_le _ _
    have tail : ∀ (fs2 : List Fw) (i : Nat) (f2 : Fw) (z8 : Option D), fs2[i]? = some f2 → Seg.Ok { g with opener := 90, number := f2.outer } → R (trM C CF { a with fl := fl' } ins (fs2.set i { f2 with used := t }) dk ++ M0) (.tup [I 90, .tup (Seg.bytes { g with opener := 90, number := f2.outer })]) →
        WSs (cxOf (L2.CX P w) P w K mg base N_Translator_outgoing "Translator.outgoing" (defScope s_Translator_outgoing) f cdv A outer s H E0) G W ((defBody s_Translator_outgoing).drop 6) (trM C CF { a with fl := fl' } ins fs2 dk ++ M0) [some (Rf a.t), some (I src), some (I tgt), some (.tup g.bytes), some (I t), some g.d, some (I g.opener), some (I g.number), z8, some (Rf f2.addr)] { nx := fun M' _ => R M' N0, rt := R, bk := fun _ _ => False, ct := fun _ _ => False, xr := xr } := by
      intro fs2 i f2 z8 hf2 hok hR
      have hx := trM_at (C := C) (CF := CF) (a := { a with fl := fl' }) (ins := ins) (dk := dk) (M0 := M0) hf2
      walk_at "e"
      refine ⟨fc.c, fc.n5, by simp, ?_⟩
      have hi := at_lt hf2
      have hs2 : (fs2.set i { f2 with used := t })[i]? = some { f2 with used := t } := by rw [List.getElem?_set_self hi]
      have hx2 := trM_at (C := C) (CF := CF) (a := { a with fl := fl' }) (ins := ins) (dk := dk) (M0 := M0) hs2
      have es := trM_set (C := C) (CF := CF) (a := { a with fl := fl' }) (ins := ins) (dk := dk) (M0 := M0) (t := t) hf2
      show WSs _ _ _ _ ((trM C CF { a with fl := fl' } ins fs2 dk ++ M0).set (3 + i) (f2.addr, .ins CF (fwF { f2 with used := t }))) _ _
      rw [es]
      refine wss_one (ws_ret ?_)
      walk_at "e"
      refine ⟨dc.c, dc.n1, _, rfl, ?_⟩
      walk_at "e"
      refine we_call cx gb (by decide) mb rfl ?_
      walk_at "e"
      refine ⟨dc.c, dc.n1, _, rfl, ?_⟩
      walk_at "e"
      refine ⟨fc.c, fc.n3, _, rfl, ?_⟩
      walk_at "e"
      refine ⟨g, 90, f2.outer, rfl, hok, ?_⟩
      walk_at "e"
      exact hR
    refine wss_cons (ws_if (wt_bool (ww_or (wt_cmp cx.hu ?_))))
    walk_at "e"
    refine ⟨dc.c, dc.n2, _, rfl, ?_⟩
    walk_at "e"
    refine CmpD.notInET (enc := fun i : Int => I i) (n := 1) encI (ite_nd (fun h1 => ?_) (fun h1 => ?_))
    · refine iteT (wss_one (ws_ret ?_))
      walk_at "e"
      exact k1 fun z => h1 z.1
    walk_at "e"
    refine ⟨dc.c, dc.n2, _, rfl, ?_⟩
    walk_at "e"
    refine CmpD.inET (enc := fun i : Int => I i) (n := 1) encI (ite_d (fun h2 => ?_) (fun h2 => ?_))
    · refine wss_one (ws_ret ?_)
      walk_at "e"
      exact k1 fun z => z.2 h2
    refine wss_nil (wss_cons (ws_par 6 7 cx.hc cx.nd ?_ (ps_par cx.hc cx.nd rfl rfl (by decide) rfl rfl pa_wp rfl)))
    walk_at "e"
    refine ⟨_, _, rfl, ?_⟩
    walk_at "e"
    refine ite_nd (fun ho => ?_) (fun ho => ?_)
    · have fin : ∀ (nx0 : Ms → Rh → Prop) (b : Bool), (b = true → g.opener = tgt ∧ σ tgt = some src) → (b = false → ¬ (g.opener = tgt ∧ σ tgt = some src)) → WSs (cxOf (L2.CX P w) P w K mg base N_Translator_outgoing "Translator.outgoing" (defScope s_Translator_outgoing) f cdv A outer s H E0) G W [(match (defBody s_Translator_outgoing).getD 4 (.Pass ⟨0, 0, 0, 0⟩) with | .If _ t _ _ => t | _ => []).getD 1 (.Pass ⟨0, 0, 0, 0⟩)] (trM C CF { a with fl := fl' } ins (fs.filter (live t)) dk ++ M0) [some (Rf a.t), some (I src), some (I tgt), some (.tup g.bytes), some (I t), some g.d, some (I g.opener), some (I g.number), some (B b), none] { nx := nx0, rt := R, bk := fun _ _ => False, ct := fun _ _ => False, xr := xr } := by
        intro nx0 b hb1 hb2
        cases b with
        | true =>
          refine wss_one (ws_ret ?_)
          walk_at "e"
          refine ⟨dc.c, dc.n1, _, rfl, ?_⟩
          walk_at "e"
          exact k2 ⟨h1, h2⟩ ho (hb1 rfl)
        | false =>
          refine wss_one (ws_ret ?_)
          walk_at "e"
          exact k3 ⟨h1, h2⟩ ho (hb2 rfl)
      refine wss_cons (ws_set 8 cx.nd (we_and (we_cmp cx.hu ?_)))
      walk_at "e"
      refine ⟨_, rfl, ite_d (fun e1 => ?_) (fun e1 => ?_)⟩
      · refine we_one (we_cmp cx.hu (we_dget1 cx ?_ (by constructor <;> rfl)))
        walk_at "x"
        refine ⟨dc.c, dc.n4, _, rfl, ⟨2, a.dr, rfl, .inl ⟨dk, rfl⟩⟩, ?_⟩
        walk_at "x"
        refine ⟨_, .k 2 rfl (Sum.inl tgt), ?_⟩
        rw [hd.val]
        walk_at "x"
        cases hs : σ tgt with
        | none =>
          refine .eq .non (.int _) ?_
          exact fin _ false (fun z => by cases z) (fun _ z => by rw [hs] at z; cases z.2)
        | some h =>
          refine CmpD.eqI ?_
          exact fin _ (decide (h = src)) (fun z => ⟨e1, by rw [hs, of_decide_eq_true z]⟩) (fun z w => of_decide_eq_false z (by rw [hs] at w; exact Option.some.inj w.2))
      · exact fin _ false (fun z => by cases z) (fun _ z => e1 z.1)
    · refine wss_nil (wss_cons (ws_set 9 cx.nd (we_meth cx gw (by decide) dc.c Mw ?_)))
      walk_at "e"
      refine ⟨rfl, rfl, ?_⟩
      walk_at "e"
      refine ⟨{ a with fl := fl' }, ins, _, dk, g.opener, g.number, tgt, t, M0, rfl, ⟨_, List.Perm.refl _, List.Sublist.refl _⟩, by omega, fun i f2 hf2 hh hno => ?_, fun hall h50 => ?_, fun hall h50 q k lst => ?_⟩
      · obtain ⟨hok, hR⟩ := k4 ⟨h1, h2⟩ ho i f2 hf2 hh hno
        exact tail _ i f2 none hf2 hok hR
      · walk_at "e"
        refine ws_ret ?_
        walk_at "e"
        exact k5 ⟨h1, h2⟩ ho hall h50
      · obtain ⟨hok, hR⟩ := k6 ⟨h1, h2⟩ ho hall h50 q k lst
        refine tail _ (fs.filter (live t)).length ⟨q, g.opener, g.number, k, tgt, t⟩ none (by rw [List.getElem?_append_right (Nat.le_refl _), Nat.sub_self]; rfl) hok ?_
        rw [List.set_append_right _ _ (Nat.le_refl _), Nat.sub_self]
        exact hR
end

end K24
set_option maxRecDepth 100000
set_option maxHeartbeats 4000000
namespace Wv
open PySem PySem.Spec PyProof.Rows L2 PySem.W
section
variable {X : Cx}
/-! ### l == [] -/
theorem op_eqLen (hu : X.A.units < cLine) : OpR X (compareOp .Eq) (fun x y H Q => ∃ a b xs ys, x = .ref a ∧ y = .ref b ∧ SqL X.K H a xs ∧ SqL X.K H b ys ∧ xs.length ≠ ys.length ∧ Q (.bl false) H) := by
  intro pins s σ H x y v u Q I rx ry h
  obtain ⟨a, b, xs, ys, rfl, rfl, h1, h2, ne, q⟩ := h
  cases rx
  cases ry
  obtain ⟨i1, r1, p1, _⟩ := I.list h1
  obtain ⟨i2, r2, p2, _⟩ := I.list h2
  refine PySem.SeqAt.RcAt.lists_lengths p1.isList p2.isList ?_ hu X.prog X.w X.xe _ ⟨.bl false, H, I, rfl, q⟩
  have e1 := r1.length
  have e2 := r2.length
  rw [bne_iff_ne]
  intro z
  rw [List.size_toArray, List.size_toArray] at z
  omega
theorem op_eqNil (hu : X.A.units + 64 < cLine) : OpR X (compareOp .Eq) (fun x y H Q => ∃ a b xs, x = .ref a ∧ y = .ref b ∧ SqL X.K H a xs ∧ SqL X.K H b [] ∧ Q (.bl (xs.isEmpty)) H) := by
  intro pins s σ H x y v u Q I rx ry h
  obtain ⟨a, b, xs, rfl, rfl, h1, h2, q⟩ := h
  cases xs with
  | nil => exact op_eqD hu pins s σ H _ _ v u Q I rx ry ⟨.list [], .list [], .lst h1 .nil, .lst h2 .nil, rfl, rfl, q⟩
  | cons z zs => exact op_eqLen (by omega) pins s σ H _ _ v u Q I rx ry ⟨a, b, z :: zs, [], rfl, rfl, h1, h2, (by simp), q⟩
/-! ### dict(l), l a list of pairs whose keys are tuples -/
def mergeKT (kvs more : List (List Key × V)) : List (List Key × V) := more.foldl (fun acc kv => putK acc kv.1 kv.2) kvs
theorem KT.merge {H : Hp} : ∀ {more : List (List Key × V)} {ps : List (List Key × Addr × Value)} {kvs : List (List Key × V)} {xs : List (List Key × Addr × Value)}, KT H more ps → KT H kvs xs → KT H (mergeKT kvs more) (storedAllH xs ps)
  | _, _, _, _, .nil, r => r
  | _, _, kvs, xs, .cons (a := p) (b := q) (l₁ := l1) (l₂ := l2) h t, r => by
    have h2 : KT H (putK kvs p.1 p.2) (storedH xs q.1 q.2.1 q.2.2) := by
      have := L2.KT.put r p.1 (b := q.2.1) h.2.1 h.2.2
      rw [← h.1]
      exact this
    exact KT.merge (more := l1) (ps := l2) t h2
theorem len_mergeKT : ∀ (more kvs : List (List Key × V)), (mergeKT kvs more).length ≤ kvs.length + more.length
  | [], _ => Nat.le_refl _
  | p :: more, kvs => by
    have h1 := len_mergeKT more (putK kvs p.1 p.2)
    have h2 : (putK kvs p.1 p.2).length ≤ kvs.length + 1 := by
      unfold putK
      split
      · rw [List.length_map]; omega
      · rw [List.length_append]; exact Nat.le_refl _
    show (mergeKT (putK kvs p.1 p.2) more).length ≤ _
    rw [List.length_cons]
    omega
theorem pairs_ofT {pins : List (Addr × Obj)} {σ : L2.St} {H : Hp} {s : Shared} (I : Inv X pins σ H s) : ∀ {ps : List Addr} {kvs : List (List Key × V)}, Paired (fun p kv => ∃ b, SqT X.K H p [.ref b, kv.2] ∧ H b = some (.tup (kv.1.map kV))) ps kvs →
    ∃ prs : List (List Key × Addr × Value), KT H kvs prs ∧ prs.length = ps.length ∧ ∀ (j : Nat) (q : List Key × Addr × Value), prs[j]? = some q → ∃ b : Addr, ps[j]? = some b ∧ IsTup s.heap b #[.ref q.2.1, q.2.2] ∧ H q.2.1 = some (.tup (q.1.map kV))
  | _, _, .nil => ⟨[], .nil, rfl, fun j q e => by simp at e⟩
  | _, _, .cons (a := p) (b := kv) h t => by
    obtain ⟨prs, r, hl, hp⟩ := pairs_ofT I t
    obtain ⟨b, hq, hb⟩ := h
    obtain ⟨its, rv, ht, _⟩ := I.tuple hq
    obtain ⟨u, y, ei, ru, ry⟩ := vals2 rv
    subst ei
    obtain rfl : u = Value.ref b := ru
    refine ⟨(kv.1, b, y) :: prs, .cons ⟨rfl, hb, ry⟩ r, by rw [List.length_cons, List.length_cons, hl], fun j q e => ?_⟩
    cases j with
    | zero =>
      have e' : (kv.1, b, y) = q := Option.some.inj e
      subst e'
      exact ⟨p, rfl, ht, hb⟩
    | succ j =>
      obtain ⟨b, e1, e2, e3⟩ := hp j q (by simpa using e)
      exact ⟨b, by simpa using e1, e2, e3⟩
theorem call_dictT (hcalm : X.calm = true) (hu : X.A.units + 64 < cLine) : CallR X (.type "dict") (fun xs H Q => ∃ (a : Addr) (ps : List Addr) (kvs : List (List Key × V)), xs = [.ref a] ∧ SqL X.K H a (ps.map V.ref) ∧
    Paired (fun p kv => ∃ b, SqT X.K H p [.ref b, kv.2] ∧ H b = some (.tup (kv.1.map kV))) ps kvs ∧ ∀ p, H p = none → Q (.ref p) (upd H p (.dT (mergeKT [] kvs)))) := by
  intro pins s σ H xs us Q I r q
  obtain ⟨a, ps, kvs, ex, hq, hp, q⟩ := q
  subst ex
  obtain ⟨u, eu, rx⟩ := vals1 r
  subst eu
  cases rx
  obtain ⟨its, rv, pl, hz⟩ := I.list hq
  have ei := refs_at rv
  subst ei
  rw [List.length_map] at hz
  obtain ⟨prs, rel, hl, hpr⟩ := pairs_ofT I hp
  obtain ⟨o, n, ho, hc, hd, hdat⟩ := pl
  let vs : List (Value × Value) := prs.map fun q => (.ref q.2.1, q.2.2)
  have lv : vs.length = ps.length := by rw [List.length_map, hl]
  have P := PairArg.list (prog := X.prog) (w := X.w) a (ps.map Value.ref).toArray (fun j => ps.getD j 0) vs
  have ok : PlainSeq "list" s.heap a (ps.map Value.ref).toArray ∧ PairItems s.heap (ps.map Value.ref).toArray (fun j => ps.getD j 0) vs := by
    refine ⟨⟨o, n, ho, hc, hd, hdat⟩, by simp [lv], fun j k v e => ?_⟩
    rw [List.getElem?_map] at e
    cases e2 : prs[j]? with
    | none => rw [e2] at e; cases e
    | some q' =>
      rw [e2] at e
      cases e
      obtain ⟨b, e3, e4, e5⟩ := hpr j q' e2
      have e6 : ps.getD j 0 = b := by rw [List.getD_eq_getElem?_getD, e3]; rfl
      exact ⟨by simp [e3, e6], by show PairAt s.heap (ps.getD j 0) _ _; rw [e6]; exact .inl e4⟩
  refine call_dict_pairsH (knd := tupleKind (mixKind X.prog X.w)) (ps := prs) P (I.ok.hd hcalm) ?_ ok ⟨by rw [lv, hl], fun i key v e => ?_⟩ ?_ (by rw [lv]; exact hz) fun h' tk hd' k => ?_
  · show X.A.in1.in1.units < cLine
    have : X.A.in1.in1.units ≤ X.A.units + 2 := by
      show X.A.units + 1 + 1 ≤ _
      omega
    omega
  · have e : vs[i]? = some (key, v) := e
    rw [List.getElem?_map] at e
    cases e2 : prs[i]? with
    | none => rw [e2] at e; cases e
    | some q' =>
      rw [e2] at e
      cases e
      exact ⟨q'.1, q'.2.1, rfl, rfl⟩
  · intro h' hk x hx
    obtain ⟨j, hj⟩ := List.getElem?_of_mem hx
    obtain ⟨b, _, _, e5⟩ := hpr j x hj
    obtain ⟨_, its, r, o, h1, h2, n, h3⟩ := (show ObjOk X.prog X.w H s.heap x.2.1 (.tup (x.1.map kV)) from I.hok x.2.1 _ e5)
    exact ⟨o, its.toArray, n, hk _ _ (Nat.ne_of_lt (Heap.lt_size h1)) (fun z => nomatch z) h1, h2, h3, by simpa using items_are r⟩
  · have hm : (s.heap.objs.size == sysModules) = false := beq_eq_false_iff_ne.mpr (Nat.ne_of_gt I.big)
    have hlen : (mergeKT [] kvs).length ≤ sizeLine := by
      refine Nat.le_trans (len_mergeKT kvs []) ?_
      rw [List.length_nil, Nat.zero_add, Paired.length rel, hl]
      exact hz
    have fr := I.hok.fresh (Nat.le_refl s.heap.objs.size)
    have rel2 : KT (upd H s.heap.objs.size (.dT (mergeKT [] kvs))) (mergeKT [] kvs) (storedAllH [] prs) := (L2.KT.keeps (KT.merge rel .nil)) fun b ys e => by rw [upd_ne (ne_of_none e fr)]; exact e
    obtain ⟨o2, es, ep, g1, g2, g3, g4, _, g5⟩ := hd'
    exact ⟨.ref s.heap.objs.size, upd H s.heap.objs.size (.dT (mergeKT [] kvs)), I.laid (t' := tk) (fun b u e => k b u (fun z => nomatch z) e) (Nat.le_refl _) (show ObjOk X.prog X.w _ _ _ (.dT (mergeKT [] kvs)) from ⟨hlen, hm, storedAllH [] prs, rel2, o2, es, ep, g1, g2, g3, g4, g5⟩), rfl, q _ fr⟩
end
section
variable {X : Cx} {G : Hp → Prop} {W : WX} {M : Ms} {ρ : Rh} {xr : Value → Ms → Prop} {N : En} {a b c e f o i elt : Expr} {es rest : List Expr} {pos p p2 apos cpos q : Pos} {R : Ms → D → Prop} {k j : Nat}
theorem wt_eqNil (cx : Ct X G W k) {R : Ms → Bool → Prop} (h : WE X G W a M ρ xr fun M1 d => WE X G W b M1 ρ xr fun M2 e => ∃ l, LstD M2 d l ∧ e = .lst [] ∧ R M2 (decide (l = []))) (hm : behindInMarks .Eq b = false := by rfl) : WT X G W (.Compare a [.Eq] [b] pos) M ρ xr R :=
  wt_of (pt_cmpR (op_eqNil cx.hu) pe_wp pe_wp hm) fun σ H a0 b0 x Q q => by
  refine h σ H a0 b0 x _ fun M1 d v H1 h1 a1 m1 r1 => ?_
  refine h1 σ H1 a1 (m1.sl a0 b0) (x.mv m1) _ fun M2 e u H2 h2 a2 m2 r2 => ?_
  obtain ⟨l, hl, rfl, hk⟩ := h2
  obtain ⟨p1, xs, e1, s1, l1⟩ := lstD_sq a2 (m2.rp a1 r1) hl
  obtain ⟨p2, ys, e2, s2, _, l2⟩ := r2.lst_inv
  cases l2
  have len := l1.length
  refine ⟨p1, p2, xs, e1, e2, s1, SqL.of s2, decide (l = []), ?_, q M2 _ H2 hk a2 (m1.trans m2)⟩
  cases xs with
  | nil =>
    rw [decide_eq_true (List.eq_nil_of_length_eq_zero len.symm)]
    rfl
  | cons y ys =>
    rw [decide_eq_false (fun z => by rw [z] at len; cases len)]
    rfl
/-- list(d.items()) -/
theorem we_listItems (cx : Ct X G W k) (hm : X.mg "list" = none) (hg : Gl X "list") (h : WE X G W e M ρ xr fun M1 d => ∃ (j : Nat) (q : Addr) (kvs : List (Key × D)), d = Rf q ∧ M1[j]? = some (q, .dK kvs) ∧ R M1 (.lst (kvs.map fun kv => .tup [kD kv.1, kv.2])))
    (hbase : attributeBase e "items" X.env (eval e X.env) = eval e X.env := by rfl) (hline : (apos.endLine == cpos.line) = true := by rfl)
    (hs : starEach [.Call (.Attribute e "items" apos) [] [] cpos] X.env = (false, eval (.Call (.Attribute e "items" apos) [] [] cpos) X.env) :: starEach [] X.env := by rfl) :
    WE X G W (.Call (.Name "list" p) [.Call (.Attribute e "items" apos) [] [] cpos] [] pos) M ρ xr R :=
  we_of (LiI.pe_listItems cx.hc pe_wp hg hm (by decide +kernel) hbase hline hs) fun σ H a0 b0 x Q q => h σ H a0 b0 x _ fun M1 d v H1 h1 a1 m1 r1 => by
  obtain ⟨j, q0, kvs, rfl, hj, hk⟩ := h1
  obtain ⟨vs, e1, g1⟩ := at_obK a1 hj
  refine ⟨q0, vs, r1.raw_inv, e1, fun H2 p1 ts gr hp ht hn e2 pp => ?_⟩
  have a2 := a1.grow cx.gs gr
  have mv : Mv M1 H1 M1 H2 := Mv.grow gr
  refine q M1 _ _ _ hk a2 (m1.trans mv) (.lst e2 (fun z => ?_) ?_)
  · obtain ⟨u, hu, _⟩ := a1.dom_ob z
    rw [hp] at hu
    cases hu
  · have g2 : RpG (κ := Key) X.K (dom M1) H2 vs kvs := ⟨g1.1, mv.rpl a1 g1.2⟩
    have key : ∀ {ts : List Addr} {vs : List (Key × V)} {kvs : List (Key × D)}, Paired (fun (t : Addr) (q : Key × V) => H2 t = some (.tup [kV q.1, q.2])) ts vs → RpG (κ := Key) X.K (dom M1) H2 vs kvs → RpL X.K (dom M1) H2 (ts.map V.ref) (kvs.map fun kv => .tup [kD kv.1, kv.2]) := by
      intro ts vs kvs pp
      induction pp generalizing kvs with
      | nil => intro g; cases kvs with
        | nil => exact .nil
        | cons kv r => have := g.1; cases this
      | cons h t ih => intro g; cases kvs with
        | nil => have := g.1; cases this
        | cons kv r =>
          obtain ⟨v, vr, e, rv, gr⟩ := g.cons_inv
          cases e
          exact .cons (.tup h (.cons (.raw _) (.cons rv .nil))) (ih gr)
    exact key pp g2
/-- dict(l) of pairs with tuple keys: its length -/
theorem we_dictTs (cx : Ct X G W k) (hm : X.mg "dict" = none) (hg : Gl X "dict") (h : WE X G W e M ρ xr fun M1 d => ∃ (l : List D) (kvs : List (List Key × V)), LstD M1 d l ∧ l = kvs.map (fun kv => .tup [.tup (kv.1.map kD), .raw kv.2]) ∧ ∀ q, R ((q, .dT ((mergeKT [] kvs).map fun kv => (kv.1, .raw kv.2))) :: M1) (Rf q))
    (he : starEach [e] X.env = (false, eval e X.env) :: starEach [] X.env := by rfl) : WE X G W (.Call (.Name "dict" p) [e] [] pos) M ρ xr R :=
  we_bt (he := he) (call_dictT cx.hc cx.hu) hm (by decide +kernel) hg (wa1 h he) fun M1 ds vs H1 Q ⟨d, hds, l, kvs, hl, hlk, hk⟩ a1 r1 q => by
  subst hds
  obtain ⟨v, rfl, rv⟩ := r1.one
  obtain ⟨p1, xs, rfl, s1, l1⟩ := lstD_sq a1 rv hl
  rw [hlk] at l1
  have key : ∀ (kvs : List (List Key × V)) (xs : List V), RpL X.K (dom M1) H1 xs (kvs.map fun kv => .tup [.tup (kv.1.map kD), .raw kv.2]) → ∃ (ps : List Addr), xs = ps.map V.ref ∧ Paired (fun p kv => ∃ b, SqT X.K H1 p [.ref b, kv.2] ∧ H1 b = some (.tup (kv.1.map kV))) ps kvs := by
    intro kvs
    induction kvs with
    | nil => intro xs h; cases h; exact ⟨[], rfl, .nil⟩
    | cons kv r ih =>
      intro xs h
      cases h with
      | cons h1 h2 =>
        obtain ⟨pa, zs, rfl, sq, lz⟩ := h1.tup_inv
        obtain ⟨ps, rfl, pp⟩ := ih _ h2
        cases lz with
        | cons z1 z2 =>
          cases z2 with
          | cons z3 z4 =>
            cases z4
            obtain ⟨b, ks, rfl, hb, lk⟩ := z1.tup_invH
            rw [keys_vs lk] at hb
            rw [z3.raw_inv] at sq
            exact ⟨pa :: ps, rfl, .cons ⟨b, sq, hb⟩ pp⟩
  obtain ⟨ps, rfl, pp⟩ := key kvs xs l1
  refine ⟨p1, ps, kvs, rfl, s1, pp, fun p2 hp => ?_⟩
  obtain ⟨a2, m2⟩ := a1.own cx.gs (o := .dT ((mergeKT [] kvs).map fun kv => (kv.1, .raw kv.2))) (H' := upd H1 p2 (.dT (mergeKT [] kvs))) (fun b v e => upd_grow hp b v e) hp ⟨mergeKT [] kvs, upd_same, by rw [List.map_map]; rfl, by
    rw [List.map_map]
    have := RpL.raws_mk (K := X.K) (X := p2 :: dom M1) (H := upd H1 p2 (.dT (mergeKT [] kvs))) ((mergeKT [] kvs).map (·.2))
    rw [List.map_map] at this
    exact this⟩
  exact q _ _ _ _ (hk p2) a2 m2 (.raw _)
/-- len(d), its keys tuples -/
theorem we_lenDT (cx : Ct X G W k) (hm : X.mg "len" = none) (hg : Gl X "len") (h : WE X G W e M ρ xr fun M1 d => ∃ (j : Nat) (q : Addr) (kvs : List (List Key × D)), d = Rf q ∧ M1[j]? = some (q, .dT kvs) ∧ R M1 (I kvs.length)) (he : starEach [e] X.env = (false, eval e X.env) :: starEach [] X.env := by rfl) :
    WE X G W (.Call (.Name "len" p) [e] [] pos) M ρ xr R :=
  we_bi (he := he) call_len_dT hm (by decide +kernel) hg (wa1 h he) fun M1 ds vs H1 Q ⟨d, hds, j, q0, kvs, hd, hj, hk⟩ a1 r1 q => by
  subst hds
  subst hd
  obtain ⟨v, rfl, rv⟩ := r1.one
  obtain ⟨us, e1, g1⟩ := at_obK a1 hj
  refine ⟨q0, us, by rw [rv.raw_inv], e1, ?_⟩
  have : us.length = kvs.length := by have := congrArg List.length g1.1; rwa [List.length_map, List.length_map] at this
  rw [this]
  exact q M1 _ _ H1 hk a1 (Mv.refl _ _) (.raw _)
/-- list(range(a, b)) -/
theorem we_listRg2 (cx : Ct X G W k) {p3 cp : Pos} (hm : X.mg "list" = none) (hg : Gl X "list") (hm2 : X.mg "range" = none) (hg2 : Gl X "range") (h : WE X G W a M ρ xr fun M1 d => WE X G W b M1 ρ xr fun M2 e => ∃ i j : Int, d = I i ∧ e = I j ∧ RgOk i j ∧ R M2 (.lst ((List.range (j - i).toNat).map fun n : Nat => I (i + n))))
    (na : starEach [a, b] X.env = (false, eval a X.env) :: starEach [b] X.env := by rfl) (nb : starEach [b] X.env = (false, eval b X.env) :: starEach [] X.env := by rfl) (hp : (backTo cp (starEach [b] X.env)).any (·.1) = false := by rfl)
    (nc : starEach [.Call (.Name "range" p3) [a, b] [] cp] X.env = (false, eval (.Call (.Name "range" p3) [a, b] [] cp) X.env) :: starEach [] X.env := by rfl) :
    WE X G W (.Call (.Name "list" p) [.Call (.Name "range" p3) [a, b] [] cp] [] pos) M ρ xr R :=
  we_of (pe_listRg cx.hc hg hm (prg_2 hg2 hm2 pe_wp pe_wp na nb hp) nc) fun σ H a0 b0 x Q q => by
  refine h σ H a0 b0 x _ fun M1 d v H1 h1 a1 m1 r1 => ?_
  refine h1 σ H1 a1 (m1.sl a0 b0) (x.mv m1) _ fun M2 e u H2 h2 a2 m2 r2 => ?_
  obtain ⟨i, j, rfl, rfl, ok, hk⟩ := h2
  refine ⟨i, j, (m2.rp a1 r1).raw_inv, r2.raw_inv, ok, fun p1 hp1 => ?_⟩
  have e : (List.range (j - i).toNat).map (fun n : Nat => I (i + n)) = (rgV i j).map D.raw := by unfold rgV; rw [List.map_map]; rfl
  rw [e] at hk
  exact new_lst cx.gs a2 hp1 (RpL.raws_mk _) hk fun M' d v H' hr ha hm hrp => q M' d v H' hr ha ((m1.trans m2).trans hm) hrp
end
end Wv
set_option maxRecDepth 100000
set_option maxHeartbeats 4000000

namespace K24
open PySem PySem.Spec PyProof.Rows L2 Wv
open LamX (CodeO TabS Tabs ExtN TabB lamEnv lamCx LamS)
local macro_rules | `(tactic| walk_at "e.name") => `(tactic| first
    | refine we_var 0 _ rfl (by first | exact .inl rfl | exact .inr (.inl rfl) | exact .inr (.inr rfl)) rfl ?_
    | refine we_var 1 _ rfl (by first | exact .inl rfl | exact .inr (.inl rfl) | exact .inr (.inr rfl)) rfl ?_
    | refine we_var 2 _ rfl (by first | exact .inl rfl | exact .inr (.inl rfl) | exact .inr (.inr rfl)) rfl ?_
    | refine we_var 3 _ rfl (by first | exact .inl rfl | exact .inr (.inl rfl) | exact .inr (.inr rfl)) rfl ?_
    | refine we_var 4 _ rfl (by first | exact .inl rfl | exact .inr (.inl rfl) | exact .inr (.inr rfl)) rfl ?_
    | refine we_var 5 _ rfl (by first | exact .inl rfl | exact .inr (.inl rfl) | exact .inr (.inr rfl)) rfl ?_
    | refine we_var 6 _ rfl (by first | exact .inl rfl | exact .inr (.inl rfl) | exact .inr (.inr rfl)) rfl ?_
    | refine we_var 7 _ rfl (by first | exact .inl rfl | exact .inr (.inl rfl) | exact .inr (.inr rfl)) rfl ?_
    | refine we_var 8 _ rfl (by first | exact .inl rfl | exact .inr (.inl rfl) | exact .inr (.inr rfl)) rfl ?_
    | refine we_var 9 _ rfl (by first | exact .inl rfl | exact .inr (.inl rfl) | exact .inr (.inr rfl)) rfl ?_
    | refine we_var 10 _ rfl (by first | exact .inl rfl | exact .inr (.inl rfl) | exact .inr (.inr rfl)) rfl ?_
    | refine we_var 11 _ rfl (by first | exact .inl rfl | exact .inr (.inl rfl) | exact .inr (.inr rfl)) rfl ?_
    | refine we_var 12 _ rfl (by first | exact .inl rfl | exact .inr (.inl rfl) | exact .inr (.inr rfl)) rfl ?_
    | refine we_var 13 _ rfl (by first | exact .inl rfl | exact .inr (.inl rfl) | exact .inr (.inr rfl)) rfl ?_
    | refine we_var 14 _ rfl (by first | exact .inl rfl | exact .inr (.inl rfl) | exact .inr (.inr rfl)) rfl ?_
    | refine we_var 15 _ rfl (by first | exact .inl rfl | exact .inr (.inl rfl) | exact .inr (.inr rfl)) rfl ?_
    | refine we_var 16 _ rfl (by first | exact .inl rfl | exact .inr (.inl rfl) | exact .inr (.inr rfl)) rfl ?_
    | refine we_var 17 _ rfl (by first | exact .inl rfl | exact .inr (.inl rfl) | exact .inr (.inr rfl)) rfl ?_
    | refine we_var 18 _ rfl (by first | exact .inl rfl | exact .inr (.inl rfl) | exact .inr (.inr rfl)) rfl ?_
    | refine we_var 19 _ rfl (by first | exact .inl rfl | exact .inr (.inl rfl) | exact .inr (.inr rfl)) rfl ?_
    | refine we_var 20 _ rfl (by first | exact .inl rfl | exact .inr (.inl rfl) | exact .inr (.inr rfl)) rfl ?_
    | refine we_var 21 _ rfl (by first | exact .inl rfl | exact .inr (.inl rfl) | exact .inr (.inr rfl)) rfl ?_
    | refine we_var 22 _ rfl (by first | exact .inl rfl | exact .inr (.inl rfl) | exact .inr (.inr rfl)) rfl ?_
    | refine we_var 23 _ rfl (by first | exact .inl rfl | exact .inr (.inl rfl) | exact .inr (.inr rfl)) rfl ?_
    | refine we_var 24 _ rfl (by first | exact .inl rfl | exact .inr (.inl rfl) | exact .inr (.inr rfl)) rfl ?_
    | refine we_var 25 _ rfl (by first | exact .inl rfl | exact .inr (.inl rfl) | exact .inr (.inr rfl)) rfl ?_
    | refine we_var 26 _ rfl (by first | exact .inl rfl | exact .inr (.inl rfl) | exact .inr (.inr rfl)) rfl ?_
    | refine we_var 27 _ rfl (by first | exact .inl rfl | exact .inr (.inl rfl) | exact .inr (.inr rfl)) rfl ?_
    | refine we_var 28 _ rfl (by first | exact .inl rfl | exact .inr (.inl rfl) | exact .inr (.inr rfl)) rfl ?_
    | refine we_var 29 _ rfl (by first | exact .inl rfl | exact .inr (.inl rfl) | exact .inr (.inr rfl)) rfl ?_
    | refine we_globI (by assumption) rfl ?_
    | refine we_globS (by assumption) rfl ?_)
local macro_rules | `(tactic| walk_at "e.const") => `(tactic| first
    | refine we_int ?_
    | refine we_str ?_
    | refine we_bl ?_
    | refine we_non ?_)
local macro_rules | `(tactic| walk_at "e.call") => `(tactic| first
    | refine we_len (by assumption) rfl ?_
    | refine we_int2 (by assumption) rfl ?_
    | refine we_tuple (Ct.gs (by assumption)) (by assumption) rfl ?_
    | refine we_abs (by assumption) rfl ?_
    | refine we_find ?_)
local macro_rules | `(tactic| walk_at "e.we") => `(tactic| first
    | (refine gNm ?_; walk_at "e.name")
    | (refine gConst ?_; walk_at "e.const")
    | refine we_bin (Ct.gs (by assumption)) ?_
    | (refine gCall ?_; walk_at "e.call")
    | refine we_cmp (Ct.hu (by assumption)) ?_
    | refine we_ix ?_
    | refine we_slice (Ct.gs (by assumption)) ?_
    | refine we_fld ?_
    | refine we_tup (Ct.gs (by assumption)) ?_
    | refine we_chain (Ct.hu (by assumption)) ?_
    | refine we_lst1 (Ct.gs (by assumption)) ?_
    | refine we_ifx ?_
    | refine we_and ?_
    | refine we_or ?_
    | refine we_one ?_
    | refine we_not ?_
    | refine we_negI ?_
    | refine we_neg ?_)
local macro_rules | `(tactic| walk_at "e.wt") => `(tactic| first
    | refine wt_cmp (Ct.hu (by assumption)) ?_
    | refine wt_chain (Ct.hu (by assumption)) ?_
    | refine wt_not ?_
    | refine wt_bool ?_
    | refine wt_val ?_)
local macro_rules | `(tactic| walk_at "e.ww") => `(tactic| first
    | refine ww_and ?_
    | refine ww_or ?_
    | refine ww_and1 ?_
    | refine ww_or1 ?_)
local macro_rules | `(tactic| walk_at "e.wa") => `(tactic| first
    | refine wa_nil ?_
    | refine wa_cons ?_)
local macro_rules | `(tactic| walk_at "e.wss") => `(tactic| first
    | refine wss_cons ?_
    | refine wss_nil ?_)
local macro_rules | `(tactic| walk_at "e.ws") => `(tactic| first
    | refine ws_if ?_
    | refine ws_expr (we_append (Ct.gs (by assumption)) ?_ (pe_bm PySem.F.plainAttrs_list PySem.F.slot_list_append PySem.F.type_list_append mt_append pe_wp pa_wp))
    | refine ws_fldSub (Ct.gs (by assumption)) ?_
    | refine ws_fldAddW (Ct.gs (by assumption)) ?_
    | refine ws_expr ?_
    | refine ws_set 0 (Ct.nd (by assumption)) ?_
    | refine ws_set 1 (Ct.nd (by assumption)) ?_
    | refine ws_set 2 (Ct.nd (by assumption)) ?_
    | refine ws_set 3 (Ct.nd (by assumption)) ?_
    | refine ws_set 4 (Ct.nd (by assumption)) ?_
    | refine ws_set 5 (Ct.nd (by assumption)) ?_
    | refine ws_set 6 (Ct.nd (by assumption)) ?_
    | refine ws_set 7 (Ct.nd (by assumption)) ?_
    | refine ws_set 8 (Ct.nd (by assumption)) ?_
    | refine ws_set 9 (Ct.nd (by assumption)) ?_
    | refine ws_set 10 (Ct.nd (by assumption)) ?_
    | refine ws_set 11 (Ct.nd (by assumption)) ?_
    | refine ws_set 12 (Ct.nd (by assumption)) ?_
    | refine ws_set 13 (Ct.nd (by assumption)) ?_
    | refine ws_set 14 (Ct.nd (by assumption)) ?_
    | refine ws_set 15 (Ct.nd (by assumption)) ?_
    | refine ws_set 16 (Ct.nd (by assumption)) ?_
    | refine ws_set 17 (Ct.nd (by assumption)) ?_
    | refine ws_set 18 (Ct.nd (by assumption)) ?_
    | refine ws_set 19 (Ct.nd (by assumption)) ?_
    | refine ws_set 20 (Ct.nd (by assumption)) ?_
    | refine ws_set 21 (Ct.nd (by assumption)) ?_
    | refine ws_set 22 (Ct.nd (by assumption)) ?_
    | refine ws_set 23 (Ct.nd (by assumption)) ?_
    | refine ws_set 24 (Ct.nd (by assumption)) ?_
    | refine ws_set 25 (Ct.nd (by assumption)) ?_
    | refine ws_set 26 (Ct.nd (by assumption)) ?_
    | refine ws_set 27 (Ct.nd (by assumption)) ?_
    | refine ws_set 28 (Ct.nd (by assumption)) ?_
    | refine ws_set 29 (Ct.nd (by assumption)) ?_
    | refine ws_sub (Ct.gs (by assumption)) ?_ (fun a b => pg_sub a b set_list)
    | refine ws_fld (Ct.gs (by assumption)) ?_
    | refine ws_pass ?_
    | refine ws_break ?_
    | refine ws_cont ?_)
local macro_rules | `(tactic| walk_at "e.bin") => `(tactic| first
    | refine BinD.addI ?_
    | refine BinD.subI ?_
    | refine BinD.modP (by assumption) ?_
    | refine BinD.divP (by assumption) ?_
    | refine BinD.modI (by decide) ?_
    | refine BinD.modI (by assumption) ?_
    | refine BinD.divI (by decide) (by decide) ?_
    | refine BinD.divI (by assumption) (by assumption) ?_
    | refine BinD.mulI (by first | exact .inl ⟨by decide, by decide⟩ | exact .inr ⟨by decide, by decide⟩) ?_
    | refine BinD.xorI ?_
    | refine BinD.powI ⟨by decide, by decide, by decide⟩ ?_)
local macro_rules | `(tactic| walk_at "e.cmp") => `(tactic| first
    | refine CmpD.lt ?_
    | refine CmpD.le ?_
    | refine CmpD.gt ?_
    | refine CmpD.ge ?_
    | refine CmpD.isN ?_
    | refine CmpD.notN ?_
    | refine CmpD.neI_s ?_
    | refine CmpD.neT_s ?_
    | refine CmpD.neZ_s ?_
    | refine CmpD.eqZ_s ?_
    | refine CmpD.neN_s ?_
    | refine CmpD.eqN_s ?_
    | refine CmpD.neTZ ?_
    | refine CmpD.eqTZ ?_
    | refine CmpD.eqI ?_
    | refine CmpD.neI ?_
    | refine CmpD.eqZ ?_
    | refine CmpD.neZ ?_)
local macro_rules | `(tactic| walk_at "e.is") => `(tactic| first
    | refine gSz ?_
    | refine gFld (by assumption) (by assumption) rfl ?_
    | refine gFldS (by assumption) (by assumption) (by first | decide | (repeat (first | refine plA ?_ | refine plB ?_)); simp) ?_
    | refine gFldU (by first | decide | (repeat (first | refine plA ?_ | refine plB ?_)); simp) ?_
    | refine IsI.mk ?_
    | refine IsT.mk ?_
    | refine IsL.mk ?_
    | refine IsZ.mk ?_
    | refine IsB.mk ?_
    | refine OwL.mk 0 rfl ?_
    | refine OwL.mk 1 rfl ?_
    | refine OwL.mk 2 rfl ?_
    | refine OwL.mk 3 rfl ?_
    | refine OwL.mk 4 rfl ?_
    | refine OwL.mk 5 rfl ?_
    | refine OwI.mk 0 rfl ?_
    | refine OwI.mk 1 rfl ?_
    | refine OwI.mk 2 rfl ?_
    | refine OwI.mk 3 rfl ?_
    | refine OwI.mk 4 rfl ?_
    | refine OwI.mk 5 rfl ?_
    | refine OwI.mk _ (by assumption) ?_
    | refine OwI.mk _ (set_at (by assumption)) ?_
    | refine OwI.mk _ (set_at (set_at (by assumption))) ?_
    | refine OwL.mk _ (by assumption) ?_
    | refine OwL.mk _ (set_at (by assumption)) ?_
    | refine OwL.mk _ (set_at (set_at (by assumption))) ?_
    | refine OwL.mk _ (set_at (set_at (set_at (by assumption)))) ?_
    | refine IxD.own 0 rfl rfl ?_
    | refine IxD.own 1 rfl rfl ?_
    | refine IxD.own 2 rfl rfl ?_
    | refine IxD.own 3 rfl rfl ?_
    | refine IxD.own 4 rfl rfl ?_
    | refine IxD.own 5 rfl rfl ?_
    | refine IxD.own _ (by assumption) rfl ?_
    | refine IxD.own _ (set_at (by assumption)) rfl ?_
    | refine IxD.own _ (set_at (set_at (by assumption))) rfl ?_
    | refine IxD.own _ (set_at (set_at (set_at (by assumption)))) rfl ?_
    | refine IxD.tup rfl ?_
    | refine IxD.lst rfl ?_
    | refine IntD.int ?_
    | refine IntD.bl ?_
    | refine TruD.bl ?_
    | refine TruD.int ?_
    | refine TruD.tup ?_
    | refine TruD.lst ?_
    | refine LenD.tup ?_
    | refine LenD.lst ?_
    | refine SeqD.tup ?_
    | refine SeqD.lst ?_
    | refine SlD.tup ?_
    | refine SlD.lst ?_
    | refine SeqD.own 0 rfl ?_
    | refine SeqD.own 1 rfl ?_
    | refine SeqD.own 2 rfl ?_
    | refine SeqD.own 3 rfl ?_
    | refine SeqD.own 4 rfl ?_
    | refine SeqD.own 5 rfl ?_
    | refine LenD.own 0 rfl ?_
    | refine LenD.own 1 rfl ?_
    | refine LenD.own 2 rfl ?_
    | refine LenD.own 3 rfl ?_
    | refine LenD.own 4 rfl ?_
    | refine LenD.own 5 rfl ?_)
local macro_rules | `(tactic| walk_at "e1") => `(tactic| first
    | (refine gWE ?_; walk_at "e.we")
    | (refine gBinD ?_; walk_at "e.bin")
    | (refine gWSs ?_; walk_at "e.wss")
    | (refine gWS ?_; walk_at "e.ws")
    | (refine gWT ?_; walk_at "e.wt")
    | (refine gCmpD ?_; walk_at "e.cmp")
    | (refine gWA ?_; walk_at "e.wa")
    | (refine gWW ?_; walk_at "e.ww")
    | refine iteT ?_
    | refine iteF ?_
    | walk_at "e.is")
local macro_rules | `(tactic| walk_at "x1") => `(tactic| first
    | (refine gWE ?_; walk_at "e.we")
    | (refine gBinD ?_; walk_at "e.bin")
    | (refine gWT ?_; walk_at "e.wt")
    | (refine gCmpD ?_; walk_at "e.cmp")
    | (refine gWA ?_; walk_at "e.wa")
    | (refine gWW ?_; walk_at "e.ww")
    | refine iteT ?_
    | refine iteF ?_
    | walk_at "e.is")
local macro_rules | `(tactic| walk_at "e") => `(tactic| repeat (walk_at "e1"))
local macro_rules | `(tactic| walk_at "x") => `(tactic| repeat (walk_at "x1"))
/-! ### the law's own table -/
structure La where
  st : Addr
  dr : Addr
abbrev rwO (f : Fw) : O := .lst [I f.opener, I f.number, I f.outer, I f.peer, I f.used]
def rwM (fs : List Fw) : Ms := fs.map fun f => (f.addr, rwO f)
abbrev stF (ins : List Int) (dr : Addr) (fs : List Fw) : List (Key × D) := [(.inr "inside", .lst (ins.map fun i => I i)), (.inr "doors", Rf dr), (.inr "flows", .lst (fs.map fun f => Rf f.addr))]
abbrev lsM (l : La) (ins : List Int) (fs : List Fw) (dk : List (Key × D)) : Ms := (l.st, .dK (stF ins l.dr fs)) :: (l.dr, .dK dk) :: rwM fs
theorem lsM_at {l : La} {ins : List Int} {fs : List Fw} {dk : List (Key × D)} {M0 : Ms} {i : Nat} {f : Fw} (h : fs[i]? = some f) : (lsM l ins fs dk ++ M0)[2 + i]? = some (f.addr, rwO f) := by
  show (_ :: _ :: (rwM fs ++ M0))[2 + i]? = _
  rw [show 2 + i = i + 1 + 1 by omega]
  simp only [List.getElem?_cons_succ]
  rw [List.getElem?_append_left (by unfold rwM; rw [List.length_map]; exact at_lt h)]
  exact map_at' h
theorem atI_zero {α : Type} (x : α) (l : List α) : atI (x :: l) 0 = some x := by
  unfold atI ixN
  rw [if_pos (by omega), if_pos (by simp)]
  rfl
theorem dv_k {M : Ms} {q : Addr} {kvs : List (Key × D)} (j : Nat) (e : M[j]? = some (q, .dK kvs)) (key : Str) {z : D} (hz : valD kvs (Sum.inr key) = some z) : DV M (Rf q) (Z key) (some z) := hz ▸ DV.k j e (Sum.inr key)
theorem dv_i {M : Ms} {q : Addr} {kvs : List (Key × D)} (j : Nat) (e : M[j]? = some (q, .dK kvs)) (key : Int) {z : Option D} (hz : valD kvs (Sum.inl key) = z) : DV M (Rf q) (I key) z := hz ▸ DV.k j e (Sum.inl key)
theorem lsM_set {l : La} {ins : List Int} {fs : List Fw} {dk : List (Key × D)} {M0 : Ms} {i : Nat} {f : Fw} {t : Int} (h : fs[i]? = some f) : (lsM l ins fs dk ++ M0).set (2 + i) (f.addr, rwO { f with used := t }) = lsM l ins (fs.set i { f with used := t }) dk ++ M0 := by
  have e1 : (fs.set i { f with used := t }).map (fun f => Rf f.addr) = fs.map fun f => Rf f.addr := map_set_same h rfl
  have e2 : rwM (fs.set i { f with used := t }) = (rwM fs).set i (f.addr, rwO { f with used := t }) := by unfold rwM; rw [List.map_set]
  show (_ :: _ :: (rwM fs ++ M0)).set (2 + i) _ = ((l.st, .dK (stF ins l.dr (fs.set i { f with used := t }))) :: _ :: (rwM (fs.set i { f with used := t }) ++ M0))
  rw [show 2 + i = i + 1 + 1 by omega, e2]
  unfold stF
  rw [e1]
  simp only [List.set_cons_succ]
  rw [List.set_append_left _ _ (by unfold rwM; rw [List.length_map]; exact at_lt h)]
theorem lsM_live {l : La} {ins : List Int} {fs : List Fw} {dk : List (Key × D)} {M0 : Ms} {p : Fw → Bool} : SP (lsM l ins (fs.filter p) dk ++ M0) ((lsM l ins fs dk ++ M0).set 0 (l.st, .dK (stF ins l.dr (fs.filter p)))) :=
  ⟨_, List.Perm.refl _, List.Sublist.cons_cons _ (List.Sublist.cons_cons _ ((List.filter_sublist.map _).append_right M0))⟩
theorem filter_head {α : Type} {p : α → Bool} : ∀ {l : List α} {b : α} {r : List α}, l.filter p = b :: r → p b = true ∧ ∃ i : Nat, l[i]? = some b ∧ ∀ (j : Nat) (m : α), j < i → l[j]? = some m → p m = false
  | [], b, r, h => by cases h
  | a :: l, b, r, h => by
    cases hp : p a with
    | true =>
      rw [List.filter_cons_of_pos hp] at h
      cases h
      exact ⟨hp, 0, rfl, fun j m hj _ => absurd hj (Nat.not_lt_zero _)⟩
    | false =>
      rw [List.filter_cons_of_neg (by rw [hp]; decide)] at h
      obtain ⟨h1, i, hi, lt⟩ := filter_head h
      refine ⟨h1, i + 1, hi, fun j m hj hm => ?_⟩
      cases j with
      | zero => cases hm; exact hp
      | succ j => exact lt j m (by omega) hm
def scOut : Scope := match (defBody s_law_out).getD 4 (.Pass ⟨0, 0, 0, 0⟩) with
  | .If _ t _ _ => (match t.getD 1 (.Pass ⟨0, 0, 0, 0⟩) with
    | .Assign _ (.Subscript (.ListComp _ _ sc _) _ _) _ => sc
    | _ => defScope s_law_out)
  | _ => defScope s_law_out
abbrev nums : List Int := (List.range 59).map fun i : Nat => 1 + (i : Int)
abbrev freeP (fl : List Fw) (tgt k : Int) : Bool := decide (((fl.filter fun y => decide (y.outer = k) && decide (y.peer = tgt)).map fun y => Rf y.addr) = [])
theorem free_iff {fl : List Fw} {tgt k : Int} : freeP fl tgt k = true ↔ k ∉ taken fl tgt := by
  unfold freeP taken
  rw [decide_eq_true_eq, List.map_eq_nil_iff, List.filter_eq_nil_iff]
  refine ⟨fun h z => ?_, fun h f hf z => ?_⟩
  · obtain ⟨f, hf, rfl⟩ := List.mem_map.mp z
    obtain ⟨h1, h2⟩ := List.mem_filter.mp hf
    exact h f h1 (by rw [h2, decide_eq_true rfl]; rfl)
  · rw [Bool.and_eq_true, decide_eq_true_eq, decide_eq_true_eq] at z
    exact h (List.mem_map.mpr ⟨f, List.mem_filter.mpr ⟨hf, decide_eq_true z.2⟩, z.1⟩)
theorem taken_le {fl : List Fw} {tgt : Int} : (taken fl tgt).length ≤ fl.length := by unfold taken; rw [List.length_map]; exact List.length_filter_le _ _
theorem first_free {fl : List Fw} {tgt : Int} (h : fl.length < 50) : ∃ k r, nums.filter (freeP fl tgt) = k :: r ∧ Least fl tgt k := by
  have at' : ∀ i : Nat, i < 59 → nums[i]? = some (1 + (i : Int)) := fun i hi => by
    unfold nums
    rw [List.getElem?_map, List.getElem?_range hi]
    rfl
  have no : ∀ k, ¬ freeP fl tgt k = true → k ∈ taken fl tgt := fun k hk => Decidable.byContradiction fun z => hk (free_iff.mpr z)
  cases e : nums.filter (freeP fl tgt) with
  | nil =>
    exfalso
    have := run_le (k := 59) (l := taken fl tgt) fun j j1 j2 => by
      refine no j ((List.filter_eq_nil_iff.mp e) j (List.mem_of_getElem? (i := (j - 1).toNat) ?_))
      rw [at' _ (by omega)]
      congr 1
      omega
    have := taken_le (fl := fl) (tgt := tgt)
    omega
  | cons k r =>
    obtain ⟨hp, i, hi, low⟩ := filter_head e
    have hi59 : i < 59 := by have := at_lt hi; simpa [nums] using this
    rw [at' i hi59] at hi
    have hk : k = 1 + (i : Int) := (Option.some.inj hi).symm
    refine ⟨k, r, rfl, by omega, free_iff.mp hp, fun j j1 j2 => no j ?_⟩
    rw [low (j - 1).toNat j (by omega) (by rw [at' _ (by omega)]; congr 1; omega)]
    decide
def S_lout : SpD := fun ds M xr R => ∃ (l : La) (ins : List Int) (fs : List Fw) (dk : List (Key × D)) (σ : Int → Option Int) (m : Nat) (src tgt t : Int) (s : Seg) (M0 : Ms), ds = [Rf l.st, I src, I tgt, s.d, I t] ∧ SP (lsM l ins fs dk ++ M0) M ∧ DrOk dk σ m ∧ fs.length ≤ 100 ∧
    (¬ (src ∈ ins ∧ tgt ∉ ins) → R (lsM l ins (fs.filter (live t)) dk ++ M0) N0) ∧
    (src ∈ ins ∧ tgt ∉ ins → s.opener ≠ src → s.opener = tgt ∧ σ tgt = some src → R (lsM l ins (fs.filter (live t)) dk ++ M0) (.tup [I 90, s.d])) ∧
    (src ∈ ins ∧ tgt ∉ ins → s.opener ≠ src → ¬ (s.opener = tgt ∧ σ tgt = some src) → R (lsM l ins (fs.filter (live t)) dk ++ M0) N0) ∧
    (src ∈ ins ∧ tgt ∉ ins → s.opener = src → ∀ (i : Nat) (f : Fw), (fs.filter (live t))[i]? = some f → hit s.opener s.number tgt f → (∀ (j : Nat) (g : Fw), j < i → (fs.filter (live t))[j]? = some g → ¬ hit s.opener s.number tgt g) →
      R (lsM l ins ((fs.filter (live t)).set i { f with used := t }) dk ++ M0) (.tup [I 90, Seg.d { s with opener := 90, number := f.outer }])) ∧
    (src ∈ ins ∧ tgt ∉ ins → s.opener = src → (∀ f ∈ fs.filter (live t), ¬ hit s.opener s.number tgt f) → 50 ≤ (fs.filter (live t)).length → R (lsM l ins (fs.filter (live t)) dk ++ M0) N0) ∧
    (src ∈ ins ∧ tgt ∉ ins → s.opener = src → (∀ f ∈ fs.filter (live t), ¬ hit s.opener s.number tgt f) → (fs.filter (live t)).length < 50 → ∀ q k, Least (fs.filter (live t)) tgt k →
      R (lsM l ins (fs.filter (live t) ++ [⟨q, s.opener, s.number, k, tgt, t⟩]) dk ++ M0) (.tup [I 90, Seg.d { s with opener := 90, number := k }]))
section
variable {P : Program} {w : World} {K : PySem.W.Frag} {mg : Str → Option Value} {base : Heap} {G : Hp → Prop}
theorem gf_lout {f : Addr} {fd : FuncData} (F : Fun K "_law_out" "_law_out" s_law_out f fd) (gs : Gst G) (ml : mg "len" = none) (mr : mg "range" = none) : Gf P w K mg base G 1 f [] S_lout := by
  refine gf_of F sc_law_out gs (F.binds fun _ _ _ _ _ _ us hl => match us, hl with | [_, _, _, _, _], _ => rfl) .nil (fun ds M xr R h => by obtain ⟨l, ins, fs, dk, σ, m, src, tgt, t, s, M0, rfl, _⟩ := h; rfl) ?_
  rintro X W M ds xr R ⟨cdv, A, outer, s, H, E0, rfl⟩ cx ⟨l, ins, fs, dk, σ, m, src, tgt, t, g, M0, rfl, hsp, hd, hl, k1, k2, k3, k4, k5, k6⟩
  refine wss_sp hsp ?_
  refine wss_cons (ws_dput cx (we_lcA cx cx.nd [("row", 7)] fs (fun y => Rf y.addr) (live t) (fun y => Rf y.addr) (gok_name 7) (gwipe_name 7) (amono_name 7) (fun s H C cl fp => pgn 7 cx.nd) (blkOk_by (by show blkC N_law_out (defScope s_law_out) _ _ = true; decide +kernel)) (wip_of (wi_lst (we_dget cx ?_)))))
  walk_at "x"
  refine ⟨_, dv_k 0 rfl "flows" rfl, ?_⟩
  refine .mk ⟨rfl, fun _ _ _ => trivial, trivial, sz2 (by omega), fun y hy => ?_, ?_⟩
  · obtain ⟨i, hi⟩ := List.getElem?_of_mem hy
    refine itemA1 (amono_name 7) fun q acc => ?_
    rintro Y ⟨s', H', C', cl', fp', rfl⟩ cy
    have hx : ((q, O.lst acc) :: (lsM l ins fs dk ++ M0))[3 + i]? = some (y.addr, rwO y) := by
      rw [show 3 + i = 2 + i + 1 by omega, List.getElem?_cons_succ]
      exact lsM_at hi
    walk_at "x"
    refine ⟨rfl, rfl, fun _ => ?_⟩
    rintro Y' ⟨s2, H2, C2, cl2, fp2, rfl⟩ cy2
    walk_at "x"
    exact ⟨rfl, rfl⟩
  walk_at "x"
  refine DP.k 0 rfl (Sum.inr "flows") (sz2 (by show 3 < 1000000; decide)) ?_
  refine wss_sp lsM_live ?_
  obtain ⟨fl, hfl⟩ : ∃ fl, fl = fs.filter (live t) := ⟨_, rfl⟩
  rw [← hfl] at k1 k2 k3 k4 k5 k6 ⊢
  have hll : fl.length ≤ 100 := by rw [hfl]; exact Nat.le_trans (List.length_filter_le _ _) hl
  refine wss_cons (ws_if (wt_bool (ww_or (wt_cmp cx.hu ?_))))
  walk_at "x1"
  refine we_dget cx ?_
  walk_at "x"
  refine ⟨_, dv_k 0 rfl "inside" rfl, ?_⟩
  refine CmpD.notInE (enc := fun i : Int => I i) (n := 1) encI (ite_nd (fun h1 => ?_) (fun h1 => ?_))
  · refine iteT (wss_one (ws_ret ?_))
    walk_at "x"
    exact k1 fun z => h1 z.1
  refine ww_or1 (wt_cmp cx.hu ?_)
  walk_at "x1"
  refine we_dget cx ?_
  walk_at "x"
  refine ⟨_, dv_k 0 rfl "inside" rfl, ?_⟩
  refine CmpD.inE (enc := fun i : Int => I i) (n := 1) encI (ite_d (fun h2 => ?_) (fun h2 => ?_))
  · refine wss_one (ws_ret ?_)
    walk_at "x"
    exact k1 fun z => z.2 h2
  have hst : src ∈ ins ∧ tgt ∉ ins := ⟨h1, h2⟩
  refine wss_nil (wss_cons (ws_if (wt_cmp cx.hu ?_)))
  walk_at "x"
  refine ite_nd (fun ho => ?_) (fun ho => ?_)
  · refine wss_one (ws_ret (we_ifx (wt_bool (ww_and (wt_cmp cx.hu ?_)))))
    walk_at "x"
    refine ite_d (fun e1 => ?_) (fun e1 => ?_)
    · refine ww_and1 (wt_cmp cx.hu (we_dget1 cx (we_dget cx ?_) (by constructor <;> rfl)))
      walk_at "x"
      refine ⟨_, dv_k 0 rfl "doors" rfl, ⟨1, l.dr, rfl, .inl ⟨dk, rfl⟩⟩, ?_⟩
      walk_at "x"
      refine ⟨_, .k 1 rfl (Sum.inl tgt), ?_⟩
      rw [hd.val]
      walk_at "x"
      cases hs : σ tgt with
      | none =>
        refine .eq .non (.int _) (iteF ?_)
        walk_at "x"
        exact k3 hst ho fun z => by rw [hs] at z; cases z.2
      | some h =>
        refine CmpD.eqI (ite_d (fun e2 => ?_) (fun e2 => ?_))
        · walk_at "x"
          exact k2 hst ho ⟨e1, by rw [hs, e2]⟩
        · walk_at "x"
          exact k3 hst ho fun z => e2 (Option.some.inj (hs.symm.trans z.2))
    · refine iteF ?_
      walk_at "x"
      exact k3 hst ho fun z => e1 z.1
  refine wss_nil (wss_cons (ws_setLcA 5 cx cx.nd [("row", 7)] fl (fun y => Rf y.addr) (fun y => decide (y.opener = src) && (decide (y.number = g.number) && decide (y.peer = tgt))) (fun y => Rf y.addr) (gok_name 7) (gwipe_name 7) (amono_name 7) (fun s H C cl fp => pgn 7 cx.nd) (blkOk_by (by show blkC N_law_out (defScope s_law_out) _ _ = true; decide +kernel)) (sw_true rfl rfl rfl (by decide +kernel)) (wip_of (wi_lst (we_dget cx ?_)))))
  walk_at "x"
  refine ⟨_, dv_k 0 rfl "flows" rfl, ?_⟩
  refine .mk ⟨rfl, fun _ _ _ => trivial, trivial, sz2 (by omega), fun y hy => ?_, ?_⟩
  · obtain ⟨i, hi⟩ := List.getElem?_of_mem hy
    refine itemA1 (amono_name 7) fun q acc => ?_
    rintro Y ⟨s', H', C', cl', fp', rfl⟩ cy
    have hx : ((q, O.lst acc) :: (lsM l ins fl dk ++ M0))[3 + i]? = some (y.addr, rwO y) := by
      rw [show 3 + i = 2 + i + 1 by omega, List.getElem?_cons_succ]
      exact lsM_at hi
    walk_at "x"
    refine ite_d (fun e1 => ?_) (fun e1 => ?_)
    · walk_at "x"
      refine ite_d (fun e2 => ?_) (fun e2 => ?_)
      · walk_at "x"
        refine ⟨rfl, by rw [decide_eq_true e1, decide_eq_true e2]; rfl, fun _ => ?_⟩
        rintro Y' ⟨s2, H2, C2, cl2, fp2, rfl⟩ cy2
        walk_at "x"
        exact ⟨rfl, rfl⟩
      · exact ⟨rfl, by rw [decide_eq_true e1, decide_eq_false e2]; rfl, fun z => by rw [decide_eq_true e1, decide_eq_false e2] at z; cases z⟩
    · exact ⟨rfl, by rw [decide_eq_false e1]; rfl, fun z => by rw [decide_eq_false e1] at z; cases z⟩
  have tail : ∀ (fs2 : List Fw) (i : Nat) (f2 : Fw) (z6 z7 : Option D), fs2[i]? = some f2 → R (lsM l ins (fs2.set i { f2 with used := t }) dk ++ M0) (.tup [I 90, Seg.d { g with opener := 90, number := f2.outer }]) → ∀ (rest : List D),
      WSs (cxOf (L2N.CX P w) P w K mg base N_law_out "_law_out" (defScope s_law_out) f cdv A outer s H E0) G W ((defBody s_law_out).drop 5) (lsM l ins fs2 dk ++ M0) [some (Rf l.st), some (I src), some (I tgt), some g.d, some (I t), some (.lst (Rf f2.addr :: rest)), z6, z7, none] { nx := fun M' _ => R M' N0, rt := R, bk := fun _ _ => False, ct := fun _ _ => False, xr := xr } := by
    intro fs2 i f2 z6 z7 hf2 hR rest
    have hx := lsM_at (l := l) (ins := ins) (dk := dk) (M0 := M0) hf2
    walk_at "e"
    refine .lst (d := Rf f2.addr) (atI_zero _ _) ?_
    walk_at "e"
    refine ⟨_, rfl, ?_⟩
    have es := lsM_set (l := l) (ins := ins) (dk := dk) (M0 := M0) (t := t) hf2
    show WSs _ _ _ _ ((lsM l ins fs2 dk ++ M0).set (2 + i) (f2.addr, rwO { f2 with used := t })) _ _
    rw [es]
    have hi := at_lt hf2
    have hs2 : (fs2.set i { f2 with used := t })[i]? = some { f2 with used := t } := by rw [List.getElem?_set_self hi]
    have hx2 := lsM_at (l := l) (ins := ins) (dk := dk) (M0 := M0) hs2
    refine wss_one (ws_ret ?_)
    walk_at "x"
    refine BinD.addT (by show 3 + 5 ≤ sizeLine; decide) (wa_nil ⟨by show 2 ≤ sizeLine; decide, hR⟩)
  obtain ⟨rs, hrs⟩ : ∃ rs, rs = fl.filter (fun y => decide (y.opener = src) && (decide (y.number = g.number) && decide (y.peer = tgt))) := ⟨_, rfl⟩
  rw [← hrs]
  refine wss_cons (ws_if (wt_eqNil cx ?_))
  walk_at "x"
  refine we_lst gs (wa_nil ⟨Nat.zero_le _, _, .lst _, rfl, ?_⟩)
  cases rs with
  | cons f2 r2 =>
    rw [decide_eq_false (by simp)]
    refine iteF (wss_nil ?_)
    obtain ⟨hp, i, hi, low⟩ := filter_head hrs.symm
    rw [Bool.and_eq_true, Bool.and_eq_true, decide_eq_true_eq, decide_eq_true_eq, decide_eq_true_eq] at hp
    refine tail fl i f2 none none hi (k4 hst ho i f2 hi ⟨hp.1.trans ho.symm, hp.2.1, hp.2.2⟩ fun j m hj hm hh => ?_) _
    have := low j m hj hm
    rw [decide_eq_true (hh.1.trans ho), decide_eq_true hh.2.1, decide_eq_true hh.2.2] at this
    cases this
  | nil =>
    have hall : ∀ f ∈ fl, ¬ hit g.opener g.number tgt f := fun f hf hh => by
      have := (List.filter_eq_nil_iff.mp hrs.symm) f hf
      rw [decide_eq_true (hh.1.trans ho), decide_eq_true hh.2.1, decide_eq_true hh.2.2] at this
      exact this rfl
    rw [decide_eq_true (by simp)]
    refine iteT (wss_cons (ws_if (wt_cmp cx.hu (we_len ml rfl (we_dget cx ?_)))))
    walk_at "x"
    refine ⟨_, dv_k 0 rfl "flows" rfl, ?_⟩
    walk_at "x"
    rw [List.length_map]
    refine ite_d (fun h50 => ?_) (fun h50 => ?_)
    · refine wss_one (ws_ret ?_)
      walk_at "x"
      exact k5 hst ho hall (by omega)
    refine wss_nil (wss_cons (ws_set 6 cx.nd (we_ix ?_)))
    refine we_lcA cx cx.nd [("k", 8)] nums (fun k => I k) (freeP fl tgt) (fun k => I k) (gok_name 8) (gwipe_name 8) (amono_name 8) (fun s H C cl fp => pgn 8 cx.nd) (blkOk_by (by show blkC N_law_out (defScope s_law_out) _ _ = true; decide +kernel)) (wip_of (wi_rng2 mr rfl ?_))
    walk_at "x"
    refine ⟨_, _, rfl, by decide, by rw [List.map_map]; rfl, fun _ _ _ => trivial, trivial, sz2 (by decide), fun k hk => ?_, ?_⟩
    · refine itemA1 (amono_name 8) fun q acc => ?_
      rintro Y ⟨s', H', C', cl', fp', rfl⟩ cy
      refine wt_eqNil cy (we_lcA cy cy.nd [("row", 7)] fl (fun y => Rf y.addr) (fun y => decide (y.outer = k) && decide (y.peer = tgt)) (fun y => Rf y.addr) (gok_name 7) (gwipe_name 7) (amono_name 7) (fun s H C cl fp => pgn 7 cy.nd) (blkOk_by (by show blkC N_law_out (L2.relS scOut (defScope s_law_out)) _ _ = true; decide +kernel)) (wip_of (wi_lst (we_dget cy ?_))))
      walk_at "x"
      refine ⟨_, dv_k 1 rfl "flows" rfl, ?_⟩
      refine .mk ⟨rfl, fun _ _ _ => trivial, trivial, sz2 (by omega), fun y hy => ?_, ?_⟩
      · obtain ⟨i, hi⟩ := List.getElem?_of_mem hy
        refine itemA1 (amono_name 7) fun q2 acc2 => ?_
        rintro Y2 ⟨s2', H2', C2', cl2', fp2', rfl⟩ cy2
        have hx : ((q2, O.lst acc2) :: (q, O.lst acc) :: (lsM l ins fl dk ++ M0))[4 + i]? = some (y.addr, rwO y) := by
          rw [show 4 + i = 2 + i + 1 + 1 by omega, List.getElem?_cons_succ, List.getElem?_cons_succ]
          exact lsM_at hi
        walk_at "x"
        refine ite_d (fun e1 => ?_) (fun e1 => ?_)
        · walk_at "x"
          refine ⟨rfl, by rw [decide_eq_true e1]; rfl, fun _ => ?_⟩
          rintro Y' ⟨s2, H2, C2, cl2, fp2, rfl⟩ cy2
          walk_at "x"
          exact ⟨rfl, rfl⟩
        · exact ⟨rfl, by rw [decide_eq_false e1]; rfl, fun z => by rw [decide_eq_false e1] at z; cases z⟩
      · walk_at "x"
        refine we_lst cy.gs (wa_nil ⟨Nat.zero_le _, _, .lst _, rfl, rfl, rfl, fun _ => ?_⟩)
        rintro Y' ⟨s2, H2, C2, cl2, fp2, rfl⟩ cy2
        walk_at "x"
        exact ⟨rfl, rfl⟩
    obtain ⟨k, r, hk, least⟩ := first_free (fl := fl) (tgt := tgt) (by omega)
    rw [hk]
    walk_at "x"
    refine .lst (d := I k) (atI_zero _ _) ?_
    refine wss_cons (ws_set 5 cx.nd (we_lst gs (wa_cons (we_lstO gs ?_))))
    walk_at "x"
    refine fun q => ?_
    refine wa_nil ⟨sz1 (by simp), ?_⟩
    refine wss_one (ws_dput cx (we_bin gs (we_dget cx ?_)))
    walk_at "x"
    refine ⟨_, dv_k 1 rfl "flows" rfl, ?_⟩
    walk_at "x"
    refine BinD.addL (by rw [List.length_map]; exact sz1 (by show fl.length + 1 ≤ _; omega)) ?_
    walk_at "x"
    refine DP.k 1 rfl (Sum.inr "flows") (sz2 (by show 3 < 1000000; decide)) ?_
    refine wss_sp (M0 := lsM l ins (fl ++ [⟨q, g.opener, g.number, k, tgt, t⟩]) dk ++ M0) ⟨_, ?_, List.Sublist.refl _⟩ ?_
    · have e1 : rwM (fl ++ [⟨q, g.opener, g.number, k, tgt, t⟩]) = rwM fl ++ [(q, rwO ⟨q, g.opener, g.number, k, tgt, t⟩)] := by unfold rwM; rw [List.map_append]; rfl
      refine List.Perm.symm ?_
      show List.Perm ((l.st, O.dK (stF ins l.dr (fl ++ [Fw.mk q g.opener g.number k tgt t]))) :: (l.dr, .dK dk) :: (rwM (fl ++ [⟨q, g.opener, g.number, k, tgt, t⟩]) ++ M0)) _
      unfold stF
      rw [e1, List.map_append, List.append_assoc, ho]
      exact (List.perm_middle (l₁ := (l.st, O.dK _) :: (l.dr, .dK dk) :: rwM fl) (a := (q, rwO ⟨q, src, g.number, k, tgt, t⟩)) (l₂ := M0))
    · refine tail _ fl.length ⟨q, g.opener, g.number, k, tgt, t⟩ _ none (by rw [List.getElem?_append_right (Nat.le_refl _), Nat.sub_self]; rfl) ?_ []
      rw [List.set_append_right _ _ (Nat.le_refl _), Nat.sub_self]
      exact k6 hst ho hall (by omega) q k least
end

end K24
set_option maxRecDepth 100000
set_option maxHeartbeats 4000000

namespace K24
open PySem PySem.Spec PyProof.Rows L2 Wv
open LamX (CodeO TabS Tabs ExtN TabB lamEnv lamCx LamS)
local macro_rules | `(tactic| walk_at "e.name") => `(tactic| first
    | refine we_var 0 _ rfl (by first | exact .inl rfl | exact .inr (.inl rfl) | exact .inr (.inr rfl)) rfl ?_
    | refine we_var 1 _ rfl (by first | exact .inl rfl | exact .inr (.inl rfl) | exact .inr (.inr rfl)) rfl ?_
    | refine we_var 2 _ rfl (by first | exact .inl rfl | exact .inr (.inl rfl) | exact .inr (.inr rfl)) rfl ?_
    | refine we_var 3 _ rfl (by first | exact .inl rfl | exact .inr (.inl rfl) | exact .inr (.inr rfl)) rfl ?_
    | refine we_var 4 _ rfl (by first | exact .inl rfl | exact .inr (.inl rfl) | exact .inr (.inr rfl)) rfl ?_
    | refine we_var 5 _ rfl (by first | exact .inl rfl | exact .inr (.inl rfl) | exact .inr (.inr rfl)) rfl ?_
    | refine we_var 6 _ rfl (by first | exact .inl rfl | exact .inr (.inl rfl) | exact .inr (.inr rfl)) rfl ?_
    | refine we_var 7 _ rfl (by first | exact .inl rfl | exact .inr (.inl rfl) | exact .inr (.inr rfl)) rfl ?_
    | refine we_var 8 _ rfl (by first | exact .inl rfl | exact .inr (.inl rfl) | exact .inr (.inr rfl)) rfl ?_
    | refine we_var 9 _ rfl (by first | exact .inl rfl | exact .inr (.inl rfl) | exact .inr (.inr rfl)) rfl ?_
    | refine we_var 10 _ rfl (by first | exact .inl rfl | exact .inr (.inl rfl) | exact .inr (.inr rfl)) rfl ?_
    | refine we_var 11 _ rfl (by first | exact .inl rfl | exact .inr (.inl rfl) | exact .inr (.inr rfl)) rfl ?_
    | refine we_var 12 _ rfl (by first | exact .inl rfl | exact .inr (.inl rfl) | exact .inr (.inr rfl)) rfl ?_
    | refine we_var 13 _ rfl (by first | exact .inl rfl | exact .inr (.inl rfl) | exact .inr (.inr rfl)) rfl ?_
    | refine we_var 14 _ rfl (by first | exact .inl rfl | exact .inr (.inl rfl) | exact .inr (.inr rfl)) rfl ?_
    | refine we_var 15 _ rfl (by first | exact .inl rfl | exact .inr (.inl rfl) | exact .inr (.inr rfl)) rfl ?_
    | refine we_var 16 _ rfl (by first | exact .inl rfl | exact .inr (.inl rfl) | exact .inr (.inr rfl)) rfl ?_
    | refine we_var 17 _ rfl (by first | exact .inl rfl | exact .inr (.inl rfl) | exact .inr (.inr rfl)) rfl ?_
    | refine we_var 18 _ rfl (by first | exact .inl rfl | exact .inr (.inl rfl) | exact .inr (.inr rfl)) rfl ?_
    | refine we_var 19 _ rfl (by first | exact .inl rfl | exact .inr (.inl rfl) | exact .inr (.inr rfl)) rfl ?_
    | refine we_var 20 _ rfl (by first | exact .inl rfl | exact .inr (.inl rfl) | exact .inr (.inr rfl)) rfl ?_
    | refine we_var 21 _ rfl (by first | exact .inl rfl | exact .inr (.inl rfl) | exact .inr (.inr rfl)) rfl ?_
    | refine we_var 22 _ rfl (by first | exact .inl rfl | exact .inr (.inl rfl) | exact .inr (.inr rfl)) rfl ?_
    | refine we_var 23 _ rfl (by first | exact .inl rfl | exact .inr (.inl rfl) | exact .inr (.inr rfl)) rfl ?_
    | refine we_var 24 _ rfl (by first | exact .inl rfl | exact .inr (.inl rfl) | exact .inr (.inr rfl)) rfl ?_
    | refine we_var 25 _ rfl (by first | exact .inl rfl | exact .inr (.inl rfl) | exact .inr (.inr rfl)) rfl ?_
    | refine we_var 26 _ rfl (by first | exact .inl rfl | exact .inr (.inl rfl) | exact .inr (.inr rfl)) rfl ?_
    | refine we_var 27 _ rfl (by first | exact .inl rfl | exact .inr (.inl rfl) | exact .inr (.inr rfl)) rfl ?_
    | refine we_var 28 _ rfl (by first | exact .inl rfl | exact .inr (.inl rfl) | exact .inr (.inr rfl)) rfl ?_
    | refine we_var 29 _ rfl (by first | exact .inl rfl | exact .inr (.inl rfl) | exact .inr (.inr rfl)) rfl ?_
    | refine we_globI (by assumption) rfl ?_
    | refine we_globS (by assumption) rfl ?_)
local macro_rules | `(tactic| walk_at "e.const") => `(tactic| first
    | refine we_int ?_
    | refine we_str ?_
    | refine we_bl ?_
    | refine we_non ?_)
local macro_rules | `(tactic| walk_at "e.call") => `(tactic| first
    | refine we_len (by assumption) rfl ?_
    | refine we_int2 (by assumption) rfl ?_
    | refine we_tuple (Ct.gs (by assumption)) (by assumption) rfl ?_
    | refine we_abs (by assumption) rfl ?_
    | refine we_find ?_)
local macro_rules | `(tactic| walk_at "e.we") => `(tactic| first
    | (refine gNm ?_; walk_at "e.name")
    | (refine gConst ?_; walk_at "e.const")
    | refine we_bin (Ct.gs (by assumption)) ?_
    | (refine gCall ?_; walk_at "e.call")
    | refine we_cmp (Ct.hu (by assumption)) ?_
    | refine we_ix ?_
    | refine we_slice (Ct.gs (by assumption)) ?_
    | refine we_fld ?_
    | refine we_tup (Ct.gs (by assumption)) ?_
    | refine we_chain (Ct.hu (by assumption)) ?_
    | refine we_lst1 (Ct.gs (by assumption)) ?_
    | refine we_ifx ?_
    | refine we_and ?_
    | refine we_or ?_
    | refine we_one ?_
    | refine we_not ?_
    | refine we_negI ?_
    | refine we_neg ?_)
local macro_rules | `(tactic| walk_at "e.wt") => `(tactic| first
    | refine wt_cmp (Ct.hu (by assumption)) ?_
    | refine wt_chain (Ct.hu (by assumption)) ?_
    | refine wt_not ?_
    | refine wt_bool ?_
    | refine wt_val ?_)
local macro_rules | `(tactic| walk_at "e.ww") => `(tactic| first
    | refine ww_and ?_
    | refine ww_or ?_
    | refine ww_and1 ?_
    | refine ww_or1 ?_)
local macro_rules | `(tactic| walk_at "e.wa") => `(tactic| first
    | refine wa_nil ?_
    | refine wa_cons ?_)
local macro_rules | `(tactic| walk_at "e.wss") => `(tactic| first
    | refine wss_cons ?_
    | refine wss_nil ?_)
local macro_rules | `(tactic| walk_at "e.ws") => `(tactic| first
    | refine ws_if ?_
    | refine ws_expr (we_append (Ct.gs (by assumption)) ?_ (pe_bm PySem.F.plainAttrs_list PySem.F.slot_list_append PySem.F.type_list_append mt_append pe_wp pa_wp))
    | refine ws_fldSub (Ct.gs (by assumption)) ?_
    | refine ws_fldAddW (Ct.gs (by assumption)) ?_
    | refine ws_expr ?_
    | refine ws_set 0 (Ct.nd (by assumption)) ?_
    | refine ws_set 1 (Ct.nd (by assumption)) ?_
    | refine ws_set 2 (Ct.nd (by assumption)) ?_
    | refine ws_set 3 (Ct.nd (by assumption)) ?_
    | refine ws_set 4 (Ct.nd (by assumption)) ?_
    | refine ws_set 5 (Ct.nd (by assumption)) ?_
    | refine ws_set 6 (Ct.nd (by assumption)) ?_
    | refine ws_set 7 (Ct.nd (by assumption)) ?_
    | refine ws_set 8 (Ct.nd (by assumption)) ?_
    | refine ws_set 9 (Ct.nd (by assumption)) ?_
    | refine ws_set 10 (Ct.nd (by assumption)) ?_
    | refine ws_set 11 (Ct.nd (by assumption)) ?_
    | refine ws_set 12 (Ct.nd (by assumption)) ?_
    | refine ws_set 13 (Ct.nd (by assumption)) ?_
    | refine ws_set 14 (Ct.nd (by assumption)) ?_
    | refine ws_set 15 (Ct.nd (by assumption)) ?_
    | refine ws_set 16 (Ct.nd (by assumption)) ?_
    | refine ws_set 17 (Ct.nd (by assumption)) ?_
    | refine ws_set 18 (Ct.nd (by assumption)) ?_
    | refine ws_set 19 (Ct.nd (by assumption)) ?_
    | refine ws_set 20 (Ct.nd (by assumption)) ?_
    | refine ws_set 21 (Ct.nd (by assumption)) ?_
    | refine ws_set 22 (Ct.nd (by assumption)) ?_
    | refine ws_set 23 (Ct.nd (by assumption)) ?_
    | refine ws_set 24 (Ct.nd (by assumption)) ?_
    | refine ws_set 25 (Ct.nd (by assumption)) ?_
    | refine ws_set 26 (Ct.nd (by assumption)) ?_
    | refine ws_set 27 (Ct.nd (by assumption)) ?_
    | refine ws_set 28 (Ct.nd (by assumption)) ?_
    | refine ws_set 29 (Ct.nd (by assumption)) ?_
    | refine ws_sub (Ct.gs (by assumption)) ?_ (fun a b => pg_sub a b set_list)
    | refine ws_fld (Ct.gs (by assumption)) ?_
    | refine ws_pass ?_
    | refine ws_break ?_
    | refine ws_cont ?_)
local macro_rules | `(tactic| walk_at "e.bin") => `(tactic| first
    | refine BinD.addI ?_
    | refine BinD.subI ?_
    | refine BinD.modP (by assumption) ?_
    | refine BinD.divP (by assumption) ?_
    | refine BinD.modI (by decide) ?_
    | refine BinD.modI (by assumption) ?_
    | refine BinD.divI (by decide) (by decide) ?_
    | refine BinD.divI (by assumption) (by assumption) ?_
    | refine BinD.mulI (by first | exact .inl ⟨by decide, by decide⟩ | exact .inr ⟨by decide, by decide⟩) ?_
    | refine BinD.xorI ?_
    | refine BinD.powI ⟨by decide, by decide, by decide⟩ ?_)
local macro_rules | `(tactic| walk_at "e.cmp") => `(tactic| first
    | refine CmpD.lt ?_
    | refine CmpD.le ?_
    | refine CmpD.gt ?_
    | refine CmpD.ge ?_
    | refine CmpD.isN ?_
    | refine CmpD.notN ?_
    | refine CmpD.neI_s ?_
    | refine CmpD.neT_s ?_
    | refine CmpD.neZ_s ?_
    | refine CmpD.eqZ_s ?_
    | refine CmpD.neN_s ?_
    | refine CmpD.eqN_s ?_
    | refine CmpD.neTZ ?_
    | refine CmpD.eqTZ ?_
    | refine CmpD.eqI ?_
    | refine CmpD.neI ?_
    | refine CmpD.eqZ ?_
    | refine CmpD.neZ ?_)
local macro_rules | `(tactic| walk_at "e.is") => `(tactic| first
    | refine gSz ?_
    | refine gFld (by assumption) (by assumption) rfl ?_
    | refine gFldS (by assumption) (by assumption) (by first | decide | (repeat (first | refine plA ?_ | refine plB ?_)); simp) ?_
    | refine gFldU (by first | decide | (repeat (first | refine plA ?_ | refine plB ?_)); simp) ?_
    | refine IsI.mk ?_
    | refine IsT.mk ?_
    | refine IsL.mk ?_
    | refine IsZ.mk ?_
    | refine IsB.mk ?_
    | refine OwL.mk 0 rfl ?_
    | refine OwL.mk 1 rfl ?_
    | refine OwL.mk 2 rfl ?_
    | refine OwL.mk 3 rfl ?_
    | refine OwL.mk 4 rfl ?_
    | refine OwL.mk 5 rfl ?_
    | refine OwI.mk 0 rfl ?_
    | refine OwI.mk 1 rfl ?_
    | refine OwI.mk 2 rfl ?_
    | refine OwI.mk 3 rfl ?_
    | refine OwI.mk 4 rfl ?_
    | refine OwI.mk 5 rfl ?_
    | refine OwI.mk _ (by assumption) ?_
    | refine OwI.mk _ (set_at (by assumption)) ?_
    | refine OwI.mk _ (set_at (set_at (by assumption))) ?_
    | refine OwL.mk _ (by assumption) ?_
    | refine OwL.mk _ (set_at (by assumption)) ?_
    | refine OwL.mk _ (set_at (set_at (by assumption))) ?_
    | refine OwL.mk _ (set_at (set_at (set_at (by assumption)))) ?_
    | refine IxD.own 0 rfl rfl ?_
    | refine IxD.own 1 rfl rfl ?_
    | refine IxD.own 2 rfl rfl ?_
    | refine IxD.own 3 rfl rfl ?_
    | refine IxD.own 4 rfl rfl ?_
    | refine IxD.own 5 rfl rfl ?_
    | refine IxD.own _ (by assumption) rfl ?_
    | refine IxD.own _ (set_at (by assumption)) rfl ?_
    | refine IxD.own _ (set_at (set_at (by assumption))) rfl ?_
    | refine IxD.own _ (set_at (set_at (set_at (by assumption)))) rfl ?_
    | refine IxD.tup rfl ?_
    | refine IxD.lst rfl ?_
    | refine IntD.int ?_
    | refine IntD.bl ?_
    | refine TruD.bl ?_
    | refine TruD.int ?_
    | refine TruD.tup ?_
    | refine TruD.lst ?_
    | refine LenD.tup ?_
    | refine LenD.lst ?_
    | refine SeqD.tup ?_
    | refine SeqD.lst ?_
    | refine SlD.tup ?_
    | refine SlD.lst ?_
    | refine SeqD.own 0 rfl ?_
    | refine SeqD.own 1 rfl ?_
    | refine SeqD.own 2 rfl ?_
    | refine SeqD.own 3 rfl ?_
    | refine SeqD.own 4 rfl ?_
    | refine SeqD.own 5 rfl ?_
    | refine LenD.own 0 rfl ?_
    | refine LenD.own 1 rfl ?_
    | refine LenD.own 2 rfl ?_
    | refine LenD.own 3 rfl ?_
    | refine LenD.own 4 rfl ?_
    | refine LenD.own 5 rfl ?_)
local macro_rules | `(tactic| walk_at "e1") => `(tactic| first
    | (refine gWE ?_; walk_at "e.we")
    | (refine gBinD ?_; walk_at "e.bin")
    | (refine gWSs ?_; walk_at "e.wss")
    | (refine gWS ?_; walk_at "e.ws")
    | (refine gWT ?_; walk_at "e.wt")
    | (refine gCmpD ?_; walk_at "e.cmp")
    | (refine gWA ?_; walk_at "e.wa")
    | (refine gWW ?_; walk_at "e.ww")
    | refine iteT ?_
    | refine iteF ?_
    | walk_at "e.is")
local macro_rules | `(tactic| walk_at "x1") => `(tactic| first
    | (refine gWE ?_; walk_at "e.we")
    | (refine gBinD ?_; walk_at "e.bin")
    | (refine gWT ?_; walk_at "e.wt")
    | (refine gCmpD ?_; walk_at "e.cmp")
    | (refine gWA ?_; walk_at "e.wa")
    | (refine gWW ?_; walk_at "e.ww")
    | refine iteT ?_
    | refine iteF ?_
    | walk_at "e.is")
local macro_rules | `(tactic| walk_at "e") => `(tactic| repeat (walk_at "e1"))
local macro_rules | `(tactic| walk_at "x") => `(tactic| repeat (walk_at "x1"))
def S_lin : SpD := fun ds M xr R => ∃ (l : La) (ins : List Int) (fs : List Fw) (dk : List (Key × D)) (σ : Int → Option Int) (m : Nat) (src t : Int) (s : Seg) (M0 : Ms), ds = [Rf l.st, I src, s.d, I t] ∧ SP (lsM l ins fs dk ++ M0) M ∧ DrOk dk σ m ∧ fs.length ≤ 100 ∧
    (∀ h, s.opener = src → σ src = some h → R (lsM l ins (fs.filter (live t)) dk ++ M0) (.tup [I h, s.d])) ∧
    (¬ (s.opener = src ∧ (σ src).isSome = true) → s.opener ≠ 90 → R (lsM l ins (fs.filter (live t)) dk ++ M0) N0) ∧
    (¬ (s.opener = src ∧ (σ src).isSome = true) → s.opener = 90 → (∀ f ∈ fs.filter (live t), ¬ (f.outer = s.number ∧ f.peer = src)) → R (lsM l ins (fs.filter (live t)) dk ++ M0) N0) ∧
    (¬ (s.opener = src ∧ (σ src).isSome = true) → s.opener = 90 → ∀ (i : Nat) (f : Fw), (fs.filter (live t))[i]? = some f → f.outer = s.number ∧ f.peer = src → (∀ (j : Nat) (g : Fw), j < i → (fs.filter (live t))[j]? = some g → ¬ (g.outer = s.number ∧ g.peer = src)) →
      R (lsM l ins ((fs.filter (live t)).set i { f with used := t }) dk ++ M0) (.tup [I f.opener, Seg.d { s with opener := f.opener, number := f.number }]))
section
variable {P : Program} {w : World} {K : PySem.W.Frag} {mg : Str → Option Value} {base : Heap} {G : Hp → Prop}
theorem gf_lin {f : Addr} {fd : FuncData} (F : Fun K "_law_in" "_law_in" s_law_in f fd) (gs : Gst G) : Gf P w K mg base G 1 f [] S_lin := by
  refine gf_of F sc_law_in gs (F.binds fun _ _ _ _ _ _ us hl => match us, hl with | [_, _, _, _], _ => rfl) .nil (fun ds M xr R h => by obtain ⟨l, ins, fs, dk, σ, m, src, t, s, M0, rfl, _⟩ := h; rfl) ?_
  rintro X W M ds xr R ⟨cdv, A, outer, s, H, E0, rfl⟩ cx ⟨l, ins, fs, dk, σ, m, src, t, g, M0, rfl, hsp, hd, hl, k1, k2, k3, k4⟩
  refine wss_sp hsp ?_
  refine wss_cons (ws_dput cx (we_lcA cx cx.nd [("row", 4)] fs (fun y => Rf y.addr) (live t) (fun y => Rf y.addr) (gok_name 4) (gwipe_name 4) (amono_name 4) (fun s H C cl fp => pgn 4 cx.nd) (blkOk_by (by show blkC N_law_in (defScope s_law_in) _ _ = true; decide +kernel)) (wip_of (wi_lst (we_dget cx ?_)))))
  walk_at "x"
  refine ⟨_, dv_k 0 rfl "flows" rfl, ?_⟩
  refine .mk ⟨rfl, fun _ _ _ => trivial, trivial, sz2 (by omega), fun y hy => ?_, ?_⟩
  · obtain ⟨i, hi⟩ := List.getElem?_of_mem hy
    refine itemA1 (amono_name 4) fun q acc => ?_
    rintro Y ⟨s', H', C', cl', fp', rfl⟩ cy
    have hx : ((q, O.lst acc) :: (lsM l ins fs dk ++ M0))[3 + i]? = some (y.addr, rwO y) := by
      rw [show 3 + i = 2 + i + 1 by omega, List.getElem?_cons_succ]
      exact lsM_at hi
    walk_at "x"
    refine ⟨rfl, rfl, fun _ => ?_⟩
    rintro Y' ⟨s2, H2, C2, cl2, fp2, rfl⟩ cy2
    walk_at "x"
    exact ⟨rfl, rfl⟩
  walk_at "x"
  refine DP.k 0 rfl (Sum.inr "flows") (sz2 (by show 3 < 1000000; decide)) ?_
  refine wss_sp lsM_live ?_
  obtain ⟨fl, hfl⟩ : ∃ fl, fl = fs.filter (live t) := ⟨_, rfl⟩
  rw [← hfl] at k1 k2 k3 k4 ⊢
  have hll : fl.length ≤ 100 := by rw [hfl]; exact Nat.le_trans (List.length_filter_le _ _) hl
  have fin : ¬ (g.opener = src ∧ (σ src).isSome = true) → WSs (cxOf (L2N.CX P w) P w K mg base N_law_in "_law_in" (defScope s_law_in) f cdv A outer s H E0) G W ((defBody s_law_in).drop 2) (lsM l ins fl dk ++ M0) [some (Rf l.st), some (I src), some g.d, some (I t), none] { nx := fun M' _ => R M' N0, rt := R, bk := fun _ _ => False, ct := fun _ _ => False, xr := xr } := by
    intro hno
    refine wss_cons (ws_forP cx (pgn 4 cx.nd) (gok_name 4) (fun _ i M' ρ' => M' = lsM l ins fl dk ++ M0 ∧ (∀ (j : Nat) (f : Fw), j < i → fl[j]? = some f → ¬ (g.opener = 90 ∧ f.outer = g.number ∧ f.peer = src)) ∧ ∃ z, ρ' = [some (Rf l.st), some (I src), some g.d, some (I t), z]) (wip_of (wi_lst (we_dget cx ?_))))
    walk_at "x"
    refine ⟨_, dv_k 0 rfl "flows" rfl, ?_⟩
    refine .mk ⟨fun _ _ _ _ => trivial, ⟨rfl, fun j f hj => absurd hj (Nat.not_lt_zero _), none, rfl⟩, ?_, ?_⟩
    · rintro i z hz M' ρ' ⟨rfl, hno2, y, rfl⟩
      obtain ⟨f2, hf2, rfl⟩ := map_at hz
      have hx := lsM_at (l := l) (ins := ins) (dk := dk) (M0 := M0) hf2
      have back : ¬ (g.opener = 90 ∧ f2.outer = g.number ∧ f2.peer = src) → ∀ (j : Nat) (f : Fw), j < i + 1 → fl[j]? = some f → ¬ (g.opener = 90 ∧ f.outer = g.number ∧ f.peer = src) := fun h j f hj e h2 => by
        rcases Nat.lt_or_ge j i with q | q
        · exact hno2 j f q e h2
        · obtain rfl : j = i := by omega
          rw [hf2] at e
          cases e
          exact h h2
      refine wss_one (ws_if (wt_bool (ww_and ?_)))
      walk_at "x"
      refine ite_d (fun e0 => ?_) (fun e0 => ?_)
      · walk_at "x"
        refine ite_d (fun e1 => ?_) (fun e1 => ?_)
        · walk_at "x"
          refine ite_d (fun e2 => ?_) (fun e2 => ?_)
          · walk_at "e"
            refine ⟨_, rfl, ?_⟩
            have es := lsM_set (l := l) (ins := ins) (dk := dk) (M0 := M0) (t := t) hf2
            show WSs _ _ _ _ ((lsM l ins fl dk ++ M0).set (2 + i) (f2.addr, rwO { f2 with used := t })) _ _
            rw [es]
            have hi := at_lt hf2
            have hs2 : (fl.set i { f2 with used := t })[i]? = some { f2 with used := t } := by rw [List.getElem?_set_self hi]
            have hx2 := lsM_at (l := l) (ins := ins) (dk := dk) (M0 := M0) hs2
            refine wss_one (ws_ret ?_)
            walk_at "x"
            refine BinD.addT (by show 3 + 5 ≤ sizeLine; decide) (wa_nil ⟨by show 2 ≤ sizeLine; decide, k4 hno e0 i f2 hf2 ⟨e1, e2⟩ fun j m hj hm hh => hno2 j m hj hm ⟨e0, hh⟩⟩)
          · exact wss_nil ⟨rfl, back fun z => e2 z.2.2, _, rfl⟩
        · exact iteF (wss_nil ⟨rfl, back fun z => e1 z.2.1, _, rfl⟩)
      · exact iteF (wss_nil ⟨rfl, back fun z => e0 z.1, _, rfl⟩)
    · rintro M' ρ' ⟨rfl, hno2, y, rfl⟩
      rw [List.length_map] at hno2
      refine wss_one (ws_ret ?_)
      walk_at "x"
      by_cases e0 : g.opener = 90
      · refine k3 hno e0 fun f hf hh => ?_
        obtain ⟨j, hj⟩ := List.getElem?_of_mem hf
        exact hno2 j f (at_lt hj) hj ⟨e0, hh⟩
      · exact k2 hno e0
  refine wss_cons (ws_if (wt_bool (ww_and ?_)))
  walk_at "x"
  refine ite_d (fun ho => ?_) (fun ho => ?_)
  · refine ww_and1 (wt_din cx ?_)
    walk_at "x1"
    refine we_dget cx ?_
    walk_at "x"
    refine ⟨_, dv_k 0 rfl "doors" rfl, ?_⟩
    refine ⟨_, .k 1 rfl (Sum.inl src), ?_⟩
    have hv := hd.val src
    rw [hv]
    cases hs : σ src with
    | none => exact iteF (wss_nil (fin fun z => by rw [hs] at z; cases z.2))
    | some h =>
      rw [hs] at hv
      refine iteT (wss_one (ws_ret ?_))
      refine we_tup gs (wa_cons (we_dget cx (we_dget cx ?_)))
      walk_at "x"
      refine ⟨_, dv_k 0 rfl "doors" rfl, ?_⟩
      walk_at "x"
      refine ⟨I h, dv_i 1 rfl src hv, ?_⟩
      walk_at "x"
      exact k1 h ho hs
  · exact iteF (wss_nil (fin fun z => ho z.1))
end

end K24
set_option maxRecDepth 100000
set_option maxHeartbeats 4000000

namespace K24
open PySem PySem.Spec PyProof.Rows L2 Wv
open LamX (CodeO TabS Tabs ExtN TabB lamEnv lamCx LamS)
local macro_rules | `(tactic| walk_at "e.name") => `(tactic| first
    | refine we_var 0 _ rfl (by first | exact .inl rfl | exact .inr (.inl rfl) | exact .inr (.inr rfl)) rfl ?_
    | refine we_var 1 _ rfl (by first | exact .inl rfl | exact .inr (.inl rfl) | exact .inr (.inr rfl)) rfl ?_
    | refine we_var 2 _ rfl (by first | exact .inl rfl | exact .inr (.inl rfl) | exact .inr (.inr rfl)) rfl ?_
    | refine we_var 3 _ rfl (by first | exact .inl rfl | exact .inr (.inl rfl) | exact .inr (.inr rfl)) rfl ?_
    | refine we_var 4 _ rfl (by first | exact .inl rfl | exact .inr (.inl rfl) | exact .inr (.inr rfl)) rfl ?_
    | refine we_var 5 _ rfl (by first | exact .inl rfl | exact .inr (.inl rfl) | exact .inr (.inr rfl)) rfl ?_
    | refine we_var 6 _ rfl (by first | exact .inl rfl | exact .inr (.inl rfl) | exact .inr (.inr rfl)) rfl ?_
    | refine we_var 7 _ rfl (by first | exact .inl rfl | exact .inr (.inl rfl) | exact .inr (.inr rfl)) rfl ?_
    | refine we_var 8 _ rfl (by first | exact .inl rfl | exact .inr (.inl rfl) | exact .inr (.inr rfl)) rfl ?_
    | refine we_var 9 _ rfl (by first | exact .inl rfl | exact .inr (.inl rfl) | exact .inr (.inr rfl)) rfl ?_
    | refine we_var 10 _ rfl (by first | exact .inl rfl | exact .inr (.inl rfl) | exact .inr (.inr rfl)) rfl ?_
    | refine we_var 11 _ rfl (by first | exact .inl rfl | exact .inr (.inl rfl) | exact .inr (.inr rfl)) rfl ?_
    | refine we_var 12 _ rfl (by first | exact .inl rfl | exact .inr (.inl rfl) | exact .inr (.inr rfl)) rfl ?_
    | refine we_var 13 _ rfl (by first | exact .inl rfl | exact .inr (.inl rfl) | exact .inr (.inr rfl)) rfl ?_
    | refine we_var 14 _ rfl (by first | exact .inl rfl | exact .inr (.inl rfl) | exact .inr (.inr rfl)) rfl ?_
    | refine we_var 15 _ rfl (by first | exact .inl rfl | exact .inr (.inl rfl) | exact .inr (.inr rfl)) rfl ?_
    | refine we_var 16 _ rfl (by first | exact .inl rfl | exact .inr (.inl rfl) | exact .inr (.inr rfl)) rfl ?_
    | refine we_var 17 _ rfl (by first | exact .inl rfl | exact .inr (.inl rfl) | exact .inr (.inr rfl)) rfl ?_
    | refine we_var 18 _ rfl (by first | exact .inl rfl | exact .inr (.inl rfl) | exact .inr (.inr rfl)) rfl ?_
    | refine we_var 19 _ rfl (by first | exact .inl rfl | exact .inr (.inl rfl) | exact .inr (.inr rfl)) rfl ?_
    | refine we_var 20 _ rfl (by first | exact .inl rfl | exact .inr (.inl rfl) | exact .inr (.inr rfl)) rfl ?_
    | refine we_var 21 _ rfl (by first | exact .inl rfl | exact .inr (.inl rfl) | exact .inr (.inr rfl)) rfl ?_
    | refine we_var 22 _ rfl (by first | exact .inl rfl | exact .inr (.inl rfl) | exact .inr (.inr rfl)) rfl ?_
    | refine we_var 23 _ rfl (by first | exact .inl rfl | exact .inr (.inl rfl) | exact .inr (.inr rfl)) rfl ?_
    | refine we_var 24 _ rfl (by first | exact .inl rfl | exact .inr (.inl rfl) | exact .inr (.inr rfl)) rfl ?_
    | refine we_var 25 _ rfl (by first | exact .inl rfl | exact .inr (.inl rfl) | exact .inr (.inr rfl)) rfl ?_
    | refine we_var 26 _ rfl (by first | exact .inl rfl | exact .inr (.inl rfl) | exact .inr (.inr rfl)) rfl ?_
    | refine we_var 27 _ rfl (by first | exact .inl rfl | exact .inr (.inl rfl) | exact .inr (.inr rfl)) rfl ?_
    | refine we_var 28 _ rfl (by first | exact .inl rfl | exact .inr (.inl rfl) | exact .inr (.inr rfl)) rfl ?_
    | refine we_var 29 _ rfl (by first | exact .inl rfl | exact .inr (.inl rfl) | exact .inr (.inr rfl)) rfl ?_
    | refine we_globI (by assumption) rfl ?_
    | refine we_globS (by assumption) rfl ?_)
local macro_rules | `(tactic| walk_at "e.const") => `(tactic| first
    | refine we_int ?_
    | refine we_str ?_
    | refine we_bl ?_
    | refine we_non ?_)
local macro_rules | `(tactic| walk_at "e.call") => `(tactic| first
    | refine we_len (by assumption) rfl ?_
    | refine we_int2 (by assumption) rfl ?_
    | refine we_tuple (Ct.gs (by assumption)) (by assumption) rfl ?_
    | refine we_abs (by assumption) rfl ?_
    | refine we_find ?_)
local macro_rules | `(tactic| walk_at "e.we") => `(tactic| first
    | (refine gNm ?_; walk_at "e.name")
    | (refine gConst ?_; walk_at "e.const")
    | refine we_bin (Ct.gs (by assumption)) ?_
    | (refine gCall ?_; walk_at "e.call")
    | refine we_cmp (Ct.hu (by assumption)) ?_
    | refine we_ix ?_
    | refine we_slice (Ct.gs (by assumption)) ?_
    | refine we_fld ?_
    | refine we_tup (Ct.gs (by assumption)) ?_
    | refine we_chain (Ct.hu (by assumption)) ?_
    | refine we_lst1 (Ct.gs (by assumption)) ?_
    | refine we_ifx ?_
    | refine we_and ?_
    | refine we_or ?_
    | refine we_one ?_
    | refine we_not ?_
    | refine we_negI ?_
    | refine we_neg ?_)
local macro_rules | `(tactic| walk_at "e.wt") => `(tactic| first
    | refine wt_cmp (Ct.hu (by assumption)) ?_
    | refine wt_chain (Ct.hu (by assumption)) ?_
    | refine wt_not ?_
    | refine wt_bool ?_
    | refine wt_val ?_)
local macro_rules | `(tactic| walk_at "e.ww") => `(tactic| first
    | refine ww_and ?_
    | refine ww_or ?_
    | refine ww_and1 ?_
    | refine ww_or1 ?_)
local macro_rules | `(tactic| walk_at "e.wa") => `(tactic| first
    | refine wa_nil ?_
    | refine wa_cons ?_)
local macro_rules | `(tactic| walk_at "e.wss") => `(tactic| first
    | refine wss_cons ?_
    | refine wss_nil ?_)
local macro_rules | `(tactic| walk_at "e.ws") => `(tactic| first
    | refine ws_if ?_
    | refine ws_expr (we_append (Ct.gs (by assumption)) ?_ (pe_bm PySem.F.plainAttrs_list PySem.F.slot_list_append PySem.F.type_list_append mt_append pe_wp pa_wp))
    | refine ws_fldSub (Ct.gs (by assumption)) ?_
    | refine ws_fldAddW (Ct.gs (by assumption)) ?_
    | refine ws_expr ?_
    | refine ws_set 0 (Ct.nd (by assumption)) ?_
    | refine ws_set 1 (Ct.nd (by assumption)) ?_
    | refine ws_set 2 (Ct.nd (by assumption)) ?_
    | refine ws_set 3 (Ct.nd (by assumption)) ?_
    | refine ws_set 4 (Ct.nd (by assumption)) ?_
    | refine ws_set 5 (Ct.nd (by assumption)) ?_
    | refine ws_set 6 (Ct.nd (by assumption)) ?_
    | refine ws_set 7 (Ct.nd (by assumption)) ?_
    | refine ws_set 8 (Ct.nd (by assumption)) ?_
    | refine ws_set 9 (Ct.nd (by assumption)) ?_
    | refine ws_set 10 (Ct.nd (by assumption)) ?_
    | refine ws_set 11 (Ct.nd (by assumption)) ?_
    | refine ws_set 12 (Ct.nd (by assumption)) ?_
    | refine ws_set 13 (Ct.nd (by assumption)) ?_
    | refine ws_set 14 (Ct.nd (by assumption)) ?_
    | refine ws_set 15 (Ct.nd (by assumption)) ?_
    | refine ws_set 16 (Ct.nd (by assumption)) ?_
    | refine ws_set 17 (Ct.nd (by assumption)) ?_
    | refine ws_set 18 (Ct.nd (by assumption)) ?_
    | refine ws_set 19 (Ct.nd (by assumption)) ?_
    | refine ws_set 20 (Ct.nd (by assumption)) ?_
    | refine ws_set 21 (Ct.nd (by assumption)) ?_
    | refine ws_set 22 (Ct.nd (by assumption)) ?_
    | refine ws_set 23 (Ct.nd (by assumption)) ?_
    | refine ws_set 24 (Ct.nd (by assumption)) ?_
    | refine ws_set 25 (Ct.nd (by assumption)) ?_
    | refine ws_set 26 (Ct.nd (by assumption)) ?_
    | refine ws_set 27 (Ct.nd (by assumption)) ?_
    | refine ws_set 28 (Ct.nd (by assumption)) ?_
    | refine ws_set 29 (Ct.nd (by assumption)) ?_
    | refine ws_sub (Ct.gs (by assumption)) ?_ (fun a b => pg_sub a b set_list)
    | refine ws_fld (Ct.gs (by assumption)) ?_
    | refine ws_pass ?_
    | refine ws_break ?_
    | refine ws_cont ?_)
local macro_rules | `(tactic| walk_at "e.bin") => `(tactic| first
    | refine BinD.addI ?_
    | refine BinD.subI ?_
    | refine BinD.modP (by assumption) ?_
    | refine BinD.divP (by assumption) ?_
    | refine BinD.modI (by decide) ?_
    | refine BinD.modI (by assumption) ?_
    | refine BinD.divI (by decide) (by decide) ?_
    | refine BinD.divI (by assumption) (by assumption) ?_
    | refine BinD.mulI (by first | exact .inl ⟨by decide, by decide⟩ | exact .inr ⟨by decide, by decide⟩) ?_
    | refine BinD.xorI ?_
    | refine BinD.powI ⟨by decide, by decide, by decide⟩ ?_)
local macro_rules | `(tactic| walk_at "e.cmp") => `(tactic| first
    | refine CmpD.lt ?_
    | refine CmpD.le ?_
    | refine CmpD.gt ?_
    | refine CmpD.ge ?_
    | refine CmpD.isN ?_
    | refine CmpD.notN ?_
    | refine CmpD.neI_s ?_
    | refine CmpD.neT_s ?_
    | refine CmpD.neZ_s ?_
    | refine CmpD.eqZ_s ?_
    | refine CmpD.neN_s ?_
    | refine CmpD.eqN_s ?_
    | refine CmpD.neTZ ?_
    | refine CmpD.eqTZ ?_
    | refine CmpD.eqI ?_
    | refine CmpD.neI ?_
    | refine CmpD.eqZ ?_
    | refine CmpD.neZ ?_)
local macro_rules | `(tactic| walk_at "e.is") => `(tactic| first
    | refine gSz ?_
    | refine gFld (by assumption) (by assumption) rfl ?_
    | refine gFldS (by assumption) (by assumption) (by first | decide | (repeat (first | refine plA ?_ | refine plB ?_)); simp) ?_
    | refine gFldU (by first | decide | (repeat (first | refine plA ?_ | refine plB ?_)); simp) ?_
    | refine IsI.mk ?_
    | refine IsT.mk ?_
    | refine IsL.mk ?_
    | refine IsZ.mk ?_
    | refine IsB.mk ?_
    | refine OwL.mk 0 rfl ?_
    | refine OwL.mk 1 rfl ?_
    | refine OwL.mk 2 rfl ?_
    | refine OwL.mk 3 rfl ?_
    | refine OwL.mk 4 rfl ?_
    | refine OwL.mk 5 rfl ?_
    | refine OwI.mk 0 rfl ?_
    | refine OwI.mk 1 rfl ?_
    | refine OwI.mk 2 rfl ?_
    | refine OwI.mk 3 rfl ?_
    | refine OwI.mk 4 rfl ?_
    | refine OwI.mk 5 rfl ?_
    | refine OwI.mk _ (by assumption) ?_
    | refine OwI.mk _ (set_at (by assumption)) ?_
    | refine OwI.mk _ (set_at (set_at (by assumption))) ?_
    | refine OwL.mk _ (by assumption) ?_
    | refine OwL.mk _ (set_at (by assumption)) ?_
    | refine OwL.mk _ (set_at (set_at (by assumption))) ?_
    | refine OwL.mk _ (set_at (set_at (set_at (by assumption)))) ?_
    | refine IxD.own 0 rfl rfl ?_
    | refine IxD.own 1 rfl rfl ?_
    | refine IxD.own 2 rfl rfl ?_
    | refine IxD.own 3 rfl rfl ?_
    | refine IxD.own 4 rfl rfl ?_
    | refine IxD.own 5 rfl rfl ?_
    | refine IxD.own _ (by assumption) rfl ?_
    | refine IxD.own _ (set_at (by assumption)) rfl ?_
    | refine IxD.own _ (set_at (set_at (by assumption))) rfl ?_
    | refine IxD.own _ (set_at (set_at (set_at (by assumption)))) rfl ?_
    | refine IxD.tup rfl ?_
    | refine IxD.lst rfl ?_
    | refine IntD.int ?_
    | refine IntD.bl ?_
    | refine TruD.bl ?_
    | refine TruD.int ?_
    | refine TruD.tup ?_
    | refine TruD.lst ?_
    | refine LenD.tup ?_
    | refine LenD.lst ?_
    | refine SeqD.tup ?_
    | refine SeqD.lst ?_
    | refine SlD.tup ?_
    | refine SlD.lst ?_
    | refine SeqD.own 0 rfl ?_
    | refine SeqD.own 1 rfl ?_
    | refine SeqD.own 2 rfl ?_
    | refine SeqD.own 3 rfl ?_
    | refine SeqD.own 4 rfl ?_
    | refine SeqD.own 5 rfl ?_
    | refine LenD.own 0 rfl ?_
    | refine LenD.own 1 rfl ?_
    | refine LenD.own 2 rfl ?_
    | refine LenD.own 3 rfl ?_
    | refine LenD.own 4 rfl ?_
    | refine LenD.own 5 rfl ?_)
local macro_rules | `(tactic| walk_at "e1") => `(tactic| first
    | (refine gWE ?_; walk_at "e.we")
    | (refine gBinD ?_; walk_at "e.bin")
    | (refine gWSs ?_; walk_at "e.wss")
    | (refine gWS ?_; walk_at "e.ws")
    | (refine gWT ?_; walk_at "e.wt")
    | (refine gCmpD ?_; walk_at "e.cmp")
    | (refine gWA ?_; walk_at "e.wa")
    | (refine gWW ?_; walk_at "e.ww")
    | refine iteT ?_
    | refine iteF ?_
    | walk_at "e.is")
local macro_rules | `(tactic| walk_at "x1") => `(tactic| first
    | (refine gWE ?_; walk_at "e.we")
    | (refine gBinD ?_; walk_at "e.bin")
    | (refine gWT ?_; walk_at "e.wt")
    | (refine gCmpD ?_; walk_at "e.cmp")
    | (refine gWA ?_; walk_at "e.wa")
    | (refine gWW ?_; walk_at "e.ww")
    | refine iteT ?_
    | refine iteF ?_
    | walk_at "e.is")
local macro_rules | `(tactic| walk_at "e") => `(tactic| repeat (walk_at "e1"))
local macro_rules | `(tactic| walk_at "x") => `(tactic| repeat (walk_at "x1"))
/-! ### one model for both tables -/
def core (f : Fw) : Fw := { f with addr := 0 }
abbrev cores (fs : List Fw) : List Fw := fs.map core
inductive OutR (ins : List Int) (cs : List Fw) (σ : Int → Option Int) (src tgt t : Int) (s : Seg) : Option (Int × Seg) → List Fw → Prop
  | no (h : ¬ (src ∈ ins ∧ tgt ∉ ins)) : OutR ins cs σ src tgt t s none cs
  | door (h : src ∈ ins ∧ tgt ∉ ins) (h2 : s.opener ≠ src) (h3 : s.opener = tgt ∧ σ tgt = some src) : OutR ins cs σ src tgt t s (some (90, s)) cs
  | shut (h : src ∈ ins ∧ tgt ∉ ins) (h2 : s.opener ≠ src) (h3 : ¬ (s.opener = tgt ∧ σ tgt = some src)) : OutR ins cs σ src tgt t s none cs
  | old (h : src ∈ ins ∧ tgt ∉ ins) (h2 : s.opener = src) (i : Nat) (f : Fw) (hf : cs[i]? = some f) (hh : hit s.opener s.number tgt f) (low : ∀ (j : Nat) (g : Fw), j < i → cs[j]? = some g → ¬ hit s.opener s.number tgt g) : OutR ins cs σ src tgt t s (some (90, { s with opener := 90, number := f.outer })) (cs.set i { f with used := t })
  | full (h : src ∈ ins ∧ tgt ∉ ins) (h2 : s.opener = src) (hall : ∀ f ∈ cs, ¬ hit s.opener s.number tgt f) (h50 : 50 ≤ cs.length) : OutR ins cs σ src tgt t s none cs
  | new (h : src ∈ ins ∧ tgt ∉ ins) (h2 : s.opener = src) (hall : ∀ f ∈ cs, ¬ hit s.opener s.number tgt f) (h50 : cs.length < 50) (q : Addr) (k : Int) (hk : Least cs tgt k) : OutR ins cs σ src tgt t s (some (90, { s with opener := 90, number := k })) (cs ++ [⟨q, s.opener, s.number, k, tgt, t⟩])
inductive InR (cs : List Fw) (σ : Int → Option Int) (src t : Int) (s : Seg) : Option (Int × Seg) → List Fw → Prop
  | door (h : Int) (h1 : s.opener = src) (h2 : σ src = some h) : InR cs σ src t s (some (h, s)) cs
  | alien (h : ¬ (s.opener = src ∧ (σ src).isSome = true)) (h2 : s.opener ≠ 90) : InR cs σ src t s none cs
  | lost (h : ¬ (s.opener = src ∧ (σ src).isSome = true)) (h2 : s.opener = 90) (hall : ∀ f ∈ cs, ¬ (f.outer = s.number ∧ f.peer = src)) : InR cs σ src t s none cs
  | back (h : ¬ (s.opener = src ∧ (σ src).isSome = true)) (h2 : s.opener = 90) (i : Nat) (f : Fw) (hf : cs[i]? = some f) (hh : f.outer = s.number ∧ f.peer = src) (low : ∀ (j : Nat) (g : Fw), j < i → cs[j]? = some g → ¬ (g.outer = s.number ∧ g.peer = src)) : InR cs σ src t s (some (f.opener, { s with opener := f.opener, number := f.number })) (cs.set i { f with used := t })
def resD : Option (Int × Seg) → D
  | none => N0
  | some (h, s) => .tup [I h, s.d]
def resB : Option (Int × Seg) → D
  | none => N0
  | some (h, s) => .tup [I h, .tup s.bytes]
def resOk : Option (Int × Seg) → Prop
  | none => True
  | some (_, s) => s.Ok
/-- flows whose numbers are numbers of segments -/
def FsOk (fs : List Fw) : Prop := ∀ f ∈ fs, 0 ≤ f.opener ∧ f.opener < 65536 ∧ 0 ≤ f.number ∧ f.number < 16384 ∧ 0 ≤ f.outer ∧ f.outer < 16384
theorem Least.le {cs : List Fw} {p k : Int} (h : Least cs p k) : k ≤ cs.length + 1 := by
  have h1 := h.one
  have h2 := run_le (k := (k - 1).toNat) (l := taken cs p) fun j j1 j2 => h.low j j1 (by omega)
  have h3 := taken_le (fl := cs) (tgt := p)
  omega
theorem Seg.Ok.re {s : Seg} (h : s.Ok) {o n : Int} (o0 : 0 ≤ o) (o1 : o < 65536) (n0 : 0 ≤ n) (n1 : n < 16384) : Seg.Ok { s with opener := o, number := n } := ⟨h.k0, h.k1, o0, o1, n0, n1, h.p0, h.p1, h.t0, h.t1, h.r0, h.r1, h.b1⟩
theorem fs_live {fs : List Fw} {t : Int} (h : FsOk fs) : FsOk (fs.filter (live t)) := fun f hf => h f (List.mem_filter.mp hf).1
section
variable {C CF CS : Addr} {a : Ta} {l : La} {ins : List Int} {fs : List Fw} {dk : List (Key × D)} {σ : Int → Option Int} {m : Nat} {src tgt t : Int} {s : Seg} {M0 M : Ms} {xr : Value → Ms → Prop} {R : Ms → D → Prop}
theorem lout_sp (hsp : SP (lsM l ins fs dk ++ M0) M) (hd : DrOk dk σ m) (hl : fs.length ≤ 100) (h : ∀ r fs', OutR ins (fs.filter (live t)) σ src tgt t s r fs' → R (lsM l ins fs' dk ++ M0) (resD r)) : S_lout [Rf l.st, I src, I tgt, s.d, I t] M xr R :=
  ⟨l, ins, fs, dk, σ, m, src, tgt, t, s, M0, rfl, hsp, hd, hl, fun h1 => h _ _ (.no h1), fun h1 h2 h3 => h _ _ (.door h1 h2 h3), fun h1 h2 h3 => h _ _ (.shut h1 h2 h3), fun h1 h2 i f hf hh low => h _ _ (.old h1 h2 i f hf hh low), fun h1 h2 h3 h4 => h _ _ (.full h1 h2 h3 h4), fun h1 h2 h3 h4 q k hk => h _ _ (.new h1 h2 h3 h4 q k hk)⟩
theorem lin_sp (hsp : SP (lsM l ins fs dk ++ M0) M) (hd : DrOk dk σ m) (hl : fs.length ≤ 100) (h : ∀ r fs', InR (fs.filter (live t)) σ src t s r fs' → R (lsM l ins fs' dk ++ M0) (resD r)) : S_lin [Rf l.st, I src, s.d, I t] M xr R :=
  ⟨l, ins, fs, dk, σ, m, src, t, s, M0, rfl, hsp, hd, hl, fun x h1 h2 => h _ _ (.door x h1 h2), fun h1 h2 => h _ _ (.alien h1 h2), fun h1 h2 h3 => h _ _ (.lost h1 h2 h3), fun h1 h2 i f hf hh low => h _ _ (.back h1 h2 i f hf hh low)⟩
theorem out_sp (hsp : SP (trM C CF a ins fs dk ++ M0) M) (hd : DrOk dk σ m) (hl : fs.length ≤ 50) (fo : FsOk fs) (ok : s.Ok) (h : ∀ fl' r fs', OutR ins (fs.filter (live t)) σ src tgt t s r fs' → resOk r → R (trM C CF { a with fl := fl' } ins fs' dk ++ M0) (resB r)) : S_out C CF CS [Rf a.t, I src, I tgt, .tup s.bytes, I t] M xr R := by
  have fo2 := fs_live (t := t) fo
  refine ⟨a, ins, fs, dk, σ, m, src, tgt, t, s.bytes, M0, rfl, hsp, hd, by omega, .inr ⟨s, rfl, ok, fun fl' => ⟨fun h1 => h fl' _ _ (.no h1) trivial, fun h1 h2 h3 => h fl' _ _ (.door h1 h2 h3) ok, fun h1 h2 h3 => h fl' _ _ (.shut h1 h2 h3) trivial, fun h1 h2 i f hf hh low => ?_, fun h1 h2 h3 h4 => h fl' _ _ (.full h1 h2 h3 h4) trivial, fun h1 h2 h3 h4 q k hk => ?_⟩⟩⟩
  · obtain ⟨_, _, _, _, g5, g6⟩ := fo2 f (List.mem_of_getElem? hf)
    have ok2 := ok.re (o := 90) (n := f.outer) (by decide) (by decide) g5 g6
    exact ⟨ok2, h fl' _ _ (.old h1 h2 i f hf hh low) ok2⟩
  · have k1 := hk.one
    have k2 := hk.le
    have ok2 := ok.re (o := 90) (n := k) (by decide) (by decide) (by omega) (by omega)
    exact ⟨ok2, h fl' _ _ (.new h1 h2 h3 h4 q k hk) ok2⟩
theorem in_sp (hsp : SP (trM C CF a ins fs dk ++ M0) M) (hd : DrOk dk σ m) (hl : fs.length ≤ 50) (fo : FsOk fs) (ok : s.Ok) (h : ∀ fl' r fs', InR (fs.filter (live t)) σ src t s r fs' → resOk r → R (trM C CF { a with fl := fl' } ins fs' dk ++ M0) (resB r)) : S_in C CF CS [Rf a.t, I src, .tup s.bytes, I t] M xr R := by
  have fo2 := fs_live (t := t) fo
  refine ⟨a, ins, fs, dk, σ, m, src, t, s.bytes, M0, rfl, hsp, hd, by omega, .inr ⟨s, rfl, ok, fun fl' => ⟨fun x h1 h2 => h fl' _ _ (.door x h1 h2) ok, fun h1 h2 => h fl' _ _ (.alien h1 h2) trivial, fun h1 h2 h3 => h fl' _ _ (.lost h1 h2 h3) trivial, fun h1 h2 i f hf hh low => ?_⟩⟩⟩
  obtain ⟨g1, g2, g3, g4, _, _⟩ := fo2 f (List.mem_of_getElem? hf)
  have ok2 := ok.re g1 g2 g3 g4
  exact ⟨ok2, h fl' _ _ (.back h1 h2 i f hf hh low) ok2⟩
end
/-! ### both tables go alike -/
theorem core_at {cs ds : List Fw} (h : cores cs = cores ds) {i : Nat} {f : Fw} (hf : cs[i]? = some f) : ∃ g, ds[i]? = some g ∧ core f = core g := by
  have := congrArg (·[i]?) h
  simp only [List.getElem?_map, hf] at this
  cases e : ds[i]? with
  | none => rw [e] at this; cases this
  | some g => rw [e] at this; exact ⟨g, rfl, Option.some.inj this⟩
theorem core_mem {cs ds : List Fw} (h : cores cs = cores ds) {f : Fw} (hf : f ∈ cs) : ∃ g ∈ ds, core f = core g := by
  obtain ⟨i, hi⟩ := List.getElem?_of_mem hf
  obtain ⟨g, hg, e⟩ := core_at h hi
  exact ⟨g, List.mem_of_getElem? hg, e⟩
theorem core_len {cs ds : List Fw} (h : cores cs = cores ds) : cs.length = ds.length := by
  have := congrArg List.length h
  rwa [List.length_map, List.length_map] at this
theorem core_hit {f g : Fw} (h : core f = core g) {o n p : Int} : hit o n p f ↔ hit o n p g := by
  unfold core at h
  cases f; cases g
  simp only [Fw.mk.injEq] at h
  obtain ⟨_, h1, h2, h3, h4, h5⟩ := h
  subst h1 h2 h3 h4 h5
  exact Iff.rfl
theorem core_eqs {f g : Fw} (h : core f = core g) : f.opener = g.opener ∧ f.number = g.number ∧ f.outer = g.outer ∧ f.peer = g.peer ∧ f.used = g.used := by
  unfold core at h
  cases f; cases g
  simp only [Fw.mk.injEq] at h
  exact h.2
theorem core_filter {cs ds : List Fw} {t : Int} (h : cores cs = cores ds) : cores (cs.filter (live t)) = cores (ds.filter (live t)) := by
  have e : ∀ cs : List Fw, cores (cs.filter (live t)) = (cores cs).filter (live t) := fun cs => by
    unfold cores
    rw [List.filter_map]
    rfl
  rw [e, e, h]
theorem core_set {cs ds : List Fw} (h : cores cs = cores ds) (i : Nat) {f g : Fw} {t : Int} (e : core f = core g) : cores (cs.set i { f with used := t }) = cores (ds.set i { g with used := t }) := by
  unfold cores
  rw [List.map_set, List.map_set, show cs.map core = ds.map core from h]
  congr 1
  obtain ⟨h1, h2, h3, h4, h5⟩ := core_eqs e
  unfold core
  simp only [h1, h2, h3, h4]
theorem core_taken {cs ds : List Fw} (h : cores cs = cores ds) (p : Int) : taken cs p = taken ds p := by
  have e : ∀ cs : List Fw, taken cs p = taken (cores cs) p := fun cs => by
    unfold taken cores
    rw [List.filter_map, List.map_map]
    rfl
  rw [e cs, e ds, h]
theorem first_eq {P : Fw → Prop} {cs : List Fw} {i j : Nat} {f g : Fw} (hi : cs[i]? = some f) (hj : cs[j]? = some g) (pf : P f) (pg : P g) (li : ∀ (k : Nat) (h : Fw), k < i → cs[k]? = some h → ¬ P h) (lj : ∀ (k : Nat) (h : Fw), k < j → cs[k]? = some h → ¬ P h) : i = j := by
  rcases Nat.lt_trichotomy i j with q | q | q
  · exact absurd pf (lj i f q hi)
  · exact q
  · exact absurd pg (li j g q hj)
theorem least_eq {cs ds : List Fw} {p k k' : Int} (h : cores cs = cores ds) (h1 : Least cs p k) (h2 : Least ds p k') : k = k' := by
  have e := core_taken h p
  rcases Int.lt_trichotomy k k' with q | q | q
  · exact absurd (e ▸ h2.low k h1.one q) h1.free
  · exact q
  · exact absurd (e ▸ h1.low k' h2.one q) h2.free
theorem out_same {ins : List Int} {cs ds : List Fw} {σ : Int → Option Int} {src tgt t : Int} {s : Seg} {r r' : Option (Int × Seg)} {cs' ds' : List Fw} (h : cores cs = cores ds) (h1 : OutR ins cs σ src tgt t s r cs') (h2 : OutR ins ds σ src tgt t s r' ds') : r = r' ∧ cores cs' = cores ds' := by
  have all : (∀ f ∈ cs, ¬ hit s.opener s.number tgt f) ↔ ∀ f ∈ ds, ¬ hit s.opener s.number tgt f := ⟨fun z f hf hh => by
    obtain ⟨g, hg, e⟩ := core_mem h.symm hf
    exact z g hg ((core_hit e).mp hh), fun z f hf hh => by
    obtain ⟨g, hg, e⟩ := core_mem h hf
    exact z g hg ((core_hit e).mp hh)⟩
  have len := core_len h
  cases h1 with
  | no a => cases h2 with
    | no => exact ⟨rfl, h⟩
    | door b => exact absurd b a
    | shut b => exact absurd b a
    | old b => exact absurd b a
    | full b => exact absurd b a
    | new b => exact absurd b a
  | door a a2 a3 => cases h2 with
    | no b => exact absurd a b
    | door => exact ⟨rfl, h⟩
    | shut _ _ b => exact absurd a3 b
    | old _ b => exact absurd b a2
    | full _ b => exact absurd b a2
    | new _ b => exact absurd b a2
  | shut a a2 a3 => cases h2 with
    | no b => exact absurd a b
    | door _ _ b => exact absurd b a3
    | shut => exact ⟨rfl, h⟩
    | old _ b => exact absurd b a2
    | full _ b => exact absurd b a2
    | new _ b => exact absurd b a2
  | old a a2 i f hf hh low => cases h2 with
    | no b => exact absurd a b
    | door _ b => exact absurd a2 b
    | shut _ b => exact absurd a2 b
    | old _ _ j g hg gh low2 =>
      obtain ⟨g', hg', e⟩ := core_at h hf
      have hij : i = j := first_eq (P := hit s.opener s.number tgt) hg' hg ((core_hit e).mp hh) gh (fun k x hk hx hz => by
        obtain ⟨y, hy, e2⟩ := core_at h.symm hx
        exact low k y hk hy ((core_hit e2).mp hz)) low2
      subst hij
      rw [hg] at hg'
      cases hg'
      exact ⟨by rw [(core_eqs e).2.2.1], core_set h i e⟩
    | full _ _ b => exact absurd hh (all.mpr b f (List.mem_of_getElem? hf))
    | new _ _ b => exact absurd hh (all.mpr b f (List.mem_of_getElem? hf))
  | full a a2 a3 a4 => cases h2 with
    | no b => exact absurd a b
    | door _ b => exact absurd a2 b
    | shut _ b => exact absurd a2 b
    | old _ _ j g hg gh low2 => exact absurd gh (all.mp a3 g (List.mem_of_getElem? hg))
    | full => exact ⟨rfl, h⟩
    | new _ _ _ b => omega
  | new a a2 a3 a4 q k hk => cases h2 with
    | no b => exact absurd a b
    | door _ b => exact absurd a2 b
    | shut _ b => exact absurd a2 b
    | old _ _ j g hg gh low2 => exact absurd gh (all.mp a3 g (List.mem_of_getElem? hg))
    | full _ _ _ b => omega
    | new _ _ _ _ q2 k2 hk2 =>
      have := least_eq h hk hk2
      subst this
      refine ⟨rfl, ?_⟩
      unfold cores at h ⊢
      rw [List.map_append, List.map_append, h]
      rfl
theorem in_same {cs ds : List Fw} {σ : Int → Option Int} {src t : Int} {s : Seg} {r r' : Option (Int × Seg)} {cs' ds' : List Fw} (h : cores cs = cores ds) (h1 : InR cs σ src t s r cs') (h2 : InR ds σ src t s r' ds') : r = r' ∧ cores cs' = cores ds' := by
  have tr : ∀ {f g : Fw}, core f = core g → (f.outer = s.number ∧ f.peer = src) → (g.outer = s.number ∧ g.peer = src) := fun e z => by
    obtain ⟨_, _, e3, e4, _⟩ := core_eqs e
    exact ⟨e3 ▸ z.1, e4 ▸ z.2⟩
  cases h1 with
  | door x a a2 => cases h2 with
    | door y b b2 => rw [a2] at b2; cases b2; exact ⟨rfl, h⟩
    | alien b => exact absurd ⟨a, by rw [a2]; rfl⟩ b
    | lost b => exact absurd ⟨a, by rw [a2]; rfl⟩ b
    | back b => exact absurd ⟨a, by rw [a2]; rfl⟩ b
  | alien a a2 => cases h2 with
    | door y b b2 => exact absurd ⟨b, by rw [b2]; rfl⟩ a
    | alien => exact ⟨rfl, h⟩
    | lost _ b => exact absurd b a2
    | back _ b => exact absurd b a2
  | lost a a2 a3 => cases h2 with
    | door y b b2 => exact absurd ⟨b, by rw [b2]; rfl⟩ a
    | alien _ b => exact absurd a2 b
    | lost => exact ⟨rfl, h⟩
    | back _ _ j g hg gh _ =>
      obtain ⟨f, hf, e⟩ := core_at h.symm hg
      exact absurd (tr e gh) (a3 f (List.mem_of_getElem? hf))
  | back a a2 i f hf hh low => cases h2 with
    | door y b b2 => exact absurd ⟨b, by rw [b2]; rfl⟩ a
    | alien _ b => exact absurd a2 b
    | lost _ _ b =>
      obtain ⟨g, hg, e⟩ := core_at h hf
      exact absurd (tr e hh) (b g (List.mem_of_getElem? hg))
    | back _ _ j g hg gh low2 =>
      obtain ⟨g', hg', e⟩ := core_at h hf
      have hij : i = j := first_eq (P := fun f => f.outer = s.number ∧ f.peer = src) hg' hg (tr e hh) gh (fun k x hk hx hz => by
        obtain ⟨y, hy, e2⟩ := core_at h.symm hx
        exact low k y hk hy (tr e2 hz)) low2
      subst hij
      rw [hg] at hg'
      cases hg'
      obtain ⟨e1, e2, _⟩ := core_eqs e
      exact ⟨by rw [e1, e2], core_set h i e⟩

end K24
set_option maxRecDepth 100000
set_option maxHeartbeats 4000000

namespace K24
open PySem PySem.Spec PyProof.Rows L2 Wv
open LamX (CodeO TabS Tabs ExtN TabB lamEnv lamCx LamS)
local macro_rules | `(tactic| walk_at "e.name") => `(tactic| first
    | refine we_var 0 _ rfl (by first | exact .inl rfl | exact .inr (.inl rfl) | exact .inr (.inr rfl)) rfl ?_
    | refine we_var 1 _ rfl (by first | exact .inl rfl | exact .inr (.inl rfl) | exact .inr (.inr rfl)) rfl ?_
    | refine we_var 2 _ rfl (by first | exact .inl rfl | exact .inr (.inl rfl) | exact .inr (.inr rfl)) rfl ?_
    | refine we_var 3 _ rfl (by first | exact .inl rfl | exact .inr (.inl rfl) | exact .inr (.inr rfl)) rfl ?_
    | refine we_var 4 _ rfl (by first | exact .inl rfl | exact .inr (.inl rfl) | exact .inr (.inr rfl)) rfl ?_
    | refine we_var 5 _ rfl (by first | exact .inl rfl | exact .inr (.inl rfl) | exact .inr (.inr rfl)) rfl ?_
    | refine we_var 6 _ rfl (by first | exact .inl rfl | exact .inr (.inl rfl) | exact .inr (.inr rfl)) rfl ?_
    | refine we_var 7 _ rfl (by first | exact .inl rfl | exact .inr (.inl rfl) | exact .inr (.inr rfl)) rfl ?_
    | refine we_var 8 _ rfl (by first | exact .inl rfl | exact .inr (.inl rfl) | exact .inr (.inr rfl)) rfl ?_
    | refine we_var 9 _ rfl (by first | exact .inl rfl | exact .inr (.inl rfl) | exact .inr (.inr rfl)) rfl ?_
    | refine we_var 10 _ rfl (by first | exact .inl rfl | exact .inr (.inl rfl) | exact .inr (.inr rfl)) rfl ?_
    | refine we_var 11 _ rfl (by first | exact .inl rfl | exact .inr (.inl rfl) | exact .inr (.inr rfl)) rfl ?_
    | refine we_var 12 _ rfl (by first | exact .inl rfl | exact .inr (.inl rfl) | exact .inr (.inr rfl)) rfl ?_
    | refine we_var 13 _ rfl (by first | exact .inl rfl | exact .inr (.inl rfl) | exact .inr (.inr rfl)) rfl ?_
    | refine we_var 14 _ rfl (by first | exact .inl rfl | exact .inr (.inl rfl) | exact .inr (.inr rfl)) rfl ?_
    | refine we_var 15 _ rfl (by first | exact .inl rfl | exact .inr (.inl rfl) | exact .inr (.inr rfl)) rfl ?_
    | refine we_var 16 _ rfl (by first | exact .inl rfl | exact .inr (.inl rfl) | exact .inr (.inr rfl)) rfl ?_
    | refine we_var 17 _ rfl (by first | exact .inl rfl | exact .inr (.inl rfl) | exact .inr (.inr rfl)) rfl ?_
    | refine we_var 18 _ rfl (by first | exact .inl rfl | exact .inr (.inl rfl) | exact .inr (.inr rfl)) rfl ?_
    | refine we_var 19 _ rfl (by first | exact .inl rfl | exact .inr (.inl rfl) | exact .inr (.inr rfl)) rfl ?_
    | refine we_var 20 _ rfl (by first | exact .inl rfl | exact .inr (.inl rfl) | exact .inr (.inr rfl)) rfl ?_
    | refine we_var 21 _ rfl (by first | exact .inl rfl | exact .inr (.inl rfl) | exact .inr (.inr rfl)) rfl ?_
    | refine we_var 22 _ rfl (by first | exact .inl rfl | exact .inr (.inl rfl) | exact .inr (.inr rfl)) rfl ?_
    | refine we_var 23 _ rfl (by first | exact .inl rfl | exact .inr (.inl rfl) | exact .inr (.inr rfl)) rfl ?_
    | refine we_var 24 _ rfl (by first | exact .inl rfl | exact .inr (.inl rfl) | exact .inr (.inr rfl)) rfl ?_
    | refine we_var 25 _ rfl (by first | exact .inl rfl | exact .inr (.inl rfl) | exact .inr (.inr rfl)) rfl ?_
    | refine we_var 26 _ rfl (by first | exact .inl rfl | exact .inr (.inl rfl) | exact .inr (.inr rfl)) rfl ?_
    | refine we_var 27 _ rfl (by first | exact .inl rfl | exact .inr (.inl rfl) | exact .inr (.inr rfl)) rfl ?_
    | refine we_var 28 _ rfl (by first | exact .inl rfl | exact .inr (.inl rfl) | exact .inr (.inr rfl)) rfl ?_
    | refine we_var 29 _ rfl (by first | exact .inl rfl | exact .inr (.inl rfl) | exact .inr (.inr rfl)) rfl ?_
    | refine we_globI (by assumption) rfl ?_
    | refine we_globS (by assumption) rfl ?_)
local macro_rules | `(tactic| walk_at "e.const") => `(tactic| first
    | refine we_int ?_
    | refine we_str ?_
    | refine we_bl ?_
    | refine we_non ?_)
local macro_rules | `(tactic| walk_at "e.call") => `(tactic| first
    | refine we_len (by assumption) rfl ?_
    | refine we_int2 (by assumption) rfl ?_
    | refine we_tuple (Ct.gs (by assumption)) (by assumption) rfl ?_
    | refine we_abs (by assumption) rfl ?_
    | refine we_find ?_)
local macro_rules | `(tactic| walk_at "e.we") => `(tactic| first
    | (refine gNm ?_; walk_at "e.name")
    | (refine gConst ?_; walk_at "e.const")
    | refine we_bin (Ct.gs (by assumption)) ?_
    | (refine gCall ?_; walk_at "e.call")
    | refine we_cmp (Ct.hu (by assumption)) ?_
    | refine we_ix ?_
    | refine we_slice (Ct.gs (by assumption)) ?_
    | refine we_fld ?_
    | refine we_tup (Ct.gs (by assumption)) ?_
    | refine we_chain (Ct.hu (by assumption)) ?_
    | refine we_lst1 (Ct.gs (by assumption)) ?_
    | refine we_ifx ?_
    | refine we_and ?_
    | refine we_or ?_
    | refine we_one ?_
    | refine we_not ?_
    | refine we_negI ?_
    | refine we_neg ?_)
local macro_rules | `(tactic| walk_at "e.wt") => `(tactic| first
    | refine wt_cmp (Ct.hu (by assumption)) ?_
    | refine wt_chain (Ct.hu (by assumption)) ?_
    | refine wt_not ?_
    | refine wt_bool ?_
    | refine wt_val ?_)
local macro_rules | `(tactic| walk_at "e.ww") => `(tactic| first
    | refine ww_and ?_
    | refine ww_or ?_
    | refine ww_and1 ?_
    | refine ww_or1 ?_)
local macro_rules | `(tactic| walk_at "e.wa") => `(tactic| first
    | refine wa_nil ?_
    | refine wa_cons ?_)
local macro_rules | `(tactic| walk_at "e.wss") => `(tactic| first
    | refine wss_cons ?_
    | refine wss_nil ?_)
local macro_rules | `(tactic| walk_at "e.ws") => `(tactic| first
    | refine ws_if ?_
    | refine ws_expr (we_append (Ct.gs (by assumption)) ?_ (pe_bm PySem.F.plainAttrs_list PySem.F.slot_list_append PySem.F.type_list_append mt_append pe_wp pa_wp))
    | refine ws_fldSub (Ct.gs (by assumption)) ?_
    | refine ws_fldAddW (Ct.gs (by assumption)) ?_
    | refine ws_expr ?_
    | refine ws_set 0 (Ct.nd (by assumption)) ?_
    | refine ws_set 1 (Ct.nd (by assumption)) ?_
    | refine ws_set 2 (Ct.nd (by assumption)) ?_
    | refine ws_set 3 (Ct.nd (by assumption)) ?_
    | refine ws_set 4 (Ct.nd (by assumption)) ?_
    | refine ws_set 5 (Ct.nd (by assumption)) ?_
    | refine ws_set 6 (Ct.nd (by assumption)) ?_
    | refine ws_set 7 (Ct.nd (by assumption)) ?_
    | refine ws_set 8 (Ct.nd (by assumption)) ?_
    | refine ws_set 9 (Ct.nd (by assumption)) ?_
    | refine ws_set 10 (Ct.nd (by assumption)) ?_
    | refine ws_set 11 (Ct.nd (by assumption)) ?_
    | refine ws_set 12 (Ct.nd (by assumption)) ?_
    | refine ws_set 13 (Ct.nd (by assumption)) ?_
    | refine ws_set 14 (Ct.nd (by assumption)) ?_
    | refine ws_set 15 (Ct.nd (by assumption)) ?_
    | refine ws_set 16 (Ct.nd (by assumption)) ?_
    | refine ws_set 17 (Ct.nd (by assumption)) ?_
    | refine ws_set 18 (Ct.nd (by assumption)) ?_
    | refine ws_set 19 (Ct.nd (by assumption)) ?_
    | refine ws_set 20 (Ct.nd (by assumption)) ?_
    | refine ws_set 21 (Ct.nd (by assumption)) ?_
    | refine ws_set 22 (Ct.nd (by assumption)) ?_
    | refine ws_set 23 (Ct.nd (by assumption)) ?_
    | refine ws_set 24 (Ct.nd (by assumption)) ?_
    | refine ws_set 25 (Ct.nd (by assumption)) ?_
    | refine ws_set 26 (Ct.nd (by assumption)) ?_
    | refine ws_set 27 (Ct.nd (by assumption)) ?_
    | refine ws_set 28 (Ct.nd (by assumption)) ?_
    | refine ws_set 29 (Ct.nd (by assumption)) ?_
    | refine ws_sub (Ct.gs (by assumption)) ?_ (fun a b => pg_sub a b set_list)
    | refine ws_fld (Ct.gs (by assumption)) ?_
    | refine ws_pass ?_
    | refine ws_break ?_
    | refine ws_cont ?_)
local macro_rules | `(tactic| walk_at "e.bin") => `(tactic| first
    | refine BinD.addI ?_
    | refine BinD.subI ?_
    | refine BinD.modP (by assumption) ?_
    | refine BinD.divP (by assumption) ?_
    | refine BinD.modI (by decide) ?_
    | refine BinD.modI (by assumption) ?_
    | refine BinD.divI (by decide) (by decide) ?_
    | refine BinD.divI (by assumption) (by assumption) ?_
    | refine BinD.mulI (by first | exact .inl ⟨by decide, by decide⟩ | exact .inr ⟨by decide, by decide⟩) ?_
    | refine BinD.xorI ?_
    | refine BinD.powI ⟨by decide, by decide, by decide⟩ ?_)
local macro_rules | `(tactic| walk_at "e.cmp") => `(tactic| first
    | refine CmpD.lt ?_
    | refine CmpD.le ?_
    | refine CmpD.gt ?_
    | refine CmpD.ge ?_
    | refine CmpD.isN ?_
    | refine CmpD.notN ?_
    | refine CmpD.neI_s ?_
    | refine CmpD.neT_s ?_
    | refine CmpD.neZ_s ?_
    | refine CmpD.eqZ_s ?_
    | refine CmpD.neN_s ?_
    | refine CmpD.eqN_s ?_
    | refine CmpD.neTZ ?_
    | refine CmpD.eqTZ ?_
    | refine CmpD.eqI ?_
    | refine CmpD.neI ?_
    | refine CmpD.eqZ ?_
    | refine CmpD.neZ ?_)
local macro_rules | `(tactic| walk_at "e.is") => `(tactic| first
    | refine gSz ?_
    | refine gFld (by assumption) (by assumption) rfl ?_
    | refine gFldS (by assumption) (by assumption) (by first | decide | (repeat (first | refine plA ?_ | refine plB ?_)); simp) ?_
    | refine gFldU (by first | decide | (repeat (first | refine plA ?_ | refine plB ?_)); simp) ?_
    | refine IsI.mk ?_
    | refine IsT.mk ?_
    | refine IsL.mk ?_
    | refine IsZ.mk ?_
    | refine IsB.mk ?_
    | refine OwL.mk 0 rfl ?_
    | refine OwL.mk 1 rfl ?_
    | refine OwL.mk 2 rfl ?_
    | refine OwL.mk 3 rfl ?_
    | refine OwL.mk 4 rfl ?_
    | refine OwL.mk 5 rfl ?_
    | refine OwI.mk 0 rfl ?_
    | refine OwI.mk 1 rfl ?_
    | refine OwI.mk 2 rfl ?_
    | refine OwI.mk 3 rfl ?_
    | refine OwI.mk 4 rfl ?_
    | refine OwI.mk 5 rfl ?_
    | refine OwI.mk _ (by assumption) ?_
    | refine OwI.mk _ (set_at (by assumption)) ?_
    | refine OwI.mk _ (set_at (set_at (by assumption))) ?_
    | refine OwL.mk _ (by assumption) ?_
    | refine OwL.mk _ (set_at (by assumption)) ?_
    | refine OwL.mk _ (set_at (set_at (by assumption))) ?_
    | refine OwL.mk _ (set_at (set_at (set_at (by assumption)))) ?_
    | refine IxD.own 0 rfl rfl ?_
    | refine IxD.own 1 rfl rfl ?_
    | refine IxD.own 2 rfl rfl ?_
    | refine IxD.own 3 rfl rfl ?_
    | refine IxD.own 4 rfl rfl ?_
    | refine IxD.own 5 rfl rfl ?_
    | refine IxD.own _ (by assumption) rfl ?_
    | refine IxD.own _ (set_at (by assumption)) rfl ?_
    | refine IxD.own _ (set_at (set_at (by assumption))) rfl ?_
    | refine IxD.own _ (set_at (set_at (set_at (by assumption)))) rfl ?_
    | refine IxD.tup rfl ?_
    | refine IxD.lst rfl ?_
    | refine IntD.int ?_
    | refine IntD.bl ?_
    | refine TruD.bl ?_
    | refine TruD.int ?_
    | refine TruD.tup ?_
    | refine TruD.lst ?_
    | refine LenD.tup ?_
    | refine LenD.lst ?_
    | refine SeqD.tup ?_
    | refine SeqD.lst ?_
    | refine SlD.tup ?_
    | refine SlD.lst ?_
    | refine SeqD.own 0 rfl ?_
    | refine SeqD.own 1 rfl ?_
    | refine SeqD.own 2 rfl ?_
    | refine SeqD.own 3 rfl ?_
    | refine SeqD.own 4 rfl ?_
    | refine SeqD.own 5 rfl ?_
    | refine LenD.own 0 rfl ?_
    | refine LenD.own 1 rfl ?_
    | refine LenD.own 2 rfl ?_
    | refine LenD.own 3 rfl ?_
    | refine LenD.own 4 rfl ?_
    | refine LenD.own 5 rfl ?_)
local macro_rules | `(tactic| walk_at "e1") => `(tactic| first
    | (refine gWE ?_; walk_at "e.we")
    | (refine gBinD ?_; walk_at "e.bin")
    | (refine gWSs ?_; walk_at "e.wss")
    | (refine gWS ?_; walk_at "e.ws")
    | (refine gWT ?_; walk_at "e.wt")
    | (refine gCmpD ?_; walk_at "e.cmp")
    | (refine gWA ?_; walk_at "e.wa")
    | (refine gWW ?_; walk_at "e.ww")
    | refine iteT ?_
    | refine iteF ?_
    | walk_at "e.is")
local macro_rules | `(tactic| walk_at "x1") => `(tactic| first
    | (refine gWE ?_; walk_at "e.we")
    | (refine gBinD ?_; walk_at "e.bin")
    | (refine gWT ?_; walk_at "e.wt")
    | (refine gCmpD ?_; walk_at "e.cmp")
    | (refine gWA ?_; walk_at "e.wa")
    | (refine gWW ?_; walk_at "e.ww")
    | refine iteT ?_
    | refine iteF ?_
    | walk_at "e.is")
local macro_rules | `(tactic| walk_at "e") => `(tactic| repeat (walk_at "e1"))
local macro_rules | `(tactic| walk_at "x") => `(tactic| repeat (walk_at "x1"))
structure LawH (P : Program) (w : World) (K : PySem.W.Frag) (mg : Str → Option Value) (base : Heap) (T : List (Addr × Str)) (CE C CF : Addr) : Prop where
  E : ExcC K mg "SocketError" CE
  told : ToldOk K mg "_law_told" "SocketError" "SocketError" CE
  roll : ∃ f, mg "_law_roll" = some (.ref f) ∧ Gf P w K mg base (Tabs T) 3 f [] (S_roll 1000000000000000000)
  rounds : ∃ f, mg "_law_rounds" = some (.ref f) ∧ Gf P w K mg base (Tabs T) 2 f [] (S_rounds K)
  segb : ∃ f, mg "segment_bytes" = some (.ref f) ∧ Gf P w K mg base (Tabs T) 3 f [] S_segb
  rseg : ∃ f, mg "read_segment" = some (.ref f) ∧ GfC P w K mg base (Tabs T) 4 f [] (S_rseg CE)
  lout : ∃ f, mg "_law_out" = some (.ref f) ∧ Gf P w K mg base (Tabs T) 1 f [] S_lout
  lin : ∃ f, mg "_law_in" = some (.ref f) ∧ Gf P w K mg base (Tabs T) 1 f [] S_lin
  tclass : mg "Translator" = some (.ref C)
  tc : TrC K C
  fc : FwC K CF
  mkt : ∃ f, Mk K C f ∧ Gf P w K mg base (Tabs T) 1 f [] (S_tinit C CF)
  door : ∃ f, Meth K C "open_door" f ∧ Gf P w K mg base (Tabs T) 1 f [] (S_door C CF CE)
  forget : ∃ f, Meth K C "forget" f ∧ Gf P w K mg base (Tabs T) 1 f [] (S_forget C CF)
  out : ∃ f, Meth K C "outgoing" f ∧ GfC P w K mg base (Tabs T) 5 f [] (S_out C CF CE)
  inn : ∃ f, Meth K C "incoming" f ∧ GfC P w K mg base (Tabs T) 5 f [] (S_in C CF CE)
  len : mg "len" = none
  range : mg "range" = none
  dict : mg "dict" = none
  list : mg "list" = none
  tuple : mg "tuple" = none
  max : mg "max" = none
def S_law (K : PySem.W.Frag) : SpD := fun ds M xr R => ∃ (d : D) (cs : List Int), ds = [d] ∧ ScrD K M d cs ∧ ∀ M', R M' (B true)
abbrev XL (P : Program) (w : World) (K : PySem.W.Frag) (mg : Str → Option Value) (base : Heap) (f c : Addr) (A : Around) (outer : List Env) (s : Shared) (H : Hp) (E0 : XK) : Cx := cxOf (L2.CX P w) P w K mg base N_law "law" (defScope s_law) f (.ref c) A outer s H E0
def nop : Stmt := .Pass ⟨0, 0, 0, 0⟩
def forB (s : Stmt) : List Stmt := match s with
  | .For _ _ b _ _ => b
  | _ => []
def ifT (s : Stmt) : List Stmt := match s with
  | .If _ t _ _ => t
  | _ => []
def ifE (s : Stmt) : List Stmt := match s with
  | .If _ _ e _ => e
  | _ => []
def lb : List Stmt := forB ((defBody s_law).getD 0 nop)
def jb : List Stmt := forB (lb.getD 2 nop)
theorem rng_at {n i : Nat} {z : D} (h : ((List.range n).map fun (i : Nat) => I (i : Int))[i]? = some z) : i < n ∧ z = I (i : Int) := by
  rcases Nat.lt_or_ge i n with q | q
  · rw [List.getElem?_map, List.getElem?_range q] at h
    cases h
    exact ⟨q, rfl⟩
  · rw [List.getElem?_eq_none (by rw [List.length_map, List.length_range]; exact q)] at h
    cases h
/-- the law's whole state -/
abbrev hM (C CF p : Addr) (x y w : Int) (l : La) (a : Ta) (ins : List Int) (fs2 fs : List Fw) (dk2 dk : List (Key × D)) (M : Ms) : Ms := (p, .lst [I x, I y, I w]) :: (lsM l ins fs2 dk2 ++ (trM C CF a ins fs dk ++ M))
structure InsOk (ins : List Int) : Prop where
  hd : ∃ r, ins = 1 :: r
  lo : ∀ i ∈ ins, 1 ≤ i ∧ i ≤ 4
  few : ins.length ≤ 4
structure Iv (fs2 fs : List Fw) (dk2 dk : List (Key × D)) (σ : Int → Option Int) (n : Nat) (t : Int) : Prop where
  eq : cores fs2 = cores fs
  few : fs.length ≤ 50
  ok : FsOk fs
  d1 : DrOk dk σ n
  d2 : DrOk dk2 σ n
  nd2 : (dk2.map (·.1)).Nodup
  pairs : (fs.map fun f => (f.outer, f.peer)).Nodup
  used : ∀ f ∈ fs, f.used ≤ t
section
variable {C CF p : Addr} {x y w : Int} {l : La} {a : Ta} {ins : List Int} {fs2 fs : List Fw} {dk2 dk : List (Key × D)} {M : Ms}
theorem sp_l : SP (lsM l ins fs2 dk2 ++ ((p, O.lst [I x, I y, I w]) :: (trM C CF a ins fs dk ++ M))) (hM C CF p x y w l a ins fs2 fs dk2 dk M) :=
  ⟨_, (List.perm_middle (l₁ := lsM l ins fs2 dk2) (a := (p, O.lst [I x, I y, I w])) (l₂ := trM C CF a ins fs dk ++ M)).symm, List.Sublist.refl _⟩
theorem sp_l' : SP (hM C CF p x y w l a ins fs2 fs dk2 dk M) (lsM l ins fs2 dk2 ++ ((p, O.lst [I x, I y, I w]) :: (trM C CF a ins fs dk ++ M))) :=
  ⟨_, (List.perm_middle (l₁ := lsM l ins fs2 dk2) (a := (p, O.lst [I x, I y, I w])) (l₂ := trM C CF a ins fs dk ++ M)), List.Sublist.refl _⟩
theorem sp_t : SP (trM C CF a ins fs dk ++ ((p, O.lst [I x, I y, I w]) :: (lsM l ins fs2 dk2 ++ M))) (hM C CF p x y w l a ins fs2 fs dk2 dk M) :=
  ⟨_, (List.perm_append_comm_assoc ((p, O.lst [I x, I y, I w]) :: lsM l ins fs2 dk2) (trM C CF a ins fs dk) M), List.Sublist.refl _⟩
theorem sp_t' : SP (hM C CF p x y w l a ins fs2 fs dk2 dk M) (trM C CF a ins fs dk ++ ((p, O.lst [I x, I y, I w]) :: (lsM l ins fs2 dk2 ++ M))) :=
  ⟨_, (List.perm_append_comm_assoc ((p, O.lst [I x, I y, I w]) :: lsM l ins fs2 dk2) (trM C CF a ins fs dk) M).symm, List.Sublist.refl _⟩
end
theorem merge_nd : ∀ {kvs acc : List (Key × D)}, ((acc ++ kvs).map (·.1)).Nodup → mergeM acc kvs = acc ++ kvs
  | [], acc, _ => by rw [List.append_nil]; rfl
  | kv :: r, acc, h => by
    show mergeM (putM acc kv.1 kv.2) r = _
    have new : kv.1 ∉ acc.map (·.1) := fun z => by
      rw [List.map_append, List.nodup_append] at h
      exact h.2.2 _ z kv.1 List.mem_cons_self rfl
    rw [putM_new new, merge_nd (by rw [List.append_assoc]; exact h), List.append_assoc]
    rfl
theorem merge_one {kvs : List (Key × D)} {k : Key} {v : D} (h : (kvs.map (·.1)).Nodup) : mergeM [] (kvs ++ [(k, v)]) = putM kvs k v := by
  have e : mergeM [] (kvs ++ [(k, v)]) = putM (mergeM [] kvs) k v := by unfold mergeM; rw [List.foldl_append]; rfl
  rw [e, merge_nd (acc := []) h]
  rfl
theorem put_nd {kvs : List (Key × D)} {k : Key} {v : D} (h : (kvs.map (·.1)).Nodup) : ((putM kvs k v).map (·.1)).Nodup := by
  by_cases z : k ∈ kvs.map (·.1)
  · obtain ⟨⟨k', u⟩, hm, rfl⟩ := List.mem_map.mp z
    obtain ⟨i, hi⟩ := List.getElem?_of_mem hm
    rw [putM_at h hi, map_set_same (y := (k', v)) hi rfl]
    exact h
  · rw [putM_new z, List.map_append]
    exact List.nodup_append.mpr ⟨h, by simp, fun a ha b hb e => z (by simp at hb; rw [← hb, ← e]; exact ha)⟩
theorem dr_put {dk : List (Key × D)} {σ : Int → Option Int} {n : Nat} {p h : Int} (d : DrOk dk σ n) : DrOk (putM dk (.inl p) (I h)) (updI σ p h) (n + 1) := by
  refine ⟨?_, fun q => ?_⟩
  · have := putM_len (k := (Sum.inl p : Key)) (v := I h) dk
    have := d.len
    omega
  · rw [valD_put, d.val]
    unfold updI
    by_cases z : q = p
    · rw [if_pos z, if_pos (by rw [z])]; rfl
    · rw [if_neg z, if_neg fun e => z (Sum.inl.inj e)]
theorem DrOk.up {dk : List (Key × D)} {σ : Int → Option Int} {n m : Nat} (d : DrOk dk σ n) (h : n ≤ m) : DrOk dk σ m := ⟨Nat.le_trans d.len h, d.val⟩
theorem pairs_set {fs : List Fw} {i : Nat} {f : Fw} {t : Int} (hf : fs[i]? = some f) : ((fs.set i { f with used := t }).map fun f => (f.outer, f.peer)) = fs.map fun f => (f.outer, f.peer) := map_set_same hf rfl
theorem mem_set' {fs : List Fw} {i : Nat} {g f : Fw} (h : f ∈ fs.set i g) : f ∈ fs ∨ f = g := List.mem_or_eq_of_mem_set h
theorem iv_live {fs2 fs : List Fw} {dk2 dk : List (Key × D)} {σ : Int → Option Int} {n : Nat} {t : Int} (h : Iv fs2 fs dk2 dk σ n t) (u : Int) : Iv (fs2.filter (live u)) (fs.filter (live u)) dk2 dk σ n t :=
  ⟨core_filter h.eq, Nat.le_trans (List.length_filter_le _ _) h.few, fs_live h.ok, h.d1, h.d2, h.nd2, h.pairs.sublist (List.filter_sublist.map _), fun f hf => h.used f (List.mem_filter.mp hf).1⟩
theorem iv_time {fs2 fs : List Fw} {dk2 dk : List (Key × D)} {σ : Int → Option Int} {n : Nat} {t t' : Int} (h : Iv fs2 fs dk2 dk σ n t) (ht : t ≤ t') : Iv fs2 fs dk2 dk σ n t' := ⟨h.eq, h.few, h.ok, h.d1, h.d2, h.nd2, h.pairs, fun f hf => Int.le_trans (h.used f hf) ht⟩
theorem iv_set {fs2 fs fs2' : List Fw} {dk2 dk : List (Key × D)} {σ : Int → Option Int} {n : Nat} {t : Int} (h : Iv fs2 fs dk2 dk σ n t) {i : Nat} {f : Fw} (hf : fs[i]? = some f) (e : cores fs2' = cores (fs.set i { f with used := t })) : Iv fs2' (fs.set i { f with used := t }) dk2 dk σ n t := by
  refine ⟨e, by rw [List.length_set]; exact h.few, fun g hg => ?_, h.d1, h.d2, h.nd2, by rw [pairs_set hf]; exact h.pairs, fun g hg => ?_⟩
  · rcases mem_set' hg with z | z
    · exact h.ok g z
    · rw [z]; exact h.ok f (List.mem_of_getElem? hf)
  · rcases mem_set' hg with z | z
    · exact h.used g z
    · rw [z]; exact Int.le_refl t
theorem iv_out {ins : List Int} {fs2 fs fs2' fs' : List Fw} {dk2 dk : List (Key × D)} {σ : Int → Option Int} {n : Nat} {t src tgt : Int} {s : Seg} {r r2 : Option (Int × Seg)} (h : Iv fs2 fs dk2 dk σ n t) (ok : s.Ok) (h2 : OutR ins fs2 σ src tgt t s r2 fs2') (h1 : OutR ins fs σ src tgt t s r fs') : r2 = r ∧ Iv fs2' fs' dk2 dk σ n t := by
  obtain ⟨e, ec⟩ := out_same h.eq h2 h1
  refine ⟨e, ?_⟩
  have same : ∀ {fs2'}, cores fs2' = cores fs → Iv fs2' fs dk2 dk σ n t := fun e => ⟨e, h.few, h.ok, h.d1, h.d2, h.nd2, h.pairs, h.used⟩
  cases h1 with
  | no => exact same ec
  | door => exact same ec
  | shut => exact same ec
  | full => exact same ec
  | old _ _ i f hf => exact iv_set h hf ec
  | new _ _ _ h50 q k hk =>
    refine ⟨ec, by rw [List.length_append]; show fs.length + 1 ≤ 50; omega, fun g hg => ?_, h.d1, h.d2, h.nd2, ?_, fun g hg => ?_⟩
    · rcases List.mem_append.mp hg with z | z
      · exact h.ok g z
      · have k1 := hk.one
        have k2 := hk.le
        simp only [List.mem_cons, List.not_mem_nil, or_false] at z
        rw [z]
        exact ⟨ok.o0, ok.o1, ok.n0, ok.n1, by show 0 ≤ k; omega, by show k < 16384; omega⟩
    · rw [List.map_append]
      refine List.nodup_append.mpr ⟨h.pairs, by simp, fun x hx y hy e => hk.free ?_⟩
      simp only [List.map_cons, List.map_nil, List.mem_cons, List.not_mem_nil, or_false] at hy
      obtain ⟨g, hg, rfl⟩ := List.mem_map.mp hx
      rw [hy] at e
      obtain ⟨e1, e2⟩ := Prod.mk.inj e
      exact List.mem_map.mpr ⟨g, List.mem_filter.mpr ⟨hg, decide_eq_true e2⟩, e1⟩
    · rcases List.mem_append.mp hg with z | z
      · exact h.used g z
      · simp only [List.mem_cons, List.not_mem_nil, or_false] at z
        rw [z]
        exact Int.le_refl t
theorem iv_in {fs2 fs fs2' fs' : List Fw} {dk2 dk : List (Key × D)} {σ : Int → Option Int} {n : Nat} {t src : Int} {s : Seg} {r r2 : Option (Int × Seg)} (h : Iv fs2 fs dk2 dk σ n t) (h2 : InR fs2 σ src t s r2 fs2') (h1 : InR fs σ src t s r fs') : r2 = r ∧ Iv fs2' fs' dk2 dk σ n t := by
  obtain ⟨e, ec⟩ := in_same h.eq h2 h1
  refine ⟨e, ?_⟩
  have same : ∀ {fs2'}, cores fs2' = cores fs → Iv fs2' fs dk2 dk σ n t := fun e => ⟨e, h.few, h.ok, h.d1, h.d2, h.nd2, h.pairs, h.used⟩
  cases h1 with
  | door => exact same ec
  | alien => exact same ec
  | lost => exact same ec
  | back _ _ i f hf => exact iv_set h hf ec
/-- what went out of a host's own stream comes back -/
theorem out_back {ins : List Int} {fs fs' : List Fw} {σ : Int → Option Int} {src tgt t : Int} {s s' : Seg} {h : Int} (h1 : OutR ins fs σ src tgt t s (some (h, s')) fs') (hs : s.opener = src) :
    (src ∈ ins ∧ tgt ∉ ins) ∧ h = 90 ∧ ∃ (i : Nat) (f : Fw), fs'[i]? = some f ∧ f.opener = s.opener ∧ f.number = s.number ∧ f.peer = tgt ∧ f.used = t ∧ s' = { s with opener := 90, number := f.outer } := by
  cases h1 with
  | door _ h2 => exact absurd hs h2
  | old hi h2 i f hf hh =>
    refine ⟨hi, rfl, i, { f with used := t }, by rw [List.getElem?_set_self (at_lt hf)], hh.1, hh.2.1, hh.2.2, rfl, rfl⟩
  | new hi h2 _ _ q k hk =>
    exact ⟨hi, rfl, fs.length, _, by rw [List.getElem?_append_right (Nat.le_refl _), Nat.sub_self]; rfl, rfl, rfl, rfl, rfl, rfl⟩
theorem set_same {fs : List Fw} {i : Nat} {f : Fw} (h : fs[i]? = some f) : fs.set i f = fs := by
  refine List.ext_getElem? fun j => ?_
  by_cases e : i = j
  · subst e
    rw [List.getElem?_set_self (at_lt h), h]
  · rw [List.getElem?_set_ne e]
theorem in_back {fs fs' : List Fw} {σ : Int → Option Int} {tgt t : Int} {s : Seg} {r : Option (Int × Seg)} (nd : (fs.map fun f => (f.outer, f.peer)).Nodup) {i : Nat} {f : Fw} (hf : fs[i]? = some f) (hp : f.peer = tgt) (hu : f.used = t) (ht : tgt ≠ 90) (h1 : f.opener = s.opener) (h2 : f.number = s.number) (h : InR fs σ tgt t { s with opener := 90, number := f.outer } r fs') : r = some (s.opener, s) ∧ fs' = fs := by
  cases h with
  | door x e => exact absurd e.symm ht
  | alien _ e => exact absurd rfl e
  | lost _ _ all => exact absurd ⟨rfl, hp⟩ (all f (List.mem_of_getElem? hf))
  | back _ _ j g hg hh low =>
    have hij : i = j := by
      have e1 : (fs.map fun f => (f.outer, f.peer))[i]? = some (f.outer, f.peer) := map_at' hf
      have e2 : (fs.map fun f => (f.outer, f.peer))[j]? = some (g.outer, g.peer) := map_at' hg
      have e3 : (g.outer, g.peer) = (f.outer, f.peer) := by rw [hh.1, hh.2, hp]
      rw [e3] at e2
      exact nd_ix nd e1 e2
    subst hij
    rw [hf] at hg
    cases hg
    refine ⟨by rw [h1, h2], ?_⟩
    rw [← hu]
    exact set_same hf

end K24
set_option maxRecDepth 100000
set_option maxHeartbeats 4000000

namespace K24
open PySem PySem.Spec PyProof.Rows L2 Wv
open LamX (CodeO TabS Tabs ExtN TabB lamEnv lamCx LamS)
local macro_rules | `(tactic| walk_at "e.name") => `(tactic| first
    | refine we_var 0 _ rfl (by first | exact .inl rfl | exact .inr (.inl rfl) | exact .inr (.inr rfl)) rfl ?_
    | refine we_var 1 _ rfl (by first | exact .inl rfl | exact .inr (.inl rfl) | exact .inr (.inr rfl)) rfl ?_
    | refine we_var 2 _ rfl (by first | exact .inl rfl | exact .inr (.inl rfl) | exact .inr (.inr rfl)) rfl ?_
    | refine we_var 3 _ rfl (by first | exact .inl rfl | exact .inr (.inl rfl) | exact .inr (.inr rfl)) rfl ?_
    | refine we_var 4 _ rfl (by first | exact .inl rfl | exact .inr (.inl rfl) | exact .inr (.inr rfl)) rfl ?_
    | refine we_var 5 _ rfl (by first | exact .inl rfl | exact .inr (.inl rfl) | exact .inr (.inr rfl)) rfl ?_
    | refine we_var 6 _ rfl (by first | exact .inl rfl | exact .inr (.inl rfl) | exact .inr (.inr rfl)) rfl ?_
    | refine we_var 7 _ rfl (by first | exact .inl rfl | exact .inr (.inl rfl) | exact .inr (.inr rfl)) rfl ?_
    | refine we_var 8 _ rfl (by first | exact .inl rfl | exact .inr (.inl rfl) | exact .inr (.inr rfl)) rfl ?_
    | refine we_var 9 _ rfl (by first | exact .inl rfl | exact .inr (.inl rfl) | exact .inr (.inr rfl)) rfl ?_
    | refine we_var 10 _ rfl (by first | exact .inl rfl | exact .inr (.inl rfl) | exact .inr (.inr rfl)) rfl ?_
    | refine we_var 11 _ rfl (by first | exact .inl rfl | exact .inr (.inl rfl) | exact .inr (.inr rfl)) rfl ?_
    | refine we_var 12 _ rfl (by first | exact .inl rfl | exact .inr (.inl rfl) | exact .inr (.inr rfl)) rfl ?_
    | refine we_var 13 _ rfl (by first | exact .inl rfl | exact .inr (.inl rfl) | exact .inr (.inr rfl)) rfl ?_
    | refine we_var 14 _ rfl (by first | exact .inl rfl | exact .inr (.inl rfl) | exact .inr (.inr rfl)) rfl ?_
    | refine we_var 15 _ rfl (by first | exact .inl rfl | exact .inr (.inl rfl) | exact .inr (.inr rfl)) rfl ?_
    | refine we_var 16 _ rfl (by first | exact .inl rfl | exact .inr (.inl rfl) | exact .inr (.inr rfl)) rfl ?_
    | refine we_var 17 _ rfl (by first | exact .inl rfl | exact .inr (.inl rfl) | exact .inr (.inr rfl)) rfl ?_
    | refine we_var 18 _ rfl (by first | exact .inl rfl | exact .inr (.inl rfl) | exact .inr (.inr rfl)) rfl ?_
    | refine we_var 19 _ rfl (by first | exact .inl rfl | exact .inr (.inl rfl) | exact .inr (.inr rfl)) rfl ?_
    | refine we_var 20 _ rfl (by first | exact .inl rfl | exact .inr (.inl rfl) | exact .inr (.inr rfl)) rfl ?_
    | refine we_var 21 _ rfl (by first | exact .inl rfl | exact .inr (.inl rfl) | exact .inr (.inr rfl)) rfl ?_
    | refine we_var 22 _ rfl (by first | exact .inl rfl | exact .inr (.inl rfl) | exact .inr (.inr rfl)) rfl ?_
    | refine we_var 23 _ rfl (by first | exact .inl rfl | exact .inr (.inl rfl) | exact .inr (.inr rfl)) rfl ?_
    | refine we_var 24 _ rfl (by first | exact .inl rfl | exact .inr (.inl rfl) | exact .inr (.inr rfl)) rfl ?_
    | refine we_var 25 _ rfl (by first | exact .inl rfl | exact .inr (.inl rfl) | exact .inr (.inr rfl)) rfl ?_
    | refine we_var 26 _ rfl (by first | exact .inl rfl | exact .inr (.inl rfl) | exact .inr (.inr rfl)) rfl ?_
    | refine we_var 27 _ rfl (by first | exact .inl rfl | exact .inr (.inl rfl) | exact .inr (.inr rfl)) rfl ?_
    | refine we_var 28 _ rfl (by first | exact .inl rfl | exact .inr (.inl rfl) | exact .inr (.inr rfl)) rfl ?_
    | refine we_var 29 _ rfl (by first | exact .inl rfl | exact .inr (.inl rfl) | exact .inr (.inr rfl)) rfl ?_
    | refine we_globI (by assumption) rfl ?_
    | refine we_globS (by assumption) rfl ?_)
local macro_rules | `(tactic| walk_at "e.const") => `(tactic| first
    | refine we_int ?_
    | refine we_str ?_
    | refine we_bl ?_
    | refine we_non ?_)
local macro_rules | `(tactic| walk_at "e.call") => `(tactic| first
    | refine we_len (by assumption) rfl ?_
    | refine we_int2 (by assumption) rfl ?_
    | refine we_tuple (Ct.gs (by assumption)) (by assumption) rfl ?_
    | refine we_abs (by assumption) rfl ?_
    | refine we_find ?_)
local macro_rules | `(tactic| walk_at "e.we") => `(tactic| first
    | (refine gNm ?_; walk_at "e.name")
    | (refine gConst ?_; walk_at "e.const")
    | refine we_bin (Ct.gs (by assumption)) ?_
    | (refine gCall ?_; walk_at "e.call")
    | refine we_cmp (Ct.hu (by assumption)) ?_
    | refine we_ix ?_
    | refine we_slice (Ct.gs (by assumption)) ?_
    | refine we_fld ?_
    | refine we_tup (Ct.gs (by assumption)) ?_
    | refine we_chain (Ct.hu (by assumption)) ?_
    | refine we_lst1 (Ct.gs (by assumption)) ?_
    | refine we_ifx ?_
    | refine we_and ?_
    | refine we_or ?_
    | refine we_one ?_
    | refine we_not ?_
    | refine we_negI ?_
    | refine we_neg ?_)
local macro_rules | `(tactic| walk_at "e.wt") => `(tactic| first
    | refine wt_cmp (Ct.hu (by assumption)) ?_
    | refine wt_chain (Ct.hu (by assumption)) ?_
    | refine wt_not ?_
    | refine wt_bool ?_
    | refine wt_val ?_)
local macro_rules | `(tactic| walk_at "e.ww") => `(tactic| first
    | refine ww_and ?_
    | refine ww_or ?_
    | refine ww_and1 ?_
    | refine ww_or1 ?_)
local macro_rules | `(tactic| walk_at "e.wa") => `(tactic| first
    | refine wa_nil ?_
    | refine wa_cons ?_)
local macro_rules | `(tactic| walk_at "e.wss") => `(tactic| first
    | refine wss_cons ?_
    | refine wss_nil ?_)
local macro_rules | `(tactic| walk_at "e.ws") => `(tactic| first
    | refine ws_if ?_
    | refine ws_expr (we_append (Ct.gs (by assumption)) ?_ (pe_bm PySem.F.plainAttrs_list PySem.F.slot_list_append PySem.F.type_list_append mt_append pe_wp pa_wp))
    | refine ws_fldSub (Ct.gs (by assumption)) ?_
    | refine ws_fldAddW (Ct.gs (by assumption)) ?_
    | refine ws_expr ?_
    | refine ws_set 0 (Ct.nd (by assumption)) ?_
    | refine ws_set 1 (Ct.nd (by assumption)) ?_
    | refine ws_set 2 (Ct.nd (by assumption)) ?_
    | refine ws_set 3 (Ct.nd (by assumption)) ?_
    | refine ws_set 4 (Ct.nd (by assumption)) ?_
    | refine ws_set 5 (Ct.nd (by assumption)) ?_
    | refine ws_set 6 (Ct.nd (by assumption)) ?_
    | refine ws_set 7 (Ct.nd (by assumption)) ?_
    | refine ws_set 8 (Ct.nd (by assumption)) ?_
    | refine ws_set 9 (Ct.nd (by assumption)) ?_
    | refine ws_set 10 (Ct.nd (by assumption)) ?_
    | refine ws_set 11 (Ct.nd (by assumption)) ?_
    | refine ws_set 12 (Ct.nd (by assumption)) ?_
    | refine ws_set 13 (Ct.nd (by assumption)) ?_
    | refine ws_set 14 (Ct.nd (by assumption)) ?_
    | refine ws_set 15 (Ct.nd (by assumption)) ?_
    | refine ws_set 16 (Ct.nd (by assumption)) ?_
    | refine ws_set 17 (Ct.nd (by assumption)) ?_
    | refine ws_set 18 (Ct.nd (by assumption)) ?_
    | refine ws_set 19 (Ct.nd (by assumption)) ?_
    | refine ws_set 20 (Ct.nd (by assumption)) ?_
    | refine ws_set 21 (Ct.nd (by assumption)) ?_
    | refine ws_set 22 (Ct.nd (by assumption)) ?_
    | refine ws_set 23 (Ct.nd (by assumption)) ?_
    | refine ws_set 24 (Ct.nd (by assumption)) ?_
    | refine ws_set 25 (Ct.nd (by assumption)) ?_
    | refine ws_set 26 (Ct.nd (by assumption)) ?_
    | refine ws_set 27 (Ct.nd (by assumption)) ?_
    | refine ws_set 28 (Ct.nd (by assumption)) ?_
    | refine ws_set 29 (Ct.nd (by assumption)) ?_
    | refine ws_sub (Ct.gs (by assumption)) ?_ (fun a b => pg_sub a b set_list)
    | refine ws_fld (Ct.gs (by assumption)) ?_
    | refine ws_pass ?_
    | refine ws_break ?_
    | refine ws_cont ?_)
local macro_rules | `(tactic| walk_at "e.bin") => `(tactic| first
    | refine BinD.addI ?_
    | refine BinD.subI ?_
    | refine BinD.modP (by assumption) ?_
    | refine BinD.divP (by assumption) ?_
    | refine BinD.modI (by decide) ?_
    | refine BinD.modI (by assumption) ?_
    | refine BinD.divI (by decide) (by decide) ?_
    | refine BinD.divI (by assumption) (by assumption) ?_
    | refine BinD.mulI (by first | exact .inl ⟨by decide, by decide⟩ | exact .inr ⟨by decide, by decide⟩) ?_
    | refine BinD.xorI ?_
    | refine BinD.powI ⟨by decide, by decide, by decide⟩ ?_)
local macro_rules | `(tactic| walk_at "e.cmp") => `(tactic| first
    | refine CmpD.lt ?_
    | refine CmpD.le ?_
    | refine CmpD.gt ?_
    | refine CmpD.ge ?_
    | refine CmpD.isN ?_
    | refine CmpD.notN ?_
    | refine CmpD.neI_s ?_
    | refine CmpD.neT_s ?_
    | refine CmpD.neZ_s ?_
    | refine CmpD.eqZ_s ?_
    | refine CmpD.neN_s ?_
    | refine CmpD.eqN_s ?_
    | refine CmpD.neTZ ?_
    | refine CmpD.eqTZ ?_
    | refine CmpD.eqI ?_
    | refine CmpD.neI ?_
    | refine CmpD.eqZ ?_
    | refine CmpD.neZ ?_)
local macro_rules | `(tactic| walk_at "e.is") => `(tactic| first
    | refine gSz ?_
    | refine gFld (by assumption) (by assumption) rfl ?_
    | refine gFldS (by assumption) (by assumption) (by first | decide | (repeat (first | refine plA ?_ | refine plB ?_)); simp) ?_
    | refine gFldU (by first | decide | (repeat (first | refine plA ?_ | refine plB ?_)); simp) ?_
    | refine IsI.mk ?_
    | refine IsT.mk ?_
    | refine IsL.mk ?_
    | refine IsZ.mk ?_
    | refine IsB.mk ?_
    | refine OwL.mk 0 rfl ?_
    | refine OwL.mk 1 rfl ?_
    | refine OwL.mk 2 rfl ?_
    | refine OwL.mk 3 rfl ?_
    | refine OwL.mk 4 rfl ?_
    | refine OwL.mk 5 rfl ?_
    | refine OwI.mk 0 rfl ?_
    | refine OwI.mk 1 rfl ?_
    | refine OwI.mk 2 rfl ?_
    | refine OwI.mk 3 rfl ?_
    | refine OwI.mk 4 rfl ?_
    | refine OwI.mk 5 rfl ?_
    | refine OwI.mk _ (by assumption) ?_
    | refine OwI.mk _ (set_at (by assumption)) ?_
    | refine OwI.mk _ (set_at (set_at (by assumption))) ?_
    | refine OwL.mk _ (by assumption) ?_
    | refine OwL.mk _ (set_at (by assumption)) ?_
    | refine OwL.mk _ (set_at (set_at (by assumption))) ?_
    | refine OwL.mk _ (set_at (set_at (set_at (by assumption)))) ?_
    | refine IxD.own 0 rfl rfl ?_
    | refine IxD.own 1 rfl rfl ?_
    | refine IxD.own 2 rfl rfl ?_
    | refine IxD.own 3 rfl rfl ?_
    | refine IxD.own 4 rfl rfl ?_
    | refine IxD.own 5 rfl rfl ?_
    | refine IxD.own _ (by assumption) rfl ?_
    | refine IxD.own _ (set_at (by assumption)) rfl ?_
    | refine IxD.own _ (set_at (set_at (by assumption))) rfl ?_
    | refine IxD.own _ (set_at (set_at (set_at (by assumption)))) rfl ?_
    | refine IxD.tup rfl ?_
    | refine IxD.lst rfl ?_
    | refine IntD.int ?_
    | refine IntD.bl ?_
    | refine TruD.bl ?_
    | refine TruD.int ?_
    | refine TruD.tup ?_
    | refine TruD.lst ?_
    | refine LenD.tup ?_
    | refine LenD.lst ?_
    | refine SeqD.tup ?_
    | refine SeqD.lst ?_
    | refine SlD.tup ?_
    | refine SlD.lst ?_
    | refine SeqD.own 0 rfl ?_
    | refine SeqD.own 1 rfl ?_
    | refine SeqD.own 2 rfl ?_
    | refine SeqD.own 3 rfl ?_
    | refine SeqD.own 4 rfl ?_
    | refine SeqD.own 5 rfl ?_
    | refine LenD.own 0 rfl ?_
    | refine LenD.own 1 rfl ?_
    | refine LenD.own 2 rfl ?_
    | refine LenD.own 3 rfl ?_
    | refine LenD.own 4 rfl ?_
    | refine LenD.own 5 rfl ?_)
local macro_rules | `(tactic| walk_at "e1") => `(tactic| first
    | (refine gWE ?_; walk_at "e.we")
    | (refine gBinD ?_; walk_at "e.bin")
    | (refine gWSs ?_; walk_at "e.wss")
    | (refine gWS ?_; walk_at "e.ws")
    | (refine gWT ?_; walk_at "e.wt")
    | (refine gCmpD ?_; walk_at "e.cmp")
    | (refine gWA ?_; walk_at "e.wa")
    | (refine gWW ?_; walk_at "e.ww")
    | refine iteT ?_
    | refine iteF ?_
    | walk_at "e.is")
local macro_rules | `(tactic| walk_at "x1") => `(tactic| first
    | (refine gWE ?_; walk_at "e.we")
    | (refine gBinD ?_; walk_at "e.bin")
    | (refine gWT ?_; walk_at "e.wt")
    | (refine gCmpD ?_; walk_at "e.cmp")
    | (refine gWA ?_; walk_at "e.wa")
    | (refine gWW ?_; walk_at "e.ww")
    | refine iteT ?_
    | refine iteF ?_
    | walk_at "e.is")
local macro_rules | `(tactic| walk_at "e") => `(tactic| repeat (walk_at "e1"))
local macro_rules | `(tactic| walk_at "x") => `(tactic| repeat (walk_at "x1"))
def dsE : List (Expr × Expr) := match lb.getD 1 nop with
  | .Assign _ (.Tuple [_, .Dict ks vs _, _] _ _) _ => (ks.filterMap id).zip vs
  | _ => []
abbrev inD (ins : List Int) : D := .lst (ins.map fun i => I i)
theorem three_at {a b c i : Int} (h0 : 0 ≤ i) (h3 : i < 3) : ∃ v, atI [I a, I b, I c] i = some (I v) ∧ (v = a ∨ v = b ∨ v = c) := by
  rcases (show i = 0 ∨ i = 1 ∨ i = 2 by omega) with rfl | rfl | rfl
  · exact ⟨a, rfl, .inl rfl⟩
  · exact ⟨b, rfl, .inr (.inl rfl)⟩
  · exact ⟨c, rfl, .inr (.inr rfl)⟩
theorem ints_at {ins : List Int} {r : Int} (h0 : 0 ≤ r) (h1 : r < ins.length) : ∃ h ∈ ins, atI (ins.map fun i => I i) r = some (I h) := by
  obtain ⟨n, rfl⟩ : ∃ n : Nat, r = n := ⟨r.toNat, by omega⟩
  have hn : n < ins.length := by omega
  refine ⟨ins[n], List.getElem_mem hn, atI_nat ?_⟩
  rw [List.getElem?_map, List.getElem?_eq_getElem hn]
  rfl
theorem iv_zero : Iv [] [] [] [] (fun _ => none) 0 0 := ⟨rfl, by decide, (fun _ h => by cases h), ⟨Nat.le_refl _, fun _ => rfl⟩, ⟨Nat.le_refl _, fun _ => rfl⟩, List.nodup_nil, List.nodup_nil, fun _ h => by cases h⟩
theorem hM_t {C CF p : Addr} {x y w : Int} {l : La} {a : Ta} {ins : List Int} {fs2 fs : List Fw} {dk2 dk : List (Key × D)} {M : Ms} : (hM C CF p x y w l a ins fs2 fs dk2 dk M)[3 + fs2.length]? = some (a.t, .ins C [("outside", I 90), ("inside", byt ins), ("flows", Rf a.fl), ("doors", Rf a.dr)]) := by
  show (_ :: _ :: _ :: (rwM fs2 ++ (trM C CF a ins fs dk ++ M)))[3 + fs2.length]? = _
  rw [show 3 + fs2.length = fs2.length + 1 + 1 + 1 by omega]
  simp only [List.getElem?_cons_succ]
  have e : (rwM fs2).length = fs2.length := by unfold rwM; rw [List.length_map]
  rw [List.getElem?_append_right (by omega), e, Nat.sub_self]
  rfl
section
variable {P : Program} {w : World} {K : PySem.W.Frag} {mg : Str → Option Value} {base : Heap} {T : List (Addr × Str)} {f c CE C CF : Addr} {A : Around} {outer : List Env} {s_1 : Shared} {H : Hp} {E0 : XK} {W : WX} {M : Ms} {N : En} {p : Addr} {l : La} {a : Ta} {ins : List Int} {fs2 fs : List Fw} {dk2 dk : List (Key × D)} {σ : Int → Option Int} {n : Nat} {t x y w1 : Int} {z0 z1 z2 z3 z4 z5 z6 z7 z8 z9 z10 z11 z12 z13 z14 z15 z16 z17 z18 z19 z20 z21 z22 z23 : Option D}
theorem st_begin (L : LawH P w K mg base T CE C CF) (cx : Ct (XL P w K mg base f c A outer s_1 H E0) (Tabs T) W 7)
    (hN : ∀ (x y w1 : Int) (l : La) (a : Ta) (ins : List Int) (z0 z6 z7 z8 z9 z10 z11 z12 z13 z14 z15 z16 z17 z18 z19 z20 z21 z22 z23 : Option D), InsOk ins → WSs (XL P w K mg base f c A outer s_1 H E0) (Tabs T) W (lb.drop 2) (hM C CF p x y w1 l a ins [] [] [] [] M) (z0 :: some (Rf p) :: some (inD ins) :: some (Rf a.t) :: some (Rf l.st) :: some (I 0) :: z6 :: z7 :: z8 :: z9 :: z10 :: z11 :: z12 :: z13 :: z14 :: z15 :: z16 :: z17 :: z18 :: z19 :: z20 :: z21 :: z22 :: z23 :: []) N) :
    WSs (XL P w K mg base f c A outer s_1 H E0) (Tabs T) W lb ((p, .lst [I x, I y, I w1]) :: M) (z0 :: some (Rf p) :: z2 :: z3 :: z4 :: z5 :: z6 :: z7 :: z8 :: z9 :: z10 :: z11 :: z12 :: z13 :: z14 :: z15 :: z16 :: z17 :: z18 :: z19 :: z20 :: z21 :: z22 :: z23 :: []) N := by
  obtain ⟨fr, mr, gr⟩ := L.roll
  obtain ⟨ft, mk, gt⟩ := L.mkt
  refine wss_cons (ws_set 2 cx.nd (we_slice cx.gs ?_))
  walk_at "x"
  refine we_call cx gr (by decide) mr rfl ?_
  walk_at "x"
  refine ⟨p, x, y, w1, _, 0, rfl, rfl, by decide, by decide, fun x y w1 v h1 h2 => ?_⟩
  walk_at "x"
  have hins : ∃ ins, InsOk ins ∧ Wv.cutD [I 1, I 2, I 3, I 4] none (some (2 + v)) = ins.map fun i => I i := by
    rcases (show v = 0 ∨ v = 1 ∨ v = 2 by omega) with rfl | rfl | rfl
    · exact ⟨[1, 2], ⟨⟨_, rfl⟩, by decide, by decide⟩, rfl⟩
    · exact ⟨[1, 2, 3], ⟨⟨_, rfl⟩, by decide, by decide⟩, rfl⟩
    · exact ⟨[1, 2, 3, 4], ⟨⟨_, rfl⟩, by decide, by decide⟩, rfl⟩
  obtain ⟨ins, io, ei⟩ := hins
  rw [ei]
  refine wss_cons (ws_asg (pg_tup cx.hc (pgs_cons (pgn 3 cx.nd) (pgs_cons (pgn 4 cx.nd) (pgs_cons (pgn 5 cx.nd) pgs_nil)))) gok_three ?_)
  walk_at "x1"
  refine wa_cons (we_make cx gt (by decide) mk L.tclass rfl ?_ tinit_ret)
  walk_at "x"
  refine fun q => ⟨q, ins, _, rfl, rfl, fun fl dr => ?_⟩
  refine wa_cons (we_disp cx.gs dsE (by decide) (by decide) fun st => ?_)
  refine we_str ?_
  walk_at "x1"
  refine we_str (we_dnewK cx.gs fun dr2 => ?_)
  refine we_str (we_lst cx.gs (wa_nil ⟨Nat.zero_le _, ?_⟩))
  refine ⟨1, stF ins dr2 [], rfl, rfl, ?_⟩
  walk_at "x"
  refine ⟨_, rfl, rfl, _, _, rfl, _, _, rfl, _, _, rfl, rfl, ?_⟩
  refine wss_sp (M0 := hM C CF p x y w1 ⟨st, dr2⟩ ⟨q, fl, dr⟩ ins [] [] [] [] M) ⟨_, ?_, List.Sublist.refl _⟩ (hN x y w1 ⟨st, dr2⟩ ⟨q, fl, dr⟩ ins _ _ _ _ _ _ _ _ _ _ _ _ _ _ _ _ _ _ _ io)
  exact (List.Perm.swap _ _ _).trans (List.perm_middle (l₁ := (st, O.dK (stF ins dr2 [])) :: (dr2, .dK []) :: trM C CF ⟨q, fl, dr⟩ ins [] []) (a := (p, O.lst [I x, I y, I w1])) (l₂ := M))
theorem st_roll (L : LawH P w K mg base T CE C CF) (cx : Ct (XL P w K mg base f c A outer s_1 H E0) (Tabs T) W 7) (io : InsOk ins)
    (hN : ∀ (x y w1 t' host peer sort : Int) (z0 z6 z10 z11 z12 z13 z14 z15 z16 z17 z18 z19 z20 z21 z22 z23 : Option D), t ≤ t' → host ∈ ins → 20 ≤ peer → peer < 23 → 0 ≤ sort → WSs (XL P w K mg base f c A outer s_1 H E0) (Tabs T) W (jb.drop 2) (hM C CF p x y w1 l a ins fs2 fs dk2 dk M) (z0 :: some (Rf p) :: some (inD ins) :: some (Rf a.t) :: some (Rf l.st) :: some (I t') :: z6 :: some (I host) :: some (I peer) :: some (I sort) :: z10 :: z11 :: z12 :: z13 :: z14 :: z15 :: z16 :: z17 :: z18 :: z19 :: z20 :: z21 :: z22 :: z23 :: []) N) :
    WSs (XL P w K mg base f c A outer s_1 H E0) (Tabs T) W jb (hM C CF p x y w1 l a ins fs2 fs dk2 dk M) (z0 :: some (Rf p) :: some (inD ins) :: some (Rf a.t) :: some (Rf l.st) :: some (I t) :: z6 :: z7 :: z8 :: z9 :: z10 :: z11 :: z12 :: z13 :: z14 :: z15 :: z16 :: z17 :: z18 :: z19 :: z20 :: z21 :: z22 :: z23 :: []) N := by
  obtain ⟨fr, mr, gr⟩ := L.roll
  obtain ⟨r0, hr0⟩ := io.hd
  have q_len := L.len
  refine wss_cons (ws_set 5 cx.nd (we_bin cx.gs ?_))
  walk_at "x"
  refine we_call cx gr (by decide) mr rfl ?_
  walk_at "x"
  refine ⟨p, x, y, w1, _, 0, rfl, rfl, by decide, by decide, fun x y w1 v a1 a2 => ?_⟩
  walk_at "x"
  refine we_call cx gr (by decide) mr rfl ?_
  walk_at "x"
  refine ⟨p, x, y, w1, _, 0, rfl, rfl, by decide, by decide, fun x y w1 v2 b1 b2 => ?_⟩
  walk_at "x"
  refine we_call cx gr (by decide) mr rfl ?_
  walk_at "x"
  refine ⟨p, x, y, w1, _, 0, rfl, rfl, by decide, by decide, fun x y w1 v3 c1 c2 => ?_⟩
  walk_at "x"
  refine we_max2 cx L.max rfl ?_
  walk_at "x"
  refine we_call cx gr (by decide) mr rfl ?_
  walk_at "x"
  refine ⟨p, x, y, w1, _, 0, rfl, rfl, by decide, by decide, fun x y w1 v4 d1 d2 => ?_⟩
  walk_at "x"
  refine ⟨_, _, rfl, ?_⟩
  obtain ⟨v5, e5, h5⟩ := three_at (a := v) (b := v2) (c := 60 + v3) (i := if v4 - 6 > 0 then v4 - 6 else 0) (by split <;> omega) (by split <;> omega)
  refine .lst e5 (BinD.addI ?_)
  refine wss_cons (ws_asg (pg_tup cx.hc (pgs_cons (pgn 7 cx.nd) (pgs_cons (pgn 8 cx.nd) (pgs_cons (pgn 9 cx.nd) pgs_nil)))) gok_three ?_)
  walk_at "x"
  refine we_call cx gr (by decide) mr rfl ?_
  walk_at "x"
  have hl : (ins.map fun i => I i).length = ins.length := List.length_map ..
  have hp : 0 < ins.length := by rw [hr0]; simp
  have h4 := io.few
  refine ⟨p, x, y, w1, _, 0, rfl, rfl, by rw [hl]; omega, by rw [hl]; omega, fun x y w1 v6 f1 f2 => ?_⟩
  rw [hl] at f2
  obtain ⟨host, hh, eh⟩ := ints_at f1 f2
  refine .lst eh ?_
  walk_at "x"
  refine we_call cx gr (by decide) mr rfl ?_
  walk_at "x"
  refine ⟨p, x, y, w1, _, 0, rfl, rfl, by decide, by decide, fun x y w1 v7 g1 g2 => ?_⟩
  walk_at "x"
  refine we_call cx gr (by decide) mr rfl ?_
  walk_at "x"
  refine ⟨p, x, y, w1, _, 0, rfl, rfl, by decide, by decide, fun x y w1 sort i1 i2 => ?_⟩
  walk_at "x"
  refine ⟨_, rfl, rfl, _, _, rfl, _, _, rfl, _, _, rfl, rfl, ?_⟩
  exact hN x y w1 (t + v5) host (20 + v7) sort _ _ _ _ _ _ _ _ _ _ _ _ _ _ _ _ (by omega) hh (by omega) (by omega) i1
theorem st_door (L : LawH P w K mg base T CE C CF) (cx : Ct (XL P w K mg base f c A outer s_1 H E0) (Tabs T) W 7) (TX : TabX (XL P w K mg base f c A outer s_1 H E0) T "<lambda>") (io : InsOk ins) {host peer sort : Int} (iv : Iv fs2 fs dk2 dk σ n t) (n80 : n ≤ 80) (hh : host ∈ ins) (p0 : 20 ≤ peer) (p1 : peer < 23)
    (hN : ∀ (l : La) (dk2' dk' : List (Key × D)) (σ' : Int → Option Int) (z0 z6 z10 z11 z12 z13 z14 z15 z16 z17 z18 z19 z20 z21 z22 z23 : Option D), Iv fs2 fs dk2' dk' σ' (n + 1) t → WSs (XL P w K mg base f c A outer s_1 H E0) (Tabs T) W (jb.drop 3) (hM C CF p x y w1 l a ins fs2 fs dk2' dk' M) (z0 :: some (Rf p) :: some (inD ins) :: some (Rf a.t) :: some (Rf l.st) :: some (I t) :: z6 :: some (I host) :: some (I peer) :: some (I sort) :: z10 :: z11 :: z12 :: z13 :: z14 :: z15 :: z16 :: z17 :: z18 :: z19 :: z20 :: z21 :: z22 :: z23 :: []) N) :
    WSs (XL P w K mg base f c A outer s_1 H E0) (Tabs T) W (jb.drop 2) (hM C CF p x y w1 l a ins fs2 fs dk2 dk M) (z0 :: some (Rf p) :: some (inD ins) :: some (Rf a.t) :: some (Rf l.st) :: some (I t) :: z6 :: some (I host) :: some (I peer) :: some (I sort) :: z10 :: z11 :: z12 :: z13 :: z14 :: z15 :: z16 :: z17 :: z18 :: z19 :: z20 :: z21 :: z22 :: z23 :: []) N := by
  obtain ⟨fd, md, gd⟩ := L.door
  refine wss_cons (ws_if (wt_cmp cx.hu ?_))
  walk_at "x"
  refine ite_d (fun _ => ?_) (fun _ => wss_nil (hN l dk2 dk σ _ _ _ _ _ _ _ _ _ _ _ _ _ _ _ _ ⟨iv.eq, iv.few, iv.ok, iv.d1.up (Nat.le_succ _), iv.d2.up (Nat.le_succ _), iv.nd2, iv.pairs, iv.used⟩))
  refine wss_cons (ws_set 10 cx.nd (we_sp (we_told cx TX rfl L.told (LamX.lamS_by (by show LamX.lamSB (defScope s_law) _ = true; decide +kernel)) ?_)))
  rintro Y E ⟨A', outer', s', H0, f', c', rfl⟩ cy
  have hx := hM_t (C := C) (CF := CF) (p := p) (x := x) (y := y) (w := w1) (l := l) (a := a) (ins := ins) (fs2 := fs2) (fs := fs) (dk2 := dk2) (dk := dk) (M := M)
  refine we_meth cy gd (by decide) L.tc.c md ?_
  walk_at "x"
  refine ⟨rfl, rfl, ?_⟩
  walk_at "x"
  have hp : peer ∉ ins := fun z => by have := (io.lo _ z).2; omega
  refine ⟨a, ins, fs, dk, σ, n, peer, host, _, rfl, sp_t, iv.d1, by omega, fun z => absurd ⟨hh, hp⟩ z, fun _ dk' hd' => ⟨_, sp_t', ?_⟩⟩
  refine wss_cons (ws_dput cx (we_dictPs cx L.dict rfl (we_bin cx.gs (we_listItems cx L.list rfl (we_dget cx ?_)))))
  walk_at "x"
  refine ⟨_, dv_k 1 rfl "doors" rfl, ?_⟩
  refine ⟨2, l.dr, dk2, rfl, rfl, ?_⟩
  walk_at "x"
  refine BinD.addL (by rw [List.length_map]; have := iv.d2.len; exact sz1 (by show dk2.length + 1 ≤ _; omega)) ?_
  refine ⟨_, dk2 ++ [(.inl peer, I host)], .lst _, by rw [List.map_append]; rfl, fun q => ?_⟩
  rw [merge_one iv.nd2]
  walk_at "x"
  refine DP.k 2 rfl (Sum.inr "doors") (sz2 (by show 3 < 1000000; decide)) ?_
  refine wss_sp (M0 := hM C CF p x y w1 ⟨l.st, q⟩ a ins fs2 fs (putM dk2 (.inl peer) (I host)) dk' M) ⟨(q, O.dK (putM dk2 (.inl peer) (I host))) :: (p, O.lst [I x, I y, I w1]) :: (l.st, O.dK (stF ins q fs2)) :: (rwM fs2 ++ (trM C CF a ins fs dk' ++ M)), (List.Perm.swap _ _ _).trans (.cons _ (.swap _ _ _)), ?_⟩ ?_
  · exact List.Sublist.cons_cons _ (List.Sublist.cons_cons _ (List.Sublist.cons_cons _ (List.sublist_cons_self _ _)))
  · walk_at "x"
    refine wss_one (ws_if (wt_cmp cx.hu ?_))
    walk_at "x"
    exact wss_nil (hN ⟨l.st, q⟩ _ _ (updI σ peer host) _ _ _ _ _ _ _ _ _ _ _ _ _ _ _ _ ⟨iv.eq, iv.few, iv.ok, hd', dr_put iv.d2, put_nd iv.nd2, iv.pairs, iv.used⟩)
end

end K24
set_option maxRecDepth 100000
set_option maxHeartbeats 4000000

namespace K24
open PySem PySem.Spec PyProof.Rows L2 Wv
open LamX (CodeO TabS Tabs ExtN TabB lamEnv lamCx LamS)
local macro_rules | `(tactic| walk_at "e.name") => `(tactic| first
    | refine we_var 0 _ rfl (by first | exact .inl rfl | exact .inr (.inl rfl) | exact .inr (.inr rfl)) rfl ?_
    | refine we_var 1 _ rfl (by first | exact .inl rfl | exact .inr (.inl rfl) | exact .inr (.inr rfl)) rfl ?_
    | refine we_var 2 _ rfl (by first | exact .inl rfl | exact .inr (.inl rfl) | exact .inr (.inr rfl)) rfl ?_
    | refine we_var 3 _ rfl (by first | exact .inl rfl | exact .inr (.inl rfl) | exact .inr (.inr rfl)) rfl ?_
    | refine we_var 4 _ rfl (by first | exact .inl rfl | exact .inr (.inl rfl) | exact .inr (.inr rfl)) rfl ?_
    | refine we_var 5 _ rfl (by first | exact .inl rfl | exact .inr (.inl rfl) | exact .inr (.inr rfl)) rfl ?_
    | refine we_var 6 _ rfl (by first | exact .inl rfl | exact .inr (.inl rfl) | exact .inr (.inr rfl)) rfl ?_
    | refine we_var 7 _ rfl (by first | exact .inl rfl | exact .inr (.inl rfl) | exact .inr (.inr rfl)) rfl ?_
    | refine we_var 8 _ rfl (by first | exact .inl rfl | exact .inr (.inl rfl) | exact .inr (.inr rfl)) rfl ?_
    | refine we_var 9 _ rfl (by first | exact .inl rfl | exact .inr (.inl rfl) | exact .inr (.inr rfl)) rfl ?_
    | refine we_var 10 _ rfl (by first | exact .inl rfl | exact .inr (.inl rfl) | exact .inr (.inr rfl)) rfl ?_
    | refine we_var 11 _ rfl (by first | exact .inl rfl | exact .inr (.inl rfl) | exact .inr (.inr rfl)) rfl ?_
    | refine we_var 12 _ rfl (by first | exact .inl rfl | exact .inr (.inl rfl) | exact .inr (.inr rfl)) rfl ?_
    | refine we_var 13 _ rfl (by first | exact .inl rfl | exact .inr (.inl rfl) | exact .inr (.inr rfl)) rfl ?_
    | refine we_var 14 _ rfl (by first | exact .inl rfl | exact .inr (.inl rfl) | exact .inr (.inr rfl)) rfl ?_
    | refine we_var 15 _ rfl (by first | exact .inl rfl | exact .inr (.inl rfl) | exact .inr (.inr rfl)) rfl ?_
    | refine we_var 16 _ rfl (by first | exact .inl rfl | exact .inr (.inl rfl) | exact .inr (.inr rfl)) rfl ?_
    | refine we_var 17 _ rfl (by first | exact .inl rfl | exact .inr (.inl rfl) | exact .inr (.inr rfl)) rfl ?_
    | refine we_var 18 _ rfl (by first | exact .inl rfl | exact .inr (.inl rfl) | exact .inr (.inr rfl)) rfl ?_
    | refine we_var 19 _ rfl (by first | exact .inl rfl | exact .inr (.inl rfl) | exact .inr (.inr rfl)) rfl ?_
    | refine we_var 20 _ rfl (by first | exact .inl rfl | exact .inr (.inl rfl) | exact .inr (.inr rfl)) rfl ?_
    | refine we_var 21 _ rfl (by first | exact .inl rfl | exact .inr (.inl rfl) | exact .inr (.inr rfl)) rfl ?_
    | refine we_var 22 _ rfl (by first | exact .inl rfl | exact .inr (.inl rfl) | exact .inr (.inr rfl)) rfl ?_
    | refine we_var 23 _ rfl (by first | exact .inl rfl | exact .inr (.inl rfl) | exact .inr (.inr rfl)) rfl ?_
    | refine we_var 24 _ rfl (by first | exact .inl rfl | exact .inr (.inl rfl) | exact .inr (.inr rfl)) rfl ?_
    | refine we_var 25 _ rfl (by first | exact .inl rfl | exact .inr (.inl rfl) | exact .inr (.inr rfl)) rfl ?_
    | refine we_var 26 _ rfl (by first | exact .inl rfl | exact .inr (.inl rfl) | exact .inr (.inr rfl)) rfl ?_
    | refine we_var 27 _ rfl (by first | exact .inl rfl | exact .inr (.inl rfl) | exact .inr (.inr rfl)) rfl ?_
    | refine we_var 28 _ rfl (by first | exact .inl rfl | exact .inr (.inl rfl) | exact .inr (.inr rfl)) rfl ?_
    | refine we_var 29 _ rfl (by first | exact .inl rfl | exact .inr (.inl rfl) | exact .inr (.inr rfl)) rfl ?_
    | refine we_globI (by assumption) rfl ?_
    | refine we_globS (by assumption) rfl ?_)
local macro_rules | `(tactic| walk_at "e.const") => `(tactic| first
    | refine we_int ?_
    | refine we_str ?_
    | refine we_bl ?_
    | refine we_non ?_)
local macro_rules | `(tactic| walk_at "e.call") => `(tactic| first
    | refine we_len (by assumption) rfl ?_
    | refine we_int2 (by assumption) rfl ?_
    | refine we_tuple (Ct.gs (by assumption)) (by assumption) rfl ?_
    | refine we_abs (by assumption) rfl ?_
    | refine we_find ?_)
local macro_rules | `(tactic| walk_at "e.we") => `(tactic| first
    | (refine gNm ?_; walk_at "e.name")
    | (refine gConst ?_; walk_at "e.const")
    | refine we_bin (Ct.gs (by assumption)) ?_
    | (refine gCall ?_; walk_at "e.call")
    | refine we_cmp (Ct.hu (by assumption)) ?_
    | refine we_ix ?_
    | refine we_slice (Ct.gs (by assumption)) ?_
    | refine we_fld ?_
    | refine we_tup (Ct.gs (by assumption)) ?_
    | refine we_chain (Ct.hu (by assumption)) ?_
    | refine we_lst1 (Ct.gs (by assumption)) ?_
    | refine we_ifx ?_
    | refine we_and ?_
    | refine we_or ?_
    | refine we_one ?_
    | refine we_not ?_
    | refine we_negI ?_
    | refine we_neg ?_)
local macro_rules | `(tactic| walk_at "e.wt") => `(tactic| first
    | refine wt_cmp (Ct.hu (by assumption)) ?_
    | refine wt_chain (Ct.hu (by assumption)) ?_
    | refine wt_not ?_
    | refine wt_bool ?_
    | refine wt_val ?_)
local macro_rules | `(tactic| walk_at "e.ww") => `(tactic| first
    | refine ww_and ?_
    | refine ww_or ?_
    | refine ww_and1 ?_
    | refine ww_or1 ?_)
local macro_rules | `(tactic| walk_at "e.wa") => `(tactic| first
    | refine wa_nil ?_
    | refine wa_cons ?_)
local macro_rules | `(tactic| walk_at "e.wss") => `(tactic| first
    | refine wss_cons ?_
    | refine wss_nil ?_)
local macro_rules | `(tactic| walk_at "e.ws") => `(tactic| first
    | refine ws_if ?_
    | refine ws_expr (we_append (Ct.gs (by assumption)) ?_ (pe_bm PySem.F.plainAttrs_list PySem.F.slot_list_append PySem.F.type_list_append mt_append pe_wp pa_wp))
    | refine ws_fldSub (Ct.gs (by assumption)) ?_
    | refine ws_fldAddW (Ct.gs (by assumption)) ?_
    | refine ws_expr ?_
    | refine ws_set 0 (Ct.nd (by assumption)) ?_
    | refine ws_set 1 (Ct.nd (by assumption)) ?_
    | refine ws_set 2 (Ct.nd (by assumption)) ?_
    | refine ws_set 3 (Ct.nd (by assumption)) ?_
    | refine ws_set 4 (Ct.nd (by assumption)) ?_
    | refine ws_set 5 (Ct.nd (by assumption)) ?_
    | refine ws_set 6 (Ct.nd (by assumption)) ?_
    | refine ws_set 7 (Ct.nd (by assumption)) ?_
    | refine ws_set 8 (Ct.nd (by assumption)) ?_
    | refine ws_set 9 (Ct.nd (by assumption)) ?_
    | refine ws_set 10 (Ct.nd (by assumption)) ?_
    | refine ws_set 11 (Ct.nd (by assumption)) ?_
    | refine ws_set 12 (Ct.nd (by assumption)) ?_
    | refine ws_set 13 (Ct.nd (by assumption)) ?_
    | refine ws_set 14 (Ct.nd (by assumption)) ?_
    | refine ws_set 15 (Ct.nd (by assumption)) ?_
    | refine ws_set 16 (Ct.nd (by assumption)) ?_
    | refine ws_set 17 (Ct.nd (by assumption)) ?_
    | refine ws_set 18 (Ct.nd (by assumption)) ?_
    | refine ws_set 19 (Ct.nd (by assumption)) ?_
    | refine ws_set 20 (Ct.nd (by assumption)) ?_
    | refine ws_set 21 (Ct.nd (by assumption)) ?_
    | refine ws_set 22 (Ct.nd (by assumption)) ?_
    | refine ws_set 23 (Ct.nd (by assumption)) ?_
    | refine ws_set 24 (Ct.nd (by assumption)) ?_
    | refine ws_set 25 (Ct.nd (by assumption)) ?_
    | refine ws_set 26 (Ct.nd (by assumption)) ?_
    | refine ws_set 27 (Ct.nd (by assumption)) ?_
    | refine ws_set 28 (Ct.nd (by assumption)) ?_
    | refine ws_set 29 (Ct.nd (by assumption)) ?_
    | refine ws_sub (Ct.gs (by assumption)) ?_ (fun a b => pg_sub a b set_list)
    | refine ws_fld (Ct.gs (by assumption)) ?_
    | refine ws_pass ?_
    | refine ws_break ?_
    | refine ws_cont ?_)
local macro_rules | `(tactic| walk_at "e.bin") => `(tactic| first
    | refine BinD.addI ?_
    | refine BinD.subI ?_
    | refine BinD.modP (by assumption) ?_
    | refine BinD.divP (by assumption) ?_
    | refine BinD.modI (by decide) ?_
    | refine BinD.modI (by assumption) ?_
    | refine BinD.divI (by decide) (by decide) ?_
    | refine BinD.divI (by assumption) (by assumption) ?_
    | refine BinD.mulI (by first | exact .inl ⟨by decide, by decide⟩ | exact .inr ⟨by decide, by decide⟩) ?_
    | refine BinD.xorI ?_
    | refine BinD.powI ⟨by decide, by decide, by decide⟩ ?_)
local macro_rules | `(tactic| walk_at "e.cmp") => `(tactic| first
    | refine CmpD.lt ?_
    | refine CmpD.le ?_
    | refine CmpD.gt ?_
    | refine CmpD.ge ?_
    | refine CmpD.isN ?_
    | refine CmpD.notN ?_
    | refine CmpD.neI_s ?_
    | refine CmpD.neT_s ?_
    | refine CmpD.neZ_s ?_
    | refine CmpD.eqZ_s ?_
    | refine CmpD.neN_s ?_
    | refine CmpD.eqN_s ?_
    | refine CmpD.neTZ ?_
    | refine CmpD.eqTZ ?_
    | refine CmpD.eqI ?_
    | refine CmpD.neI ?_
    | refine CmpD.eqZ ?_
    | refine CmpD.neZ ?_)
local macro_rules | `(tactic| walk_at "e.is") => `(tactic| first
    | refine gSz ?_
    | refine gFld (by assumption) (by assumption) rfl ?_
    | refine gFldS (by assumption) (by assumption) (by first | decide | (repeat (first | refine plA ?_ | refine plB ?_)); simp) ?_
    | refine gFldU (by first | decide | (repeat (first | refine plA ?_ | refine plB ?_)); simp) ?_
    | refine IsI.mk ?_
    | refine IsT.mk ?_
    | refine IsL.mk ?_
    | refine IsZ.mk ?_
    | refine IsB.mk ?_
    | refine OwL.mk 0 rfl ?_
    | refine OwL.mk 1 rfl ?_
    | refine OwL.mk 2 rfl ?_
    | refine OwL.mk 3 rfl ?_
    | refine OwL.mk 4 rfl ?_
    | refine OwL.mk 5 rfl ?_
    | refine OwI.mk 0 rfl ?_
    | refine OwI.mk 1 rfl ?_
    | refine OwI.mk 2 rfl ?_
    | refine OwI.mk 3 rfl ?_
    | refine OwI.mk 4 rfl ?_
    | refine OwI.mk 5 rfl ?_
    | refine OwI.mk _ (by assumption) ?_
    | refine OwI.mk _ (set_at (by assumption)) ?_
    | refine OwI.mk _ (set_at (set_at (by assumption))) ?_
    | refine OwL.mk _ (by assumption) ?_
    | refine OwL.mk _ (set_at (by assumption)) ?_
    | refine OwL.mk _ (set_at (set_at (by assumption))) ?_
    | refine OwL.mk _ (set_at (set_at (set_at (by assumption)))) ?_
    | refine IxD.own 0 rfl rfl ?_
    | refine IxD.own 1 rfl rfl ?_
    | refine IxD.own 2 rfl rfl ?_
    | refine IxD.own 3 rfl rfl ?_
    | refine IxD.own 4 rfl rfl ?_
    | refine IxD.own 5 rfl rfl ?_
    | refine IxD.own _ (by assumption) rfl ?_
    | refine IxD.own _ (set_at (by assumption)) rfl ?_
    | refine IxD.own _ (set_at (set_at (by assumption))) rfl ?_
    | refine IxD.own _ (set_at (set_at (set_at (by assumption)))) rfl ?_
    | refine IxD.tup rfl ?_
    | refine IxD.lst rfl ?_
    | refine IntD.int ?_
    | refine IntD.bl ?_
    | refine TruD.bl ?_
    | refine TruD.int ?_
    | refine TruD.tup ?_
    | refine TruD.lst ?_
    | refine LenD.tup ?_
    | refine LenD.lst ?_
    | refine SeqD.tup ?_
    | refine SeqD.lst ?_
    | refine SlD.tup ?_
    | refine SlD.lst ?_
    | refine SeqD.own 0 rfl ?_
    | refine SeqD.own 1 rfl ?_
    | refine SeqD.own 2 rfl ?_
    | refine SeqD.own 3 rfl ?_
    | refine SeqD.own 4 rfl ?_
    | refine SeqD.own 5 rfl ?_
    | refine LenD.own 0 rfl ?_
    | refine LenD.own 1 rfl ?_
    | refine LenD.own 2 rfl ?_
    | refine LenD.own 3 rfl ?_
    | refine LenD.own 4 rfl ?_
    | refine LenD.own 5 rfl ?_)
local macro_rules | `(tactic| walk_at "e1") => `(tactic| first
    | (refine gWE ?_; walk_at "e.we")
    | (refine gBinD ?_; walk_at "e.bin")
    | (refine gWSs ?_; walk_at "e.wss")
    | (refine gWS ?_; walk_at "e.ws")
    | (refine gWT ?_; walk_at "e.wt")
    | (refine gCmpD ?_; walk_at "e.cmp")
    | (refine gWA ?_; walk_at "e.wa")
    | (refine gWW ?_; walk_at "e.ww")
    | refine iteT ?_
    | refine iteF ?_
    | walk_at "e.is")
local macro_rules | `(tactic| walk_at "x1") => `(tactic| first
    | (refine gWE ?_; walk_at "e.we")
    | (refine gBinD ?_; walk_at "e.bin")
    | (refine gWT ?_; walk_at "e.wt")
    | (refine gCmpD ?_; walk_at "e.cmp")
    | (refine gWA ?_; walk_at "e.wa")
    | (refine gWW ?_; walk_at "e.ww")
    | refine iteT ?_
    | refine iteF ?_
    | walk_at "e.is")
local macro_rules | `(tactic| walk_at "e") => `(tactic| repeat (walk_at "e1"))
local macro_rules | `(tactic| walk_at "x") => `(tactic| repeat (walk_at "x1"))
theorem six_at {a b c d e f i : Int} {B : Int} (h0 : 0 ≤ i) (h6 : i < 6) (ha : 0 ≤ a ∧ a < B) (hb : 0 ≤ b ∧ b < B) (hc : 0 ≤ c ∧ c < B) (hd : 0 ≤ d ∧ d < B) (he : 0 ≤ e ∧ e < B) (hf : 0 ≤ f ∧ f < B) : ∃ v, atI [I a, I b, I c, I d, I e, I f] i = some (I v) ∧ 0 ≤ v ∧ v < B := by
  rcases (show i = 0 ∨ i = 1 ∨ i = 2 ∨ i = 3 ∨ i = 4 ∨ i = 5 by omega) with rfl | rfl | rfl | rfl | rfl | rfl
  · exact ⟨a, rfl, ha⟩
  · exact ⟨b, rfl, hb⟩
  · exact ⟨c, rfl, hc⟩
  · exact ⟨d, rfl, hd⟩
  · exact ⟨e, rfl, he⟩
  · exact ⟨f, rfl, hf⟩
theorem out_live {ins : List Int} {cs fs' : List Fw} {σ : Int → Option Int} {src tgt t : Int} {s : Seg} {r : Option (Int × Seg)} (h : ∀ f ∈ cs, live t f = true) (h1 : OutR ins cs σ src tgt t s r fs') : ∀ f ∈ fs', live t f = true := by
  have now : ∀ f : Fw, f.used = t → live t f = true := fun f e => by unfold live; rw [e]; exact decide_eq_true (by omega)
  cases h1 with
  | no => exact h
  | door => exact h
  | shut => exact h
  | full => exact h
  | old _ _ i f hf =>
    intro g hg
    rcases mem_set' hg with z | z
    · exact h g z
    · rw [z]; exact now _ rfl
  | new =>
    intro g hg
    rcases List.mem_append.mp hg with z | z
    · exact h g z
    · simp only [List.mem_cons, List.not_mem_nil, or_false] at z
      rw [z]; exact now _ rfl
theorem out_body {ins : List Int} {cs fs' : List Fw} {σ : Int → Option Int} {src tgt t : Int} {s : Seg} {r : Option (Int × Seg)} (h : OutR ins cs σ src tgt t s r fs') : ∀ x s', r = some (x, s') → s'.body = s.body := by
  intro x s' e
  cases h <;> cases e <;> rfl
theorem in_body {cs fs' : List Fw} {σ : Int → Option Int} {src t : Int} {s : Seg} {r : Option (Int × Seg)} (h : InR cs σ src t s r fs') : ∀ x s', r = some (x, s') → s'.body = s.body := by
  intro x s' e
  cases h <;> cases e <;> rfl
section
variable {P : Program} {w : World} {K : PySem.W.Frag} {mg : Str → Option Value} {base : Heap} {T : List (Addr × Str)} {f c CE C CF : Addr} {A : Around} {outer : List Env} {s_1 : Shared} {H : Hp} {E0 : XK} {W : WX} {M : Ms} {N : En} {p : Addr} {l : La} {a : Ta} {ins : List Int} {fs2 fs : List Fw} {dk2 dk : List (Key × D)} {σ : Int → Option Int} {n : Nat} {t x y w1 host peer sort : Int} {s : Seg} {z0 z1 z2 z3 z4 z5 z6 z7 z8 z9 z10 z11 z12 z13 z14 z15 z16 z17 z18 z19 z20 z21 z22 z23 : Option D}
theorem st_seg (L : LawH P w K mg base T CE C CF) (cx : Ct (XL P w K mg base f c A outer s_1 H E0) (Tabs T) W 7) (io : InsOk ins) (hh : host ∈ ins) (p0 : 20 ≤ peer) (p1 : peer < 23)
    (hN : ∀ (x y w1 : Int) (s : Seg) (z0 z6 z10 z13 z14 z15 z16 z17 z18 z19 z20 z21 z22 z23 : Option D), s.Ok → (∃ bs : List Int, s.body = bs.map fun i => I i) → WSs (XL P w K mg base f c A outer s_1 H E0) (Tabs T) W (jb.drop 5) (hM C CF p x y w1 l a ins fs2 fs dk2 dk M) (z0 :: some (Rf p) :: some (inD ins) :: some (Rf a.t) :: some (Rf l.st) :: some (I t) :: z6 :: some (I host) :: some (I peer) :: some (I sort) :: z10 :: some (I s.opener) :: some s.d :: z13 :: z14 :: z15 :: z16 :: z17 :: z18 :: z19 :: z20 :: z21 :: z22 :: z23 :: []) N) :
    WSs (XL P w K mg base f c A outer s_1 H E0) (Tabs T) W (jb.drop 3) (hM C CF p x y w1 l a ins fs2 fs dk2 dk M) (z0 :: some (Rf p) :: some (inD ins) :: some (Rf a.t) :: some (Rf l.st) :: some (I t) :: z6 :: some (I host) :: some (I peer) :: some (I sort) :: z10 :: z11 :: z12 :: z13 :: z14 :: z15 :: z16 :: z17 :: z18 :: z19 :: z20 :: z21 :: z22 :: z23 :: []) N := by
  obtain ⟨fr, mr, gr⟩ := L.roll
  have lo := io.lo
  obtain ⟨r0, hr0⟩ := io.hd
  subst hr0
  refine wss_cons (ws_set 11 cx.nd (we_ix ?_))
  walk_at "x"
  refine .lst (d := I 1) (atI_zero _ _) ?_
  walk_at "x"
  refine we_call cx gr (by decide) mr rfl ?_
  walk_at "x"
  refine ⟨p, x, y, w1, _, 0, rfl, rfl, by decide, by decide, fun x y w1 v a1 a2 => ?_⟩
  have h1 := lo _ hh
  obtain ⟨o, eo, o0, o1⟩ := six_at (a := host) (b := host) (c := peer) (d := 90) (e := 1) (f := 77) (B := 65536) a1 a2 ⟨by omega, by omega⟩ ⟨by omega, by omega⟩ ⟨by omega, by omega⟩ ⟨by decide, by decide⟩ ⟨by decide, by decide⟩ ⟨by decide, by decide⟩
  refine .lst eo ?_
  refine wss_cons (ws_set 12 cx.nd (we_tup cx.gs ?_))
  walk_at "x"
  refine we_call cx gr (by decide) mr rfl ?_
  walk_at "x"
  refine ⟨p, x, y, w1, _, 0, rfl, rfl, by decide, by decide, fun x y w1 v1 b1 b2 => ?_⟩
  walk_at "x"
  refine we_call cx gr (by decide) mr rfl ?_
  walk_at "x"
  refine ⟨p, x, y, w1, _, 0, rfl, rfl, by decide, by decide, fun x y w1 v2 c1 c2 => ?_⟩
  walk_at "x"
  refine we_call cx gr (by decide) mr rfl ?_
  walk_at "x"
  refine ⟨p, x, y, w1, _, 0, rfl, rfl, by decide, by decide, fun x y w1 v3 d1 d2 => ?_⟩
  walk_at "x"
  refine we_call cx gr (by decide) mr rfl ?_
  walk_at "x"
  refine ⟨p, x, y, w1, _, 0, rfl, rfl, by decide, by decide, fun x y w1 v4 e1 e2 => ?_⟩
  walk_at "x"
  refine we_call cx gr (by decide) mr rfl ?_
  walk_at "x"
  refine ⟨p, x, y, w1, _, 0, rfl, rfl, by decide, by decide, fun x y w1 v5 f1 f2 => ?_⟩
  walk_at "x"
  refine we_call cx gr (by decide) mr rfl ?_
  walk_at "x"
  refine ⟨p, x, y, w1, _, 0, rfl, rfl, by decide, by decide, fun x y w1 v6 g1 g2 => ?_⟩
  walk_at "x"
  refine we_tuple cx.gs L.tuple rfl ?_
  refine we_lcG cx cx.nd [("k", 20)] (fun _ _ i M' acc => ∃ (x y w1 : Int) (bs : List Int), bs.length = i ∧ M' = hM C CF p x y w1 l a (1 :: r0) fs2 fs dk2 dk M ∧ acc = bs.map fun i => I i) (gok_name 20) (gwipe_name 20) (amono_name 20) (fun s H C cl fp => pgn 20 cx.nd) (blkOk_by (by show blkC N_law (defScope s_law) _ _ = true; decide +kernel)) (wip_of (wi_rng1 L.range rfl ?_))
  walk_at "x"
  refine we_call cx gr (by decide) mr rfl ?_
  walk_at "x"
  refine ⟨p, x, y, w1, _, 0, rfl, rfl, by decide, by decide, fun x y w1 v7 h1 h2 => ?_⟩
  walk_at "x"
  refine ⟨_, rfl, by omega, by omega, fun _ _ _ => trivial, fun _ _ _ _ => trivial, ⟨x, y, w1, [], rfl, rfl, rfl⟩, ?_, ?_⟩
  · intro i z hz
    obtain ⟨hi, rfl⟩ := rng_at hz
    refine turn_nil (amono_name 20) ?_
    rintro q2 M' acc ⟨x, y, w1, bs, hb, rfl, rfl⟩ Y' ⟨s', H', C', cl, fp', rfl⟩ cy
    refine we_call cy gr (by decide) mr rfl ?_
    walk_at "x"
    refine ⟨p, x, y, w1, _, 1, rfl, rfl, by decide, by decide, fun x y w1 v8 i1 i2 => ?_⟩
    exact ⟨_, rfl, by rw [List.length_map]; exact sz2 (by omega), x, y, w1, bs ++ [v8], by rw [List.length_append]; show bs.length + 1 = _; omega, rfl, by rw [List.map_append]; rfl⟩
  · rintro M' acc ⟨x, y, w1, bs, hb, rfl, rfl⟩
    rw [List.length_map, List.length_range] at hb
    walk_at "x"
    exact hN x y w1 ⟨1 + v1, o, 1 + v2, v3, v4, v5, decide (v6 = 0), bs.map fun i => I i⟩ _ _ _ _ _ _ _ _ _ _ _ _ _ _ ⟨by show 1 ≤ 1 + v1; omega, by show 1 + v1 ≤ 3; omega, o0, o1, by show 0 ≤ 1 + v2; omega, by show 1 + v2 < 16384; omega, d1, by show v3 < 16384; omega, e1, by show v4 < 16384; omega, f1, by show v5 < 16384; omega, by show (bs.map fun i => I i).length < 100; rw [List.length_map]; omega⟩ ⟨bs, rfl⟩
abbrev goB : List Stmt := ifT (jb.getD 5 nop)
theorem st_out (L : LawH P w K mg base T CE C CF) (cx : Ct (XL P w K mg base f c A outer s_1 H E0) (Tabs T) W 7) (ts : L2.Takes (XL P w K mg base f c A outer s_1 H E0) W) {src tgt : Int} (iv : Iv fs2 fs dk2 dk σ n t) (ok : s.Ok)
    (hN : ∀ (a' : Ta) (fs2' fs' : List Fw) (r : Option (Int × Seg)) (z0 z6 z10 z17 z18 z19 z20 z21 z22 z23 : Option D), a'.t = a.t → Iv fs2' fs' dk2 dk σ n t → resOk r → (∀ x s', r = some (x, s') → s'.body = s.body) → OutR ins (fs.filter (live t)) σ src tgt t s r fs' → N.nx (hM C CF p x y w1 l a' ins fs2' fs' dk2 dk M) (z0 :: some (Rf p) :: some (inD ins) :: some (Rf a.t) :: some (Rf l.st) :: some (I t) :: z6 :: some (I host) :: some (I peer) :: some (I sort) :: z10 :: some (I s.opener) :: some s.d :: some (I src) :: some (I tgt) :: some (resD r) :: some (resB r) :: z17 :: z18 :: z19 :: z20 :: z21 :: z22 :: z23 :: [])) :
    WSs (XL P w K mg base f c A outer s_1 H E0) (Tabs T) W (goB.drop 1) (hM C CF p x y w1 l a ins fs2 fs dk2 dk M) (z0 :: some (Rf p) :: some (inD ins) :: some (Rf a.t) :: some (Rf l.st) :: some (I t) :: z6 :: some (I host) :: some (I peer) :: some (I sort) :: z10 :: some (I s.opener) :: some s.d :: some (I src) :: some (I tgt) :: z15 :: z16 :: z17 :: z18 :: z19 :: z20 :: z21 :: z22 :: z23 :: []) N := by
  obtain ⟨fo, mo, go⟩ := L.lout
  obtain ⟨fu, mu, gu⟩ := L.out
  obtain ⟨fb, mb, gb⟩ := L.segb
  have few2 := core_len iv.eq
  have few := iv.few
  refine wss_cons (ws_set 15 cx.nd (we_sp (we_call cx go (by decide) mo rfl ?_)))
  walk_at "x"
  refine lout_sp (σ := σ) sp_l iv.d2 (by omega) fun r2 fs2' h2 => ⟨_, sp_l', ?_⟩
  have hx := hM_t (C := C) (CF := CF) (p := p) (x := x) (y := y) (w := w1) (l := l) (a := a) (ins := ins) (fs2 := fs2') (fs := fs) (dk2 := dk2) (dk := dk) (M := M)
  refine wss_one (ws_set 16 cx.nd (we_sp (we_methC cx ts gu (by decide) L.tc.c mu ?_)))
  walk_at "x"
  refine ⟨rfl, rfl, ?_⟩
  walk_at "x"
  refine we_call cx gb (by decide) mb rfl ?_
  walk_at "x"
  refine ⟨s, rfl, ok, ?_⟩
  walk_at "x"
  refine out_sp (σ := σ) sp_t iv.d1 few iv.ok ok fun fl' r fs' h1 hr => ⟨_, sp_t', ?_⟩
  obtain ⟨e, iv'⟩ := iv_out (iv_live iv t) ok h2 h1
  subst e
  exact hN { a with fl := fl' } fs2' fs' r2 _ _ _ _ _ _ _ _ _ _ rfl iv' hr (out_body h1) h1
theorem st_in (L : LawH P w K mg base T CE C CF) (cx : Ct (XL P w K mg base f c A outer s_1 H E0) (Tabs T) W 7) (ts : L2.Takes (XL P w K mg base f c A outer s_1 H E0) W) (iv : Iv fs2 fs dk2 dk σ n t) (ok : s.Ok)
    (hN : ∀ (a' : Ta) (fs2' fs' : List Fw) (r : Option (Int × Seg)) (z0 z6 z10 z13 z14 z17 z18 z19 z20 z21 z22 z23 : Option D), a'.t = a.t → Iv fs2' fs' dk2 dk σ n t → resOk r → (∀ x s', r = some (x, s') → s'.body = s.body) → N.nx (hM C CF p x y w1 l a' ins fs2' fs' dk2 dk M) (z0 :: some (Rf p) :: some (inD ins) :: some (Rf a.t) :: some (Rf l.st) :: some (I t) :: z6 :: some (I host) :: some (I peer) :: some (I sort) :: z10 :: some (I s.opener) :: some s.d :: z13 :: z14 :: some (resD r) :: some (resB r) :: z17 :: z18 :: z19 :: z20 :: z21 :: z22 :: z23 :: [])) :
    WSs (XL P w K mg base f c A outer s_1 H E0) (Tabs T) W (ifE (jb.getD 5 nop)) (hM C CF p x y w1 l a ins fs2 fs dk2 dk M) (z0 :: some (Rf p) :: some (inD ins) :: some (Rf a.t) :: some (Rf l.st) :: some (I t) :: z6 :: some (I host) :: some (I peer) :: some (I sort) :: z10 :: some (I s.opener) :: some s.d :: z13 :: z14 :: z15 :: z16 :: z17 :: z18 :: z19 :: z20 :: z21 :: z22 :: z23 :: []) N := by
  obtain ⟨fo, mo, go⟩ := L.lin
  obtain ⟨fu, mu, gu⟩ := L.inn
  obtain ⟨fb, mb, gb⟩ := L.segb
  have few2 := core_len iv.eq
  have few := iv.few
  refine wss_cons (ws_set 15 cx.nd (we_sp (we_call cx go (by decide) mo rfl ?_)))
  walk_at "x"
  refine lin_sp (σ := σ) sp_l iv.d2 (by omega) fun r2 fs2' h2 => ⟨_, sp_l', ?_⟩
  have hx := hM_t (C := C) (CF := CF) (p := p) (x := x) (y := y) (w := w1) (l := l) (a := a) (ins := ins) (fs2 := fs2') (fs := fs) (dk2 := dk2) (dk := dk) (M := M)
  refine wss_one (ws_set 16 cx.nd (we_sp (we_methC cx ts gu (by decide) L.tc.c mu ?_)))
  walk_at "x"
  refine ⟨rfl, rfl, ?_⟩
  walk_at "x"
  refine we_call cx gb (by decide) mb rfl ?_
  walk_at "x"
  refine ⟨s, rfl, ok, ?_⟩
  walk_at "x"
  refine in_sp (σ := σ) sp_t iv.d1 few iv.ok ok fun fl' r fs' h1 hr => ⟨_, sp_t', ?_⟩
  obtain ⟨e, iv'⟩ := iv_in (iv_live iv t) h2 h1
  subst e
  exact hN { a with fl := fl' } fs2' fs' r2 _ _ _ _ _ _ _ _ _ _ _ _ rfl iv' hr (in_body h1)
theorem st_go (L : LawH P w K mg base T CE C CF) (cx : Ct (XL P w K mg base f c A outer s_1 H E0) (Tabs T) W 7) (ts : L2.Takes (XL P w K mg base f c A outer s_1 H E0) W) (io : InsOk ins) (hh : host ∈ ins) (p0 : 20 ≤ peer) (p1 : peer < 23) (iv : Iv fs2 fs dk2 dk σ n t) (ok : s.Ok)
    (hN : ∀ (x y w1 : Int) (a' : Ta) (fs2' fs' : List Fw) (r : Option (Int × Seg)) (z0 z6 z10 z13 z14 z17 z18 z19 z20 z21 z22 z23 : Option D), a'.t = a.t → Iv fs2' fs' dk2 dk σ n t → resOk r → (∀ x s', r = some (x, s') → s'.body = s.body) → (sort < 5 → ∃ src tgt cs, z13 = some (I src) ∧ z14 = some (I tgt) ∧ tgt ≠ 90 ∧ OutR ins cs σ src tgt t s r fs' ∧ ∀ f ∈ fs', live t f = true) → WSs (XL P w K mg base f c A outer s_1 H E0) (Tabs T) W (jb.drop 6) (hM C CF p x y w1 l a' ins fs2' fs' dk2 dk M) (z0 :: some (Rf p) :: some (inD ins) :: some (Rf a.t) :: some (Rf l.st) :: some (I t) :: z6 :: some (I host) :: some (I peer) :: some (I sort) :: z10 :: some (I s.opener) :: some s.d :: z13 :: z14 :: some (resD r) :: some (resB r) :: z17 :: z18 :: z19 :: z20 :: z21 :: z22 :: z23 :: []) N) :
    WSs (XL P w K mg base f c A outer s_1 H E0) (Tabs T) W (jb.drop 5) (hM C CF p x y w1 l a ins fs2 fs dk2 dk M) (z0 :: some (Rf p) :: some (inD ins) :: some (Rf a.t) :: some (Rf l.st) :: some (I t) :: z6 :: some (I host) :: some (I peer) :: some (I sort) :: z10 :: some (I s.opener) :: some s.d :: z13 :: z14 :: z15 :: z16 :: z17 :: z18 :: z19 :: z20 :: z21 :: z22 :: z23 :: []) N := by
  obtain ⟨fr, mr, gr⟩ := L.roll
  have lo := io.lo
  obtain ⟨r0, hr0⟩ := io.hd
  have h1 := lo _ hh
  refine wss_cons (ws_if (wt_cmp cx.hu ?_))
  walk_at "x"
  refine ite_d (fun h5 => ?_) (fun h5 => ?_)
  · have key : ∀ (x y w1 src tgt : Int) (z0 z6 z10 z15 z16 z17 z18 z19 z20 z21 z22 z23 : Option D), tgt ≠ 90 → WSs (XL P w K mg base f c A outer s_1 H E0) (Tabs T) W (goB.drop 1) (hM C CF p x y w1 l a ins fs2 fs dk2 dk M) (z0 :: some (Rf p) :: some (inD ins) :: some (Rf a.t) :: some (Rf l.st) :: some (I t) :: z6 :: some (I host) :: some (I peer) :: some (I sort) :: z10 :: some (I s.opener) :: some s.d :: some (I src) :: some (I tgt) :: z15 :: z16 :: z17 :: z18 :: z19 :: z20 :: z21 :: z22 :: z23 :: []) { N with nx := fun M' ρ' => WSs (XL P w K mg base f c A outer s_1 H E0) (Tabs T) W (jb.drop 6) M' ρ' N } := by
      intro x y w1 src tgt z0 z6 z10 z15 z16 z17 z18 z19 z20 z21 z22 z23 h90
      refine st_out L cx ts iv ok fun a' fs2' fs' r z0 z6 z10 z17 z18 z19 z20 z21 z22 z23 ea iv' hr hb h1 => ?_
      exact hN x y w1 a' fs2' fs' r _ _ _ _ _ _ _ _ _ _ _ _ ea iv' hr hb fun _ => ⟨src, tgt, _, rfl, rfl, h90, h1, out_live (fun f hf => (List.mem_filter.mp hf).2) h1⟩
    refine wss_cons (ws_asg (pg_tup cx.hc (pgs_cons (pgn 13 cx.nd) (pgs_cons (pgn 14 cx.nd) pgs_nil))) gok_two (we_ifx (wt_cmp cx.hu ?_)))
    walk_at "x"
    refine we_call cx gr (by decide) mr rfl ?_
    walk_at "x"
    refine ⟨p, x, y, w1, _, 0, rfl, rfl, by decide, by decide, fun x y w1 v a1 a2 => ?_⟩
    walk_at "x"
    refine ite_d (fun _ => ?_) (fun _ => ?_)
    · walk_at "x"
      refine .lst (d := I 1) (by rw [hr0]; exact atI_zero _ _) ?_
      walk_at "x"
      refine we_call cx gr (by decide) mr rfl ?_
      walk_at "x"
      refine ⟨p, x, y, w1, _, 0, rfl, rfl, by decide, by decide, fun x y w1 v2 b1 b2 => ?_⟩
      obtain ⟨v5, e5, h5⟩ := three_at (a := peer) (b := peer) (c := 1) b1 b2
      refine .lst e5 ?_
      walk_at "x"
      refine ⟨_, rfl, rfl, _, _, rfl, _, _, rfl, rfl, ?_⟩
      exact key x y w1 host v5 _ _ _ _ _ _ _ _ _ _ _ _ (by omega)
    · walk_at "x"
      refine ⟨_, rfl, rfl, _, _, rfl, _, _, rfl, rfl, ?_⟩
      exact key x y w1 66 peer _ _ _ _ _ _ _ _ _ _ _ _ (by omega)
  · refine st_in L cx ts iv ok fun a' fs2' fs' r z0 z6 z10 z13 z14 z17 z18 z19 z20 z21 z22 z23 ea iv' hr hb => ?_
    exact hN x y w1 a' fs2' fs' r _ _ _ _ _ _ _ _ _ _ _ _ ea iv' hr hb fun z => absurd z h5
end

end K24
set_option maxRecDepth 100000
set_option maxHeartbeats 4000000

namespace K24
open PySem PySem.Spec PyProof.Rows L2 Wv
open LamX (CodeO TabS Tabs ExtN TabB lamEnv lamCx LamS)
local macro_rules | `(tactic| walk_at "e.name") => `(tactic| first
    | refine we_var 0 _ rfl (by first | exact .inl rfl | exact .inr (.inl rfl) | exact .inr (.inr rfl)) rfl ?_
    | refine we_var 1 _ rfl (by first | exact .inl rfl | exact .inr (.inl rfl) | exact .inr (.inr rfl)) rfl ?_
    | refine we_var 2 _ rfl (by first | exact .inl rfl | exact .inr (.inl rfl) | exact .inr (.inr rfl)) rfl ?_
    | refine we_var 3 _ rfl (by first | exact .inl rfl | exact .inr (.inl rfl) | exact .inr (.inr rfl)) rfl ?_
    | refine we_var 4 _ rfl (by first | exact .inl rfl | exact .inr (.inl rfl) | exact .inr (.inr rfl)) rfl ?_
    | refine we_var 5 _ rfl (by first | exact .inl rfl | exact .inr (.inl rfl) | exact .inr (.inr rfl)) rfl ?_
    | refine we_var 6 _ rfl (by first | exact .inl rfl | exact .inr (.inl rfl) | exact .inr (.inr rfl)) rfl ?_
    | refine we_var 7 _ rfl (by first | exact .inl rfl | exact .inr (.inl rfl) | exact .inr (.inr rfl)) rfl ?_
    | refine we_var 8 _ rfl (by first | exact .inl rfl | exact .inr (.inl rfl) | exact .inr (.inr rfl)) rfl ?_
    | refine we_var 9 _ rfl (by first | exact .inl rfl | exact .inr (.inl rfl) | exact .inr (.inr rfl)) rfl ?_
    | refine we_var 10 _ rfl (by first | exact .inl rfl | exact .inr (.inl rfl) | exact .inr (.inr rfl)) rfl ?_
    | refine we_var 11 _ rfl (by first | exact .inl rfl | exact .inr (.inl rfl) | exact .inr (.inr rfl)) rfl ?_
    | refine we_var 12 _ rfl (by first | exact .inl rfl | exact .inr (.inl rfl) | exact .inr (.inr rfl)) rfl ?_
    | refine we_var 13 _ rfl (by first | exact .inl rfl | exact .inr (.inl rfl) | exact .inr (.inr rfl)) rfl ?_
    | refine we_var 14 _ rfl (by first | exact .inl rfl | exact .inr (.inl rfl) | exact .inr (.inr rfl)) rfl ?_
    | refine we_var 15 _ rfl (by first | exact .inl rfl | exact .inr (.inl rfl) | exact .inr (.inr rfl)) rfl ?_
    | refine we_var 16 _ rfl (by first | exact .inl rfl | exact .inr (.inl rfl) | exact .inr (.inr rfl)) rfl ?_
    | refine we_var 17 _ rfl (by first | exact .inl rfl | exact .inr (.inl rfl) | exact .inr (.inr rfl)) rfl ?_
    | refine we_var 18 _ rfl (by first | exact .inl rfl | exact .inr (.inl rfl) | exact .inr (.inr rfl)) rfl ?_
    | refine we_var 19 _ rfl (by first | exact .inl rfl | exact .inr (.inl rfl) | exact .inr (.inr rfl)) rfl ?_
    | refine we_var 20 _ rfl (by first | exact .inl rfl | exact .inr (.inl rfl) | exact .inr (.inr rfl)) rfl ?_
    | refine we_var 21 _ rfl (by first | exact .inl rfl | exact .inr (.inl rfl) | exact .inr (.inr rfl)) rfl ?_
    | refine we_var 22 _ rfl (by first | exact .inl rfl | exact .inr (.inl rfl) | exact .inr (.inr rfl)) rfl ?_
    | refine we_var 23 _ rfl (by first | exact .inl rfl | exact .inr (.inl rfl) | exact .inr (.inr rfl)) rfl ?_
    | refine we_var 24 _ rfl (by first | exact .inl rfl | exact .inr (.inl rfl) | exact .inr (.inr rfl)) rfl ?_
    | refine we_var 25 _ rfl (by first | exact .inl rfl | exact .inr (.inl rfl) | exact .inr (.inr rfl)) rfl ?_
    | refine we_var 26 _ rfl (by first | exact .inl rfl | exact .inr (.inl rfl) | exact .inr (.inr rfl)) rfl ?_
    | refine we_var 27 _ rfl (by first | exact .inl rfl | exact .inr (.inl rfl) | exact .inr (.inr rfl)) rfl ?_
    | refine we_var 28 _ rfl (by first | exact .inl rfl | exact .inr (.inl rfl) | exact .inr (.inr rfl)) rfl ?_
    | refine we_var 29 _ rfl (by first | exact .inl rfl | exact .inr (.inl rfl) | exact .inr (.inr rfl)) rfl ?_
    | refine we_globI (by assumption) rfl ?_
    | refine we_globS (by assumption) rfl ?_)
local macro_rules | `(tactic| walk_at "e.const") => `(tactic| first
    | refine we_int ?_
    | refine we_str ?_
    | refine we_bl ?_
    | refine we_non ?_)
local macro_rules | `(tactic| walk_at "e.call") => `(tactic| first
    | refine we_len (by assumption) rfl ?_
    | refine we_int2 (by assumption) rfl ?_
    | refine we_tuple (Ct.gs (by assumption)) (by assumption) rfl ?_
    | refine we_abs (by assumption) rfl ?_
    | refine we_find ?_)
local macro_rules | `(tactic| walk_at "e.we") => `(tactic| first
    | (refine gNm ?_; walk_at "e.name")
    | (refine gConst ?_; walk_at "e.const")
    | refine we_bin (Ct.gs (by assumption)) ?_
    | (refine gCall ?_; walk_at "e.call")
    | refine we_cmp (Ct.hu (by assumption)) ?_
    | refine we_ix ?_
    | refine we_slice (Ct.gs (by assumption)) ?_
    | refine we_fld ?_
    | refine we_tup (Ct.gs (by assumption)) ?_
    | refine we_chain (Ct.hu (by assumption)) ?_
    | refine we_lst1 (Ct.gs (by assumption)) ?_
    | refine we_ifx ?_
    | refine we_and ?_
    | refine we_or ?_
    | refine we_one ?_
    | refine we_not ?_
    | refine we_negI ?_
    | refine we_neg ?_)
local macro_rules | `(tactic| walk_at "e.wt") => `(tactic| first
    | refine wt_cmp (Ct.hu (by assumption)) ?_
    | refine wt_chain (Ct.hu (by assumption)) ?_
    | refine wt_not ?_
    | refine wt_bool ?_
    | refine wt_val ?_)
local macro_rules | `(tactic| walk_at "e.ww") => `(tactic| first
    | refine ww_and ?_
    | refine ww_or ?_
    | refine ww_and1 ?_
    | refine ww_or1 ?_)
local macro_rules | `(tactic| walk_at "e.wa") => `(tactic| first
    | refine wa_nil ?_
    | refine wa_cons ?_)
local macro_rules | `(tactic| walk_at "e.wss") => `(tactic| first
    | refine wss_cons ?_
    | refine wss_nil ?_)
local macro_rules | `(tactic| walk_at "e.ws") => `(tactic| first
    | refine ws_if ?_
    | refine ws_expr (we_append (Ct.gs (by assumption)) ?_ (pe_bm PySem.F.plainAttrs_list PySem.F.slot_list_append PySem.F.type_list_append mt_append pe_wp pa_wp))
    | refine ws_fldSub (Ct.gs (by assumption)) ?_
    | refine ws_fldAddW (Ct.gs (by assumption)) ?_
    | refine ws_expr ?_
    | refine ws_set 0 (Ct.nd (by assumption)) ?_
    | refine ws_set 1 (Ct.nd (by assumption)) ?_
    | refine ws_set 2 (Ct.nd (by assumption)) ?_
    | refine ws_set 3 (Ct.nd (by assumption)) ?_
    | refine ws_set 4 (Ct.nd (by assumption)) ?_
    | refine ws_set 5 (Ct.nd (by assumption)) ?_
    | refine ws_set 6 (Ct.nd (by assumption)) ?_
    | refine ws_set 7 (Ct.nd (by assumption)) ?_
    | refine ws_set 8 (Ct.nd (by assumption)) ?_
    | refine ws_set 9 (Ct.nd (by assumption)) ?_
    | refine ws_set 10 (Ct.nd (by assumption)) ?_
    | refine ws_set 11 (Ct.nd (by assumption)) ?_
    | refine ws_set 12 (Ct.nd (by assumption)) ?_
    | refine ws_set 13 (Ct.nd (by assumption)) ?_
    | refine ws_set 14 (Ct.nd (by assumption)) ?_
    | refine ws_set 15 (Ct.nd (by assumption)) ?_
    | refine ws_set 16 (Ct.nd (by assumption)) ?_
    | refine ws_set 17 (Ct.nd (by assumption)) ?_
    | refine ws_set 18 (Ct.nd (by assumption)) ?_
    | refine ws_set 19 (Ct.nd (by assumption)) ?_
    | refine ws_set 20 (Ct.nd (by assumption)) ?_
    | refine ws_set 21 (Ct.nd (by assumption)) ?_
    | refine ws_set 22 (Ct.nd (by assumption)) ?_
    | refine ws_set 23 (Ct.nd (by assumption)) ?_
    | refine ws_set 24 (Ct.nd (by assumption)) ?_
    | refine ws_set 25 (Ct.nd (by assumption)) ?_
    | refine ws_set 26 (Ct.nd (by assumption)) ?_
    | refine ws_set 27 (Ct.nd (by assumption)) ?_
    | refine ws_set 28 (Ct.nd (by assumption)) ?_
    | refine ws_set 29 (Ct.nd (by assumption)) ?_
    | refine ws_sub (Ct.gs (by assumption)) ?_ (fun a b => pg_sub a b set_list)
    | refine ws_fld (Ct.gs (by assumption)) ?_
    | refine ws_pass ?_
    | refine ws_break ?_
    | refine ws_cont ?_)
local macro_rules | `(tactic| walk_at "e.bin") => `(tactic| first
    | refine BinD.addI ?_
    | refine BinD.subI ?_
    | refine BinD.modP (by assumption) ?_
    | refine BinD.divP (by assumption) ?_
    | refine BinD.modI (by decide) ?_
    | refine BinD.modI (by assumption) ?_
    | refine BinD.divI (by decide) (by decide) ?_
    | refine BinD.divI (by assumption) (by assumption) ?_
    | refine BinD.mulI (by first | exact .inl ⟨by decide, by decide⟩ | exact .inr ⟨by decide, by decide⟩) ?_
    | refine BinD.xorI ?_
    | refine BinD.powI ⟨by decide, by decide, by decide⟩ ?_)
local macro_rules | `(tactic| walk_at "e.cmp") => `(tactic| first
    | refine CmpD.lt ?_
    | refine CmpD.le ?_
    | refine CmpD.gt ?_
    | refine CmpD.ge ?_
    | refine CmpD.isN ?_
    | refine CmpD.notN ?_
    | refine CmpD.neI_s ?_
    | refine CmpD.neT_s ?_
    | refine CmpD.neZ_s ?_
    | refine CmpD.eqZ_s ?_
    | refine CmpD.neN_s ?_
    | refine CmpD.eqN_s ?_
    | refine CmpD.neTZ ?_
    | refine CmpD.eqTZ ?_
    | refine CmpD.eqI ?_
    | refine CmpD.neI ?_
    | refine CmpD.eqZ ?_
    | refine CmpD.neZ ?_)
local macro_rules | `(tactic| walk_at "e.is") => `(tactic| first
    | refine gSz ?_
    | refine gFld (by assumption) (by assumption) rfl ?_
    | refine gFldS (by assumption) (by assumption) (by first | decide | (repeat (first | refine plA ?_ | refine plB ?_)); simp) ?_
    | refine gFldU (by first | decide | (repeat (first | refine plA ?_ | refine plB ?_)); simp) ?_
    | refine IsI.mk ?_
    | refine IsT.mk ?_
    | refine IsL.mk ?_
    | refine IsZ.mk ?_
    | refine IsB.mk ?_
    | refine OwL.mk 0 rfl ?_
    | refine OwL.mk 1 rfl ?_
    | refine OwL.mk 2 rfl ?_
    | refine OwL.mk 3 rfl ?_
    | refine OwL.mk 4 rfl ?_
    | refine OwL.mk 5 rfl ?_
    | refine OwI.mk 0 rfl ?_
    | refine OwI.mk 1 rfl ?_
    | refine OwI.mk 2 rfl ?_
    | refine OwI.mk 3 rfl ?_
    | refine OwI.mk 4 rfl ?_
    | refine OwI.mk 5 rfl ?_
    | refine OwI.mk _ (by assumption) ?_
    | refine OwI.mk _ (set_at (by assumption)) ?_
    | refine OwI.mk _ (set_at (set_at (by assumption))) ?_
    | refine OwL.mk _ (by assumption) ?_
    | refine OwL.mk _ (set_at (by assumption)) ?_
    | refine OwL.mk _ (set_at (set_at (by assumption))) ?_
    | refine OwL.mk _ (set_at (set_at (set_at (by assumption)))) ?_
    | refine IxD.own 0 rfl rfl ?_
    | refine IxD.own 1 rfl rfl ?_
    | refine IxD.own 2 rfl rfl ?_
    | refine IxD.own 3 rfl rfl ?_
    | refine IxD.own 4 rfl rfl ?_
    | refine IxD.own 5 rfl rfl ?_
    | refine IxD.own _ (by assumption) rfl ?_
    | refine IxD.own _ (set_at (by assumption)) rfl ?_
    | refine IxD.own _ (set_at (set_at (by assumption))) rfl ?_
    | refine IxD.own _ (set_at (set_at (set_at (by assumption)))) rfl ?_
    | refine IxD.tup rfl ?_
    | refine IxD.lst rfl ?_
    | refine IntD.int ?_
    | refine IntD.bl ?_
    | refine TruD.bl ?_
    | refine TruD.int ?_
    | refine TruD.tup ?_
    | refine TruD.lst ?_
    | refine LenD.tup ?_
    | refine LenD.lst ?_
    | refine SeqD.tup ?_
    | refine SeqD.lst ?_
    | refine SlD.tup ?_
    | refine SlD.lst ?_
    | refine SeqD.own 0 rfl ?_
    | refine SeqD.own 1 rfl ?_
    | refine SeqD.own 2 rfl ?_
    | refine SeqD.own 3 rfl ?_
    | refine SeqD.own 4 rfl ?_
    | refine SeqD.own 5 rfl ?_
    | refine LenD.own 0 rfl ?_
    | refine LenD.own 1 rfl ?_
    | refine LenD.own 2 rfl ?_
    | refine LenD.own 3 rfl ?_
    | refine LenD.own 4 rfl ?_
    | refine LenD.own 5 rfl ?_)
local macro_rules | `(tactic| walk_at "e1") => `(tactic| first
    | (refine gWE ?_; walk_at "e.we")
    | (refine gBinD ?_; walk_at "e.bin")
    | (refine gWSs ?_; walk_at "e.wss")
    | (refine gWS ?_; walk_at "e.ws")
    | (refine gWT ?_; walk_at "e.wt")
    | (refine gCmpD ?_; walk_at "e.cmp")
    | (refine gWA ?_; walk_at "e.wa")
    | (refine gWW ?_; walk_at "e.ww")
    | refine iteT ?_
    | refine iteF ?_
    | walk_at "e.is")
local macro_rules | `(tactic| walk_at "x1") => `(tactic| first
    | (refine gWE ?_; walk_at "e.we")
    | (refine gBinD ?_; walk_at "e.bin")
    | (refine gWT ?_; walk_at "e.wt")
    | (refine gCmpD ?_; walk_at "e.cmp")
    | (refine gWA ?_; walk_at "e.wa")
    | (refine gWW ?_; walk_at "e.ww")
    | refine iteT ?_
    | refine iteF ?_
    | walk_at "e.is")
local macro_rules | `(tactic| walk_at "e") => `(tactic| repeat (walk_at "e1"))
local macro_rules | `(tactic| walk_at "x") => `(tactic| repeat (walk_at "x1"))
theorem merge_ndT : ∀ {kvs acc : List (List Key × V)}, ((acc ++ kvs).map (·.1)).Nodup → mergeKT acc kvs = acc ++ kvs
  | [], acc, _ => by rw [List.append_nil]; rfl
  | kv :: r, acc, h => by
    show mergeKT (putK acc kv.1 kv.2) r = _
    have new : kv.1 ∉ acc.map (·.1) := fun z => by
      rw [List.map_append, List.nodup_append] at h
      exact h.2.2 _ z kv.1 List.mem_cons_self rfl
    have e : putK acc kv.1 kv.2 = acc ++ [(kv.1, kv.2)] := by
      unfold putK
      rw [if_neg fun z => ?_]
      obtain ⟨x, hx, e⟩ := List.any_eq_true.mp z
      exact new (List.mem_map.mpr ⟨x, hx, of_decide_eq_true e⟩)
    rw [e, merge_ndT (by rw [List.append_assoc]; exact h), List.append_assoc]
    rfl
abbrev pairD (f : Fw) : D := byt [f.outer, f.peer]
abbrev fiveD (f : Fw) : D := byt [f.opener, f.number, f.outer, f.peer, f.used]
theorem five_eq {fs fs2 : List Fw} (h : cores fs2 = cores fs) : fs2.map fiveD = fs.map fiveD := by
  have e : ∀ fs : List Fw, fs.map fiveD = (cores fs).map fiveD := fun fs => by unfold cores; rw [List.map_map]; rfl
  rw [e fs2, e fs, h]
theorem seg_pl {s : Seg} (h : ∃ bs : List Int, s.body = bs.map fun i => I i) : Pl 10 s.d := by
  obtain ⟨bs, hb⟩ := h
  refine .tup fun x hx => ?_
  simp only [List.mem_cons, List.not_mem_nil, or_false] at hx
  rcases hx with rfl | rfl | rfl | rfl | rfl | rfl | rfl | rfl
  · exact .int _
  · exact .int _
  · exact .int _
  · exact .int _
  · exact .int _
  · exact .int _
  · exact .bl _
  · rw [hb]; exact pl_byt _
section
variable {C CF p : Addr} {x y w : Int} {l : La} {a : Ta} {ins : List Int} {fs2 fs : List Fw} {dk2 dk : List (Key × D)} {M : Ms}
theorem hM_tail {j : Nat} : (hM C CF p x y w l a ins fs2 fs dk2 dk M)[3 + fs2.length + j]? = (trM C CF a ins fs dk ++ M)[j]? := by
  show (_ :: _ :: _ :: (rwM fs2 ++ (trM C CF a ins fs dk ++ M)))[3 + fs2.length + j]? = _
  rw [show 3 + fs2.length + j = fs2.length + j + 1 + 1 + 1 by omega]
  simp only [List.getElem?_cons_succ]
  have e : (rwM fs2).length = fs2.length := by unfold rwM; rw [List.length_map]
  rw [List.getElem?_append_right (by omega), e, Nat.add_sub_cancel_left]
theorem hM_fl : (hM C CF p x y w l a ins fs2 fs dk2 dk M)[3 + fs2.length + 1]? = some (a.fl, .lst (fs.map fun f => Rf f.addr)) := by
  rw [hM_tail]; rfl
theorem hM_f {i : Nat} {f : Fw} (h : fs[i]? = some f) : (hM C CF p x y w l a ins fs2 fs dk2 dk M)[3 + fs2.length + (3 + i)]? = some (f.addr, .ins CF (fwF f)) := by
  rw [hM_tail]; exact trM_at h
theorem hM_r {i : Nat} {f : Fw} (h : fs2[i]? = some f) : (hM C CF p x y w l a ins fs2 fs dk2 dk M)[3 + i]? = some (f.addr, rwO f) := by
  show (_ :: (lsM l ins fs2 dk2 ++ (trM C CF a ins fs dk ++ M)))[3 + i]? = _
  rw [show 3 + i = 2 + i + 1 by omega, List.getElem?_cons_succ]
  exact lsM_at h
end
section
variable {P : Program} {w : World} {K : PySem.W.Frag} {mg : Str → Option Value} {base : Heap} {T : List (Addr × Str)} {f c CE C CF : Addr} {A : Around} {outer : List Env} {s_1 : Shared} {H : Hp} {E0 : XK} {W : WX} {M : Ms} {N : En} {p : Addr} {l : La} {a : Ta} {ins : List Int} {fs2 fs : List Fw} {dk2 dk : List (Key × D)} {σ : Int → Option Int} {n : Nat} {t x y w1 host peer sort : Int} {s : Seg} {r : Option (Int × Seg)} {z0 z1 z2 z3 z4 z5 z6 z7 z8 z9 z10 z11 z12 z13 z14 z15 z16 z17 z18 z19 z20 z21 z22 z23 : Option D}
theorem st_cmp (L : LawH P w K mg base T CE C CF) (cx : Ct (XL P w K mg base f c A outer s_1 H E0) (Tabs T) W 7) (ts : L2.Takes (XL P w K mg base f c A outer s_1 H E0) W) (hr : resOk r) (hb : ∀ x s', r = some (x, s') → ∃ bs : List Int, s'.body = bs.map fun i => I i)
    (hN : WSs (XL P w K mg base f c A outer s_1 H E0) (Tabs T) W (jb.drop 7) M (z0 :: z1 :: z2 :: z3 :: z4 :: z5 :: z6 :: z7 :: z8 :: z9 :: z10 :: z11 :: z12 :: z13 :: z14 :: some (resD r) :: some (resB r) :: z17 :: z18 :: z19 :: z20 :: z21 :: z22 :: z23 :: []) N) :
    WSs (XL P w K mg base f c A outer s_1 H E0) (Tabs T) W (jb.drop 6) M (z0 :: z1 :: z2 :: z3 :: z4 :: z5 :: z6 :: z7 :: z8 :: z9 :: z10 :: z11 :: z12 :: z13 :: z14 :: some (resD r) :: some (resB r) :: z17 :: z18 :: z19 :: z20 :: z21 :: z22 :: z23 :: []) N := by
  obtain ⟨fr, mr, gr⟩ := L.rseg
  refine wss_cons (ws_if (wt_cmp cx.hu (we_ifx (wt_cmp cx.hu ?_))))
  cases r with
  | none =>
    walk_at "x"
    refine CmpD.ne_s .non (iteF (wss_nil hN))
  | some q =>
    obtain ⟨h, s'⟩ := q
    walk_at "x"
    refine we_callC cx ts gr (by decide) mr rfl ?_
    walk_at "x"
    refine .inl ⟨s', rfl, hr, ?_⟩
    walk_at "x"
    refine CmpD.ne_s (.tup fun z hz => ?_) (iteF (wss_nil hN))
    simp only [List.mem_cons, List.not_mem_nil, or_false] at hz
    rcases hz with rfl | rfl
    · exact .int _
    · exact (seg_pl (hb _ _ rfl)).up (by decide)
theorem st_tabs (L : LawH P w K mg base T CE C CF) (cx : Ct (XL P w K mg base f c A outer s_1 H E0) (Tabs T) W 7) (iv : Iv fs2 fs dk2 dk σ n t)
    (hN : WSs (XL P w K mg base f c A outer s_1 H E0) (Tabs T) W (jb.drop 8) (hM C CF p x y w1 l a ins fs2 fs dk2 dk M) (z0 :: z1 :: z2 :: some (Rf a.t) :: some (Rf l.st) :: z5 :: z6 :: z7 :: z8 :: z9 :: z10 :: z11 :: z12 :: z13 :: z14 :: z15 :: z16 :: z17 :: z18 :: z19 :: z20 :: z21 :: z22 :: z23 :: []) N) :
    WSs (XL P w K mg base f c A outer s_1 H E0) (Tabs T) W (jb.drop 7) (hM C CF p x y w1 l a ins fs2 fs dk2 dk M) (z0 :: z1 :: z2 :: some (Rf a.t) :: some (Rf l.st) :: z5 :: z6 :: z7 :: z8 :: z9 :: z10 :: z11 :: z12 :: z13 :: z14 :: z15 :: z16 :: z17 :: z18 :: z19 :: z20 :: z21 :: z22 :: z23 :: []) N := by
  have few := iv.few
  have few2 := core_len iv.eq
  have hx := hM_t (C := C) (CF := CF) (p := p) (x := x) (y := y) (w := w1) (l := l) (a := a) (ins := ins) (fs2 := fs2) (fs := fs) (dk2 := dk2) (dk := dk) (M := M)
  refine wss_cons (ws_if (wt_cmp cx.hu ?_))
  refine we_lcA cx cx.nd [("one", 21)] fs (fun f => Rf f.addr) (fun _ => true) fiveD (gok_name 21) (gwipe_name 21) (amono_name 21) (fun s H C cl fp => pgn 21 cx.nd) (blkOk_by (by show blkC N_law (defScope s_law) _ _ = true; decide +kernel)) (wi_lstP ?_)
  walk_at "x"
  refine ⟨L.tc.c, L.tc.n3, _, rfl, ?_⟩
  refine ⟨3 + fs2.length + 1, a.fl, _, rfl, hM_fl, rfl, fun x M' ⟨i, h⟩ => ⟨i + 1, h⟩, ⟨_, hM_fl⟩, sz2 (by omega), fun g hg => ?_, ?_⟩
  · obtain ⟨i, hi⟩ := List.getElem?_of_mem hg
    refine itemA0 (amono_name 21) fun q acc => ?_
    rintro Y ⟨s', H', C', cl', fp', rfl⟩ cy
    have hf : ((q, O.lst acc) :: hM C CF p x y w1 l a ins fs2 fs dk2 dk M)[3 + fs2.length + (3 + i) + 1]? = some (g.addr, .ins CF (fwF g)) := by rw [List.getElem?_cons_succ]; exact hM_f hi
    walk_at "x"
    refine ⟨L.fc.c, L.fc.n1, _, rfl, ?_⟩
    walk_at "x"
    refine ⟨L.fc.c, L.fc.n2, _, rfl, ?_⟩
    walk_at "x"
    refine ⟨L.fc.c, L.fc.n3, _, rfl, ?_⟩
    walk_at "x"
    refine ⟨L.fc.c, L.fc.n4, _, rfl, ?_⟩
    walk_at "x"
    refine ⟨L.fc.c, L.fc.n5, _, rfl, ?_⟩
    walk_at "x"
    exact ⟨rfl, rfl⟩
  refine we_lcA cx cx.nd [("row", 22)] fs2 (fun f => Rf f.addr) (fun _ => true) fiveD (gok_name 22) (gwipe_name 22) (amono_name 22) (fun s H C cl fp => pgn 22 cx.nd) (blkOk_by (by show blkC N_law (defScope s_law) _ _ = true; decide +kernel)) (wip_of (wi_lst (we_dget cx ?_)))
  walk_at "x"
  refine ⟨_, dv_k 1 rfl "flows" rfl, ?_⟩
  refine .mk ⟨rfl, fun _ _ _ => trivial, trivial, sz2 (by omega), fun g hg => ?_, ?_⟩
  · obtain ⟨i, hi⟩ := List.getElem?_of_mem hg
    refine itemA0 (amono_name 22) fun q acc => ?_
    rintro Y ⟨s', H', C', cl', fp', rfl⟩ cy
    refine we_tuple cy.gs L.tuple rfl ?_
    walk_at "x"
    refine .own (3 + i + 1) (by rw [List.getElem?_cons_succ]; exact hM_r hi) ?_
    exact ⟨rfl, rfl⟩
  rw [List.filter_eq_self.mpr fun _ _ => rfl, List.filter_eq_self.mpr fun _ _ => rfl, five_eq iv.eq]
  refine CmpD.ne_s (.lst fun z hz => ?_) (iteF (wss_nil hN))
  obtain ⟨g, _, rfl⟩ := List.mem_map.mp hz
  exact pl_byt _
theorem st_pairs (L : LawH P w K mg base T CE C CF) (cx : Ct (XL P w K mg base f c A outer s_1 H E0) (Tabs T) W 7) (iv : Iv fs2 fs dk2 dk σ n t)
    (hN : ∀ z17 : Option D, WSs (XL P w K mg base f c A outer s_1 H E0) (Tabs T) W (jb.drop 10) (hM C CF p x y w1 l a ins fs2 fs dk2 dk M) (z0 :: z1 :: z2 :: some (Rf a.t) :: some (Rf l.st) :: z5 :: z6 :: z7 :: z8 :: z9 :: z10 :: z11 :: z12 :: z13 :: z14 :: z15 :: z16 :: z17 :: z18 :: z19 :: z20 :: z21 :: z22 :: z23 :: []) N) :
    WSs (XL P w K mg base f c A outer s_1 H E0) (Tabs T) W (jb.drop 8) (hM C CF p x y w1 l a ins fs2 fs dk2 dk M) (z0 :: z1 :: z2 :: some (Rf a.t) :: some (Rf l.st) :: z5 :: z6 :: z7 :: z8 :: z9 :: z10 :: z11 :: z12 :: z13 :: z14 :: z15 :: z16 :: z17 :: z18 :: z19 :: z20 :: z21 :: z22 :: z23 :: []) N := by
  have few := iv.few
  have hx := hM_t (C := C) (CF := CF) (p := p) (x := x) (y := y) (w := w1) (l := l) (a := a) (ins := ins) (fs2 := fs2) (fs := fs) (dk2 := dk2) (dk := dk) (M := M)
  refine wss_cons (ws_setLcA 17 cx cx.nd [("one", 21)] fs (fun f => Rf f.addr) (fun _ => true) pairD (gok_name 21) (gwipe_name 21) (amono_name 21) (fun s H C cl fp => pgn 21 cx.nd) (blkOk_by (by show blkC N_law (defScope s_law) _ _ = true; decide +kernel)) (sw_true rfl rfl rfl (by decide +kernel)) (wi_lstP ?_))
  walk_at "x"
  refine ⟨L.tc.c, L.tc.n3, _, rfl, ?_⟩
  refine ⟨3 + fs2.length + 1, a.fl, _, rfl, hM_fl, rfl, fun x M' ⟨i, h⟩ => ⟨i + 1, h⟩, ⟨_, hM_fl⟩, sz2 (by omega), fun g hg => ?_, ?_⟩
  · obtain ⟨i, hi⟩ := List.getElem?_of_mem hg
    refine itemA0 (amono_name 21) fun q acc => ?_
    rintro Y ⟨s', H', C', cl', fp', rfl⟩ cy
    have hf : ((q, O.lst acc) :: hM C CF p x y w1 l a ins fs2 fs dk2 dk M)[3 + fs2.length + (3 + i) + 1]? = some (g.addr, .ins CF (fwF g)) := by rw [List.getElem?_cons_succ]; exact hM_f hi
    walk_at "x"
    refine ⟨L.fc.c, L.fc.n3, _, rfl, ?_⟩
    walk_at "x"
    refine ⟨L.fc.c, L.fc.n4, _, rfl, ?_⟩
    walk_at "x"
    exact ⟨rfl, rfl⟩
  rw [List.filter_eq_self.mpr fun _ _ => rfl]
  refine wss_cons (ws_if (wt_cmp cx.hu (we_lenDT cx L.len rfl (we_dictTs cx L.dict rfl ?_))))
  refine we_lcA cx cx.nd [("pair", 23)] fs pairD (fun _ => true) (fun f => .tup [pairD f, I 1]) (gok_name 23) (gwipe_name 23) (amono_name 23) (fun s H C cl fp => pgn 23 cx.nd) (blkOk_by (by show blkC N_law (defScope s_law) _ _ = true; decide +kernel)) (wip_of (wi_lst ?_))
  walk_at "x"
  refine ⟨rfl, fun _ _ _ => trivial, trivial, sz2 (by omega), fun g hg => ?_, ?_⟩
  · refine itemA0 (amono_name 23) fun q acc => ?_
    rintro Y ⟨s', H', C', cl', fp', rfl⟩ cy
    walk_at "x"
    exact ⟨rfl, rfl⟩
  rw [List.filter_eq_self.mpr fun _ _ => rfl]
  let kvs : List (List Key × V) := fs.map fun f => ([.inl f.outer, .inl f.peer], V.int 1)
  have em : mergeKT [] kvs = kvs := by
    refine merge_ndT (acc := []) ?_
    rw [List.nil_append]
    show ((fs.map fun f => (([.inl f.outer, .inl f.peer], V.int 1) : List Key × V)).map (·.1)).Nodup
    rw [List.map_map]
    have := iv.pairs
    rw [show (fs.map ((·.1) ∘ fun f => (([.inl f.outer, .inl f.peer], V.int 1) : List Key × V))) = (fs.map fun f => (f.outer, f.peer)).map (fun q => ([.inl q.1, .inl q.2] : List Key)) by rw [List.map_map]; rfl]
    exact List.Pairwise.map _ (fun a b hab e => hab (by
      obtain ⟨e1, e2⟩ := List.cons.inj e
      obtain ⟨e3, _⟩ := List.cons.inj e2
      exact Prod.ext (Sum.inl.inj e1) (Sum.inl.inj e3))) this
  refine ⟨_, kvs, .lst _, by show _ = (fs.map _).map _; rw [List.map_map]; rfl, fun q => ?_⟩
  rw [em]
  refine ⟨0, q, _, rfl, rfl, ?_⟩
  have e1 : (kvs.map fun kv => (kv.1, D.raw kv.2)).length = (fs.map pairD).length := by rw [List.length_map, List.length_map, List.length_map]
  rw [e1]
  have q_len := L.len
  walk_at "x"
  exact wss_nil (wss_sub (M0 := hM C CF p x y w1 l a ins fs2 fs dk2 dk M) (List.sublist_cons_self _ _) (hN _))
theorem st_same (L : LawH P w K mg base T CE C CF) (cx : Ct (XL P w K mg base f c A outer s_1 H E0) (Tabs T) W 7) (ts : L2.Takes (XL P w K mg base f c A outer s_1 H E0) W) (iv : Iv fs2 fs dk2 dk σ n t) (ok : s.Ok) (sb : ∃ bs : List Int, s.body = bs.map fun i => I i) (hr : resOk r)
    (hb : sort < 5 → ∃ src tgt cs, z13 = some (I src) ∧ z14 = some (I tgt) ∧ tgt ≠ 90 ∧ OutR ins cs σ src tgt t s r fs ∧ ∀ f ∈ fs, live t f = true)
    (hN : ∀ (a' : Ta) (z0 z6 z7 z8 z9 z10 z11 z12 z13 z14 z15 z16 z17 z18 z19 z20 z21 z22 z23 : Option D), a'.t = a.t → N.nx (hM C CF p x y w1 l a' ins fs2 fs dk2 dk M) (z0 :: some (Rf p) :: some (inD ins) :: some (Rf a.t) :: some (Rf l.st) :: some (I t) :: z6 :: z7 :: z8 :: z9 :: z10 :: z11 :: z12 :: z13 :: z14 :: z15 :: z16 :: z17 :: z18 :: z19 :: z20 :: z21 :: z22 :: z23 :: [])) :
    WSs (XL P w K mg base f c A outer s_1 H E0) (Tabs T) W (jb.drop 10) (hM C CF p x y w1 l a ins fs2 fs dk2 dk M) (z0 :: some (Rf p) :: some (inD ins) :: some (Rf a.t) :: some (Rf l.st) :: some (I t) :: z6 :: some (I host) :: some (I peer) :: some (I sort) :: z10 :: some (I s.opener) :: some s.d :: z13 :: z14 :: z15 :: some (resB r) :: z17 :: z18 :: z19 :: z20 :: z21 :: z22 :: z23 :: []) N := by
  have skip : ∀ (z0 z6 z7 z8 z9 z10 z11 z12 z13 z14 z15 z16 z17 z18 z19 z20 z21 z22 z23 : Option D), WSs (XL P w K mg base f c A outer s_1 H E0) (Tabs T) W [] (hM C CF p x y w1 l a ins fs2 fs dk2 dk M) (z0 :: some (Rf p) :: some (inD ins) :: some (Rf a.t) :: some (Rf l.st) :: some (I t) :: z6 :: z7 :: z8 :: z9 :: z10 :: z11 :: z12 :: z13 :: z14 :: z15 :: z16 :: z17 :: z18 :: z19 :: z20 :: z21 :: z22 :: z23 :: []) N := fun z0 z6 z7 z8 z9 z10 z11 z12 z13 z14 z15 z16 z17 z18 z19 z20 z21 z22 z23 => wss_nil (hN a _ _ _ _ _ _ _ _ _ _ _ _ _ _ _ _ _ _ _ rfl)
  obtain ⟨fu, mu, gu⟩ := L.inn
  obtain ⟨fr, mr, gr⟩ := L.rseg
  have few := iv.few
  have hx := hM_t (C := C) (CF := CF) (p := p) (x := x) (y := y) (w := w1) (l := l) (a := a) (ins := ins) (fs2 := fs2) (fs := fs) (dk2 := dk2) (dk := dk) (M := M)
  refine wss_one (ws_if (wt_bool (ww_and (wt_cmp cx.hu ?_))))
  walk_at "x"
  refine ite_d (fun h5 => ?_) (fun _ => iteF (skip _ _ _ _ _ _ _ _ _ _ _ _ _ _ _ _ _ _ _))
  obtain ⟨src, tgt, cs, rfl, rfl, h90, ho, hl⟩ := hb h5
  cases r with
  | none =>
    walk_at "x"
    exact skip _ _ _ _ _ _ _ _ _ _ _ _ _ _ _ _ _ _ _
  | some q =>
    obtain ⟨h, s'⟩ := q
    walk_at "x"
    refine ite_d (fun e1 => ?_) (fun _ => iteF (skip _ _ _ _ _ _ _ _ _ _ _ _ _ _ _ _ _ _ _))
    walk_at "x"
    refine ite_d (fun e2 => ?_) (fun _ => skip _ _ _ _ _ _ _ _ _ _ _ _ _ _ _ _ _ _ _)
    obtain ⟨⟨hi, hn⟩, rfl, i, f2, hf, f1, f3, f4, f5, rfl⟩ := out_back ho (e1.trans e2.symm)
    refine wss_cons (ws_set 18 cx.nd (we_sp (we_methC cx ts gu (by decide) L.tc.c mu ?_)))
    walk_at "x"
    refine ⟨rfl, rfl, ?_⟩
    walk_at "x"
    refine in_sp (σ := σ) (s := { s with opener := 90, number := f2.outer }) sp_t iv.d1 few iv.ok hr fun fl' r2 fs' h1 hr2 => ⟨_, sp_t', ?_⟩
    rw [List.filter_eq_self.mpr hl] at h1
    obtain ⟨rfl, rfl⟩ := in_back iv.pairs hf f4 f5 h90 f1 f3 h1
    refine wss_one (ws_if (wt_bool (ww_or (wt_cmp cx.hu ?_))))
    walk_at "x"
    refine ite_nd (fun z => absurd e1 z) (fun _ => ?_)
    walk_at "x"
    refine we_callC cx ts gr (by decide) mr rfl ?_
    walk_at "x"
    refine .inl ⟨s, rfl, ok, ?_⟩
    walk_at "x"
    refine CmpD.ne_s ((seg_pl sb).up (by decide)) (iteF (wss_nil ?_))
    exact hN { a with fl := fl' } _ _ _ _ _ _ _ _ _ _ _ _ _ _ _ _ _ _ _ rfl
end

end K24
set_option maxRecDepth 100000
set_option maxHeartbeats 4000000

namespace K24
open PySem PySem.Spec PyProof.Rows L2 Wv
open LamX (CodeO TabS Tabs ExtN TabB lamEnv lamCx LamS)
local macro_rules | `(tactic| walk_at "e.name") => `(tactic| first
    | refine we_var 0 _ rfl (by first | exact .inl rfl | exact .inr (.inl rfl) | exact .inr (.inr rfl)) rfl ?_
    | refine we_var 1 _ rfl (by first | exact .inl rfl | exact .inr (.inl rfl) | exact .inr (.inr rfl)) rfl ?_
    | refine we_var 2 _ rfl (by first | exact .inl rfl | exact .inr (.inl rfl) | exact .inr (.inr rfl)) rfl ?_
    | refine we_var 3 _ rfl (by first | exact .inl rfl | exact .inr (.inl rfl) | exact .inr (.inr rfl)) rfl ?_
    | refine we_var 4 _ rfl (by first | exact .inl rfl | exact .inr (.inl rfl) | exact .inr (.inr rfl)) rfl ?_
    | refine we_var 5 _ rfl (by first | exact .inl rfl | exact .inr (.inl rfl) | exact .inr (.inr rfl)) rfl ?_
    | refine we_var 6 _ rfl (by first | exact .inl rfl | exact .inr (.inl rfl) | exact .inr (.inr rfl)) rfl ?_
    | refine we_var 7 _ rfl (by first | exact .inl rfl | exact .inr (.inl rfl) | exact .inr (.inr rfl)) rfl ?_
    | refine we_var 8 _ rfl (by first | exact .inl rfl | exact .inr (.inl rfl) | exact .inr (.inr rfl)) rfl ?_
    | refine we_var 9 _ rfl (by first | exact .inl rfl | exact .inr (.inl rfl) | exact .inr (.inr rfl)) rfl ?_
    | refine we_var 10 _ rfl (by first | exact .inl rfl | exact .inr (.inl rfl) | exact .inr (.inr rfl)) rfl ?_
    | refine we_var 11 _ rfl (by first | exact .inl rfl | exact .inr (.inl rfl) | exact .inr (.inr rfl)) rfl ?_
    | refine we_var 12 _ rfl (by first | exact .inl rfl | exact .inr (.inl rfl) | exact .inr (.inr rfl)) rfl ?_
    | refine we_var 13 _ rfl (by first | exact .inl rfl | exact .inr (.inl rfl) | exact .inr (.inr rfl)) rfl ?_
    | refine we_var 14 _ rfl (by first | exact .inl rfl | exact .inr (.inl rfl) | exact .inr (.inr rfl)) rfl ?_
    | refine we_var 15 _ rfl (by first | exact .inl rfl | exact .inr (.inl rfl) | exact .inr (.inr rfl)) rfl ?_
    | refine we_var 16 _ rfl (by first | exact .inl rfl | exact .inr (.inl rfl) | exact .inr (.inr rfl)) rfl ?_
    | refine we_var 17 _ rfl (by first | exact .inl rfl | exact .inr (.inl rfl) | exact .inr (.inr rfl)) rfl ?_
    | refine we_var 18 _ rfl (by first | exact .inl rfl | exact .inr (.inl rfl) | exact .inr (.inr rfl)) rfl ?_
    | refine we_var 19 _ rfl (by first | exact .inl rfl | exact .inr (.inl rfl) | exact .inr (.inr rfl)) rfl ?_
    | refine we_var 20 _ rfl (by first | exact .inl rfl | exact .inr (.inl rfl) | exact .inr (.inr rfl)) rfl ?_
    | refine we_var 21 _ rfl (by first | exact .inl rfl | exact .inr (.inl rfl) | exact .inr (.inr rfl)) rfl ?_
    | refine we_var 22 _ rfl (by first | exact .inl rfl | exact .inr (.inl rfl) | exact .inr (.inr rfl)) rfl ?_
    | refine we_var 23 _ rfl (by first | exact .inl rfl | exact .inr (.inl rfl) | exact .inr (.inr rfl)) rfl ?_
    | refine we_var 24 _ rfl (by first | exact .inl rfl | exact .inr (.inl rfl) | exact .inr (.inr rfl)) rfl ?_
    | refine we_var 25 _ rfl (by first | exact .inl rfl | exact .inr (.inl rfl) | exact .inr (.inr rfl)) rfl ?_
    | refine we_var 26 _ rfl (by first | exact .inl rfl | exact .inr (.inl rfl) | exact .inr (.inr rfl)) rfl ?_
    | refine we_var 27 _ rfl (by first | exact .inl rfl | exact .inr (.inl rfl) | exact .inr (.inr rfl)) rfl ?_
    | refine we_var 28 _ rfl (by first | exact .inl rfl | exact .inr (.inl rfl) | exact .inr (.inr rfl)) rfl ?_
    | refine we_var 29 _ rfl (by first | exact .inl rfl | exact .inr (.inl rfl) | exact .inr (.inr rfl)) rfl ?_
    | refine we_globI (by assumption) rfl ?_
    | refine we_globS (by assumption) rfl ?_)
local macro_rules | `(tactic| walk_at "e.const") => `(tactic| first
    | refine we_int ?_
    | refine we_str ?_
    | refine we_bl ?_
    | refine we_non ?_)
local macro_rules | `(tactic| walk_at "e.call") => `(tactic| first
    | refine we_len (by assumption) rfl ?_
    | refine we_int2 (by assumption) rfl ?_
    | refine we_tuple (Ct.gs (by assumption)) (by assumption) rfl ?_
    | refine we_abs (by assumption) rfl ?_
    | refine we_find ?_)
local macro_rules | `(tactic| walk_at "e.we") => `(tactic| first
    | (refine gNm ?_; walk_at "e.name")
    | (refine gConst ?_; walk_at "e.const")
    | refine we_bin (Ct.gs (by assumption)) ?_
    | (refine gCall ?_; walk_at "e.call")
    | refine we_cmp (Ct.hu (by assumption)) ?_
    | refine we_ix ?_
    | refine we_slice (Ct.gs (by assumption)) ?_
    | refine we_fld ?_
    | refine we_tup (Ct.gs (by assumption)) ?_
    | refine we_chain (Ct.hu (by assumption)) ?_
    | refine we_lst1 (Ct.gs (by assumption)) ?_
    | refine we_ifx ?_
    | refine we_and ?_
    | refine we_or ?_
    | refine we_one ?_
    | refine we_not ?_
    | refine we_negI ?_
    | refine we_neg ?_)
local macro_rules | `(tactic| walk_at "e.wt") => `(tactic| first
    | refine wt_cmp (Ct.hu (by assumption)) ?_
    | refine wt_chain (Ct.hu (by assumption)) ?_
    | refine wt_not ?_
    | refine wt_bool ?_
    | refine wt_val ?_)
local macro_rules | `(tactic| walk_at "e.ww") => `(tactic| first
    | refine ww_and ?_
    | refine ww_or ?_
    | refine ww_and1 ?_
    | refine ww_or1 ?_)
local macro_rules | `(tactic| walk_at "e.wa") => `(tactic| first
    | refine wa_nil ?_
    | refine wa_cons ?_)
local macro_rules | `(tactic| walk_at "e.wss") => `(tactic| first
    | refine wss_cons ?_
    | refine wss_nil ?_)
local macro_rules | `(tactic| walk_at "e.ws") => `(tactic| first
    | refine ws_if ?_
    | refine ws_expr (we_append (Ct.gs (by assumption)) ?_ (pe_bm PySem.F.plainAttrs_list PySem.F.slot_list_append PySem.F.type_list_append mt_append pe_wp pa_wp))
    | refine ws_fldSub (Ct.gs (by assumption)) ?_
    | refine ws_fldAddW (Ct.gs (by assumption)) ?_
    | refine ws_expr ?_
    | refine ws_set 0 (Ct.nd (by assumption)) ?_
    | refine ws_set 1 (Ct.nd (by assumption)) ?_
    | refine ws_set 2 (Ct.nd (by assumption)) ?_
    | refine ws_set 3 (Ct.nd (by assumption)) ?_
    | refine ws_set 4 (Ct.nd (by assumption)) ?_
    | refine ws_set 5 (Ct.nd (by assumption)) ?_
    | refine ws_set 6 (Ct.nd (by assumption)) ?_
    | refine ws_set 7 (Ct.nd (by assumption)) ?_
    | refine ws_set 8 (Ct.nd (by assumption)) ?_
    | refine ws_set 9 (Ct.nd (by assumption)) ?_
    | refine ws_set 10 (Ct.nd (by assumption)) ?_
    | refine ws_set 11 (Ct.nd (by assumption)) ?_
    | refine ws_set 12 (Ct.nd (by assumption)) ?_
    | refine ws_set 13 (Ct.nd (by assumption)) ?_
    | refine ws_set 14 (Ct.nd (by assumption)) ?_
    | refine ws_set 15 (Ct.nd (by assumption)) ?_
    | refine ws_set 16 (Ct.nd (by assumption)) ?_
    | refine ws_set 17 (Ct.nd (by assumption)) ?_
    | refine ws_set 18 (Ct.nd (by assumption)) ?_
    | refine ws_set 19 (Ct.nd (by assumption)) ?_
    | refine ws_set 20 (Ct.nd (by assumption)) ?_
    | refine ws_set 21 (Ct.nd (by assumption)) ?_
    | refine ws_set 22 (Ct.nd (by assumption)) ?_
    | refine ws_set 23 (Ct.nd (by assumption)) ?_
    | refine ws_set 24 (Ct.nd (by assumption)) ?_
    | refine ws_set 25 (Ct.nd (by assumption)) ?_
    | refine ws_set 26 (Ct.nd (by assumption)) ?_
    | refine ws_set 27 (Ct.nd (by assumption)) ?_
    | refine ws_set 28 (Ct.nd (by assumption)) ?_
    | refine ws_set 29 (Ct.nd (by assumption)) ?_
    | refine ws_sub (Ct.gs (by assumption)) ?_ (fun a b => pg_sub a b set_list)
    | refine ws_fld (Ct.gs (by assumption)) ?_
    | refine ws_pass ?_
    | refine ws_break ?_
    | refine ws_cont ?_)
local macro_rules | `(tactic| walk_at "e.bin") => `(tactic| first
    | refine BinD.addI ?_
    | refine BinD.subI ?_
    | refine BinD.modP (by assumption) ?_
    | refine BinD.divP (by assumption) ?_
    | refine BinD.modI (by decide) ?_
    | refine BinD.modI (by assumption) ?_
    | refine BinD.divI (by decide) (by decide) ?_
    | refine BinD.divI (by assumption) (by assumption) ?_
    | refine BinD.mulI (by first | exact .inl ⟨by decide, by decide⟩ | exact .inr ⟨by decide, by decide⟩) ?_
    | refine BinD.xorI ?_
    | refine BinD.powI ⟨by decide, by decide, by decide⟩ ?_)
local macro_rules | `(tactic| walk_at "e.cmp") => `(tactic| first
    | refine CmpD.lt ?_
    | refine CmpD.le ?_
    | refine CmpD.gt ?_
    | refine CmpD.ge ?_
    | refine CmpD.isN ?_
    | refine CmpD.notN ?_
    | refine CmpD.neI_s ?_
    | refine CmpD.neT_s ?_
    | refine CmpD.neZ_s ?_
    | refine CmpD.eqZ_s ?_
    | refine CmpD.neN_s ?_
    | refine CmpD.eqN_s ?_
    | refine CmpD.neTZ ?_
    | refine CmpD.eqTZ ?_
    | refine CmpD.eqI ?_
    | refine CmpD.neI ?_
    | refine CmpD.eqZ ?_
    | refine CmpD.neZ ?_)
local macro_rules | `(tactic| walk_at "e.is") => `(tactic| first
    | refine gSz ?_
    | refine gFld (by assumption) (by assumption) rfl ?_
    | refine gFldS (by assumption) (by assumption) (by first | decide | (repeat (first | refine plA ?_ | refine plB ?_)); simp) ?_
    | refine gFldU (by first | decide | (repeat (first | refine plA ?_ | refine plB ?_)); simp) ?_
    | refine IsI.mk ?_
    | refine IsT.mk ?_
    | refine IsL.mk ?_
    | refine IsZ.mk ?_
    | refine IsB.mk ?_
    | refine OwL.mk 0 rfl ?_
    | refine OwL.mk 1 rfl ?_
    | refine OwL.mk 2 rfl ?_
    | refine OwL.mk 3 rfl ?_
    | refine OwL.mk 4 rfl ?_
    | refine OwL.mk 5 rfl ?_
    | refine OwI.mk 0 rfl ?_
    | refine OwI.mk 1 rfl ?_
    | refine OwI.mk 2 rfl ?_
    | refine OwI.mk 3 rfl ?_
    | refine OwI.mk 4 rfl ?_
    | refine OwI.mk 5 rfl ?_
    | refine OwI.mk _ (by assumption) ?_
    | refine OwI.mk _ (set_at (by assumption)) ?_
    | refine OwI.mk _ (set_at (set_at (by assumption))) ?_
    | refine OwL.mk _ (by assumption) ?_
    | refine OwL.mk _ (set_at (by assumption)) ?_
    | refine OwL.mk _ (set_at (set_at (by assumption))) ?_
    | refine OwL.mk _ (set_at (set_at (set_at (by assumption)))) ?_
    | refine IxD.own 0 rfl rfl ?_
    | refine IxD.own 1 rfl rfl ?_
    | refine IxD.own 2 rfl rfl ?_
    | refine IxD.own 3 rfl rfl ?_
    | refine IxD.own 4 rfl rfl ?_
    | refine IxD.own 5 rfl rfl ?_
    | refine IxD.own _ (by assumption) rfl ?_
    | refine IxD.own _ (set_at (by assumption)) rfl ?_
    | refine IxD.own _ (set_at (set_at (by assumption))) rfl ?_
    | refine IxD.own _ (set_at (set_at (set_at (by assumption)))) rfl ?_
    | refine IxD.tup rfl ?_
    | refine IxD.lst rfl ?_
    | refine IntD.int ?_
    | refine IntD.bl ?_
    | refine TruD.bl ?_
    | refine TruD.int ?_
    | refine TruD.tup ?_
    | refine TruD.lst ?_
    | refine LenD.tup ?_
    | refine LenD.lst ?_
    | refine SeqD.tup ?_
    | refine SeqD.lst ?_
    | refine SlD.tup ?_
    | refine SlD.lst ?_
    | refine SeqD.own 0 rfl ?_
    | refine SeqD.own 1 rfl ?_
    | refine SeqD.own 2 rfl ?_
    | refine SeqD.own 3 rfl ?_
    | refine SeqD.own 4 rfl ?_
    | refine SeqD.own 5 rfl ?_
    | refine LenD.own 0 rfl ?_
    | refine LenD.own 1 rfl ?_
    | refine LenD.own 2 rfl ?_
    | refine LenD.own 3 rfl ?_
    | refine LenD.own 4 rfl ?_
    | refine LenD.own 5 rfl ?_)
local macro_rules | `(tactic| walk_at "e1") => `(tactic| first
    | (refine gWE ?_; walk_at "e.we")
    | (refine gBinD ?_; walk_at "e.bin")
    | (refine gWSs ?_; walk_at "e.wss")
    | (refine gWS ?_; walk_at "e.ws")
    | (refine gWT ?_; walk_at "e.wt")
    | (refine gCmpD ?_; walk_at "e.cmp")
    | (refine gWA ?_; walk_at "e.wa")
    | (refine gWW ?_; walk_at "e.ww")
    | refine iteT ?_
    | refine iteF ?_
    | walk_at "e.is")
local macro_rules | `(tactic| walk_at "x1") => `(tactic| first
    | (refine gWE ?_; walk_at "e.we")
    | (refine gBinD ?_; walk_at "e.bin")
    | (refine gWT ?_; walk_at "e.wt")
    | (refine gCmpD ?_; walk_at "e.cmp")
    | (refine gWA ?_; walk_at "e.wa")
    | (refine gWW ?_; walk_at "e.ww")
    | refine iteT ?_
    | refine iteF ?_
    | walk_at "e.is")
local macro_rules | `(tactic| walk_at "e") => `(tactic| repeat (walk_at "e1"))
local macro_rules | `(tactic| walk_at "x") => `(tactic| repeat (walk_at "x1"))
section
variable {P : Program} {w : World} {K : PySem.W.Frag} {mg : Str → Option Value} {base : Heap} {T : List (Addr × Str)} {f c CE C CF : Addr} {A : Around} {outer : List Env} {s_1 : Shared} {H : Hp} {E0 : XK} {W : WX} {M : Ms} {N : En} {p : Addr} {l : La} {a : Ta} {ins : List Int} {fs2 fs : List Fw} {dk2 dk : List (Key × D)} {σ : Int → Option Int} {n : Nat} {t x y w1 : Int} {z0 z1 z2 z3 z4 z5 z6 z7 z8 z9 z10 z11 z12 z13 z14 z15 z16 z17 z18 z19 z20 z21 z22 z23 : Option D}
theorem st_step (L : LawH P w K mg base T CE C CF) (cx : Ct (XL P w K mg base f c A outer s_1 H E0) (Tabs T) W 7) (ts : L2.Takes (XL P w K mg base f c A outer s_1 H E0) W) (TX : TabX (XL P w K mg base f c A outer s_1 H E0) T "<lambda>") (io : InsOk ins) (iv : Iv fs2 fs dk2 dk σ n t) (n80 : n ≤ 80)
    (hN : ∀ (x y w1 t' : Int) (l : La) (a' : Ta) (fs2' fs' : List Fw) (dk2' dk' : List (Key × D)) (σ' : Int → Option Int) (z0 z6 z7 z8 z9 z10 z11 z12 z13 z14 z15 z16 z17 z18 z19 z20 z21 z22 z23 : Option D), Iv fs2' fs' dk2' dk' σ' (n + 1) t' → N.nx (hM C CF p x y w1 l a' ins fs2' fs' dk2' dk' M) (z0 :: some (Rf p) :: some (inD ins) :: some (Rf a'.t) :: some (Rf l.st) :: some (I t') :: z6 :: z7 :: z8 :: z9 :: z10 :: z11 :: z12 :: z13 :: z14 :: z15 :: z16 :: z17 :: z18 :: z19 :: z20 :: z21 :: z22 :: z23 :: [])) :
    WSs (XL P w K mg base f c A outer s_1 H E0) (Tabs T) W jb (hM C CF p x y w1 l a ins fs2 fs dk2 dk M) (z0 :: some (Rf p) :: some (inD ins) :: some (Rf a.t) :: some (Rf l.st) :: some (I t) :: z6 :: z7 :: z8 :: z9 :: z10 :: z11 :: z12 :: z13 :: z14 :: z15 :: z16 :: z17 :: z18 :: z19 :: z20 :: z21 :: z22 :: z23 :: []) N := by
  refine st_roll L cx io fun x y w1 t' host peer sort z0 z6 z10 z11 z12 z13 z14 z15 z16 z17 z18 z19 z20 z21 z22 z23 ht hh p0 p1 s0 => ?_
  refine st_door L cx TX io (iv_time iv ht) n80 hh p0 p1 fun l dk2' dk' σ' z0 z6 z10 z11 z12 z13 z14 z15 z16 z17 z18 z19 z20 z21 z22 z23 iv => ?_
  refine st_seg L cx io hh p0 p1 fun x y w1 s z0 z6 z10 z13 z14 z15 z16 z17 z18 z19 z20 z21 z22 z23 ok sb => ?_
  refine st_go L cx ts io hh p0 p1 iv ok fun x y w1 a1 fs2' fs' r z0 z6 z10 z13 z14 z17 z18 z19 z20 z21 z22 z23 ea iv' hr hb hs => ?_
  have hb2 : ∀ x s', r = some (x, s') → ∃ bs : List Int, s'.body = bs.map fun i => I i := fun x s' e => by rw [hb x s' e]; exact sb
  rw [← ea]
  refine st_cmp L cx ts hr hb2 ?_
  refine st_tabs L cx iv' ?_
  refine st_pairs L cx iv' fun z17 => ?_
  refine st_same L cx ts iv' ok sb hr hs fun a2 z0 z6 z7 z8 z9 z10 z11 z12 z13 z14 z15 z16 z17 z18 z19 z20 z21 z22 z23 e2 => ?_
  rw [← e2]
  exact hN x y w1 t' l a2 fs2' fs' dk2' dk' σ' _ _ _ _ _ _ _ _ _ _ _ _ _ _ _ _ _ _ _ iv'
theorem st_loop (L : LawH P w K mg base T CE C CF) (cx : Ct (XL P w K mg base f c A outer s_1 H E0) (Tabs T) W 7) (ts : L2.Takes (XL P w K mg base f c A outer s_1 H E0) W) (TX : TabX (XL P w K mg base f c A outer s_1 H E0) T "<lambda>") (io : InsOk ins)
    (hN : ∀ (x y w1 t : Int) (l : La) (a : Ta) (fs2 fs : List Fw) (dk2 dk : List (Key × D)) (σ : Int → Option Int) (n : Nat) (z0 z6 z7 z8 z9 z10 z11 z12 z13 z14 z15 z16 z17 z18 z19 z20 z21 z22 z23 : Option D), Iv fs2 fs dk2 dk σ n t → WSs (XL P w K mg base f c A outer s_1 H E0) (Tabs T) W (lb.drop 3) (hM C CF p x y w1 l a ins fs2 fs dk2 dk M) (z0 :: some (Rf p) :: some (inD ins) :: some (Rf a.t) :: some (Rf l.st) :: some (I t) :: z6 :: z7 :: z8 :: z9 :: z10 :: z11 :: z12 :: z13 :: z14 :: z15 :: z16 :: z17 :: z18 :: z19 :: z20 :: z21 :: z22 :: z23 :: []) N) :
    WSs (XL P w K mg base f c A outer s_1 H E0) (Tabs T) W (lb.drop 2) (hM C CF p x y w1 l a ins [] [] [] [] M) (z0 :: some (Rf p) :: some (inD ins) :: some (Rf a.t) :: some (Rf l.st) :: some (I 0) :: z6 :: z7 :: z8 :: z9 :: z10 :: z11 :: z12 :: z13 :: z14 :: z15 :: z16 :: z17 :: z18 :: z19 :: z20 :: z21 :: z22 :: z23 :: []) N := by
  obtain ⟨fr, mr, gr⟩ := L.roll
  refine wss_cons (ws_for cx (pgn 6 cx.nd) (gok_name 6) (fun i M' ρ' => ∃ (x y w1 t : Int) (l : La) (a : Ta) (fs2 fs : List Fw) (dk2 dk : List (Key × D)) (σ : Int → Option Int) (z0 z6 z7 z8 z9 z10 z11 z12 z13 z14 z15 z16 z17 z18 z19 z20 z21 z22 z23 : Option D), Iv fs2 fs dk2 dk σ i t ∧ M' = hM C CF p x y w1 l a ins fs2 fs dk2 dk M ∧ ρ' = (z0 :: some (Rf p) :: some (inD ins) :: some (Rf a.t) :: some (Rf l.st) :: some (I t) :: z6 :: z7 :: z8 :: z9 :: z10 :: z11 :: z12 :: z13 :: z14 :: z15 :: z16 :: z17 :: z18 :: z19 :: z20 :: z21 :: z22 :: z23 :: [])) (wi_rng1 L.range rfl (wa_one (we_call cx gr (by decide) mr rfl ?_))))
  walk_at "x"
  refine ⟨p, x, y, w1, _, 0, rfl, rfl, by decide, by decide, fun x y w1 v h1 h2 => ?_⟩
  refine ⟨v, rfl, by omega, by omega, ⟨x, y, w1, 0, l, a, [], [], [], [], _, _, _, _, _, _, _, _, _, _, _, _, _, _, _, _, _, _, _, _, iv_zero, rfl, rfl⟩, ?_, ?_⟩
  · rintro i z hz M' ρ' ⟨x, y, w1, t, l, a, fs2, fs, dk2, dk, σ, z0, z6, z7, z8, z9, z10, z11, z12, z13, z14, z15, z16, z17, z18, z19, z20, z21, z22, z23, iv, rfl, rfl⟩
    obtain ⟨hi, rfl⟩ := rng_at hz
    exact st_step L cx ts TX io iv (by omega) fun x y w1 t' l a' fs2' fs' dk2' dk' σ' z0 z6 z7 z8 z9 z10 z11 z12 z13 z14 z15 z16 z17 z18 z19 z20 z21 z22 z23 iv' => ⟨x, y, w1, t', l, a', fs2', fs', dk2', dk', σ', _, _, _, _, _, _, _, _, _, _, _, _, _, _, _, _, _, _, _, iv', rfl, rfl⟩
  · rintro M' ρ' ⟨x, y, w1, t, l, a, fs2, fs, dk2, dk, σ, z0, z6, z7, z8, z9, z10, z11, z12, z13, z14, z15, z16, z17, z18, z19, z20, z21, z22, z23, iv, rfl, rfl⟩
    exact hN x y w1 t l a fs2 fs dk2 dk σ _ _ _ _ _ _ _ _ _ _ _ _ _ _ _ _ _ _ _ _ iv
theorem st_rest (L : LawH P w K mg base T CE C CF) (cx : Ct (XL P w K mg base f c A outer s_1 H E0) (Tabs T) W 7) (iv : Iv fs2 fs dk2 dk σ n t)
    (hN : ∀ (a : Ta) (z0 z1 z2 z4 z6 z7 z8 z9 z10 z11 z12 z13 z14 z15 z16 z17 z18 z19 z20 z21 z22 z23 : Option D), WSs (XL P w K mg base f c A outer s_1 H E0) (Tabs T) W (lb.drop 7) (hM C CF p x y w1 l a ins fs2 [] dk2 dk M) (z0 :: z1 :: z2 :: some (Rf a.t) :: z4 :: some (I t) :: z6 :: z7 :: z8 :: z9 :: z10 :: z11 :: z12 :: z13 :: z14 :: z15 :: z16 :: z17 :: z18 :: z19 :: z20 :: z21 :: z22 :: z23 :: []) N) :
    WSs (XL P w K mg base f c A outer s_1 H E0) (Tabs T) W (lb.drop 3) (hM C CF p x y w1 l a ins fs2 fs dk2 dk M) (z0 :: some (Rf p) :: some (inD ins) :: some (Rf a.t) :: some (Rf l.st) :: some (I t) :: z6 :: z7 :: z8 :: z9 :: z10 :: z11 :: z12 :: z13 :: z14 :: z15 :: z16 :: z17 :: z18 :: z19 :: z20 :: z21 :: z22 :: z23 :: []) N := by
  obtain ⟨ff, mf, gf⟩ := L.forget
  have few := iv.few
  have hx := hM_t (C := C) (CF := CF) (p := p) (x := x) (y := y) (w := w1) (l := l) (a := a) (ins := ins) (fs2 := fs2) (fs := fs) (dk2 := dk2) (dk := dk) (M := M)
  refine wss_cons (ws_expr (we_sp (we_meth cx gf (by decide) L.tc.c mf ?_)))
  walk_at "x"
  refine ⟨rfl, rfl, ?_⟩
  walk_at "x"
  refine ⟨a, ins, fs, dk, t + 199, _, rfl, sp_t, by omega, fun fl' => ⟨_, sp_t', ?_⟩⟩
  obtain ⟨gs, hgs⟩ : ∃ gs, gs = fs.filter (live (t + 199)) := ⟨_, rfl⟩
  rw [← hgs]
  have fewg : gs.length ≤ 50 := by rw [hgs]; exact Nat.le_trans (List.length_filter_le _ _) few
  have hxg := hM_t (C := C) (CF := CF) (p := p) (x := x) (y := y) (w := w1) (l := l) (a := { a with fl := fl' }) (ins := ins) (fs2 := fs2) (fs := gs) (dk2 := dk2) (dk := dk) (M := M)
  refine wss_cons (ws_setLcA 19 cx cx.nd [("one", 21)] gs (fun f => Rf f.addr) (fun f => decide (200 ≤ t + 199 - f.used)) (fun f => Rf f.addr) (gok_name 21) (gwipe_name 21) (amono_name 21) (fun s H C cl fp => pgn 21 cx.nd) (blkOk_by (by show blkC N_law (defScope s_law) _ _ = true; decide +kernel)) (sw_true rfl rfl rfl (by decide +kernel)) (wi_lstP ?_))
  walk_at "x"
  refine ⟨L.tc.c, L.tc.n3, _, rfl, ?_⟩
  refine ⟨3 + fs2.length + 1, fl', _, rfl, hM_fl, rfl, fun x M' ⟨i, h⟩ => ⟨i + 1, h⟩, ⟨_, hM_fl⟩, sz2 (by omega), fun g hg => ?_, ?_⟩
  · obtain ⟨i, hi⟩ := List.getElem?_of_mem hg
    refine itemA1 (amono_name 21) fun q acc => ?_
    rintro Y ⟨s', H', C', cl', fp', rfl⟩ cy
    have hf : ((q, O.lst acc) :: hM C CF p x y w1 l { a with fl := fl' } ins fs2 gs dk2 dk M)[3 + fs2.length + (3 + i) + 1]? = some (g.addr, .ins CF (fwF g)) := by rw [List.getElem?_cons_succ]; exact hM_f hi
    walk_at "x"
    refine ⟨L.fc.c, L.fc.n5, _, rfl, ?_⟩
    walk_at "x"
    refine ⟨rfl, rfl, fun _ => ?_⟩
    rintro Y' ⟨s2, H2, C2, cl2, fp2, rfl⟩ cy2
    walk_at "x"
    exact ⟨rfl, rfl⟩
  have e0 : gs.filter (fun f => decide (200 ≤ t + 199 - f.used)) = [] := List.filter_eq_nil_iff.mpr fun g hg => by
    rw [hgs] at hg
    have h1 := (List.mem_filter.mp hg).2
    unfold live at h1
    have h2 := of_decide_eq_true h1
    rw [decide_eq_true_eq]
    omega
  rw [e0]
  refine wss_cons (ws_expr (we_sp (we_meth cx gf (by decide) L.tc.c mf ?_)))
  walk_at "x"
  refine ⟨rfl, rfl, ?_⟩
  walk_at "x"
  refine ⟨{ a with fl := fl' }, ins, gs, dk, t + 400, _, rfl, sp_t, by omega, fun fl2 => ⟨_, sp_t', ?_⟩⟩
  have e1 : gs.filter (live (t + 400)) = [] := List.filter_eq_nil_iff.mpr fun g hg => by
    rw [hgs] at hg
    have h1 := iv.used g (List.mem_filter.mp hg).1
    unfold live
    rw [decide_eq_true_eq]
    omega
  rw [e1]
  have hx0 := hM_t (C := C) (CF := CF) (p := p) (x := x) (y := y) (w := w1) (l := l) (a := { a with fl := fl2 }) (ins := ins) (fs2 := fs2) (fs := []) (dk2 := dk2) (dk := dk) (M := M)
  refine wss_cons (ws_if (wt_bool (ww_or (wt_neNil cx ?_))))
  walk_at "x"
  refine we_lst cx.gs (wa_nil ⟨Nat.zero_le _, _, .lst _, rfl, ?_⟩)
  refine iteF (ww_or1 (wt_neNil cx ?_))
  walk_at "x"
  refine ⟨L.tc.c, L.tc.n3, _, rfl, ?_⟩
  refine we_lst cx.gs (wa_nil ⟨Nat.zero_le _, _, .own (3 + fs2.length + 1) hM_fl, rfl, ?_⟩)
  exact iteF (wss_nil (hN { a with fl := fl2 } _ _ _ _ _ _ _ _ _ _ _ _ _ _ _ _ _ _ _ _ _ _))
end

end K24
set_option maxRecDepth 100000
set_option maxHeartbeats 4000000

namespace K24
open PySem PySem.Spec PyProof.Rows L2 Wv
open LamX (CodeO TabS Tabs ExtN TabB lamEnv lamCx LamS)
local macro_rules | `(tactic| walk_at "e.name") => `(tactic| first
    | refine we_var 0 _ rfl (by first | exact .inl rfl | exact .inr (.inl rfl) | exact .inr (.inr rfl)) rfl ?_
    | refine we_var 1 _ rfl (by first | exact .inl rfl | exact .inr (.inl rfl) | exact .inr (.inr rfl)) rfl ?_
    | refine we_var 2 _ rfl (by first | exact .inl rfl | exact .inr (.inl rfl) | exact .inr (.inr rfl)) rfl ?_
    | refine we_var 3 _ rfl (by first | exact .inl rfl | exact .inr (.inl rfl) | exact .inr (.inr rfl)) rfl ?_
    | refine we_var 4 _ rfl (by first | exact .inl rfl | exact .inr (.inl rfl) | exact .inr (.inr rfl)) rfl ?_
    | refine we_var 5 _ rfl (by first | exact .inl rfl | exact .inr (.inl rfl) | exact .inr (.inr rfl)) rfl ?_
    | refine we_var 6 _ rfl (by first | exact .inl rfl | exact .inr (.inl rfl) | exact .inr (.inr rfl)) rfl ?_
    | refine we_var 7 _ rfl (by first | exact .inl rfl | exact .inr (.inl rfl) | exact .inr (.inr rfl)) rfl ?_
    | refine we_var 8 _ rfl (by first | exact .inl rfl | exact .inr (.inl rfl) | exact .inr (.inr rfl)) rfl ?_
    | refine we_var 9 _ rfl (by first | exact .inl rfl | exact .inr (.inl rfl) | exact .inr (.inr rfl)) rfl ?_
    | refine we_var 10 _ rfl (by first | exact .inl rfl | exact .inr (.inl rfl) | exact .inr (.inr rfl)) rfl ?_
    | refine we_var 11 _ rfl (by first | exact .inl rfl | exact .inr (.inl rfl) | exact .inr (.inr rfl)) rfl ?_
    | refine we_var 12 _ rfl (by first | exact .inl rfl | exact .inr (.inl rfl) | exact .inr (.inr rfl)) rfl ?_
    | refine we_var 13 _ rfl (by first | exact .inl rfl | exact .inr (.inl rfl) | exact .inr (.inr rfl)) rfl ?_
    | refine we_var 14 _ rfl (by first | exact .inl rfl | exact .inr (.inl rfl) | exact .inr (.inr rfl)) rfl ?_
    | refine we_var 15 _ rfl (by first | exact .inl rfl | exact .inr (.inl rfl) | exact .inr (.inr rfl)) rfl ?_
    | refine we_var 16 _ rfl (by first | exact .inl rfl | exact .inr (.inl rfl) | exact .inr (.inr rfl)) rfl ?_
    | refine we_var 17 _ rfl (by first | exact .inl rfl | exact .inr (.inl rfl) | exact .inr (.inr rfl)) rfl ?_
    | refine we_var 18 _ rfl (by first | exact .inl rfl | exact .inr (.inl rfl) | exact .inr (.inr rfl)) rfl ?_
    | refine we_var 19 _ rfl (by first | exact .inl rfl | exact .inr (.inl rfl) | exact .inr (.inr rfl)) rfl ?_
    | refine we_var 20 _ rfl (by first | exact .inl rfl | exact .inr (.inl rfl) | exact .inr (.inr rfl)) rfl ?_
    | refine we_var 21 _ rfl (by first | exact .inl rfl | exact .inr (.inl rfl) | exact .inr (.inr rfl)) rfl ?_
    | refine we_var 22 _ rfl (by first | exact .inl rfl | exact .inr (.inl rfl) | exact .inr (.inr rfl)) rfl ?_
    | refine we_var 23 _ rfl (by first | exact .inl rfl | exact .inr (.inl rfl) | exact .inr (.inr rfl)) rfl ?_
    | refine we_var 24 _ rfl (by first | exact .inl rfl | exact .inr (.inl rfl) | exact .inr (.inr rfl)) rfl ?_
    | refine we_var 25 _ rfl (by first | exact .inl rfl | exact .inr (.inl rfl) | exact .inr (.inr rfl)) rfl ?_
    | refine we_var 26 _ rfl (by first | exact .inl rfl | exact .inr (.inl rfl) | exact .inr (.inr rfl)) rfl ?_
    | refine we_var 27 _ rfl (by first | exact .inl rfl | exact .inr (.inl rfl) | exact .inr (.inr rfl)) rfl ?_
    | refine we_var 28 _ rfl (by first | exact .inl rfl | exact .inr (.inl rfl) | exact .inr (.inr rfl)) rfl ?_
    | refine we_var 29 _ rfl (by first | exact .inl rfl | exact .inr (.inl rfl) | exact .inr (.inr rfl)) rfl ?_
    | refine we_globI (by assumption) rfl ?_
    | refine we_globS (by assumption) rfl ?_)
local macro_rules | `(tactic| walk_at "e.const") => `(tactic| first
    | refine we_int ?_
    | refine we_str ?_
    | refine we_bl ?_
    | refine we_non ?_)
local macro_rules | `(tactic| walk_at "e.call") => `(tactic| first
    | refine we_len (by assumption) rfl ?_
    | refine we_int2 (by assumption) rfl ?_
    | refine we_tuple (Ct.gs (by assumption)) (by assumption) rfl ?_
    | refine we_abs (by assumption) rfl ?_
    | refine we_find ?_)
local macro_rules | `(tactic| walk_at "e.we") => `(tactic| first
    | (refine gNm ?_; walk_at "e.name")
    | (refine gConst ?_; walk_at "e.const")
    | refine we_bin (Ct.gs (by assumption)) ?_
    | (refine gCall ?_; walk_at "e.call")
    | refine we_cmp (Ct.hu (by assumption)) ?_
    | refine we_ix ?_
    | refine we_slice (Ct.gs (by assumption)) ?_
    | refine we_fld ?_
    | refine we_tup (Ct.gs (by assumption)) ?_
    | refine we_chain (Ct.hu (by assumption)) ?_
    | refine we_lst1 (Ct.gs (by assumption)) ?_
    | refine we_ifx ?_
    | refine we_and ?_
    | refine we_or ?_
    | refine we_one ?_
    | refine we_not ?_
    | refine we_negI ?_
    | refine we_neg ?_)
local macro_rules | `(tactic| walk_at "e.wt") => `(tactic| first
    | refine wt_cmp (Ct.hu (by assumption)) ?_
    | refine wt_chain (Ct.hu (by assumption)) ?_
    | refine wt_not ?_
    | refine wt_bool ?_
    | refine wt_val ?_)
local macro_rules | `(tactic| walk_at "e.ww") => `(tactic| first
    | refine ww_and ?_
    | refine ww_or ?_
    | refine ww_and1 ?_
    | refine ww_or1 ?_)
local macro_rules | `(tactic| walk_at "e.wa") => `(tactic| first
    | refine wa_nil ?_
    | refine wa_cons ?_)
local macro_rules | `(tactic| walk_at "e.wss") => `(tactic| first
    | refine wss_cons ?_
    | refine wss_nil ?_)
local macro_rules | `(tactic| walk_at "e.ws") => `(tactic| first
    | refine ws_if ?_
    | refine ws_expr (we_append (Ct.gs (by assumption)) ?_ (pe_bm PySem.F.plainAttrs_list PySem.F.slot_list_append PySem.F.type_list_append mt_append pe_wp pa_wp))
    | refine ws_fldSub (Ct.gs (by assumption)) ?_
    | refine ws_fldAddW (Ct.gs (by assumption)) ?_
    | refine ws_expr ?_
    | refine ws_set 0 (Ct.nd (by assumption)) ?_
    | refine ws_set 1 (Ct.nd (by assumption)) ?_
    | refine ws_set 2 (Ct.nd (by assumption)) ?_
    | refine ws_set 3 (Ct.nd (by assumption)) ?_
    | refine ws_set 4 (Ct.nd (by assumption)) ?_
    | refine ws_set 5 (Ct.nd (by assumption)) ?_
    | refine ws_set 6 (Ct.nd (by assumption)) ?_
    | refine ws_set 7 (Ct.nd (by assumption)) ?_
    | refine ws_set 8 (Ct.nd (by assumption)) ?_
    | refine ws_set 9 (Ct.nd (by assumption)) ?_
    | refine ws_set 10 (Ct.nd (by assumption)) ?_
    | refine ws_set 11 (Ct.nd (by assumption)) ?_
    | refine ws_set 12 (Ct.nd (by assumption)) ?_
    | refine ws_set 13 (Ct.nd (by assumption)) ?_
    | refine ws_set 14 (Ct.nd (by assumption)) ?_
    | refine ws_set 15 (Ct.nd (by assumption)) ?_
    | refine ws_set 16 (Ct.nd (by assumption)) ?_
    | refine ws_set 17 (Ct.nd (by assumption)) ?_
    | refine ws_set 18 (Ct.nd (by assumption)) ?_
    | refine ws_set 19 (Ct.nd (by assumption)) ?_
    | refine ws_set 20 (Ct.nd (by assumption)) ?_
    | refine ws_set 21 (Ct.nd (by assumption)) ?_
    | refine ws_set 22 (Ct.nd (by assumption)) ?_
    | refine ws_set 23 (Ct.nd (by assumption)) ?_
    | refine ws_set 24 (Ct.nd (by assumption)) ?_
    | refine ws_set 25 (Ct.nd (by assumption)) ?_
    | refine ws_set 26 (Ct.nd (by assumption)) ?_
    | refine ws_set 27 (Ct.nd (by assumption)) ?_
    | refine ws_set 28 (Ct.nd (by assumption)) ?_
    | refine ws_set 29 (Ct.nd (by assumption)) ?_
    | refine ws_sub (Ct.gs (by assumption)) ?_ (fun a b => pg_sub a b set_list)
    | refine ws_fld (Ct.gs (by assumption)) ?_
    | refine ws_pass ?_
    | refine ws_break ?_
    | refine ws_cont ?_)
local macro_rules | `(tactic| walk_at "e.bin") => `(tactic| first
    | refine BinD.addI ?_
    | refine BinD.subI ?_
    | refine BinD.modP (by assumption) ?_
    | refine BinD.divP (by assumption) ?_
    | refine BinD.modI (by decide) ?_
    | refine BinD.modI (by assumption) ?_
    | refine BinD.divI (by decide) (by decide) ?_
    | refine BinD.divI (by assumption) (by assumption) ?_
    | refine BinD.mulI (by first | exact .inl ⟨by decide, by decide⟩ | exact .inr ⟨by decide, by decide⟩) ?_
    | refine BinD.xorI ?_
    | refine BinD.powI ⟨by decide, by decide, by decide⟩ ?_)
local macro_rules | `(tactic| walk_at "e.cmp") => `(tactic| first
    | refine CmpD.lt ?_
    | refine CmpD.le ?_
    | refine CmpD.gt ?_
    | refine CmpD.ge ?_
    | refine CmpD.isN ?_
    | refine CmpD.notN ?_
    | refine CmpD.neI_s ?_
    | refine CmpD.neT_s ?_
    | refine CmpD.neZ_s ?_
    | refine CmpD.eqZ_s ?_
    | refine CmpD.neN_s ?_
    | refine CmpD.eqN_s ?_
    | refine CmpD.neTZ ?_
    | refine CmpD.eqTZ ?_
    | refine CmpD.eqI ?_
    | refine CmpD.neI ?_
    | refine CmpD.eqZ ?_
    | refine CmpD.neZ ?_)
local macro_rules | `(tactic| walk_at "e.is") => `(tactic| first
    | refine gSz ?_
    | refine gFld (by assumption) (by assumption) rfl ?_
    | refine gFldS (by assumption) (by assumption) (by first | decide | (repeat (first | refine plA ?_ | refine plB ?_)); simp) ?_
    | refine gFldU (by first | decide | (repeat (first | refine plA ?_ | refine plB ?_)); simp) ?_
    | refine IsI.mk ?_
    | refine IsT.mk ?_
    | refine IsL.mk ?_
    | refine IsZ.mk ?_
    | refine IsB.mk ?_
    | refine OwL.mk 0 rfl ?_
    | refine OwL.mk 1 rfl ?_
    | refine OwL.mk 2 rfl ?_
    | refine OwL.mk 3 rfl ?_
    | refine OwL.mk 4 rfl ?_
    | refine OwL.mk 5 rfl ?_
    | refine OwI.mk 0 rfl ?_
    | refine OwI.mk 1 rfl ?_
    | refine OwI.mk 2 rfl ?_
    | refine OwI.mk 3 rfl ?_
    | refine OwI.mk 4 rfl ?_
    | refine OwI.mk 5 rfl ?_
    | refine OwI.mk _ (by assumption) ?_
    | refine OwI.mk _ (set_at (by assumption)) ?_
    | refine OwI.mk _ (set_at (set_at (by assumption))) ?_
    | refine OwL.mk _ (by assumption) ?_
    | refine OwL.mk _ (set_at (by assumption)) ?_
    | refine OwL.mk _ (set_at (set_at (by assumption))) ?_
    | refine OwL.mk _ (set_at (set_at (set_at (by assumption)))) ?_
    | refine IxD.own 0 rfl rfl ?_
    | refine IxD.own 1 rfl rfl ?_
    | refine IxD.own 2 rfl rfl ?_
    | refine IxD.own 3 rfl rfl ?_
    | refine IxD.own 4 rfl rfl ?_
    | refine IxD.own 5 rfl rfl ?_
    | refine IxD.own _ (by assumption) rfl ?_
    | refine IxD.own _ (set_at (by assumption)) rfl ?_
    | refine IxD.own _ (set_at (set_at (by assumption))) rfl ?_
    | refine IxD.own _ (set_at (set_at (set_at (by assumption)))) rfl ?_
    | refine IxD.tup rfl ?_
    | refine IxD.lst rfl ?_
    | refine IntD.int ?_
    | refine IntD.bl ?_
    | refine TruD.bl ?_
    | refine TruD.int ?_
    | refine TruD.tup ?_
    | refine TruD.lst ?_
    | refine LenD.tup ?_
    | refine LenD.lst ?_
    | refine SeqD.tup ?_
    | refine SeqD.lst ?_
    | refine SlD.tup ?_
    | refine SlD.lst ?_
    | refine SeqD.own 0 rfl ?_
    | refine SeqD.own 1 rfl ?_
    | refine SeqD.own 2 rfl ?_
    | refine SeqD.own 3 rfl ?_
    | refine SeqD.own 4 rfl ?_
    | refine SeqD.own 5 rfl ?_
    | refine LenD.own 0 rfl ?_
    | refine LenD.own 1 rfl ?_
    | refine LenD.own 2 rfl ?_
    | refine LenD.own 3 rfl ?_
    | refine LenD.own 4 rfl ?_
    | refine LenD.own 5 rfl ?_)
local macro_rules | `(tactic| walk_at "e1") => `(tactic| first
    | (refine gWE ?_; walk_at "e.we")
    | (refine gBinD ?_; walk_at "e.bin")
    | (refine gWSs ?_; walk_at "e.wss")
    | (refine gWS ?_; walk_at "e.ws")
    | (refine gWT ?_; walk_at "e.wt")
    | (refine gCmpD ?_; walk_at "e.cmp")
    | (refine gWA ?_; walk_at "e.wa")
    | (refine gWW ?_; walk_at "e.ww")
    | refine iteT ?_
    | refine iteF ?_
    | walk_at "e.is")
local macro_rules | `(tactic| walk_at "x1") => `(tactic| first
    | (refine gWE ?_; walk_at "e.we")
    | (refine gBinD ?_; walk_at "e.bin")
    | (refine gWT ?_; walk_at "e.wt")
    | (refine gCmpD ?_; walk_at "e.cmp")
    | (refine gWA ?_; walk_at "e.wa")
    | (refine gWW ?_; walk_at "e.ww")
    | refine iteT ?_
    | refine iteF ?_
    | walk_at "e.is")
local macro_rules | `(tactic| walk_at "e") => `(tactic| repeat (walk_at "e1"))
local macro_rules | `(tactic| walk_at "x") => `(tactic| repeat (walk_at "x1"))
structure Fill (T : Int) (i : Nat) (fs : List Fw) : Prop where
  len : fs.length = min i 50
  at' : ∀ (j : Nat) (f : Fw), fs[j]? = some f → f.opener = 1 ∧ f.number = j + 1 ∧ f.outer = j + 1 ∧ f.peer = 20 ∧ f.used = T
abbrev fSeg (i : Nat) : Seg := ⟨1, 1, (i : Int) + 1, 0, 0, 0, false, []⟩
theorem fill_taken {T : Int} {i : Nat} {fs : List Fw} (h : Fill T i fs) (k : Int) : k ∈ taken fs 20 ↔ 1 ≤ k ∧ k ≤ fs.length := by
  unfold taken
  rw [List.mem_map]
  constructor
  · rintro ⟨f, hf, rfl⟩
    obtain ⟨j, hj⟩ := List.getElem?_of_mem (List.mem_filter.mp hf).1
    obtain ⟨_, _, e, _, _⟩ := h.at' j f hj
    have := at_lt hj
    rw [e]
    exact ⟨by omega, by omega⟩
  · rintro ⟨h1, h2⟩
    have hj : (k - 1).toNat < fs.length := by omega
    have e := List.getElem?_eq_getElem hj
    obtain ⟨_, _, e1, e2, _⟩ := h.at' _ _ e
    exact ⟨_, List.mem_filter.mpr ⟨List.mem_of_getElem? e, decide_eq_true e2⟩, by rw [e1]; omega⟩
theorem fill_step {T : Int} {i : Nat} {fs fs' : List Fw} {ins : List Int} {σ : Int → Option Int} {r : Option (Int × Seg)} (hi : i < 52) (h : Fill T i fs) (hin : (1 : Int) ∈ ins ∧ (20 : Int) ∉ ins) (ho : OutR ins fs σ 1 20 T (fSeg i) r fs') : Fill T (i + 1) fs' := by
  have l1 := h.len
  cases ho with
  | no z => exact absurd hin z
  | door _ z => exact absurd rfl z
  | shut _ z => exact absurd rfl z
  | old _ _ j f hf hh =>
    obtain ⟨_, e, _⟩ := h.at' j f hf
    have e2 : f.number = (i : Int) + 1 := hh.2.1
    have := at_lt hf
    omega
  | full _ _ _ h50 => exact ⟨by omega, h.at'⟩
  | new _ _ _ h50 q k hk =>
    have hk1 : k = i + 1 := by
      have k1 := hk.one
      have k2 := hk.free
      rw [fill_taken h] at k2
      rcases Int.lt_or_le ((i : Int) + 1) k with z | z
      · have := hk.low (i + 1) (by omega) z
        rw [fill_taken h] at this
        omega
      · omega
    refine ⟨by rw [List.length_append]; show fs.length + 1 = _; omega, fun j f hj => ?_⟩
    rcases Nat.lt_or_ge j fs.length with z | z
    · rw [List.getElem?_append_left z] at hj
      exact h.at' j f hj
    · rw [List.getElem?_append_right z] at hj
      have hj0 : j - fs.length = 0 := by
        have := at_lt hj
        simp at this
        omega
      rw [hj0] at hj
      cases hj
      have : j = i := by omega
      subst this
      exact ⟨rfl, rfl, hk1, rfl, rfl⟩
theorem fill_ok {T : Int} {i : Nat} {fs : List Fw} (hi : i ≤ 52) (h : Fill T i fs) : FsOk fs := fun f hf => by
  obtain ⟨j, hj⟩ := List.getElem?_of_mem hf
  obtain ⟨e1, e2, e3, _, _⟩ := h.at' j f hj
  have := at_lt hj
  have := h.len
  rw [e1, e2, e3]
  exact ⟨by omega, by omega, by omega, by omega, by omega, by omega⟩
theorem fill_live {T : Int} {i : Nat} {fs : List Fw} (h : Fill T i fs) : fs.filter (live T) = fs := List.filter_eq_self.mpr fun f hf => by
  obtain ⟨j, hj⟩ := List.getElem?_of_mem hf
  obtain ⟨_, _, _, _, e5⟩ := h.at' j f hj
  unfold live
  rw [e5]
  exact decide_eq_true (by omega)
theorem fill_outs {T : Int} {fs : List Fw} (h : Fill T 52 fs) : (fs.map fun f => I f.outer) = (List.range 50).map fun n : Nat => I (1 + (n : Int)) := by
  refine List.ext_getElem? fun j => ?_
  rw [List.getElem?_map, List.getElem?_map]
  have l1 := h.len
  rcases Nat.lt_or_ge j 50 with z | z
  · have hj : j < fs.length := by omega
    have e := List.getElem?_eq_getElem hj
    obtain ⟨_, _, e3, _⟩ := h.at' _ _ e
    rw [e, List.getElem?_range z]
    show some (I (fs[j]).outer) = _
    rw [e3, Int.add_comm]
    rfl
  · rw [List.getElem?_eq_none (by omega), List.getElem?_eq_none (by rw [List.length_range]; exact z)]
    rfl
section
variable {P : Program} {w : World} {K : PySem.W.Frag} {mg : Str → Option Value} {base : Heap} {T : List (Addr × Str)} {f c CE C CF : Addr} {A : Around} {outer : List Env} {s_1 : Shared} {H : Hp} {E0 : XK} {W : WX} {M : Ms} {N : En} {p : Addr} {l : La} {a : Ta} {ins : List Int} {fs2 fs : List Fw} {dk2 dk : List (Key × D)} {σ : Int → Option Int} {n : Nat} {t x y w1 : Int} {z0 z1 z2 z3 z4 z5 z6 z7 z8 z9 z10 z11 z12 z13 z14 z15 z16 z17 z18 z19 z20 z21 z22 z23 : Option D}
theorem st_fill (L : LawH P w K mg base T CE C CF) (cx : Ct (XL P w K mg base f c A outer s_1 H E0) (Tabs T) W 7) (ts : L2.Takes (XL P w K mg base f c A outer s_1 H E0) W) (io : InsOk ins) (d1 : DrOk dk σ n)
    (hN : ∀ (a : Ta) (fs : List Fw) (z0 z1 z2 z4 z6 z7 z8 z9 z10 z11 z12 z13 z14 z15 z16 z17 z18 z19 z20 z21 z22 z23 : Option D), Fill (t + 500) 52 fs → WSs (XL P w K mg base f c A outer s_1 H E0) (Tabs T) W (lb.drop 8) (hM C CF p x y w1 l a ins fs2 fs dk2 dk M) (z0 :: z1 :: z2 :: some (Rf a.t) :: z4 :: some (I t) :: z6 :: z7 :: z8 :: z9 :: z10 :: z11 :: z12 :: z13 :: z14 :: z15 :: z16 :: z17 :: z18 :: z19 :: z20 :: z21 :: z22 :: z23 :: []) N) :
    WSs (XL P w K mg base f c A outer s_1 H E0) (Tabs T) W (lb.drop 7) (hM C CF p x y w1 l a ins fs2 [] dk2 dk M) (z0 :: z1 :: z2 :: some (Rf a.t) :: z4 :: some (I t) :: z6 :: z7 :: z8 :: z9 :: z10 :: z11 :: z12 :: z13 :: z14 :: z15 :: z16 :: z17 :: z18 :: z19 :: z20 :: z21 :: z22 :: z23 :: []) N := by
  obtain ⟨fu, mu, gu⟩ := L.out
  obtain ⟨fb, mb, gb⟩ := L.segb
  have lo := io.lo
  obtain ⟨r0, hr0⟩ := io.hd
  have hin : (1 : Int) ∈ ins ∧ (20 : Int) ∉ ins := ⟨by rw [hr0]; exact List.mem_cons_self, fun z => by have := (lo _ z).2; omega⟩
  refine wss_cons (ws_for cx (pgn 20 cx.nd) (gok_name 20) (fun i M' ρ' => ∃ (a : Ta) (fs : List Fw) (z0 z1 z2 z4 z6 z7 z8 z9 z10 z11 z12 z13 z14 z15 z16 z17 z18 z19 z20 z21 z22 z23 : Option D), Fill (t + 500) i fs ∧ M' = hM C CF p x y w1 l a ins fs2 fs dk2 dk M ∧ ρ' = (z0 :: z1 :: z2 :: some (Rf a.t) :: z4 :: some (I t) :: z6 :: z7 :: z8 :: z9 :: z10 :: z11 :: z12 :: z13 :: z14 :: z15 :: z16 :: z17 :: z18 :: z19 :: z20 :: z21 :: z22 :: z23 :: [])) (wi_rng1 L.range rfl ?_))
  walk_at "x"
  refine ⟨52, rfl, by decide, by decide, ⟨a, [], _, _, _, _, _, _, _, _, _, _, _, _, _, _, _, _, _, _, _, _, _, _, ⟨rfl, fun j f h => by cases h⟩, rfl, rfl⟩, ?_, ?_⟩
  · rintro i z hz M' ρ' ⟨a, fs, z0, z1, z2, z4, z6, z7, z8, z9, z10, z11, z12, z13, z14, z15, z16, z17, z18, z19, z20, z21, z22, z23, fill, rfl, rfl⟩
    obtain ⟨hi, rfl⟩ := rng_at hz
    have hi : i < 52 := hi
    have hx := hM_t (C := C) (CF := CF) (p := p) (x := x) (y := y) (w := w1) (l := l) (a := a) (ins := ins) (fs2 := fs2) (fs := fs) (dk2 := dk2) (dk := dk) (M := M)
    have ok : (fSeg i).Ok := ⟨(by decide : (1 : Int) ≤ 1), (by decide : (1 : Int) ≤ 3), (by decide : (0 : Int) ≤ 1), (by decide : (1 : Int) < 65536), by show 0 ≤ (i : Int) + 1; omega, by show (i : Int) + 1 < 16384; omega, (by decide : (0 : Int) ≤ 0), (by decide : (0 : Int) < 16384), (by decide : (0 : Int) ≤ 0), (by decide : (0 : Int) < 16384), (by decide : (0 : Int) ≤ 0), (by decide : (0 : Int) < 16384), (by decide : 0 < 100)⟩
    have few : fs.length ≤ 50 := by have := fill.len; omega
    refine wss_one (ws_expr (we_sp (we_methC cx ts gu (by decide) L.tc.c mu ?_)))
    walk_at "x"
    refine ⟨rfl, rfl, ?_⟩
    walk_at "x"
    refine we_call cx gb (by decide) mb rfl ?_
    walk_at "x"
    refine ⟨fSeg i, rfl, ok, ?_⟩
    walk_at "x"
    refine out_sp (σ := σ) (s := fSeg i) sp_t d1 few (fill_ok (by omega) fill) ok fun fl' r fs' h1 hr => ⟨_, sp_t', ?_⟩
    rw [fill_live fill] at h1
    exact ⟨{ a with fl := fl' }, fs', _, _, _, _, _, _, _, _, _, _, _, _, _, _, _, _, _, _, _, _, _, _, fill_step hi fill hin h1, rfl, rfl⟩
  · rintro M' ρ' ⟨a, fs, z0, z1, z2, z4, z6, z7, z8, z9, z10, z11, z12, z13, z14, z15, z16, z17, z18, z19, z20, z21, z22, z23, fill, rfl, rfl⟩
    rw [List.length_map, List.length_range] at fill
    exact hN a fs _ _ _ _ _ _ _ _ _ _ _ _ _ _ _ _ _ _ _ _ _ _ fill
theorem st_full (L : LawH P w K mg base T CE C CF) (cx : Ct (XL P w K mg base f c A outer s_1 H E0) (Tabs T) W 7) (fill : Fill (t + 500) 52 fs)
    (hN : WSs (XL P w K mg base f c A outer s_1 H E0) (Tabs T) W (lb.drop 9) (hM C CF p x y w1 l a ins fs2 fs dk2 dk M) (z0 :: z1 :: z2 :: some (Rf a.t) :: z4 :: some (I t) :: z6 :: z7 :: z8 :: z9 :: z10 :: z11 :: z12 :: z13 :: z14 :: z15 :: z16 :: z17 :: z18 :: z19 :: z20 :: z21 :: z22 :: z23 :: []) N) :
    WSs (XL P w K mg base f c A outer s_1 H E0) (Tabs T) W (lb.drop 8) (hM C CF p x y w1 l a ins fs2 fs dk2 dk M) (z0 :: z1 :: z2 :: some (Rf a.t) :: z4 :: some (I t) :: z6 :: z7 :: z8 :: z9 :: z10 :: z11 :: z12 :: z13 :: z14 :: z15 :: z16 :: z17 :: z18 :: z19 :: z20 :: z21 :: z22 :: z23 :: []) N := by
  have len := fill.len
  have hx := hM_t (C := C) (CF := CF) (p := p) (x := x) (y := y) (w := w1) (l := l) (a := a) (ins := ins) (fs2 := fs2) (fs := fs) (dk2 := dk2) (dk := dk) (M := M)
  have l50 : (fs.map fun f => Rf f.addr).length = 50 := by rw [List.length_map, len]; rfl
  refine wss_cons (ws_if (wt_bool (ww_or (wt_cmp cx.hu (we_len L.len rfl ?_)))))
  walk_at "x"
  refine ⟨L.tc.c, L.tc.n3, _, rfl, ?_⟩
  refine .own (3 + fs2.length + 1) hM_fl ?_
  rw [l50]
  walk_at "x"
  refine we_lcA cx cx.nd [("one", 21)] fs (fun f => Rf f.addr) (fun _ => true) (fun f => I f.outer) (gok_name 21) (gwipe_name 21) (amono_name 21) (fun s H C cl fp => pgn 21 cx.nd) (blkOk_by (by show blkC N_law (defScope s_law) _ _ = true; decide +kernel)) (wi_lstP ?_)
  walk_at "x"
  refine ⟨L.tc.c, L.tc.n3, _, rfl, ?_⟩
  refine ⟨3 + fs2.length + 1, a.fl, _, rfl, hM_fl, rfl, fun x M' ⟨i, h⟩ => ⟨i + 1, h⟩, ⟨_, hM_fl⟩, sz2 (by omega), fun g hg => ?_, ?_⟩
  · obtain ⟨i, hi⟩ := List.getElem?_of_mem hg
    refine itemA0 (amono_name 21) fun q acc => ?_
    rintro Y ⟨s', H', C', cl', fp', rfl⟩ cy
    have hf : ((q, O.lst acc) :: hM C CF p x y w1 l a ins fs2 fs dk2 dk M)[3 + fs2.length + (3 + i) + 1]? = some (g.addr, .ins CF (fwF g)) := by rw [List.getElem?_cons_succ]; exact hM_f hi
    walk_at "x"
    refine ⟨L.fc.c, L.fc.n3, _, rfl, ?_⟩
    exact ⟨rfl, rfl⟩
  rw [List.filter_eq_self.mpr fun _ _ => rfl, fill_outs fill]
  refine we_listRg2 cx L.list rfl L.range rfl ?_
  walk_at "x"
  refine ⟨1, 51, rfl, rfl, ⟨by decide, by decide, by decide, by decide, by decide⟩, ?_⟩
  refine CmpD.ne_s (.lst fun z hz => ?_) (iteF (wss_nil hN))
  obtain ⟨g, _, rfl⟩ := List.mem_map.mp hz
  exact .int _
theorem st_told (L : LawH P w K mg base T CE C CF) (cx : Ct (XL P w K mg base f c A outer s_1 H E0) (Tabs T) W 7) (TX : TabX (XL P w K mg base f c A outer s_1 H E0) T "<lambda>") (d1 : DrOk dk σ n) (few : fs.length ≤ 50) (hN : ∀ M', N.nx M' (z0 :: z1 :: z2 :: some (Rf a.t) :: z4 :: some (I t) :: z6 :: z7 :: z8 :: z9 :: z10 :: z11 :: z12 :: z13 :: z14 :: z15 :: z16 :: z17 :: z18 :: z19 :: z20 :: z21 :: z22 :: z23 :: [])) :
    WSs (XL P w K mg base f c A outer s_1 H E0) (Tabs T) W (lb.drop 9) (hM C CF p x y w1 l a ins fs2 fs dk2 dk M) (z0 :: z1 :: z2 :: some (Rf a.t) :: z4 :: some (I t) :: z6 :: z7 :: z8 :: z9 :: z10 :: z11 :: z12 :: z13 :: z14 :: z15 :: z16 :: z17 :: z18 :: z19 :: z20 :: z21 :: z22 :: z23 :: []) N := by
  obtain ⟨fu, mu, gu⟩ := L.out
  obtain ⟨fv, mv, gv⟩ := L.inn
  have hx := hM_t (C := C) (CF := CF) (p := p) (x := x) (y := y) (w := w1) (l := l) (a := a) (ins := ins) (fs2 := fs2) (fs := fs) (dk2 := dk2) (dk := dk) (M := M)
  refine wss_one (ws_if (wt_bool (ww_or (wt_cmp cx.hu (we_sp (we_told cx TX rfl L.told (LamX.lamS_by (by show LamX.lamSB (defScope s_law) _ = true; decide +kernel)) ?_))))))
  rintro Y E hl cy
  have ts := hl.ts
  obtain ⟨A', outer', s', H0, f', c', rfl⟩ := hl
  refine we_methC cy ts gu (by decide) L.tc.c mu ?_
  walk_at "x"
  refine ⟨rfl, rfl, ?_⟩
  walk_at "x"
  refine ⟨a, ins, fs, dk, σ, n, 1, 20, t, _, _, rfl, sp_t, d1, by omega, .inl ⟨.inr rfl, fun Mx => ⟨rfl, hM C CF p x y w1 l a ins fs2 fs dk2 dk M, ?_, ?_⟩⟩⟩
  · obtain ⟨M1, pm, sb⟩ := sp_t' (C := C) (CF := CF) (p := p) (x := x) (y := y) (w := w1) (l := l) (a := a) (ins := ins) (fs2 := fs2) (fs := fs) (dk2 := dk2) (dk := dk) (M := M)
    exact ⟨M1, pm, sb.trans (List.sublist_append_right _ _)⟩
  walk_at "x"
  refine we_sp (we_told cx TX rfl L.told (LamX.lamS_by (by show LamX.lamSB (defScope s_law) _ = true; decide +kernel)) ?_)
  rintro Y E hl cy
  have ts := hl.ts
  obtain ⟨A', outer', s', H0, f', c', rfl⟩ := hl
  refine we_methC cy ts gv (by decide) L.tc.c mv ?_
  walk_at "x"
  refine ⟨rfl, rfl, ?_⟩
  walk_at "x"
  refine ⟨a, ins, fs, dk, σ, n, 20, t, _, _, rfl, sp_t, d1, by omega, .inl ⟨rfl, fun Mx => ⟨rfl, _, ⟨_, List.Perm.refl _, List.Sublist.refl _⟩, ?_⟩⟩⟩
  walk_at "x"
  exact wss_nil (hN _)
end

end K24
set_option maxRecDepth 100000
set_option maxHeartbeats 4000000

namespace K24
open PySem PySem.Spec PyProof.Rows L2 Wv
open LamX (CodeO TabS Tabs ExtN TabB lamEnv lamCx LamS)
local macro_rules | `(tactic| walk_at "e.name") => `(tactic| first
    | refine we_var 0 _ rfl (by first | exact .inl rfl | exact .inr (.inl rfl) | exact .inr (.inr rfl)) rfl ?_
    | refine we_var 1 _ rfl (by first | exact .inl rfl | exact .inr (.inl rfl) | exact .inr (.inr rfl)) rfl ?_
    | refine we_var 2 _ rfl (by first | exact .inl rfl | exact .inr (.inl rfl) | exact .inr (.inr rfl)) rfl ?_
    | refine we_var 3 _ rfl (by first | exact .inl rfl | exact .inr (.inl rfl) | exact .inr (.inr rfl)) rfl ?_
    | refine we_var 4 _ rfl (by first | exact .inl rfl | exact .inr (.inl rfl) | exact .inr (.inr rfl)) rfl ?_
    | refine we_var 5 _ rfl (by first | exact .inl rfl | exact .inr (.inl rfl) | exact .inr (.inr rfl)) rfl ?_
    | refine we_var 6 _ rfl (by first | exact .inl rfl | exact .inr (.inl rfl) | exact .inr (.inr rfl)) rfl ?_
    | refine we_var 7 _ rfl (by first | exact .inl rfl | exact .inr (.inl rfl) | exact .inr (.inr rfl)) rfl ?_
    | refine we_var 8 _ rfl (by first | exact .inl rfl | exact .inr (.inl rfl) | exact .inr (.inr rfl)) rfl ?_
    | refine we_var 9 _ rfl (by first | exact .inl rfl | exact .inr (.inl rfl) | exact .inr (.inr rfl)) rfl ?_
    | refine we_var 10 _ rfl (by first | exact .inl rfl | exact .inr (.inl rfl) | exact .inr (.inr rfl)) rfl ?_
    | refine we_var 11 _ rfl (by first | exact .inl rfl | exact .inr (.inl rfl) | exact .inr (.inr rfl)) rfl ?_
    | refine we_var 12 _ rfl (by first | exact .inl rfl | exact .inr (.inl rfl) | exact .inr (.inr rfl)) rfl ?_
    | refine we_var 13 _ rfl (by first | exact .inl rfl | exact .inr (.inl rfl) | exact .inr (.inr rfl)) rfl ?_
    | refine we_var 14 _ rfl (by first | exact .inl rfl | exact .inr (.inl rfl) | exact .inr (.inr rfl)) rfl ?_
    | refine we_var 15 _ rfl (by first | exact .inl rfl | exact .inr (.inl rfl) | exact .inr (.inr rfl)) rfl ?_
    | refine we_var 16 _ rfl (by first | exact .inl rfl | exact .inr (.inl rfl) | exact .inr (.inr rfl)) rfl ?_
    | refine we_var 17 _ rfl (by first | exact .inl rfl | exact .inr (.inl rfl) | exact .inr (.inr rfl)) rfl ?_
    | refine we_var 18 _ rfl (by first | exact .inl rfl | exact .inr (.inl rfl) | exact .inr (.inr rfl)) rfl ?_
    | refine we_var 19 _ rfl (by first | exact .inl rfl | exact .inr (.inl rfl) | exact .inr (.inr rfl)) rfl ?_
    | refine we_var 20 _ rfl (by first | exact .inl rfl | exact .inr (.inl rfl) | exact .inr (.inr rfl)) rfl ?_
    | refine we_var 21 _ rfl (by first | exact .inl rfl | exact .inr (.inl rfl) | exact .inr (.inr rfl)) rfl ?_
    | refine we_var 22 _ rfl (by first | exact .inl rfl | exact .inr (.inl rfl) | exact .inr (.inr rfl)) rfl ?_
    | refine we_var 23 _ rfl (by first | exact .inl rfl | exact .inr (.inl rfl) | exact .inr (.inr rfl)) rfl ?_
    | refine we_var 24 _ rfl (by first | exact .inl rfl | exact .inr (.inl rfl) | exact .inr (.inr rfl)) rfl ?_
    | refine we_var 25 _ rfl (by first | exact .inl rfl | exact .inr (.inl rfl) | exact .inr (.inr rfl)) rfl ?_
    | refine we_var 26 _ rfl (by first | exact .inl rfl | exact .inr (.inl rfl) | exact .inr (.inr rfl)) rfl ?_
    | refine we_var 27 _ rfl (by first | exact .inl rfl | exact .inr (.inl rfl) | exact .inr (.inr rfl)) rfl ?_
    | refine we_var 28 _ rfl (by first | exact .inl rfl | exact .inr (.inl rfl) | exact .inr (.inr rfl)) rfl ?_
    | refine we_var 29 _ rfl (by first | exact .inl rfl | exact .inr (.inl rfl) | exact .inr (.inr rfl)) rfl ?_
    | refine we_globI (by assumption) rfl ?_
    | refine we_globS (by assumption) rfl ?_)
local macro_rules | `(tactic| walk_at "e.const") => `(tactic| first
    | refine we_int ?_
    | refine we_str ?_
    | refine we_bl ?_
    | refine we_non ?_)
local macro_rules | `(tactic| walk_at "e.call") => `(tactic| first
    | refine we_len (by assumption) rfl ?_
    | refine we_int2 (by assumption) rfl ?_
    | refine we_tuple (Ct.gs (by assumption)) (by assumption) rfl ?_
    | refine we_abs (by assumption) rfl ?_
    | refine we_find ?_)
local macro_rules | `(tactic| walk_at "e.we") => `(tactic| first
    | (refine gNm ?_; walk_at "e.name")
    | (refine gConst ?_; walk_at "e.const")
    | refine we_bin (Ct.gs (by assumption)) ?_
    | (refine gCall ?_; walk_at "e.call")
    | refine we_cmp (Ct.hu (by assumption)) ?_
    | refine we_ix ?_
    | refine we_slice (Ct.gs (by assumption)) ?_
    | refine we_fld ?_
    | refine we_tup (Ct.gs (by assumption)) ?_
    | refine we_chain (Ct.hu (by assumption)) ?_
    | refine we_lst1 (Ct.gs (by assumption)) ?_
    | refine we_ifx ?_
    | refine we_and ?_
    | refine we_or ?_
    | refine we_one ?_
    | refine we_not ?_
    | refine we_negI ?_
    | refine we_neg ?_)
local macro_rules | `(tactic| walk_at "e.wt") => `(tactic| first
    | refine wt_cmp (Ct.hu (by assumption)) ?_
    | refine wt_chain (Ct.hu (by assumption)) ?_
    | refine wt_not ?_
    | refine wt_bool ?_
    | refine wt_val ?_)
local macro_rules | `(tactic| walk_at "e.ww") => `(tactic| first
    | refine ww_and ?_
    | refine ww_or ?_
    | refine ww_and1 ?_
    | refine ww_or1 ?_)
local macro_rules | `(tactic| walk_at "e.wa") => `(tactic| first
    | refine wa_nil ?_
    | refine wa_cons ?_)
local macro_rules | `(tactic| walk_at "e.wss") => `(tactic| first
    | refine wss_cons ?_
    | refine wss_nil ?_)
local macro_rules | `(tactic| walk_at "e.ws") => `(tactic| first
    | refine ws_if ?_
    | refine ws_expr (we_append (Ct.gs (by assumption)) ?_ (pe_bm PySem.F.plainAttrs_list PySem.F.slot_list_append PySem.F.type_list_append mt_append pe_wp pa_wp))
    | refine ws_fldSub (Ct.gs (by assumption)) ?_
    | refine ws_fldAddW (Ct.gs (by assumption)) ?_
    | refine ws_expr ?_
    | refine ws_set 0 (Ct.nd (by assumption)) ?_
    | refine ws_set 1 (Ct.nd (by assumption)) ?_
    | refine ws_set 2 (Ct.nd (by assumption)) ?_
    | refine ws_set 3 (Ct.nd (by assumption)) ?_
    | refine ws_set 4 (Ct.nd (by assumption)) ?_
    | refine ws_set 5 (Ct.nd (by assumption)) ?_
    | refine ws_set 6 (Ct.nd (by assumption)) ?_
    | refine ws_set 7 (Ct.nd (by assumption)) ?_
    | refine ws_set 8 (Ct.nd (by assumption)) ?_
    | refine ws_set 9 (Ct.nd (by assumption)) ?_
    | refine ws_set 10 (Ct.nd (by assumption)) ?_
    | refine ws_set 11 (Ct.nd (by assumption)) ?_
    | refine ws_set 12 (Ct.nd (by assumption)) ?_
    | refine ws_set 13 (Ct.nd (by assumption)) ?_
    | refine ws_set 14 (Ct.nd (by assumption)) ?_
    | refine ws_set 15 (Ct.nd (by assumption)) ?_
    | refine ws_set 16 (Ct.nd (by assumption)) ?_
    | refine ws_set 17 (Ct.nd (by assumption)) ?_
    | refine ws_set 18 (Ct.nd (by assumption)) ?_
    | refine ws_set 19 (Ct.nd (by assumption)) ?_
    | refine ws_set 20 (Ct.nd (by assumption)) ?_
    | refine ws_set 21 (Ct.nd (by assumption)) ?_
    | refine ws_set 22 (Ct.nd (by assumption)) ?_
    | refine ws_set 23 (Ct.nd (by assumption)) ?_
    | refine ws_set 24 (Ct.nd (by assumption)) ?_
    | refine ws_set 25 (Ct.nd (by assumption)) ?_
    | refine ws_set 26 (Ct.nd (by assumption)) ?_
    | refine ws_set 27 (Ct.nd (by assumption)) ?_
    | refine ws_set 28 (Ct.nd (by assumption)) ?_
    | refine ws_set 29 (Ct.nd (by assumption)) ?_
    | refine ws_sub (Ct.gs (by assumption)) ?_ (fun a b => pg_sub a b set_list)
    | refine ws_fld (Ct.gs (by assumption)) ?_
    | refine ws_pass ?_
    | refine ws_break ?_
    | refine ws_cont ?_)
local macro_rules | `(tactic| walk_at "e.bin") => `(tactic| first
    | refine BinD.addI ?_
    | refine BinD.subI ?_
    | refine BinD.modP (by assumption) ?_
    | refine BinD.divP (by assumption) ?_
    | refine BinD.modI (by decide) ?_
    | refine BinD.modI (by assumption) ?_
    | refine BinD.divI (by decide) (by decide) ?_
    | refine BinD.divI (by assumption) (by assumption) ?_
    | refine BinD.mulI (by first | exact .inl ⟨by decide, by decide⟩ | exact .inr ⟨by decide, by decide⟩) ?_
    | refine BinD.xorI ?_
    | refine BinD.powI ⟨by decide, by decide, by decide⟩ ?_)
local macro_rules | `(tactic| walk_at "e.cmp") => `(tactic| first
    | refine CmpD.lt ?_
    | refine CmpD.le ?_
    | refine CmpD.gt ?_
    | refine CmpD.ge ?_
    | refine CmpD.isN ?_
    | refine CmpD.notN ?_
    | refine CmpD.neI_s ?_
    | refine CmpD.neT_s ?_
    | refine CmpD.neZ_s ?_
    | refine CmpD.eqZ_s ?_
    | refine CmpD.neN_s ?_
    | refine CmpD.eqN_s ?_
    | refine CmpD.neTZ ?_
    | refine CmpD.eqTZ ?_
    | refine CmpD.eqI ?_
    | refine CmpD.neI ?_
    | refine CmpD.eqZ ?_
    | refine CmpD.neZ ?_)
local macro_rules | `(tactic| walk_at "e.is") => `(tactic| first
    | refine gSz ?_
    | refine gFld (by assumption) (by assumption) rfl ?_
    | refine gFldS (by assumption) (by assumption) (by first | decide | (repeat (first | refine plA ?_ | refine plB ?_)); simp) ?_
    | refine gFldU (by first | decide | (repeat (first | refine plA ?_ | refine plB ?_)); simp) ?_
    | refine IsI.mk ?_
    | refine IsT.mk ?_
    | refine IsL.mk ?_
    | refine IsZ.mk ?_
    | refine IsB.mk ?_
    | refine OwL.mk 0 rfl ?_
    | refine OwL.mk 1 rfl ?_
    | refine OwL.mk 2 rfl ?_
    | refine OwL.mk 3 rfl ?_
    | refine OwL.mk 4 rfl ?_
    | refine OwL.mk 5 rfl ?_
    | refine OwI.mk 0 rfl ?_
    | refine OwI.mk 1 rfl ?_
    | refine OwI.mk 2 rfl ?_
    | refine OwI.mk 3 rfl ?_
    | refine OwI.mk 4 rfl ?_
    | refine OwI.mk 5 rfl ?_
    | refine OwI.mk _ (by assumption) ?_
    | refine OwI.mk _ (set_at (by assumption)) ?_
    | refine OwI.mk _ (set_at (set_at (by assumption))) ?_
    | refine OwL.mk _ (by assumption) ?_
    | refine OwL.mk _ (set_at (by assumption)) ?_
    | refine OwL.mk _ (set_at (set_at (by assumption))) ?_
    | refine OwL.mk _ (set_at (set_at (set_at (by assumption)))) ?_
    | refine IxD.own 0 rfl rfl ?_
    | refine IxD.own 1 rfl rfl ?_
    | refine IxD.own 2 rfl rfl ?_
    | refine IxD.own 3 rfl rfl ?_
    | refine IxD.own 4 rfl rfl ?_
    | refine IxD.own 5 rfl rfl ?_
    | refine IxD.own _ (by assumption) rfl ?_
    | refine IxD.own _ (set_at (by assumption)) rfl ?_
    | refine IxD.own _ (set_at (set_at (by assumption))) rfl ?_
    | refine IxD.own _ (set_at (set_at (set_at (by assumption)))) rfl ?_
    | refine IxD.tup rfl ?_
    | refine IxD.lst rfl ?_
    | refine IntD.int ?_
    | refine IntD.bl ?_
    | refine TruD.bl ?_
    | refine TruD.int ?_
    | refine TruD.tup ?_
    | refine TruD.lst ?_
    | refine LenD.tup ?_
    | refine LenD.lst ?_
    | refine SeqD.tup ?_
    | refine SeqD.lst ?_
    | refine SlD.tup ?_
    | refine SlD.lst ?_
    | refine SeqD.own 0 rfl ?_
    | refine SeqD.own 1 rfl ?_
    | refine SeqD.own 2 rfl ?_
    | refine SeqD.own 3 rfl ?_
    | refine SeqD.own 4 rfl ?_
    | refine SeqD.own 5 rfl ?_
    | refine LenD.own 0 rfl ?_
    | refine LenD.own 1 rfl ?_
    | refine LenD.own 2 rfl ?_
    | refine LenD.own 3 rfl ?_
    | refine LenD.own 4 rfl ?_
    | refine LenD.own 5 rfl ?_)
local macro_rules | `(tactic| walk_at "e1") => `(tactic| first
    | (refine gWE ?_; walk_at "e.we")
    | (refine gBinD ?_; walk_at "e.bin")
    | (refine gWSs ?_; walk_at "e.wss")
    | (refine gWS ?_; walk_at "e.ws")
    | (refine gWT ?_; walk_at "e.wt")
    | (refine gCmpD ?_; walk_at "e.cmp")
    | (refine gWA ?_; walk_at "e.wa")
    | (refine gWW ?_; walk_at "e.ww")
    | refine iteT ?_
    | refine iteF ?_
    | walk_at "e.is")
local macro_rules | `(tactic| walk_at "x1") => `(tactic| first
    | (refine gWE ?_; walk_at "e.we")
    | (refine gBinD ?_; walk_at "e.bin")
    | (refine gWT ?_; walk_at "e.wt")
    | (refine gCmpD ?_; walk_at "e.cmp")
    | (refine gWA ?_; walk_at "e.wa")
    | (refine gWW ?_; walk_at "e.ww")
    | refine iteT ?_
    | refine iteF ?_
    | walk_at "e.is")
local macro_rules | `(tactic| walk_at "e") => `(tactic| repeat (walk_at "e1"))
local macro_rules | `(tactic| walk_at "x") => `(tactic| repeat (walk_at "x1"))
theorem listN {α : Type} : ∀ {l : List α}, l.length = 24 → ∃ z0 z1 z2 z3 z4 z5 z6 z7 z8 z9 z10 z11 z12 z13 z14 z15 z16 z17 z18 z19 z20 z21 z22 z23 : α, l = (z0 :: z1 :: z2 :: z3 :: z4 :: z5 :: z6 :: z7 :: z8 :: z9 :: z10 :: z11 :: z12 :: z13 :: z14 :: z15 :: z16 :: z17 :: z18 :: z19 :: z20 :: z21 :: z22 :: z23 :: []) := by
  intro l h
  match l, h with
  | (z0 :: z1 :: z2 :: z3 :: z4 :: z5 :: z6 :: z7 :: z8 :: z9 :: z10 :: z11 :: z12 :: z13 :: z14 :: z15 :: z16 :: z17 :: z18 :: z19 :: z20 :: z21 :: z22 :: z23 :: []), _ => exact ⟨_, _, _, _, _, _, _, _, _, _, _, _, _, _, _, _, _, _, _, _, _, _, _, _, rfl⟩
section
variable {P : Program} {w : World} {K : PySem.W.Frag} {mg : Str → Option Value} {base : Heap} {T : List (Addr × Str)} {f c CE C CF : Addr} {A : Around} {outer : List Env} {s_1 : Shared} {H : Hp} {E0 : XK} {W : WX} {M : Ms} {N : En} {p : Addr} {x y w1 : Int} {z0 z1 z2 z3 z4 z5 z6 z7 z8 z9 z10 z11 z12 z13 z14 z15 z16 z17 z18 z19 z20 z21 z22 z23 : Option D}
theorem st_law (L : LawH P w K mg base T CE C CF) (cx : Ct (XL P w K mg base f c A outer s_1 H E0) (Tabs T) W 7) (ts : L2.Takes (XL P w K mg base f c A outer s_1 H E0) W) (TX : TabX (XL P w K mg base f c A outer s_1 H E0) T "<lambda>") (hN : ∀ (M' : Ms) (ρ' : Rh), ρ'.length = 24 → N.nx M' ρ') :
    WSs (XL P w K mg base f c A outer s_1 H E0) (Tabs T) W lb ((p, .lst [I x, I y, I w1]) :: M) (z0 :: some (Rf p) :: z2 :: z3 :: z4 :: z5 :: z6 :: z7 :: z8 :: z9 :: z10 :: z11 :: z12 :: z13 :: z14 :: z15 :: z16 :: z17 :: z18 :: z19 :: z20 :: z21 :: z22 :: z23 :: []) N := by
  refine st_begin L cx fun x y w1 l a ins z0 z6 z7 z8 z9 z10 z11 z12 z13 z14 z15 z16 z17 z18 z19 z20 z21 z22 z23 io => ?_
  refine st_loop L cx ts TX io fun x y w1 t l a fs2 fs dk2 dk σ n z0 z6 z7 z8 z9 z10 z11 z12 z13 z14 z15 z16 z17 z18 z19 z20 z21 z22 z23 iv => ?_
  refine st_rest L cx iv fun a z0 z1 z2 z4 z6 z7 z8 z9 z10 z11 z12 z13 z14 z15 z16 z17 z18 z19 z20 z21 z22 z23 => ?_
  refine st_fill L cx ts io iv.d1 fun a fs z0 z1 z2 z4 z6 z7 z8 z9 z10 z11 z12 z13 z14 z15 z16 z17 z18 z19 z20 z21 z22 z23 fill => ?_
  refine st_full L cx fill ?_
  exact st_told L cx TX iv.d1 (by have := fill.len; omega) fun M' => hN _ _ rfl
theorem st_end (L : LawH P w K mg base T CE C CF) (cx : Ct (XL P w K mg base f c A outer s_1 H E0) (Tabs T) W 7) (TX : TabX (XL P w K mg base f c A outer s_1 H E0) T "<lambda>") (hR : ∀ M', N.rt M' (B true)) :
    WSs (XL P w K mg base f c A outer s_1 H E0) (Tabs T) W ((defBody s_law).drop 1) M (z0 :: z1 :: z2 :: z3 :: z4 :: z5 :: z6 :: z7 :: z8 :: z9 :: z10 :: z11 :: z12 :: z13 :: z14 :: z15 :: z16 :: z17 :: z18 :: z19 :: z20 :: z21 :: z22 :: z23 :: []) N := by
  obtain ⟨ft, mk, gt⟩ := L.mkt
  obtain ⟨fd, md, gd⟩ := L.door
  refine wss_cons (ws_set 21 cx.nd (we_make cx gt (by decide) mk L.tclass rfl ?_ tinit_ret))
  walk_at "x"
  refine fun q => ⟨q, [1], _, rfl, rfl, fun fl dr => ?_⟩
  refine wss_one (ws_ret (we_and (we_cmp cx.hu (we_told cx TX rfl L.told (LamX.lamS_by (by show LamX.lamSB (defScope s_law) _ = true; decide +kernel)) ?_))))
  rintro Y E ⟨A', outer', s', H0, f', c', rfl⟩ cy
  refine we_meth cy gd (by decide) L.tc.c md ?_
  walk_at "x"
  refine ⟨rfl, rfl, ?_⟩
  walk_at "x"
  refine ⟨⟨q, fl, dr⟩, [1], [], [], fun _ => none, 0, 20, 5, M, rfl, ⟨_, List.Perm.refl _, List.Sublist.refl _⟩, ⟨Nat.le_refl _, fun _ => rfl⟩, by decide, fun _ => ⟨rfl, ?_⟩, fun z => absurd z (by decide)⟩
  walk_at "x"
  refine ⟨true, rfl, iteT (we_one (we_cmp cx.hu (we_told cx TX rfl L.told (LamX.lamS_by (by show LamX.lamSB (defScope s_law) _ = true; decide +kernel)) ?_)))⟩
  rintro Y E ⟨A', outer', s', H0, f', c', rfl⟩ cy
  refine we_meth cy gd (by decide) L.tc.c md ?_
  walk_at "x"
  refine ⟨rfl, rfl, ?_⟩
  walk_at "x"
  refine ⟨⟨q, fl, dr⟩, [1], [], [], fun _ => none, 0, 1, 1, M, rfl, ⟨_, List.Perm.refl _, List.Sublist.refl _⟩, ⟨Nat.le_refl _, fun _ => rfl⟩, by decide, fun _ => ⟨rfl, ?_⟩, fun z => absurd z (by decide)⟩
  walk_at "x"
  exact hR _
end
theorem fn_law {P : Program} {w : World} {K : PySem.W.Frag} {mg : Str → Option Value} {base : Heap} {T : List (Addr × Str)} {f c Pt CE C CF : Addr} {fd : FuncData} (F : FunT K "law" "law" s_law f fd c) (L : LawH P w K mg base T CE C CF) (TB : TabB base mg c Pt) (hT : (Pt, Str.ofString "law.<locals>.<lambda>") ∈ T) (hu : ∀ p ∈ T, p.1 = Pt → p.2 = Str.ofString "law.<locals>.<lambda>") : FnOk P w K mg base (L2.CX P w) 8 f fd ["script"] (spOf (Tabs T) K (S_law K)) := by
  refine fnok_ofTC F sc_law (gst_tabs T) (fun ds M xr R h => by obtain ⟨d, cs, rfl, _⟩ := h; rfl) ?_
  rintro X W M ds xr R ⟨A, outer, s, H, E0, rfl⟩ cx ts _ ⟨d, cs, rfl, hd, hok⟩
  have TX : TabX (XL P w K mg base f c A outer s H E0) T "<lambda>" := ⟨c, Pt, TB, rfl, hT, hu⟩
  obtain ⟨fo, mo, go⟩ := L.rounds
  refine wss_cons (ws_forL cx (pgn 1 cx.nd) (gok_name 1) (fun l i M' ρ' => (i = 0 ∧ (∃ p a b m, l = [Rf p] ∧ M' = (p, O.lst [I a, I b, I m]) :: M ∧ ρ' = startD N_law [d])) ∨ (i = 1 ∧ ρ'.length = 24)) (wi_lst ?_))
  refine we_call cx go (by decide) mo rfl ?_
  walk_at "e"
  refine ⟨d, cs, rfl, hd, fun p a b m => ?_⟩
  refine IsL.mk ⟨.inl ⟨rfl, p, a, b, m, rfl, rfl, rfl⟩, ?_, ?_⟩
  · rintro i z hz M' ρ' hj
    rcases hj with ⟨rfl, p', a, b, m, hl, rfl, rfl⟩ | ⟨rfl, _⟩
    · cases hl
      cases hz
      exact st_law L cx ts TX fun M' ρ' h => .inr ⟨rfl, h⟩
    · cases hz
  · rintro M' ρ' hj
    rcases hj with ⟨hz, _⟩ | ⟨_, hl⟩
    · cases hz
    · obtain ⟨z0, z1, z2, z3, z4, z5, z6, z7, z8, z9, z10, z11, z12, z13, z14, z15, z16, z17, z18, z19, z20, z21, z22, z23, rfl⟩ := listN hl
      exact st_end L cx TX hok

end K24
set_option maxRecDepth 100000
set_option maxHeartbeats 4000000

namespace K24
open PySem PySem.Spec PyProof.Rows L2 Wv
open LamX (CodeO TabS Tabs ExtN TabB lamEnv lamCx LamS)
local macro_rules | `(tactic| walk_at "e.name") => `(tactic| first
    | refine we_var 0 _ rfl (by first | exact .inl rfl | exact .inr (.inl rfl) | exact .inr (.inr rfl)) rfl ?_
    | refine we_var 1 _ rfl (by first | exact .inl rfl | exact .inr (.inl rfl) | exact .inr (.inr rfl)) rfl ?_
    | refine we_var 2 _ rfl (by first | exact .inl rfl | exact .inr (.inl rfl) | exact .inr (.inr rfl)) rfl ?_
    | refine we_var 3 _ rfl (by first | exact .inl rfl | exact .inr (.inl rfl) | exact .inr (.inr rfl)) rfl ?_
    | refine we_var 4 _ rfl (by first | exact .inl rfl | exact .inr (.inl rfl) | exact .inr (.inr rfl)) rfl ?_
    | refine we_var 5 _ rfl (by first | exact .inl rfl | exact .inr (.inl rfl) | exact .inr (.inr rfl)) rfl ?_
    | refine we_var 6 _ rfl (by first | exact .inl rfl | exact .inr (.inl rfl) | exact .inr (.inr rfl)) rfl ?_
    | refine we_var 7 _ rfl (by first | exact .inl rfl | exact .inr (.inl rfl) | exact .inr (.inr rfl)) rfl ?_
    | refine we_var 8 _ rfl (by first | exact .inl rfl | exact .inr (.inl rfl) | exact .inr (.inr rfl)) rfl ?_
    | refine we_var 9 _ rfl (by first | exact .inl rfl | exact .inr (.inl rfl) | exact .inr (.inr rfl)) rfl ?_
    | refine we_var 10 _ rfl (by first | exact .inl rfl | exact .inr (.inl rfl) | exact .inr (.inr rfl)) rfl ?_
    | refine we_var 11 _ rfl (by first | exact .inl rfl | exact .inr (.inl rfl) | exact .inr (.inr rfl)) rfl ?_
    | refine we_var 12 _ rfl (by first | exact .inl rfl | exact .inr (.inl rfl) | exact .inr (.inr rfl)) rfl ?_
    | refine we_var 13 _ rfl (by first | exact .inl rfl | exact .inr (.inl rfl) | exact .inr (.inr rfl)) rfl ?_
    | refine we_var 14 _ rfl (by first | exact .inl rfl | exact .inr (.inl rfl) | exact .inr (.inr rfl)) rfl ?_
    | refine we_var 15 _ rfl (by first | exact .inl rfl | exact .inr (.inl rfl) | exact .inr (.inr rfl)) rfl ?_
    | refine we_var 16 _ rfl (by first | exact .inl rfl | exact .inr (.inl rfl) | exact .inr (.inr rfl)) rfl ?_
    | refine we_var 17 _ rfl (by first | exact .inl rfl | exact .inr (.inl rfl) | exact .inr (.inr rfl)) rfl ?_
    | refine we_var 18 _ rfl (by first | exact .inl rfl | exact .inr (.inl rfl) | exact .inr (.inr rfl)) rfl ?_
    | refine we_var 19 _ rfl (by first | exact .inl rfl | exact .inr (.inl rfl) | exact .inr (.inr rfl)) rfl ?_
    | refine we_var 20 _ rfl (by first | exact .inl rfl | exact .inr (.inl rfl) | exact .inr (.inr rfl)) rfl ?_
    | refine we_var 21 _ rfl (by first | exact .inl rfl | exact .inr (.inl rfl) | exact .inr (.inr rfl)) rfl ?_
    | refine we_var 22 _ rfl (by first | exact .inl rfl | exact .inr (.inl rfl) | exact .inr (.inr rfl)) rfl ?_
    | refine we_var 23 _ rfl (by first | exact .inl rfl | exact .inr (.inl rfl) | exact .inr (.inr rfl)) rfl ?_
    | refine we_var 24 _ rfl (by first | exact .inl rfl | exact .inr (.inl rfl) | exact .inr (.inr rfl)) rfl ?_
    | refine we_var 25 _ rfl (by first | exact .inl rfl | exact .inr (.inl rfl) | exact .inr (.inr rfl)) rfl ?_
    | refine we_var 26 _ rfl (by first | exact .inl rfl | exact .inr (.inl rfl) | exact .inr (.inr rfl)) rfl ?_
    | refine we_var 27 _ rfl (by first | exact .inl rfl | exact .inr (.inl rfl) | exact .inr (.inr rfl)) rfl ?_
    | refine we_var 28 _ rfl (by first | exact .inl rfl | exact .inr (.inl rfl) | exact .inr (.inr rfl)) rfl ?_
    | refine we_var 29 _ rfl (by first | exact .inl rfl | exact .inr (.inl rfl) | exact .inr (.inr rfl)) rfl ?_
    | refine we_globI (by assumption) rfl ?_
    | refine we_globS (by assumption) rfl ?_)
local macro_rules | `(tactic| walk_at "e.const") => `(tactic| first
    | refine we_int ?_
    | refine we_str ?_
    | refine we_bl ?_
    | refine we_non ?_)
local macro_rules | `(tactic| walk_at "e.call") => `(tactic| first
    | refine we_len (by assumption) rfl ?_
    | refine we_int2 (by assumption) rfl ?_
    | refine we_tuple (Ct.gs (by assumption)) (by assumption) rfl ?_
    | refine we_abs (by assumption) rfl ?_
    | refine we_find ?_)
local macro_rules | `(tactic| walk_at "e.we") => `(tactic| first
    | (refine gNm ?_; walk_at "e.name")
    | (refine gConst ?_; walk_at "e.const")
    | refine we_bin (Ct.gs (by assumption)) ?_
    | (refine gCall ?_; walk_at "e.call")
    | refine we_cmp (Ct.hu (by assumption)) ?_
    | refine we_ix ?_
    | refine we_slice (Ct.gs (by assumption)) ?_
    | refine we_fld ?_
    | refine we_tup (Ct.gs (by assumption)) ?_
    | refine we_chain (Ct.hu (by assumption)) ?_
    | refine we_lst1 (Ct.gs (by assumption)) ?_
    | refine we_ifx ?_
    | refine we_and ?_
    | refine we_or ?_
    | refine we_one ?_
    | refine we_not ?_
    | refine we_negI ?_
    | refine we_neg ?_)
local macro_rules | `(tactic| walk_at "e.wt") => `(tactic| first
    | refine wt_cmp (Ct.hu (by assumption)) ?_
    | refine wt_chain (Ct.hu (by assumption)) ?_
    | refine wt_not ?_
    | refine wt_bool ?_
    | refine wt_val ?_)
local macro_rules | `(tactic| walk_at "e.ww") => `(tactic| first
    | refine ww_and ?_
    | refine ww_or ?_
    | refine ww_and1 ?_
    | refine ww_or1 ?_)
local macro_rules | `(tactic| walk_at "e.wa") => `(tactic| first
    | refine wa_nil ?_
    | refine wa_cons ?_)
local macro_rules | `(tactic| walk_at "e.wss") => `(tactic| first
    | refine wss_cons ?_
    | refine wss_nil ?_)
local macro_rules | `(tactic| walk_at "e.ws") => `(tactic| first
    | refine ws_if ?_
    | refine ws_expr (we_append (Ct.gs (by assumption)) ?_ (pe_bm PySem.F.plainAttrs_list PySem.F.slot_list_append PySem.F.type_list_append mt_append pe_wp pa_wp))
    | refine ws_fldSub (Ct.gs (by assumption)) ?_
    | refine ws_fldAddW (Ct.gs (by assumption)) ?_
    | refine ws_expr ?_
    | refine ws_set 0 (Ct.nd (by assumption)) ?_
    | refine ws_set 1 (Ct.nd (by assumption)) ?_
    | refine ws_set 2 (Ct.nd (by assumption)) ?_
    | refine ws_set 3 (Ct.nd (by assumption)) ?_
    | refine ws_set 4 (Ct.nd (by assumption)) ?_
    | refine ws_set 5 (Ct.nd (by assumption)) ?_
    | refine ws_set 6 (Ct.nd (by assumption)) ?_
    | refine ws_set 7 (Ct.nd (by assumption)) ?_
    | refine ws_set 8 (Ct.nd (by assumption)) ?_
    | refine ws_set 9 (Ct.nd (by assumption)) ?_
    | refine ws_set 10 (Ct.nd (by assumption)) ?_
    | refine ws_set 11 (Ct.nd (by assumption)) ?_
    | refine ws_set 12 (Ct.nd (by assumption)) ?_
    | refine ws_set 13 (Ct.nd (by assumption)) ?_
    | refine ws_set 14 (Ct.nd (by assumption)) ?_
    | refine ws_set 15 (Ct.nd (by assumption)) ?_
    | refine ws_set 16 (Ct.nd (by assumption)) ?_
    | refine ws_set 17 (Ct.nd (by assumption)) ?_
    | refine ws_set 18 (Ct.nd (by assumption)) ?_
    | refine ws_set 19 (Ct.nd (by assumption)) ?_
    | refine ws_set 20 (Ct.nd (by assumption)) ?_
    | refine ws_set 21 (Ct.nd (by assumption)) ?_
    | refine ws_set 22 (Ct.nd (by assumption)) ?_
    | refine ws_set 23 (Ct.nd (by assumption)) ?_
    | refine ws_set 24 (Ct.nd (by assumption)) ?_
    | refine ws_set 25 (Ct.nd (by assumption)) ?_
    | refine ws_set 26 (Ct.nd (by assumption)) ?_
    | refine ws_set 27 (Ct.nd (by assumption)) ?_
    | refine ws_set 28 (Ct.nd (by assumption)) ?_
    | refine ws_set 29 (Ct.nd (by assumption)) ?_
    | refine ws_sub (Ct.gs (by assumption)) ?_ (fun a b => pg_sub a b set_list)
    | refine ws_fld (Ct.gs (by assumption)) ?_
    | refine ws_pass ?_
    | refine ws_break ?_
    | refine ws_cont ?_)
local macro_rules | `(tactic| walk_at "e.bin") => `(tactic| first
    | refine BinD.addI ?_
    | refine BinD.subI ?_
    | refine BinD.modP (by assumption) ?_
    | refine BinD.divP (by assumption) ?_
    | refine BinD.modI (by decide) ?_
    | refine BinD.modI (by assumption) ?_
    | refine BinD.divI (by decide) (by decide) ?_
    | refine BinD.divI (by assumption) (by assumption) ?_
    | refine BinD.mulI (by first | exact .inl ⟨by decide, by decide⟩ | exact .inr ⟨by decide, by decide⟩) ?_
    | refine BinD.xorI ?_
    | refine BinD.powI ⟨by decide, by decide, by decide⟩ ?_)
local macro_rules | `(tactic| walk_at "e.cmp") => `(tactic| first
    | refine CmpD.lt ?_
    | refine CmpD.le ?_
    | refine CmpD.gt ?_
    | refine CmpD.ge ?_
    | refine CmpD.isN ?_
    | refine CmpD.notN ?_
    | refine CmpD.neI_s ?_
    | refine CmpD.neT_s ?_
    | refine CmpD.neZ_s ?_
    | refine CmpD.eqZ_s ?_
    | refine CmpD.neN_s ?_
    | refine CmpD.eqN_s ?_
    | refine CmpD.neTZ ?_
    | refine CmpD.eqTZ ?_
    | refine CmpD.eqI ?_
    | refine CmpD.neI ?_
    | refine CmpD.eqZ ?_
    | refine CmpD.neZ ?_)
local macro_rules | `(tactic| walk_at "e.is") => `(tactic| first
    | refine gSz ?_
    | refine gFld (by assumption) (by assumption) rfl ?_
    | refine gFldS (by assumption) (by assumption) (by first | decide | (repeat (first | refine plA ?_ | refine plB ?_)); simp) ?_
    | refine gFldU (by first | decide | (repeat (first | refine plA ?_ | refine plB ?_)); simp) ?_
    | refine IsI.mk ?_
    | refine IsT.mk ?_
    | refine IsL.mk ?_
    | refine IsZ.mk ?_
    | refine IsB.mk ?_
    | refine OwL.mk 0 rfl ?_
    | refine OwL.mk 1 rfl ?_
    | refine OwL.mk 2 rfl ?_
    | refine OwL.mk 3 rfl ?_
    | refine OwL.mk 4 rfl ?_
    | refine OwL.mk 5 rfl ?_
    | refine OwI.mk 0 rfl ?_
    | refine OwI.mk 1 rfl ?_
    | refine OwI.mk 2 rfl ?_
    | refine OwI.mk 3 rfl ?_
    | refine OwI.mk 4 rfl ?_
    | refine OwI.mk 5 rfl ?_
    | refine OwI.mk _ (by assumption) ?_
    | refine OwI.mk _ (set_at (by assumption)) ?_
    | refine OwI.mk _ (set_at (set_at (by assumption))) ?_
    | refine OwL.mk _ (by assumption) ?_
    | refine OwL.mk _ (set_at (by assumption)) ?_
    | refine OwL.mk _ (set_at (set_at (by assumption))) ?_
    | refine OwL.mk _ (set_at (set_at (set_at (by assumption)))) ?_
    | refine IxD.own 0 rfl rfl ?_
    | refine IxD.own 1 rfl rfl ?_
    | refine IxD.own 2 rfl rfl ?_
    | refine IxD.own 3 rfl rfl ?_
    | refine IxD.own 4 rfl rfl ?_
    | refine IxD.own 5 rfl rfl ?_
    | refine IxD.own _ (by assumption) rfl ?_
    | refine IxD.own _ (set_at (by assumption)) rfl ?_
    | refine IxD.own _ (set_at (set_at (by assumption))) rfl ?_
    | refine IxD.own _ (set_at (set_at (set_at (by assumption)))) rfl ?_
    | refine IxD.tup rfl ?_
    | refine IxD.lst rfl ?_
    | refine IntD.int ?_
    | refine IntD.bl ?_
    | refine TruD.bl ?_
    | refine TruD.int ?_
    | refine TruD.tup ?_
    | refine TruD.lst ?_
    | refine LenD.tup ?_
    | refine LenD.lst ?_
    | refine SeqD.tup ?_
    | refine SeqD.lst ?_
    | refine SlD.tup ?_
    | refine SlD.lst ?_
    | refine SeqD.own 0 rfl ?_
    | refine SeqD.own 1 rfl ?_
    | refine SeqD.own 2 rfl ?_
    | refine SeqD.own 3 rfl ?_
    | refine SeqD.own 4 rfl ?_
    | refine SeqD.own 5 rfl ?_
    | refine LenD.own 0 rfl ?_
    | refine LenD.own 1 rfl ?_
    | refine LenD.own 2 rfl ?_
    | refine LenD.own 3 rfl ?_
    | refine LenD.own 4 rfl ?_
    | refine LenD.own 5 rfl ?_)
local macro_rules | `(tactic| walk_at "e1") => `(tactic| first
    | (refine gWE ?_; walk_at "e.we")
    | (refine gBinD ?_; walk_at "e.bin")
    | (refine gWSs ?_; walk_at "e.wss")
    | (refine gWS ?_; walk_at "e.ws")
    | (refine gWT ?_; walk_at "e.wt")
    | (refine gCmpD ?_; walk_at "e.cmp")
    | (refine gWA ?_; walk_at "e.wa")
    | (refine gWW ?_; walk_at "e.ww")
    | refine iteT ?_
    | refine iteF ?_
    | walk_at "e.is")
local macro_rules | `(tactic| walk_at "x1") => `(tactic| first
    | (refine gWE ?_; walk_at "e.we")
    | (refine gBinD ?_; walk_at "e.bin")
    | (refine gWT ?_; walk_at "e.wt")
    | (refine gCmpD ?_; walk_at "e.cmp")
    | (refine gWA ?_; walk_at "e.wa")
    | (refine gWW ?_; walk_at "e.ww")
    | refine iteT ?_
    | refine iteF ?_
    | walk_at "e.is")
local macro_rules | `(tactic| walk_at "e") => `(tactic| repeat (walk_at "e1"))
local macro_rules | `(tactic| walk_at "x") => `(tactic| repeat (walk_at "x1"))
section
variable {P : Program} {w : World} {K : PySem.W.Frag} {mg : Str → Option Value} {base : Heap} {T : List (Addr × Str)}
/-- the script, as the law gets it -/
theorem law_sp {H : Hp} {a : Addr} {ns : List Int} (hT : Tabs T H) (hS : SqL K H a (ns.map V.int)) : spOf (Tabs T) K (S_law K) [.ref a] H (fun v _ => v = .bl true) fun _ _ _ => False := by
  have hr : ∀ (Y : List Addr) (H : Hp), RpL K Y H (ns.map V.int) (ns.map fun i => I i) := fun Y H => by
    have := RpL.raws_mk (K := K) (X := Y) (H := H) (ns.map V.int)
    rw [List.map_map] at this
    exact this
  have fin : ∀ M' d v H', (fun (_ : Ms) (d : D) => d = B true) M' d → AtM (Tabs T) K M' H' → Mv [] H M' H' → Rp K (dom M') H' v d → v = .bl true := fun M' d v H' hd _ _ r => by
    subst hd
    exact r.raw_inv
  rcases hS with (hS | ⟨o, hS⟩) | hS
  · refine ⟨[], [.lst (ns.map fun i => I i)], fun _ _ => False, fun _ d => d = B true, ⟨hT, List.nodup_nil, fun p hp => absurd hp (by simp)⟩, .cons (.lst hS (by simp) (hr _ _)) .nil, ⟨_, ns, rfl, .lst, fun _ => rfl⟩, fun M' d v H' hd a m r => ?_, fun _ _ _ h => h.elim⟩
    subst hd
    exact r.raw_inv
  · refine ⟨[(a, .frz o (ns.map fun i => I i))], [Rf a], fun _ _ => False, fun _ d => d = B true, ⟨hT, by simp, fun p hp => ?_⟩, .cons (.raw _) .nil, ⟨_, ns, rfl, .frz 0 rfl, fun _ => rfl⟩, fun M' d v H' hd a m r => ?_, fun _ _ _ h => h.elim⟩
    · rw [List.mem_singleton] at hp
      subst hp
      exact ⟨_, hS, hr _ _⟩
    · subst hd
      exact r.raw_inv
  · refine ⟨[], [Rf a], fun _ _ => False, fun _ d => d = B true, ⟨hT, List.nodup_nil, fun p hp => absurd hp (by simp)⟩, .cons (.raw _) .nil, ⟨_, ns, rfl, .ko hS, fun _ => rfl⟩, fun M' d v H' hd a m r => ?_, fun _ _ _ h => h.elim⟩
    subst hd
    exact r.raw_inv
theorem tabs0 {H : Hp} (h : ∀ p ∈ T, H p.1 = some (.tbl #[])) : Tabs T H := fun p hp => ⟨#[], h p hp, True.intro, fun _ _ z => by cases z⟩
theorem uniq_of {α β : Type} {T : List (α × β)} {a : α} {b : β} (h : (a, b) ∈ T) (n : (T.map (·.1)).Nodup) : ∀ p ∈ T, p.1 = a → p.2 = b := by
  induction T with
  | nil => cases h
  | cons q T ih =>
    intro p hp e
    rw [List.map_cons, List.nodup_cons] at n
    rcases List.mem_cons.mp hp with rfl | hp
    · rcases List.mem_cons.mp h with h | h
      · rw [← h]
      · have z := List.mem_map_of_mem (f := (·.1)) h
        exact absurd (show p.1 ∈ T.map (·.1) by rw [e]; exact z) n.1
    · rcases List.mem_cons.mp h with h | h
      · have z : q.1 = p.1 := by rw [← h]; exact e.symm
        rw [z] at n
        exact absurd (List.mem_map_of_mem (f := (·.1)) hp) n.1
      · exact ih h n.2 p hp e
/-- a class names itself in «except» -/
theorem exm_one {K : PySem.W.Frag} {S : Addr} (b : PySem.W.subIn K (.ref S) (.type "BaseException") = some true) (i : PySem.W.isClsIn K S = true) (t : PySem.W.typeIn K (.ref S) = some (.type "type")) (s : PySem.W.subIn K (.ref S) (.ref S) = some true) : PySem.W.exmOne K (.ref S) (.ref S) = some true := by
  have i' : (PySem.W.clsIn K S).isSome = true := i
  unfold PySem.W.exmOne PySem.W.kitCls
  simp [b, i', t, s]
theorem all_mk {l : PySem.W.OpenLaw} {w : World} {K : PySem.W.Frag} {h : Heap} {mg : Str → Option Value} {fa CE CS CR CF CT : Addr} {tMOST_NUMBER tOPEN tDATA tREFUSED tMOST_UNUSED tMOST_FLOWS : Tok} (X : K.In h) (G : h.Ns mainGlobals mg) (hfa : mg "law" = some (.ref fa))
    (T_w : TabAt mg h "law")
    {cd_na : Value}
    {f_na : Addr} {oc_na kV_na dc_na pm_na ct_na : Value} {od_na an_na : Option Addr} {sl_na : Array (Option Value)}
    {cd_fi : Value}
    {f_fi : Addr} {oc_fi kV_fi dc_fi pm_fi ct_fi : Value} {od_fi an_fi : Option Addr} {sl_fi : Array (Option Value)}
    {cd_fn : Value}
    {f_fn : Addr} {oc_fn kV_fn dc_fn pm_fn ct_fn : Value} {od_fn an_fn : Option Addr} {sl_fn : Array (Option Value)}
    {cd_bl : Value}
    {f_bl : Addr} {oc_bl kV_bl dc_bl pm_bl ct_bl : Value} {od_bl an_bl : Option Addr} {sl_bl : Array (Option Value)}
    {cd_sb : Value}
    {f_sb : Addr} {oc_sb kV_sb dc_sb pm_sb ct_sb : Value} {od_sb an_sb : Option Addr} {sl_sb : Array (Option Value)}
    {cd_rs : Value}
    {f_rs : Addr} {oc_rs kV_rs dc_rs pm_rs ct_rs : Value} {od_rs an_rs : Option Addr} {sl_rs : Array (Option Value)}
    {cd_bg : Value}
    {f_bg : Addr} {oc_bg kV_bg dc_bg pm_bg ct_bg : Value} {od_bg an_bg : Option Addr} {sl_bg : Array (Option Value)}
    {cd_d : Value}
    {f_d : Addr} {oc_d kV_d dc_d pm_d ct_d : Value} {od_d an_d : Option Addr} {sl_d : Array (Option Value)}
    {cd_r : Value}
    {f_r : Addr} {oc_r kV_r dc_r pm_r ct_r : Value} {od_r an_r : Option Addr} {sl_r : Array (Option Value)}
    {cd_o : Value}
    {f_o : Addr} {oc_o kV_o dc_o pm_o ct_o : Value} {od_o an_o : Option Addr} {sl_o : Array (Option Value)}
    {cd_t : Value}
    {f_t : Addr} {oc_t kV_t dc_t pm_t ct_t : Value} {od_t an_t : Option Addr} {sl_t : Array (Option Value)}
    {cd_lo : Value}
    {f_lo : Addr} {oc_lo kV_lo dc_lo pm_lo ct_lo : Value} {od_lo an_lo : Option Addr} {sl_lo : Array (Option Value)}
    {cd_li : Value}
    {f_li : Addr} {oc_li kV_li dc_li pm_li ct_li : Value} {od_li an_li : Option Addr} {sl_li : Array (Option Value)}
    {z_w P_w : Addr} {ec_w : Value} {dd_w : Option Addr} {vc_w : Array Value} {sc_w : Array (Option Value)}
    {f_w : Addr} {oc_w kV_w dc_w pm_w ct_w : Value} {od_w an_w : Option Addr} {sl_w : Array (Option Value)}
    {cd_ri : Value}
    {f_ri : Addr} {oc_ri kV_ri dc_ri pm_ri ct_ri : Value} {od_ri an_ri : Option Addr} {sl_ri : Array (Option Value)}
    {cd_rt : Value}
    {f_rt : Addr} {oc_rt kV_rt dc_rt pm_rt ct_rt : Value} {od_rt an_rt : Option Addr} {sl_rt : Array (Option Value)}
    {cd_rn : Value}
    {f_rn : Addr} {oc_rn kV_rn dc_rn pm_rn ct_rn : Value} {od_rn an_rn : Option Addr} {sl_rn : Array (Option Value)}
    {cd_rb : Value}
    {f_rb : Addr} {oc_rb kV_rb dc_rb pm_rb ct_rb : Value} {od_rb an_rb : Option Addr} {sl_rb : Array (Option Value)}
    {cd_re : Value}
    {f_re : Addr} {oc_re kV_re dc_re pm_re ct_re : Value} {od_re an_re : Option Addr} {sl_re : Array (Option Value)}
    {cd_ff : Value}
    {f_ff : Addr} {oc_ff kV_ff dc_ff pm_ff ct_ff : Value} {od_ff an_ff : Option Addr} {sl_ff : Array (Option Value)}
    {cd_ti : Value}
    {f_ti : Addr} {oc_ti kV_ti dc_ti pm_ti ct_ti : Value} {od_ti an_ti : Option Addr} {sl_ti : Array (Option Value)}
    {cd_td : Value}
    {f_td : Addr} {oc_td kV_td dc_td pm_td ct_td : Value} {od_td an_td : Option Addr} {sl_td : Array (Option Value)}
    {cd_tf : Value}
    {f_tf : Addr} {oc_tf kV_tf dc_tf pm_tf ct_tf : Value} {od_tf an_tf : Option Addr} {sl_tf : Array (Option Value)}
    {cd_tw : Value}
    {f_tw : Addr} {oc_tw kV_tw dc_tw pm_tw ct_tw : Value} {od_tw an_tw : Option Addr} {sl_tw : Array (Option Value)}
    {cd_tu : Value}
    {f_tu : Addr} {oc_tu kV_tu dc_tu pm_tu ct_tu : Value} {od_tu an_tu : Option Addr} {sl_tu : Array (Option Value)}
    {cd_tn : Value}
    {f_tn : Addr} {oc_tn kV_tn dc_tn pm_tn ct_tn : Value} {od_tn an_tn : Option Addr} {sl_tn : Array (Option Value)}
    (gPCE : PySem.W.nsIn K mainGlobals "OctetError" = some (some (.ref CE)))
    (xPCE : PySem.W.excIn K CE [.type "ValueError", .type "Exception", .type "BaseException", .type "object"] "ValueError.__new__" = true)
    (kPCE : PySem.W.keepIn K (.ref CE) = true)
    (bPCE : PySem.W.subIn K (.ref CE) (.type "BaseException") = some true)
    (tPCE : PySem.W.typeIn K (.ref CE) = some (.type "type"))
    (iPCE : PySem.W.isClsIn K CE = true)
    (sPCE : PySem.W.subIn K (.ref CE) (.ref CE) = some true)
    (gPCS : PySem.W.nsIn K mainGlobals "SocketError" = some (some (.ref CS)))
    (xPCS : PySem.W.excIn K CS [.type "ValueError", .type "Exception", .type "BaseException", .type "object"] "ValueError.__new__" = true)
    (kPCS : PySem.W.keepIn K (.ref CS) = true)
    (bPCS : PySem.W.subIn K (.ref CS) (.type "BaseException") = some true)
    (tPCS : PySem.W.typeIn K (.ref CS) = some (.type "type"))
    (iPCS : PySem.W.isClsIn K CS = true)
    (sPCS : PySem.W.subIn K (.ref CS) (.ref CS) = some true)
    (a_na : PySem.W.nsIn K mainGlobals "natural_bytes" = some (some (.ref f_na)))
    (l_na : K.lookup f_na = some ⟨oc_na, od_na, .func (PySem.W.fnOf "natural_bytes" "natural_bytes" (defArgs s_natural_bytes) (defBody s_natural_bytes) (defScope s_natural_bytes) .none kV_na dc_na pm_na an_na cd_na ct_na), sl_na⟩)
    (c_na : PySem.W.codeIn K cd_na "natural_bytes" = true)
    (k_na : PySem.W.keepIn K (.ref f_na) = true)
    (a_fi : PySem.W.nsIn K mainGlobals "fixed_bytes" = some (some (.ref f_fi)))
    (l_fi : K.lookup f_fi = some ⟨oc_fi, od_fi, .func (PySem.W.fnOf "fixed_bytes" "fixed_bytes" (defArgs s_fixed_bytes) (defBody s_fixed_bytes) (defScope s_fixed_bytes) .none kV_fi dc_fi pm_fi an_fi cd_fi ct_fi), sl_fi⟩)
    (c_fi : PySem.W.codeIn K cd_fi "fixed_bytes" = true)
    (k_fi : PySem.W.keepIn K (.ref f_fi) = true)
    (a_fn : PySem.W.nsIn K mainGlobals "fixed_number" = some (some (.ref f_fn)))
    (l_fn : K.lookup f_fn = some ⟨oc_fn, od_fn, .func (PySem.W.fnOf "fixed_number" "fixed_number" (defArgs s_fixed_number) (defBody s_fixed_number) (defScope s_fixed_number) .none kV_fn dc_fn pm_fn an_fn cd_fn ct_fn), sl_fn⟩)
    (c_fn : PySem.W.codeIn K cd_fn "fixed_number" = true)
    (k_fn : PySem.W.keepIn K (.ref f_fn) = true)
    (a_bl : PySem.W.nsIn K mainGlobals "blob_bytes" = some (some (.ref f_bl)))
    (l_bl : K.lookup f_bl = some ⟨oc_bl, od_bl, .func (PySem.W.fnOf "blob_bytes" "blob_bytes" (defArgs s_blob_bytes) (defBody s_blob_bytes) (defScope s_blob_bytes) .none kV_bl dc_bl pm_bl an_bl cd_bl ct_bl), sl_bl⟩)
    (c_bl : PySem.W.codeIn K cd_bl "blob_bytes" = true)
    (k_bl : PySem.W.keepIn K (.ref f_bl) = true)
    (a_sb : PySem.W.nsIn K mainGlobals "segment_bytes" = some (some (.ref f_sb)))
    (l_sb : K.lookup f_sb = some ⟨oc_sb, od_sb, .func (PySem.W.fnOf "segment_bytes" "segment_bytes" (defArgs s_segment_bytes) (defBody s_segment_bytes) (defScope s_segment_bytes) .none kV_sb dc_sb pm_sb an_sb cd_sb ct_sb), sl_sb⟩)
    (c_sb : PySem.W.codeIn K cd_sb "segment_bytes" = true)
    (k_sb : PySem.W.keepIn K (.ref f_sb) = true)
    (a_rs : PySem.W.nsIn K mainGlobals "read_segment" = some (some (.ref f_rs)))
    (l_rs : K.lookup f_rs = some ⟨oc_rs, od_rs, .func (PySem.W.fnOf "read_segment" "read_segment" (defArgs s_read_segment) (defBody s_read_segment) (defScope s_read_segment) .none kV_rs dc_rs pm_rs an_rs cd_rs ct_rs), sl_rs⟩)
    (c_rs : PySem.W.codeIn K cd_rs "read_segment" = true)
    (k_rs : PySem.W.keepIn K (.ref f_rs) = true)
    (a_bg : PySem.W.nsIn K mainGlobals "begun_at" = some (some (.ref f_bg)))
    (l_bg : K.lookup f_bg = some ⟨oc_bg, od_bg, .func (PySem.W.fnOf "begun_at" "begun_at" (defArgs s_begun_at) (defBody s_begun_at) (defScope s_begun_at) .none kV_bg dc_bg pm_bg an_bg cd_bg ct_bg), sl_bg⟩)
    (c_bg : PySem.W.codeIn K cd_bg "begun_at" = true)
    (k_bg : PySem.W.keepIn K (.ref f_bg) = true)
    (a_d : PySem.W.nsIn K mainGlobals "_law_dice" = some (some (.ref f_d)))
    (l_d : K.lookup f_d = some ⟨oc_d, od_d, .func (PySem.W.fnOf "_law_dice" "_law_dice" (defArgs s_law_dice) (defBody s_law_dice) (defScope s_law_dice) .none kV_d dc_d pm_d an_d cd_d ct_d), sl_d⟩)
    (c_d : PySem.W.codeIn K cd_d "_law_dice" = true)
    (k_d : PySem.W.keepIn K (.ref f_d) = true)
    (a_r : PySem.W.nsIn K mainGlobals "_law_roll" = some (some (.ref f_r)))
    (l_r : K.lookup f_r = some ⟨oc_r, od_r, .func (PySem.W.fnOf "_law_roll" "_law_roll" (defArgs s_law_roll) (defBody s_law_roll) (defScope s_law_roll) .none kV_r dc_r pm_r an_r cd_r ct_r), sl_r⟩)
    (c_r : PySem.W.codeIn K cd_r "_law_roll" = true)
    (k_r : PySem.W.keepIn K (.ref f_r) = true)
    (a_o : PySem.W.nsIn K mainGlobals "_law_rounds" = some (some (.ref f_o)))
    (l_o : K.lookup f_o = some ⟨oc_o, od_o, .func (PySem.W.fnOf "_law_rounds" "_law_rounds" (defArgs s_law_rounds) (defBody s_law_rounds) (defScope s_law_rounds) .none kV_o dc_o pm_o an_o cd_o ct_o), sl_o⟩)
    (c_o : PySem.W.codeIn K cd_o "_law_rounds" = true)
    (k_o : PySem.W.keepIn K (.ref f_o) = true)
    (a_t : PySem.W.nsIn K mainGlobals "_law_told" = some (some (.ref f_t)))
    (l_t : K.lookup f_t = some ⟨oc_t, od_t, .func (PySem.W.fnOf "_law_told" "_law_told" (defArgs s_law_told) (defBody s_law_told) (defScope s_law_told) .none kV_t dc_t pm_t an_t cd_t ct_t), sl_t⟩)
    (c_t : PySem.W.codeIn K cd_t "_law_told" = true)
    (k_t : PySem.W.keepIn K (.ref f_t) = true)
    (a_lo : PySem.W.nsIn K mainGlobals "_law_out" = some (some (.ref f_lo)))
    (l_lo : K.lookup f_lo = some ⟨oc_lo, od_lo, .func (PySem.W.fnOf "_law_out" "_law_out" (defArgs s_law_out) (defBody s_law_out) (defScope s_law_out) .none kV_lo dc_lo pm_lo an_lo cd_lo ct_lo), sl_lo⟩)
    (c_lo : PySem.W.codeIn K cd_lo "_law_out" = true)
    (k_lo : PySem.W.keepIn K (.ref f_lo) = true)
    (a_li : PySem.W.nsIn K mainGlobals "_law_in" = some (some (.ref f_li)))
    (l_li : K.lookup f_li = some ⟨oc_li, od_li, .func (PySem.W.fnOf "_law_in" "_law_in" (defArgs s_law_in) (defBody s_law_in) (defScope s_law_in) .none kV_li dc_li pm_li an_li cd_li ct_li), sl_li⟩)
    (c_li : PySem.W.codeIn K cd_li "_law_in" = true)
    (k_li : PySem.W.keepIn K (.ref f_li) = true)
    (a_w : PySem.W.nsIn K mainGlobals "law" = some (some (.ref f_w)))
    (l_w : K.lookup f_w = some ⟨oc_w, od_w, .func (PySem.W.fnOf "law" "law" (defArgs s_law) (defBody s_law) (defScope s_law) .none kV_w dc_w pm_w an_w (.ref z_w) ct_w), sl_w⟩)
    (c_w : PySem.W.codeIn K (.ref z_w) "law" = true)
    (k_w : PySem.W.keepIn K (.ref f_w) = true)
    (y_w : K.lookup z_w = some ⟨ec_w, dd_w, .fields vc_w, sc_w⟩)
    (v_w : vc_w[11]? = some (.ref P_w))
    (u_w : K.lookup P_w = none)
    (nP : [P_w].Nodup)
    (aRCR : PySem.W.nsIn K mainGlobals "Reader" = some (some (.ref CR)))
    (pgRCR : PySem.W.plainGet K CR Str.empty = true)
    (hdRCR : PySem.W.hasDictIn K CR = true)
    (poRCR : PySem.W.plainOver K CR = true)
    (saRCR : PySem.W.findIn K (.ref CR) "__setattr__" = some (some (.builtin "object.__setattr__")))
    (mkRCR : PySem.W.makesIn K CR = true)
    (kcRCR : PySem.W.keepIn K (.ref CR) = true)
    (n_CR_data : PySem.W.findIn K (.ref CR) "data" = some none)
    (n_CR_place : PySem.W.findIn K (.ref CR) "place" = some none)
    (a_ri : PySem.W.findIn K (.ref CR) "__init__" = some (some (.ref f_ri)))
    (i_ri : PySem.W.isFn K (.ref f_ri) = true)
    (l_ri : K.lookup f_ri = some ⟨oc_ri, od_ri, .func (PySem.W.fnOf "__init__" "Reader.__init__" (defArgs s_Reader_init) (defBody s_Reader_init) (defScope s_Reader_init) .none kV_ri dc_ri pm_ri an_ri cd_ri ct_ri), sl_ri⟩)
    (c_ri : PySem.W.codeIn K cd_ri "Reader.__init__" = true)
    (k_ri : PySem.W.keepIn K (.ref f_ri) = true)
    (a_rt : PySem.W.findIn K (.ref CR) "take" = some (some (.ref f_rt)))
    (i_rt : PySem.W.isFn K (.ref f_rt) = true)
    (l_rt : K.lookup f_rt = some ⟨oc_rt, od_rt, .func (PySem.W.fnOf "take" "Reader.take" (defArgs s_Reader_take) (defBody s_Reader_take) (defScope s_Reader_take) .none kV_rt dc_rt pm_rt an_rt cd_rt ct_rt), sl_rt⟩)
    (c_rt : PySem.W.codeIn K cd_rt "Reader.take" = true)
    (k_rt : PySem.W.keepIn K (.ref f_rt) = true)
    (a_rn : PySem.W.findIn K (.ref CR) "natural" = some (some (.ref f_rn)))
    (i_rn : PySem.W.isFn K (.ref f_rn) = true)
    (l_rn : K.lookup f_rn = some ⟨oc_rn, od_rn, .func (PySem.W.fnOf "natural" "Reader.natural" (defArgs s_Reader_natural) (defBody s_Reader_natural) (defScope s_Reader_natural) .none kV_rn dc_rn pm_rn an_rn cd_rn ct_rn), sl_rn⟩)
    (c_rn : PySem.W.codeIn K cd_rn "Reader.natural" = true)
    (k_rn : PySem.W.keepIn K (.ref f_rn) = true)
    (a_rb : PySem.W.findIn K (.ref CR) "blob" = some (some (.ref f_rb)))
    (i_rb : PySem.W.isFn K (.ref f_rb) = true)
    (l_rb : K.lookup f_rb = some ⟨oc_rb, od_rb, .func (PySem.W.fnOf "blob" "Reader.blob" (defArgs s_Reader_blob) (defBody s_Reader_blob) (defScope s_Reader_blob) .none kV_rb dc_rb pm_rb an_rb cd_rb ct_rb), sl_rb⟩)
    (c_rb : PySem.W.codeIn K cd_rb "Reader.blob" = true)
    (k_rb : PySem.W.keepIn K (.ref f_rb) = true)
    (a_re : PySem.W.findIn K (.ref CR) "at_end" = some (some (.ref f_re)))
    (i_re : PySem.W.isFn K (.ref f_re) = true)
    (l_re : K.lookup f_re = some ⟨oc_re, od_re, .func (PySem.W.fnOf "at_end" "Reader.at_end" (defArgs s_Reader_at_end) (defBody s_Reader_at_end) (defScope s_Reader_at_end) .none kV_re dc_re pm_re an_re cd_re ct_re), sl_re⟩)
    (c_re : PySem.W.codeIn K cd_re "Reader.at_end" = true)
    (k_re : PySem.W.keepIn K (.ref f_re) = true)
    (aRCF : PySem.W.nsIn K mainGlobals "Flow" = some (some (.ref CF)))
    (pgRCF : PySem.W.plainGet K CF Str.empty = true)
    (hdRCF : PySem.W.hasDictIn K CF = true)
    (poRCF : PySem.W.plainOver K CF = true)
    (saRCF : PySem.W.findIn K (.ref CF) "__setattr__" = some (some (.builtin "object.__setattr__")))
    (mkRCF : PySem.W.makesIn K CF = true)
    (kcRCF : PySem.W.keepIn K (.ref CF) = true)
    (n_CF_opener : PySem.W.findIn K (.ref CF) "opener" = some none)
    (n_CF_number : PySem.W.findIn K (.ref CF) "number" = some none)
    (n_CF_outer : PySem.W.findIn K (.ref CF) "outer" = some none)
    (n_CF_peer : PySem.W.findIn K (.ref CF) "peer" = some none)
    (n_CF_used : PySem.W.findIn K (.ref CF) "used" = some none)
    (a_ff : PySem.W.findIn K (.ref CF) "__init__" = some (some (.ref f_ff)))
    (i_ff : PySem.W.isFn K (.ref f_ff) = true)
    (l_ff : K.lookup f_ff = some ⟨oc_ff, od_ff, .func (PySem.W.fnOf "__init__" "Flow.__init__" (defArgs s_Flow_init) (defBody s_Flow_init) (defScope s_Flow_init) .none kV_ff dc_ff pm_ff an_ff cd_ff ct_ff), sl_ff⟩)
    (c_ff : PySem.W.codeIn K cd_ff "Flow.__init__" = true)
    (k_ff : PySem.W.keepIn K (.ref f_ff) = true)
    (aRCT : PySem.W.nsIn K mainGlobals "Translator" = some (some (.ref CT)))
    (pgRCT : PySem.W.plainGet K CT Str.empty = true)
    (hdRCT : PySem.W.hasDictIn K CT = true)
    (poRCT : PySem.W.plainOver K CT = true)
    (saRCT : PySem.W.findIn K (.ref CT) "__setattr__" = some (some (.builtin "object.__setattr__")))
    (mkRCT : PySem.W.makesIn K CT = true)
    (kcRCT : PySem.W.keepIn K (.ref CT) = true)
    (n_CT_outside : PySem.W.findIn K (.ref CT) "outside" = some none)
    (n_CT_inside : PySem.W.findIn K (.ref CT) "inside" = some none)
    (n_CT_flows : PySem.W.findIn K (.ref CT) "flows" = some none)
    (n_CT_doors : PySem.W.findIn K (.ref CT) "doors" = some none)
    (a_ti : PySem.W.findIn K (.ref CT) "__init__" = some (some (.ref f_ti)))
    (i_ti : PySem.W.isFn K (.ref f_ti) = true)
    (l_ti : K.lookup f_ti = some ⟨oc_ti, od_ti, .func (PySem.W.fnOf "__init__" "Translator.__init__" (defArgs s_Translator_init) (defBody s_Translator_init) (defScope s_Translator_init) .none kV_ti dc_ti pm_ti an_ti cd_ti ct_ti), sl_ti⟩)
    (c_ti : PySem.W.codeIn K cd_ti "Translator.__init__" = true)
    (k_ti : PySem.W.keepIn K (.ref f_ti) = true)
    (a_td : PySem.W.findIn K (.ref CT) "open_door" = some (some (.ref f_td)))
    (i_td : PySem.W.isFn K (.ref f_td) = true)
    (l_td : K.lookup f_td = some ⟨oc_td, od_td, .func (PySem.W.fnOf "open_door" "Translator.open_door" (defArgs s_Translator_open_door) (defBody s_Translator_open_door) (defScope s_Translator_open_door) .none kV_td dc_td pm_td an_td cd_td ct_td), sl_td⟩)
    (c_td : PySem.W.codeIn K cd_td "Translator.open_door" = true)
    (k_td : PySem.W.keepIn K (.ref f_td) = true)
    (a_tf : PySem.W.findIn K (.ref CT) "forget" = some (some (.ref f_tf)))
    (i_tf : PySem.W.isFn K (.ref f_tf) = true)
    (l_tf : K.lookup f_tf = some ⟨oc_tf, od_tf, .func (PySem.W.fnOf "forget" "Translator.forget" (defArgs s_Translator_forget) (defBody s_Translator_forget) (defScope s_Translator_forget) .none kV_tf dc_tf pm_tf an_tf cd_tf ct_tf), sl_tf⟩)
    (c_tf : PySem.W.codeIn K cd_tf "Translator.forget" = true)
    (k_tf : PySem.W.keepIn K (.ref f_tf) = true)
    (a_tw : PySem.W.findIn K (.ref CT) "flow_of" = some (some (.ref f_tw)))
    (i_tw : PySem.W.isFn K (.ref f_tw) = true)
    (l_tw : K.lookup f_tw = some ⟨oc_tw, od_tw, .func (PySem.W.fnOf "flow_of" "Translator.flow_of" (defArgs s_Translator_flow_of) (defBody s_Translator_flow_of) (defScope s_Translator_flow_of) .none kV_tw dc_tw pm_tw an_tw cd_tw ct_tw), sl_tw⟩)
    (c_tw : PySem.W.codeIn K cd_tw "Translator.flow_of" = true)
    (k_tw : PySem.W.keepIn K (.ref f_tw) = true)
    (a_tu : PySem.W.findIn K (.ref CT) "outgoing" = some (some (.ref f_tu)))
    (i_tu : PySem.W.isFn K (.ref f_tu) = true)
    (l_tu : K.lookup f_tu = some ⟨oc_tu, od_tu, .func (PySem.W.fnOf "outgoing" "Translator.outgoing" (defArgs s_Translator_outgoing) (defBody s_Translator_outgoing) (defScope s_Translator_outgoing) .none kV_tu dc_tu pm_tu an_tu cd_tu ct_tu), sl_tu⟩)
    (c_tu : PySem.W.codeIn K cd_tu "Translator.outgoing" = true)
    (k_tu : PySem.W.keepIn K (.ref f_tu) = true)
    (a_tn : PySem.W.findIn K (.ref CT) "incoming" = some (some (.ref f_tn)))
    (i_tn : PySem.W.isFn K (.ref f_tn) = true)
    (l_tn : K.lookup f_tn = some ⟨oc_tn, od_tn, .func (PySem.W.fnOf "incoming" "Translator.incoming" (defArgs s_Translator_incoming) (defBody s_Translator_incoming) (defScope s_Translator_incoming) .none kV_tn dc_tn pm_tn an_tn cd_tn ct_tn), sl_tn⟩)
    (c_tn : PySem.W.codeIn K cd_tn "Translator.incoming" = true)
    (k_tn : PySem.W.keepIn K (.ref f_tn) = true)
    (g_MOST_NUMBER : PySem.W.nsIn K mainGlobals "MOST_NUMBER" = some (some (.int 4611686018427387904 tMOST_NUMBER)))
    (g_OPEN : PySem.W.nsIn K mainGlobals "OPEN" = some (some (.int 1 tOPEN)))
    (g_DATA : PySem.W.nsIn K mainGlobals "DATA" = some (some (.int 2 tDATA)))
    (g_REFUSED : PySem.W.nsIn K mainGlobals "REFUSED" = some (some (.int 3 tREFUSED)))
    (g_MOST_UNUSED : PySem.W.nsIn K mainGlobals "MOST_UNUSED" = some (some (.int 200 tMOST_UNUSED)))
    (g_MOST_FLOWS : PySem.W.nsIn K mainGlobals "MOST_FLOWS" = some (some (.int 50 tMOST_FLOWS)))
    (z_len : PySem.W.nsIn K mainGlobals "len" = some none)
    (z_range : PySem.W.nsIn K mainGlobals "range" = some none)
    (z_tuple : PySem.W.nsIn K mainGlobals "tuple" = some none)
    (z_int : PySem.W.nsIn K mainGlobals "int" = some none)
    (z_abs : PySem.W.nsIn K mainGlobals "abs" = some none)
    (z_list : PySem.W.nsIn K mainGlobals "list" = some none)
    (z_dict : PySem.W.nsIn K mainGlobals "dict" = some none)
    (z_max : PySem.W.nsIn K mainGlobals "max" = some none) :
    LamX.LawAtS l w K (L2.CX l.prog w) 8 63 "script" mg fa h := by
  have e := hfa.symm.trans (PySem.W.mg_of X G a_w)
  cases e
  have E_CE : ExcC K mg "OctetError" CE := ⟨PySem.W.mg_of X G gPCE, kPCE, xPCE, bPCE, tPCE⟩
  have E_CS : ExcC K mg "SocketError" CS := ⟨PySem.W.mg_of X G gPCS, kPCS, xPCS, bPCS, tPCS⟩
  have F_na := fun_mk (st := s_natural_bytes) l_na c_na k_na
  have m_na := PySem.W.mg_of X G a_na
  have F_fi := fun_mk (st := s_fixed_bytes) l_fi c_fi k_fi
  have m_fi := PySem.W.mg_of X G a_fi
  have F_fn := fun_mk (st := s_fixed_number) l_fn c_fn k_fn
  have m_fn := PySem.W.mg_of X G a_fn
  have F_bl := fun_mk (st := s_blob_bytes) l_bl c_bl k_bl
  have m_bl := PySem.W.mg_of X G a_bl
  have F_sb := fun_mk (st := s_segment_bytes) l_sb c_sb k_sb
  have m_sb := PySem.W.mg_of X G a_sb
  have F_rs := fun_mk (st := s_read_segment) l_rs c_rs k_rs
  have m_rs := PySem.W.mg_of X G a_rs
  have F_bg := fun_mk (st := s_begun_at) l_bg c_bg k_bg
  have m_bg := PySem.W.mg_of X G a_bg
  have F_d := fun_mk (st := s_law_dice) l_d c_d k_d
  have m_d := PySem.W.mg_of X G a_d
  have F_r := fun_mk (st := s_law_roll) l_r c_r k_r
  have m_r := PySem.W.mg_of X G a_r
  have F_o := fun_mk (st := s_law_rounds) l_o c_o k_o
  have m_o := PySem.W.mg_of X G a_o
  have F_t := fun_mk (st := s_law_told) l_t c_t k_t
  have m_t := PySem.W.mg_of X G a_t
  have F_lo := fun_mk (st := s_law_out) l_lo c_lo k_lo
  have m_lo := PySem.W.mg_of X G a_lo
  have F_li := fun_mk (st := s_law_in) l_li c_li k_li
  have m_li := PySem.W.mg_of X G a_li
  have F_w := funT_mk (st := s_law) l_w c_w k_w
  have m_w := PySem.W.mg_of X G a_w
  obtain ⟨h_w, H_w⟩ := tab_of X T_w m_w l_w rfl y_w v_w
  have F_ri := fun_mk (st := s_Reader_init) l_ri c_ri k_ri
  have mk_CR : Mk K CR f_ri := ⟨mkRCR, a_ri, i_ri, kcRCR⟩
  have F_rt := fun_mk (st := s_Reader_take) l_rt c_rt k_rt
  have M_rt : Meth K CR "take" f_rt := ⟨a_rt, i_rt, k_rt⟩
  have F_rn := fun_mk (st := s_Reader_natural) l_rn c_rn k_rn
  have M_rn : Meth K CR "natural" f_rn := ⟨a_rn, i_rn, k_rn⟩
  have F_rb := fun_mk (st := s_Reader_blob) l_rb c_rb k_rb
  have M_rb : Meth K CR "blob" f_rb := ⟨a_rb, i_rb, k_rb⟩
  have F_re := fun_mk (st := s_Reader_at_end) l_re c_re k_re
  have M_re : Meth K CR "at_end" f_re := ⟨a_re, i_re, k_re⟩
  have cl_CR : Cls K CR := ⟨pgRCR, hdRCR, poRCR, saRCR⟩
  have F_ff := fun_mk (st := s_Flow_init) l_ff c_ff k_ff
  have mk_CF : Mk K CF f_ff := ⟨mkRCF, a_ff, i_ff, kcRCF⟩
  have cl_CF : Cls K CF := ⟨pgRCF, hdRCF, poRCF, saRCF⟩
  have F_ti := fun_mk (st := s_Translator_init) l_ti c_ti k_ti
  have mk_CT : Mk K CT f_ti := ⟨mkRCT, a_ti, i_ti, kcRCT⟩
  have F_td := fun_mk (st := s_Translator_open_door) l_td c_td k_td
  have M_td : Meth K CT "open_door" f_td := ⟨a_td, i_td, k_td⟩
  have F_tf := fun_mk (st := s_Translator_forget) l_tf c_tf k_tf
  have M_tf : Meth K CT "forget" f_tf := ⟨a_tf, i_tf, k_tf⟩
  have F_tw := fun_mk (st := s_Translator_flow_of) l_tw c_tw k_tw
  have M_tw : Meth K CT "flow_of" f_tw := ⟨a_tw, i_tw, k_tw⟩
  have F_tu := fun_mk (st := s_Translator_outgoing) l_tu c_tu k_tu
  have M_tu : Meth K CT "outgoing" f_tu := ⟨a_tu, i_tu, k_tu⟩
  have F_tn := fun_mk (st := s_Translator_incoming) l_tn c_tn k_tn
  have M_tn : Meth K CT "incoming" f_tn := ⟨a_tn, i_tn, k_tn⟩
  have cl_CT : Cls K CT := ⟨pgRCT, hdRCT, poRCT, saRCT⟩
  have q_len := PySem.W.mg_none_of X G z_len
  have q_range := PySem.W.mg_none_of X G z_range
  have q_tuple := PySem.W.mg_none_of X G z_tuple
  have q_int := PySem.W.mg_none_of X G z_int
  have q_abs := PySem.W.mg_none_of X G z_abs
  have q_list := PySem.W.mg_none_of X G z_list
  have q_dict := PySem.W.mg_none_of X G z_dict
  have q_max := PySem.W.mg_none_of X G z_max
  have exm_CE := exm_one bPCE iPCE tPCE sPCE
  have exm_CS := exm_one bPCS iPCS tPCS sPCS
  have TO := told_ok F_t m_t E_CS exm_CS
  have rd : RdC K CR := ⟨cl_CR, n_CR_data, n_CR_place⟩
  have fc : FwC K CF := ⟨cl_CF, n_CF_opener, n_CF_number, n_CF_outer, n_CF_peer, n_CF_used⟩
  have tc : TrC K CT := ⟨cl_CT, n_CT_outside, n_CT_inside, n_CT_flows, n_CT_doors⟩
  obtain ⟨T, hT0⟩ : ∃ T : List (Addr × Str), T = [(P_w, Str.ofString "law.<locals>.<lambda>")] := ⟨_, rfl⟩
  have nT : (T.map (·.1)).Nodup := by rw [hT0]; exact nP
  have i_w : (P_w, Str.ofString "law.<locals>.<lambda>") ∈ T := by rw [hT0]; simp
  have w_w := uniq_of i_w nT
  have gs := gst_tabs T
  refine ⟨PySem.W.fnOf "law" "law" (defArgs s_law) (defBody s_law) (defScope s_law) .none kV_w dc_w pm_w an_w (.ref z_w) ct_w, [(z_w, P_w)], spOf (Tabs T) K (S_law K), (fun p hp => by
    simp only [List.mem_cons, List.not_mem_nil, or_false] at hp
    rcases hp with rfl
    · exact h_w),
    (fun p hp => by
    simp only [List.mem_cons, List.not_mem_nil, or_false] at hp
    rcases hp with rfl
    · exact u_w),
    (fun p hp => by
    simp only [List.mem_cons, List.not_mem_nil, or_false] at hp
    rcases hp with rfl
    · exact H_w), fun s u => .of_eq rfl, fun H a ns hl hb hT hS => law_sp (tabs0 fun p hp => ?_) hS, fun base KB GB TB => ?_⟩
  · rw [hT0] at hp
    simp only [List.mem_cons, List.not_mem_nil, or_false] at hp
    rcases hp with rfl
    · exact hT (z_w, P_w) (by simp)
  · have B_w : TabB base mg z_w P_w := TB (z_w, P_w) (by simp)
    have v_MOST_NUMBER := PySem.W.mg_of X G g_MOST_NUMBER
    have v_OPEN := PySem.W.mg_of X G g_OPEN
    have v_DATA := PySem.W.mg_of X G g_DATA
    have v_REFUSED := PySem.W.mg_of X G g_REFUSED
    have v_MOST_UNUSED := PySem.W.mg_of X G g_MOST_UNUSED
    have v_MOST_FLOWS := PySem.W.mg_of X G g_MOST_FLOWS
    have gna := gf_nat (P := l.prog) (w := w) (base := base) F_na gs v_MOST_NUMBER
    have gfi := gf_fix (P := l.prog) (w := w) (mg := mg) (base := base) F_fi gs
    have gfn := gf_fixn (P := l.prog) (w := w) (mg := mg) (base := base) F_fn gs
    have gri := gf_rinit (P := l.prog) (w := w) (mg := mg) (base := base) F_ri gs rd
    have grt := gf_rtake (P := l.prog) (w := w) (base := base) F_rt gs rd E_CE q_len
    have grn := gf_rnat (P := l.prog) (w := w) (base := base) F_rn gs rd v_MOST_NUMBER q_len M_rt grt
    have grb := gf_rblob (CE := CE) (P := l.prog) (w := w) (base := base) F_rb gs rd M_rt grt M_rn grn
    have gre := gf_rend (P := l.prog) (w := w) (base := base) F_re gs rd q_len
    have gbl := gf_blobb (P := l.prog) (w := w) (base := base) F_bl gs q_len m_na gna
    have gsb := gf_segb (P := l.prog) (w := w) (base := base) F_sb gs m_na gna m_fi gfi m_bl gbl
    have gbg := gf_begun (P := l.prog) (w := w) (base := base) F_bg gs m_sb gsb
    have grs := gf_rseg (P := l.prog) (w := w) (base := base) F_rs gs E_CE E_CS exm_CE rd (PySem.W.mg_of X G aRCR) mk_CR gri M_rn grn M_rt grt M_rb grb M_re gre m_fn gfn v_OPEN v_DATA v_REFUSED
    have gff := gf_finit (P := l.prog) (w := w) (mg := mg) (base := base) F_ff gs fc
    have gti := gf_tinit (CF := CF) (P := l.prog) (w := w) (base := base) F_ti gs tc q_tuple
    have gtd := gf_door (CF := CF) (P := l.prog) (w := w) (base := base) F_td gs tc E_CS
    have gtf := gf_forget (P := l.prog) (w := w) (base := base) F_tf gs tc fc v_MOST_UNUSED
    have gtw := gf_flowof (P := l.prog) (w := w) (base := base) F_tw gs tc fc v_MOST_FLOWS q_len (PySem.W.mg_of X G aRCF) mk_CF gff
    have gtu := gf_out (P := l.prog) (w := w) (base := base) F_tu gs tc fc m_rs grs M_tf gtf M_tw gtw m_bg gbg
    have gtn := gf_in (P := l.prog) (w := w) (base := base) F_tn gs tc fc m_rs grs M_tf gtf m_bg gbg
    have glo := gf_lout (P := l.prog) (w := w) (base := base) F_lo gs q_len q_range
    have gli := gf_lin (P := l.prog) (w := w) (mg := mg) (base := base) F_li gs
    have gd := gf_dice (P := l.prog) (w := w) (base := base) F_d gs q_int q_abs
    have r1 := gf_roll (P := l.prog) (w := w) (base := base) (k := 0) (B := 100000000) (B' := 0) F_r gs q_int m_r (by decide) (.inl (by decide))
    have r2 := gf_roll (P := l.prog) (w := w) (base := base) (k := 1) (B := 9000000000000000) (B' := 100000000) F_r gs q_int m_r (by decide) (.inr ⟨by decide, by decide, r1⟩)
    have r3 := gf_roll (P := l.prog) (w := w) (base := base) (k := 2) (B := 1000000000000000000) (B' := 9000000000000000) F_r gs q_int m_r (by decide) (.inr ⟨by decide, by decide, r2⟩)
    exact fn_law F_w { E := E_CS, told := TO, roll := ⟨_, m_r, r3⟩, rounds := ⟨_, m_o, gf_rounds F_o gs m_d gd⟩, segb := ⟨_, m_sb, gsb⟩, rseg := ⟨_, m_rs, grs⟩, lout := ⟨_, m_lo, glo⟩, lin := ⟨_, m_li, gli⟩, tclass := PySem.W.mg_of X G aRCT, tc := tc, fc := fc, mkt := ⟨_, mk_CT, gti⟩, door := ⟨_, M_td, gtd⟩, forget := ⟨_, M_tf, gtf⟩, out := ⟨_, M_tu, gtu⟩, inn := ⟨_, M_tn, gtn⟩, len := q_len, range := q_range, dict := q_dict, list := q_list, tuple := q_tuple, max := q_max } B_w i_w w_w
theorem hCX {P : Program} : ∀ (w : World) (H : Hp) (s : Shared) (e : Value) (s' : Shared), L2.CX P w [] H s (fun _ _ _ => False) e s' → False := fun _ _ _ _ _ h => by
  obtain ⟨_, _, _, _, _, _, _, _, _, _, _, _, z⟩ := h
  exact z.elim
end

end K24

open PySem PySem.W PyProof.Rows
set_option maxRecDepth 100000 in
set_option maxHeartbeats 0 in
theorem PySem.Challenge.cw_wirestack_k24_streams_behind_one_address_holds : PySem.Challenge.rw_wirestack_k24_streams_behind_one_address.Holds := by
  w_on; o_law; k_head; (case hw => w_witness2)
  k_fill
  refine Wv.walk_ofAll (l := PySem.Challenge.rw_wirestack_k24_streams_behind_one_address) (n := 63) (k := 8) (x := "script") (CX := fun w => L2.CX PySem.Challenge.rw_wirestack_k24_streams_behind_one_address.prog w) rfl (by decide) rfl ⟨rfl, by decide, by decide⟩ (fun w h Y => PySem.W.km_in_of Y) ?F K24.hCX
  case F =>
    intro w mg fa h Y XX KX G hmg TT
    refine' K24.all_mk KX G hmg (TT _ ?t0) ?gPCE ?xPCE ?kPCE ?bPCE ?tPCE ?iPCE ?sPCE ?gPCS ?xPCS ?kPCS ?bPCS ?tPCS ?iPCS ?sPCS ?a_na ?l_na ?c_na ?k_na ?a_fi ?l_fi ?c_fi ?k_fi ?a_fn ?l_fn ?c_fn ?k_fn ?a_bl ?l_bl ?c_bl ?k_bl ?a_sb ?l_sb ?c_sb ?k_sb ?a_rs ?l_rs ?c_rs ?k_rs ?a_bg ?l_bg ?c_bg ?k_bg ?a_d ?l_d ?c_d ?k_d ?a_r ?l_r ?c_r ?k_r ?a_o ?l_o ?c_o ?k_o ?a_t ?l_t ?c_t ?k_t ?a_lo ?l_lo ?c_lo ?k_lo ?a_li ?l_li ?c_li ?k_li ?a_w ?l_w ?c_w ?k_w ?y_w ?v_w ?u_w ?nP ?aRCR ?pgRCR ?hdRCR ?poRCR ?saRCR ?mkRCR ?kcRCR ?n_CR_data ?n_CR_place ?a_ri ?i_ri ?l_ri ?c_ri ?k_ri ?a_rt ?i_rt ?l_rt ?c_rt ?k_rt ?a_rn ?i_rn ?l_rn ?c_rn ?k_rn ?a_rb ?i_rb ?l_rb ?c_rb ?k_rb ?a_re ?i_re ?l_re ?c_re ?k_re ?aRCF ?pgRCF ?hdRCF ?poRCF ?saRCF ?mkRCF ?kcRCF ?n_CF_opener ?n_CF_number ?n_CF_outer ?n_CF_peer ?n_CF_used ?a_ff ?i_ff ?l_ff ?c_ff ?k_ff ?aRCT ?pgRCT ?hdRCT ?poRCT ?saRCT ?mkRCT ?kcRCT ?n_CT_outside ?n_CT_inside ?n_CT_flows ?n_CT_doors ?a_ti ?i_ti ?l_ti ?c_ti ?k_ti ?a_td ?i_td ?l_td ?c_td ?k_td ?a_tf ?i_tf ?l_tf ?c_tf ?k_tf ?a_tw ?i_tw ?l_tw ?c_tw ?k_tw ?a_tu ?i_tu ?l_tu ?c_tu ?k_tu ?a_tn ?i_tn ?l_tn ?c_tn ?k_tn ?g_MOST_NUMBER ?g_OPEN ?g_DATA ?g_REFUSED ?g_MOST_UNUSED ?g_MOST_FLOWS ?z_len ?z_range ?z_tuple ?z_int ?z_abs ?z_list ?z_dict ?z_max
    (case t0 => decide +kernel)
    (case gPCE => k_is)
    (case xPCE => k_exc)
    (case kPCE => k_is)
    (case bPCE => k_is)
    (case tPCE => k_is)
    (case iPCE => k_is)
    (case sPCE => first | rfl | k_is)
    (case gPCS => k_is)
    (case xPCS => k_exc)
    (case kPCS => k_is)
    (case bPCS => k_is)
    (case tPCS => k_is)
    (case iPCS => k_is)
    (case sPCS => first | rfl | k_is)
    (case a_na => k_is)
    (case l_na => k_is)
    (case c_na => k_is)
    (case k_na => k_is)
    (case a_fi => k_is)
    (case l_fi => k_is)
    (case c_fi => k_is)
    (case k_fi => k_is)
    (case a_fn => k_is)
    (case l_fn => k_is)
    (case c_fn => k_is)
    (case k_fn => k_is)
    (case a_bl => k_is)
    (case l_bl => k_is)
    (case c_bl => k_is)
    (case k_bl => k_is)
    (case a_sb => k_is)
    (case l_sb => k_is)
    (case c_sb => k_is)
    (case k_sb => k_is)
    (case a_rs => k_is)
    (case l_rs => k_is)
    (case c_rs => k_is)
    (case k_rs => k_is)
    (case a_bg => k_is)
    (case l_bg => k_is)
    (case c_bg => k_is)
    (case k_bg => k_is)
    (case a_d => k_is)
    (case l_d => k_is)
    (case c_d => k_is)
    (case k_d => k_is)
    (case a_r => k_is)
    (case l_r => k_is)
    (case c_r => k_is)
    (case k_r => k_is)
    (case a_o => k_is)
    (case l_o => k_is)
    (case c_o => k_is)
    (case k_o => k_is)
    (case a_t => k_is)
    (case l_t => k_is)
    (case c_t => k_is)
    (case k_t => k_is)
    (case a_lo => k_is)
    (case l_lo => k_is)
    (case c_lo => k_is)
    (case k_lo => k_is)
    (case a_li => k_is)
    (case l_li => k_is)
    (case c_li => k_is)
    (case k_li => k_is)
    (case a_w => k_is)
    (case l_w => k_is)
    (case c_w => k_is)
    (case k_w => k_is)
    (case y_w => k_is)
    (case v_w => rfl)
    (case u_w => rfl)
    (case nP => decide)
    (case aRCR => k_is)
    (case pgRCR => k_is)
    (case hdRCR => k_is)
    (case poRCR => k_is)
    (case saRCR => k_is)
    (case mkRCR => k_is)
    (case kcRCR => k_is)
    (case n_CR_data => k_is)
    (case n_CR_place => k_is)
    (case a_ri => k_is)
    (case i_ri => k_is)
    (case l_ri => k_is)
    (case c_ri => k_is)
    (case k_ri => k_is)
    (case a_rt => k_is)
    (case i_rt => k_is)
    (case l_rt => k_is)
    (case c_rt => k_is)
    (case k_rt => k_is)
    (case a_rn => k_is)
    (case i_rn => k_is)
    (case l_rn => k_is)
    (case c_rn => k_is)
    (case k_rn => k_is)
    (case a_rb => k_is)
    (case i_rb => k_is)
    (case l_rb => k_is)
    (case c_rb => k_is)
    (case k_rb => k_is)
    (case a_re => k_is)
    (case i_re => k_is)
    (case l_re => k_is)
    (case c_re => k_is)
    (case k_re => k_is)
    (case aRCF => k_is)
    (case pgRCF => k_is)
    (case hdRCF => k_is)
    (case poRCF => k_is)
    (case saRCF => k_is)
    (case mkRCF => k_is)
    (case kcRCF => k_is)
    (case n_CF_opener => k_is)
    (case n_CF_number => k_is)
    (case n_CF_outer => k_is)
    (case n_CF_peer => k_is)
    (case n_CF_used => k_is)
    (case a_ff => k_is)
    (case i_ff => k_is)
    (case l_ff => k_is)
    (case c_ff => k_is)
    (case k_ff => k_is)
    (case aRCT => k_is)
    (case pgRCT => k_is)
    (case hdRCT => k_is)
    (case poRCT => k_is)
    (case saRCT => k_is)
    (case mkRCT => k_is)
    (case kcRCT => k_is)
    (case n_CT_outside => k_is)
    (case n_CT_inside => k_is)
    (case n_CT_flows => k_is)
    (case n_CT_doors => k_is)
    (case a_ti => k_is)
    (case i_ti => k_is)
    (case l_ti => k_is)
    (case c_ti => k_is)
    (case k_ti => k_is)
    (case a_td => k_is)
    (case i_td => k_is)
    (case l_td => k_is)
    (case c_td => k_is)
    (case k_td => k_is)
    (case a_tf => k_is)
    (case i_tf => k_is)
    (case l_tf => k_is)
    (case c_tf => k_is)
    (case k_tf => k_is)
    (case a_tw => k_is)
    (case i_tw => k_is)
    (case l_tw => k_is)
    (case c_tw => k_is)
    (case k_tw => k_is)
    (case a_tu => k_is)
    (case i_tu => k_is)
    (case l_tu => k_is)
    (case c_tu => k_is)
    (case k_tu => k_is)
    (case a_tn => k_is)
    (case i_tn => k_is)
    (case l_tn => k_is)
    (case c_tn => k_is)
    (case k_tn => k_is)
    (case g_MOST_NUMBER => k_is)
    (case g_OPEN => k_is)
    (case g_DATA => k_is)
    (case g_REFUSED => k_is)
    (case g_MOST_UNUSED => k_is)
    (case g_MOST_FLOWS => k_is)
    (case z_len => k_is)
    (case z_range => k_is)
    (case z_tuple => k_is)
    (case z_int => k_is)
    (case z_abs => k_is)
    (case z_list => k_is)
    (case z_dict => k_is)
    (case z_max => k_is)
