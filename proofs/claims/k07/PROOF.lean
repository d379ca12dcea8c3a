import PyProof.Rows.All
import Wide.All
import OpenK.AllK
import Wide.FinOn
import HandS.ForMost
import HandS.ExcOwn
import HandS.IsInst
import HandS.TupAny
import HandS.TupMul
import HandS.Deep
import HandS.Zip
import HandS.WordsExc
import HandS.SetFor
import HandS.Strs
import HandS.Text
import KE.KRevSl
import HandS.SortInts
import HandS.Ends
import HandS.ExcInit
import HandS.ExcField
import HandS.ExcIs
import HandS.HotCalls
import HandS.Lambda
import KE.GoesMore
import PyProof.EnumMake
import HandS.Iter
import HandS.Conv
import HandS.Star
import HandS.Flow
import HandS.FStr
import HandS.Style
import HandS.CallLocal
import HandS.DictComp
import PySem.Challenge.RW_surelywrong_k07_whole_names_and_kinds_tu
set_option Elab.async false
set_option linter.all false
set_option autoImplicit false
set_option maxRecDepth 100000
/-! Data judgements over the hand layer: what an expression, a statement of a def does, told by PyData alone. -/
namespace Dt
open PySem PySem.Spec L2

def okI (i : Int) : Prop := i.natAbs < 2 ^ 250
def limL : Nat := 4194304
def okS (x : Str) : Prop := x.length ≤ limL ∧ PyData.strOk x = true

/-- a key of a dict, as data -/
def kD : Key → PyData
  | .inl i => .int i
  | .inr x => .str x
def okK : Key → Prop
  | .inl i => okI i
  | .inr x => okS x
/-- the entries of a dict, as data -/
def kvD (es : List (Key × PyData)) : List (PyData × PyData) := es.map fun e => (kD e.1, e.2)
mutual
inductive Dv (K : PySem.W.Frag) (H : Hp) : V → PyData → Prop
  | non : Dv K H .non .none
  | bl (b : Bool) : Dv K H (.bl b) (.bool b)
  | int {i : Int} : okI i → Dv K H (.int i) (.int i)
  | str {x : Str} : okS x → Dv K H (.str x) (.str x)
  | lst {a : Addr} {xs : List V} {ds : List PyData} : H a = some (.lst xs) → ds.length ≤ limL → DvAll K H xs ds → Dv K H (.ref a) (.list ds)
  | tup {a : Addr} {xs : List V} {ds : List PyData} : SqT K H a xs → ds.length ≤ limL → DvAll K H xs ds → Dv K H (.ref a) (.tuple ds)
  | dct {a : Addr} {kvs : List (Key × V)} {ps : List (PyData × PyData)} : H a = some (.dK kvs) → ps.length ≤ limL → DvP K H kvs ps → Dv K H (.ref a) (.dict ps)
inductive DvAll (K : PySem.W.Frag) (H : Hp) : List V → List PyData → Prop
  | nil : DvAll K H [] []
  | cons {v : V} {vs : List V} {d : PyData} {ds : List PyData} : Dv K H v d → DvAll K H vs ds → DvAll K H (v :: vs) (d :: ds)
inductive DvP (K : PySem.W.Frag) (H : Hp) : List (Key × V) → List (PyData × PyData) → Prop
  | nil : DvP K H [] []
  | cons {k : Key} {v : V} {kvs : List (Key × V)} {d : PyData} {ps : List (PyData × PyData)} : okK k → Dv K H v d → DvP K H kvs ps → DvP K H ((k, v) :: kvs) ((kD k, d) :: ps)
end

theorem same_seqT {K : PySem.W.Frag} {H H' : Hp} {a : Addr} {xs : List V} (e : Same H H') (h : SqT K H a xs) : SqT K H' a xs := by
  rcases h with (h | ⟨o, h⟩) | h
  · exact .inl (.inl (e _ _ h))
  · exact .inl (.inr ⟨o, e _ _ h⟩)
  · exact .inr h
section
variable {K : PySem.W.Frag} {H H' : Hp}
mutual
theorem Dv.same (e : Same H H') : ∀ (d : PyData) (v : V), Dv K H v d → Dv K H' v d
  | .none, _, h => by cases h; exact .non
  | .bool b, _, h => by cases h; exact .bl b
  | .int i, _, h => by cases h with | int q => exact .int q
  | .str x, _, h => by cases h with | str q => exact .str q
  | .list ds, _, h => by cases h with | lst a n b => exact .lst (e _ _ a) n (DvAll.same e ds _ b)
  | .tuple ds, _, h => by cases h with | tup a n b => exact .tup (same_seqT e a) n (DvAll.same e ds _ b)
  | .dict ps, _, h => by cases h with | dct a n b => exact .dct (e _ _ a) n (DvP.same e ps _ b)
theorem DvAll.same (e : Same H H') : ∀ (ds : List PyData) (vs : List V), DvAll K H vs ds → DvAll K H' vs ds
  | [], _, h => by cases h; exact .nil
  | d :: ds, _, h => by cases h with | cons a b => exact .cons (Dv.same e d _ a) (DvAll.same e ds _ b)
theorem DvP.same (e : Same H H') : ∀ (ps : List (PyData × PyData)) (kvs : List (Key × V)), DvP K H kvs ps → DvP K H' kvs ps
  | [], _, h => by cases h; exact .nil
  | (_, d) :: ps, _, h => by cases h with | cons o a b => exact .cons o (Dv.same e d _ a) (DvP.same e ps _ b)
end
theorem hd_cons {d : PyData} {ds : List PyData} (h : PyData.hasDictAll (d :: ds) = false) : d.hasDict = false ∧ PyData.hasDictAll ds = false := by
  simpa only [PyData.hasDictAll, Bool.or_eq_false_iff] using h
mutual
theorem Dv.dp : ∀ (d : PyData) (v : V), d.hasDict = false → Dv K H v d → Dp K H v d
  | .none, _, _, h => by cases h; exact .non
  | .bool b, _, _, h => by cases h; exact .bl b
  | .int i, _, _, h => by cases h with | int q => exact .int _
  | .str x, _, _, h => by cases h with | str q => exact .str _
  | .list ds, _, z, h => by cases h with | lst a n b => exact .lst (SqL.of a) (DvAll.dp ds _ (by simpa only [PyData.hasDict] using z) b)
  | .tuple ds, _, z, h => by cases h with | tup a n b => exact .tup a (DvAll.dp ds _ (by simpa only [PyData.hasDict] using z) b)
  | .dict _, _, z, h => by simp only [PyData.hasDict] at z; cases z
theorem DvAll.dp : ∀ (ds : List PyData) (vs : List V), PyData.hasDictAll ds = false → DvAll K H vs ds → DpAll K H vs ds
  | [], _, _, h => by cases h; exact .nil
  | d :: ds, _, z, h => by cases h with | cons a b => exact .cons (Dv.dp d _ (hd_cons z).1 a) (DvAll.dp ds _ (hd_cons z).2 b)
end
theorem DvAll.length : ∀ {vs : List V} {ds : List PyData}, DvAll K H vs ds → vs.length = ds.length
  | _, [], h => by cases h; rfl
  | _, d :: ds, h => by cases h with | cons a b => simp [DvAll.length b]
theorem DvAll.get : ∀ {vs : List V} {ds : List PyData} {i : Nat} {x : V}, DvAll K H vs ds → vs[i]? = some x → ∃ d, ds[i]? = some d ∧ Dv K H x d
  | _, [], _, _, h, e => by cases h; simp at e
  | _, d :: ds, 0, x, h, e => by cases h with | cons a b => (simp at e; subst e; exact ⟨d, rfl, a⟩)
  | _, d :: ds, i + 1, x, h, e => by cases h with | cons a b => (obtain ⟨y, h1, h2⟩ := DvAll.get (i := i) b (by simpa using e); exact ⟨y, by simpa using h1, h2⟩)
theorem DvAll.get' {vs : List V} {ds : List PyData} {i : Nat} {d : PyData} (h : DvAll K H vs ds) (e : ds[i]? = some d) : ∃ x, vs[i]? = some x ∧ Dv K H x d := by
  have hl := h.length
  have hi : i < vs.length := by
    have := (List.getElem?_eq_some_iff.mp e).1
    omega
  obtain ⟨d', h1, h2⟩ := h.get (List.getElem?_eq_getElem hi)
  rw [e] at h1; cases h1
  exact ⟨_, List.getElem?_eq_getElem hi, h2⟩
theorem DvAll.append : ∀ {vs ws : List V} {ds es : List PyData}, DvAll K H vs ds → DvAll K H ws es → DvAll K H (vs ++ ws) (ds ++ es)
  | _, _, [], _, h, h2 => by cases h; exact h2
  | _, _, d :: ds, _, h, h2 => by cases h with | cons a b => exact .cons a (DvAll.append b h2)
theorem DvAll.take : ∀ {vs : List V} {ds : List PyData} (n : Nat), DvAll K H vs ds → DvAll K H (vs.take n) (ds.take n)
  | _, _, 0, _ => .nil
  | _, [], n + 1, h => by cases h; exact .nil
  | _, d :: ds, n + 1, h => by cases h with | cons a b => exact .cons a (DvAll.take n b)
theorem DvAll.drop : ∀ {vs : List V} {ds : List PyData} (n : Nat), DvAll K H vs ds → DvAll K H (vs.drop n) (ds.drop n)
  | _, _, 0, h => h
  | _, [], n + 1, h => by cases h; exact .nil
  | _, d :: ds, n + 1, h => by cases h with | cons a b => exact DvAll.drop n b
theorem DvAll.reverse : ∀ {vs : List V} {ds : List PyData}, DvAll K H vs ds → DvAll K H vs.reverse ds.reverse
  | _, [], h => by cases h; exact .nil
  | _, d :: ds, h => by cases h with | cons a b => (simp only [List.reverse_cons]; exact (DvAll.reverse b).append (.cons a .nil))
end

/-! ### hidden addresses -/
def hd (H : Hp) (l : List Addr) : Hp := fun a => if a ∈ l then none else H a
theorem hd_in {H : Hp} {l : List Addr} {a : Addr} (h : a ∈ l) : hd H l a = none := by unfold hd; rw [if_pos h]
theorem hd_out {H : Hp} {l : List Addr} {a : Addr} (h : a ∉ l) : hd H l a = H a := by unfold hd; rw [if_neg h]
theorem hd_some {H : Hp} {l : List Addr} {a : Addr} {o : HO} : hd H l a = some o ↔ a ∉ l ∧ H a = some o := by
  by_cases h : a ∈ l
  · rw [hd_in h]; simp [h]
  · rw [hd_out h]; simp [h]
theorem hd_to (H : Hp) (l : List Addr) : Same (hd H l) H := fun b o h => (hd_some.mp h).2
theorem hd_same {H H' : Hp} (l : List Addr) (e : ∀ b o, b ∉ l → H b = some o → H' b = some o) : Same (hd H l) (hd H' l) := fun b o h =>
  let ⟨n, q⟩ := hd_some.mp h
  hd_some.mpr ⟨n, e b o n q⟩
theorem hd_sub {H : Hp} {l l' : List Addr} (h : ∀ a ∈ l', a ∈ l) : Same (hd H l) (hd H l') := fun b o q =>
  let ⟨n, q⟩ := hd_some.mp q
  hd_some.mpr ⟨fun z => n (h b z), q⟩
theorem same_upd {H : Hp} {p : Addr} {o : HO} (h : H p = none) : Same H (upd H p o) := fun b u q => by rw [upd_ne (ne_of_none q h)]; exact q

/-! ### the world, the context, the environment -/
structure Wd (S : Type) where
  G : S → Hp → Prop
  wa : List Addr
  tr : ∀ s H, G s H → ∀ a ∈ wa, H a ≠ none
  st : ∀ s H H', G s H → (∀ a ∈ wa, H' a = H a) → (∀ b o, H b = some o → (∀ xs, o ≠ .lst xs) → (∀ xs, o ≠ .dK xs) → (∀ xs, o ≠ .dT xs) → H' b = some o) → G s H'
/-- no world -/
def W0 : Wd Unit := ⟨fun _ _ => True, [], (fun _ _ _ _ h => nomatch h), fun _ _ _ _ _ _ => trivial⟩
structure Cn {S : Type} (Wo : Wd S) where
  R : List Addr
  H0 : Hp
abbrev Cn.W {S : Type} {Wo : Wd S} (_ : Cn Wo) : Wd S := Wo
inductive Sl where
  | no
  | d (x : PyData)
  | own (p : Addr) (xs : List PyData)
  | raw (v : V)
  /-- a dict of its own: keys ints and texts; keys tuples of them -/
  | ownK (p : Addr) (es : List (Key × PyData))
  | ownT (p : Addr) (es : List (List Key × PyData))
def own1 : Sl → List Addr
  | .own p _ => [p]
  | .ownK p _ => [p]
  | .ownT p _ => [p]
  | _ => []
/-- the entries of a dict whose keys are tuples -/
def DvT (K : PySem.W.Frag) (H : Hp) : List (List Key × V) → List (List Key × PyData) → Prop
  | [], [] => True
  | (k, v) :: r, (l, d) :: t => k = l ∧ Dv K H v d ∧ DvT K H r t
  | _, _ => False
theorem DvT.same {K : PySem.W.Frag} {H H' : Hp} (e : Same H H') : ∀ (r : List (List Key × V)) (t : List (List Key × PyData)), DvT K H r t → DvT K H' r t
  | [], [], _ => trivial
  | (_, _) :: r, (_, d) :: t, h => ⟨h.1, Dv.same e d _ h.2.1, DvT.same e r t h.2.2⟩
  | [], _ :: _, h => h.elim
  | _ :: _, [], h => h.elim
def owns : List Sl → List Addr
  | [] => []
  | x :: r => own1 x ++ owns r
def SlotOk (K : PySem.W.Frag) (Hh H : Hp) : Sl → Option V → Prop
  | .no, _ => True
  | .d x, o => ∃ v, o = some v ∧ Dv K Hh v x
  | .own p xs, o => o = some (.ref p) ∧ xs.length ≤ limL ∧ ∃ vs, H p = some (.lst vs) ∧ DvAll K Hh vs xs
  | .raw v, o => o = some v
  | .ownK p es, o => o = some (.ref p) ∧ es.length ≤ limL ∧ ∃ kvs, H p = some (.dK kvs) ∧ DvP K Hh kvs (kvD es)
  | .ownT p es, o => o = some (.ref p) ∧ es.length ≤ limL ∧ ∃ kvs, H p = some (.dT kvs) ∧ DvT K Hh kvs es
abbrev Cn.hs {S : Type} {Wo : Wd S} (c : Cn Wo) (ρ : List Sl) : List Addr := (c.W.wa ++ c.R) ++ owns ρ
structure EnvD {S : Type} {Wo : Wd S} (K : PySem.W.Frag) (c : Cn Wo) (σ : St) (H : Hp) (ρ : List Sl) (s : S) : Prop where
  len : σ.length = ρ.length
  slot : ∀ (i : Nat) (x : Sl), ρ[i]? = some x → ∃ o, σ[i]? = some o ∧ SlotOk K (hd H (c.hs ρ)) H x o
  nd : (c.hs ρ).Nodup
  tr : ∀ a ∈ c.hs ρ, H a ≠ none
  g : c.W.G s H
  ext : ∀ b o, c.H0 b = some o → b ∉ c.W.wa → H b = some o
  new : ∀ p ∈ owns ρ, c.H0 p = none
/-- what was seen as data is so still -/
abbrev Stp {S : Type} {Wo : Wd S} (c : Cn Wo) (ρ ρ' : List Sl) (H H' : Hp) : Prop := Same (hd H (c.hs ρ)) (hd H' (c.hs ρ'))

section
variable {S : Type} {Wo : Wd S} {K : PySem.W.Frag} {c : Cn Wo} {σ : St} {H H' : Hp} {ρ : List Sl} {s : S}
theorem SlotOk.same {Hh Hh' H H' : Hp} {x : Sl} {o : Option V} (h : SlotOk K Hh H x o) (e : Same Hh Hh') (e2 : ∀ p, own1 x = [p] → H p ≠ none → H' p = H p) : SlotOk K Hh' H' x o := by
  cases x with
  | no => trivial
  | d x => exact (let ⟨v, q, r⟩ := h; ⟨v, q, Dv.same e _ _ r⟩)
  | own p xs => exact (let ⟨q, n, vs, r, t⟩ := h; ⟨q, n, vs, (e2 p rfl (by rw [r]; exact fun z => nomatch z)).trans r, DvAll.same e _ _ t⟩)
  | raw v => exact h
  | ownK p es => exact (let ⟨q, n, vs, r, t⟩ := h; ⟨q, n, vs, (e2 p rfl (by rw [r]; exact fun z => nomatch z)).trans r, DvP.same e _ _ t⟩)
  | ownT p es => exact (let ⟨q, n, vs, r, t⟩ := h; ⟨q, n, vs, (e2 p rfl (by rw [r]; exact fun z => nomatch z)).trans r, DvT.same e _ _ t⟩)
/-- the heap grows by what is not hidden -/
theorem EnvD.grow (E : EnvD K c σ H ρ s) (e : Same H H') : EnvD K c σ H' ρ s where
  len := E.len
  slot := fun i x h => by
    obtain ⟨o, h1, h2⟩ := E.slot i x h
    refine ⟨o, h1, h2.same (hd_same _ fun b u _ q => e b u q) fun p _ z => ?_⟩
    cases r : H p with
    | none => exact absurd r z
    | some u => exact e _ _ r
  nd := E.nd
  tr := fun a ha z => by
    cases q : H a with
    | none => exact E.tr a ha q
    | some o => rw [e _ _ q] at z; cases z
  g := c.W.st s H H' E.g (fun a ha => by
    cases q : H a with
    | none => exact absurd q (E.tr a (List.mem_append_left _ (List.mem_append_left _ ha)))
    | some o => exact e _ _ q) fun b o h _ _ _ => e b o h
  ext := fun b o h n => e _ _ (E.ext b o h n)
  new := E.new
theorem stp_grow (e : Same H H') : Stp c ρ ρ H H' := hd_same _ fun b u _ q => e b u q
theorem own_memG : ∀ {ρ : List Sl} {i : Nat} {p : Addr} {x : Sl}, ρ[i]? = some x → own1 x = [p] → p ∈ owns ρ
  | [], _, _, _, h, _ => by simp at h
  | x :: r, 0, p, y, h, o => by
    simp at h; subst h
    exact List.mem_append_left _ (by rw [o]; simp)
  | x :: r, i + 1, p, y, h, o => List.mem_append_right _ (own_memG (i := i) (by simpa using h) o)
theorem own_mem {ρ : List Sl} {i : Nat} {p : Addr} {xs : List PyData} (h : ρ[i]? = some (.own p xs)) : p ∈ owns ρ := own_memG h rfl
theorem owns_set_sub : ∀ {ρ : List Sl} {i : Nat} {x : Sl}, own1 x = [] → (owns (ρ.set i x)).Sublist (owns ρ)
  | [], _, _, _ => List.Sublist.refl _
  | y :: r, 0, x, h => by
    show (own1 x ++ owns r).Sublist (own1 y ++ owns r)
    rw [h]
    exact List.sublist_append_right _ _
  | y :: r, i + 1, x, h => List.Sublist.append (List.Sublist.refl _) (owns_set_sub (ρ := r) (i := i) h)
/-- a slot is given data -/
theorem EnvD.setD (E : EnvD K c σ H ρ s) {i : Nat} {v : V} {x : Sl} (hx : own1 x = []) (h : SlotOk K (hd H (c.hs ρ)) H x (some v)) : EnvD K c (σ.set i (some v)) H (ρ.set i x) s ∧ Stp c ρ (ρ.set i x) H H := by
  have sub : ∀ a ∈ c.hs (ρ.set i x), a ∈ c.hs ρ := fun a ha => by
    rcases List.mem_append.mp ha with z | z
    · exact List.mem_append_left _ z
    · exact List.mem_append_right _ ((owns_set_sub hx).subset z)
  have st : Stp c ρ (ρ.set i x) H H := hd_sub sub
  refine ⟨⟨by simp [E.len], fun j y hy => ?_, ?_, fun a ha => E.tr a (sub a ha), E.g, E.ext, fun p hp => E.new p ((owns_set_sub hx).subset hp)⟩, st⟩
  · by_cases hj : i = j
    · subst hj
      have hi : i < ρ.length := by
        have := (List.getElem?_eq_some_iff.mp hy).1
        simpa using this
      rw [List.getElem?_set_self hi] at hy
      cases hy
      exact ⟨some v, by rw [List.getElem?_set_self (by rw [E.len]; exact hi)], h.same st fun p z _ => rfl⟩
    · rw [List.getElem?_set_ne hj] at hy
      obtain ⟨o, h1, h2⟩ := E.slot j y hy
      exact ⟨o, by rw [List.getElem?_set_ne hj]; exact h1, h2.same st fun _ _ _ => rfl⟩
  · exact E.nd.sublist (List.Sublist.append (List.Sublist.refl _) (owns_set_sub hx))
end

/-! ### judgements -/
/-- an exception's class and fields -/
structure Er where
  cls : Addr
  fs : List (Str × PyData)
def FsOk (K : PySem.W.Frag) (H : Hp) : List (Str × V) → List (Str × PyData) → Prop
  | [], [] => True
  | (a, v) :: r, (b, d) :: t => a = b ∧ Dv K H v d ∧ FsOk K H r t
  | _, _ => False
def ErIs (K : PySem.W.Frag) (Hh H : Hp) (e : Er) (cls : Value) (dd : Option Addr) : Prop :=
  cls = .ref e.cls ∧ ∃ (d : Addr) (fs : List (Str × V)), dd = some d ∧ H d = some (.xd fs) ∧ FsOk K Hh fs e.fs
abbrev DE (S : Type) := List Sl → S → (PyData → S → Prop) → (Er → S → Prop) → Prop
abbrev DT (S : Type) := List Sl → S → (Bool → S → Prop) → (Er → S → Prop) → Prop
inductive Ag where
  | d (x : PyData)
  | raw (v : V)
def toSl : Ag → Sl
  | .d x => .d x
  | .raw v => .raw v
abbrev DA (S : Type) := List Sl → S → (List Ag → S → Prop) → (Er → S → Prop) → Prop
structure DEnds (S : Type) where
  nx : List Sl → S → Prop
  rt : PyData → S → Prop
  bk : List Sl → S → Prop
  ct : List Sl → S → Prop
  er : Er → List Sl → S → Prop
abbrev DS (S : Type) := List Sl → S → DEnds S → Prop

section
variable {S : Type} {Wo : Wd S}
/-- what an error asks -/
def ErTo (K : PySem.W.Frag) (c : Cn Wo) (σ : St) (ρ : List Sl) (Ed : Er → S → Prop) (W : WX) : Prop :=
  ∀ e cls dd H' s', EnvD K c σ H' ρ s' → ErIs K (hd H' (c.hs ρ)) H' e cls dd → Ed e s' → W cls dd σ H'
def VTo (K : PySem.W.Frag) (c : Cn Wo) (σ : St) (H : Hp) (ρ : List Sl) (Qd : PyData → S → Prop) (Q : VK) : Prop :=
  ∀ v H' d s', EnvD K c σ H' ρ s' → Stp c ρ ρ H H' → Dv K (hd H' (c.hs ρ)) v d → Qd d s' → Q v H'
def BTo (K : PySem.W.Frag) (c : Cn Wo) (σ : St) (H : Hp) (ρ : List Sl) (Qd : Bool → S → Prop) (Q : Bool → Hp → Prop) : Prop :=
  ∀ b H' s', EnvD K c σ H' ρ s' → Stp c ρ ρ H H' → Qd b s' → Q b H'
def AgOk (K : PySem.W.Frag) (Hh : Hp) : List V → List Ag → Prop
  | [], [] => True
  | v :: r, .d x :: t => Dv K Hh v x ∧ AgOk K Hh r t
  | v :: r, .raw u :: t => v = u ∧ AgOk K Hh r t
  | _, _ => False
def ATo (K : PySem.W.Frag) (c : Cn Wo) (σ : St) (H : Hp) (ρ : List Sl) (Qd : List Ag → S → Prop) (Q : List V → Hp → Prop) : Prop :=
  ∀ vs H' as s', EnvD K c σ H' ρ s' → Stp c ρ ρ H H' → AgOk K (hd H' (c.hs ρ)) vs as → Qd as s' → Q vs H'
structure STo (K : PySem.W.Frag) (c : Cn Wo) (H : Hp) (ρ : List Sl) (Dd : DEnds S) (D : Ends) (W : WX) : Prop where
  nx : ∀ σ' H' ρ' s', EnvD K c σ' H' ρ' s' → Stp c ρ ρ' H H' → Dd.nx ρ' s' → D.nx σ' H'
  bk : ∀ σ' H' ρ' s', EnvD K c σ' H' ρ' s' → Stp c ρ ρ' H H' → Dd.bk ρ' s' → D.bk σ' H'
  ct : ∀ σ' H' ρ' s', EnvD K c σ' H' ρ' s' → Stp c ρ ρ' H H' → Dd.ct ρ' s' → D.ct σ' H'
  rt : ∀ v H' d s', c.W.G s' H' → (∀ b o, c.H0 b = some o → b ∉ c.W.wa → H' b = some o) → Dv K (hd H' (c.W.wa ++ c.R)) v d → Dd.rt d s' → D.rt v H'
  er : ∀ e cls dd σ' H' ρ' s', EnvD K c σ' H' ρ' s' → ErIs K (hd H' (c.hs ρ')) H' e cls dd → Dd.er e ρ' s' → W cls dd σ' H'

structure ED (Wo : Wd S) (X : Cx) (W : WX) (e : Expr) (t : TE) (w : DE S) : Prop where
  pe : PE X e t
  go : ∀ (c : Cn Wo) σ H ρ s Qd Ed Q, EnvD X.K c σ H ρ s → w ρ s Qd Ed → VTo X.K c σ H ρ Qd Q → ErTo X.K c σ ρ Ed W → t σ H Q
structure TD (Wo : Wd S) (X : Cx) (W : WX) (e : Expr) (t : TT) (w : DT S) : Prop where
  pe : PT X e t
  go : ∀ (c : Cn Wo) σ H ρ s Qd Ed Q, EnvD X.K c σ H ρ s → w ρ s Qd Ed → BTo X.K c σ H ρ Qd Q → ErTo X.K c σ ρ Ed W → t σ H Q
structure TWD (Wo : Wd S) (X : Cx) (W : WX) (e : Expr) (t : TT) (w : DT S) : Prop where
  pe : PW X e t
  go : ∀ (c : Cn Wo) σ H ρ s Qd Ed Q, EnvD X.K c σ H ρ s → w ρ s Qd Ed → BTo X.K c σ H ρ Qd Q → ErTo X.K c σ ρ Ed W → t σ H Q
structure AD (Wo : Wd S) (X : Cx) (W : WX) (es : List Expr) (t : TA) (w : DA S) : Prop where
  pe : PA X es t
  go : ∀ (c : Cn Wo) σ H ρ s Qd Ed Q, EnvD X.K c σ H ρ s → w ρ s Qd Ed → ATo X.K c σ H ρ Qd Q → ErTo X.K c σ ρ Ed W → t σ H Q
structure SD (Wo : Wd S) (X : Cx) (W : WX) (st : Stmt) (t : TS) (w : DS S) : Prop where
  pe : PS X st t
  go : ∀ (c : Cn Wo) σ H ρ s Dd D, EnvD X.K c σ H ρ s → w ρ s Dd → STo X.K c H ρ Dd D W → t D σ H
structure SSD (Wo : Wd S) (X : Cx) (W : WX) (st : List Stmt) (t : TS) (w : DS S) : Prop where
  pe : PSs X st t
  go : ∀ (c : Cn Wo) σ H ρ s Dd D, EnvD X.K c σ H ρ s → w ρ s Dd → STo X.K c H ρ Dd D W → t D σ H
end
end Dt

set_option Elab.async false
set_option linter.all false
set_option autoImplicit false
set_option maxRecDepth 100000
namespace Dt
open PySem PySem.Spec L2

section
variable {S : Type} {Wo : Wd S} {X : Cx} {W : WX} {ta tb tc : TE} {tA tB' tC' : TT}
/-! ### names, constants -/
def wVar {S : Type} (i : Nat) : DE S := fun ρ s Q _ => match ρ[i]? with
  | some (.d x) => Q x s
  | _ => False
theorem ed_var (i : Nat) {x : Str} {pos : Pos} (hN : X.N[i]? = some x := by rfl) (hv : Vis X.env.scope x := by first | exact Or.inl rfl | exact Or.inr (Or.inl rfl) | exact Or.inr (Or.inr rfl)) (hd : (x == ("__debug__" : Str)) = false := by decide)
    (hcd : (x == ("__classdict__" : Str)) = false := by decide) : ED Wo X W (.Name x pos) (tVar i) (wVar i) :=
  ⟨pe_var hN hv hd hcd, fun c σ H ρ s Qd Ed Q E hw hv he => by
    unfold wVar at hw
    split at hw
    · rename_i y hy
      obtain ⟨o, h1, v, rfl, dv⟩ := E.slot i _ hy
      exact ⟨v, h1, hv v H y s E (Same.refl _) dv hw⟩
    · exact hw.elim⟩
def wC {S : Type} (d : PyData) : DE S := fun _ s Q _ => Q d s
theorem ed_c {e : Expr} {v : V} {d : PyData} (hp : PE X e (tC v)) (hd : ∀ H, Dv X.K H v d) : ED Wo X W e (tC v) (wC d) :=
  ⟨hp, fun c σ H ρ s Qd Ed Q E hw hv he => hv v H d s E (Same.refl _) (hd _) hw⟩
theorem ed_int {i : Int} {j pos} (h : okI i := by unfold okI; decide) : ED Wo X W (.Constant (.int i) j pos) (tC (.int i)) (wC (.int i)) := ed_c pe_int fun _ => .int h
theorem ed_str {x : Str} {j pos} (h : okS x := by exact ⟨by decide +kernel, by decide +kernel⟩) : ED Wo X W (.Constant (.str x) j pos) (tC (.str x)) (wC (.str x)) := ed_c pe_str fun _ => .str h
theorem ed_bl {b : Bool} {j pos} : ED Wo X W (.Constant (.bool b) j pos) (tC (.bl b)) (wC (.bool b)) := ed_c pe_bl fun _ => .bl b
theorem ed_non {j pos} : ED Wo X W (.Constant .none j pos) (tC .non) (wC .none) := ed_c pe_non fun _ => .non
theorem ed_glob {x : Str} {v : V} {u : Value} {d : PyData} {pos : Pos} (hg : Gl X x) (hm : X.mg x = some u) (r : RelV v u) (hd : ∀ H, Dv X.K H v d) (hdb : (x == ("__debug__" : Str)) = false := by decide) : ED Wo X W (.Name x pos) (tC v) (wC d) := ed_c (pe_glob hg hm r hdb) hd

/-! ### operators by data -/
def OpD (K : PySem.W.Frag) (r : R2) (f : PyData → PyData → (PyData → Prop) → Prop) : Prop :=
  ∀ (H : Hp) (l : List Addr) (x y : V) (d e : PyData) (Qd : PyData → Prop) (Q : VK), (∀ a ∈ l, H a ≠ none) → Dv K (hd H l) x d → Dv K (hd H l) y e → f d e Qd →
    (∀ v H' z, Same H H' → Dv K (hd H' l) v z → Qd z → Q v H') → r x y H Q
def UnD (K : PySem.W.Frag) (r : V → Hp → VK → Prop) (f : PyData → (PyData → Prop) → Prop) : Prop :=
  ∀ (H : Hp) (l : List Addr) (x : V) (d : PyData) (Qd : PyData → Prop) (Q : VK), (∀ a ∈ l, H a ≠ none) → Dv K (hd H l) x d → f d Qd →
    (∀ v H' z, Same H H' → Dv K (hd H' l) v z → Qd z → Q v H') → r x H Q
def wOp {S : Type} (f : PyData → PyData → (PyData → Prop) → Prop) (wa wb : DE S) : DE S := fun ρ s Q E => wa ρ s (fun x s1 => wb ρ s1 (fun y s2 => f x y fun z => Q z s2) E) E
def wUn {S : Type} (f : PyData → (PyData → Prop) → Prop) (wa : DE S) : DE S := fun ρ s Q E => wa ρ s (fun x s1 => f x fun z => Q z s1) E
theorem tOp_go {r : R2} {f : PyData → PyData → (PyData → Prop) → Prop} {ta tb : TE} {wa wb : DE S} {c : Cn Wo} {σ : St} {H : Hp} {ρ : List Sl} {s : S} {Qd : PyData → S → Prop} {Ed : Er → S → Prop} {Q : VK} (hf : OpD X.K r f)
    (ha : ∀ (c : Cn Wo) σ H ρ s Qd Ed Q, EnvD X.K c σ H ρ s → wa ρ s Qd Ed → VTo X.K c σ H ρ Qd Q → ErTo X.K c σ ρ Ed W → ta σ H Q)
    (hb : ∀ (c : Cn Wo) σ H ρ s Qd Ed Q, EnvD X.K c σ H ρ s → wb ρ s Qd Ed → VTo X.K c σ H ρ Qd Q → ErTo X.K c σ ρ Ed W → tb σ H Q)
    (E : EnvD X.K c σ H ρ s) (hw : wOp f wa wb ρ s Qd Ed) (hv : VTo X.K c σ H ρ Qd Q) (he : ErTo X.K c σ ρ Ed W) : tOp r ta tb σ H Q :=
  ha c σ H ρ s _ Ed _ E hw (fun x H1 d s1 E1 st1 d1 q1 => hb c σ H1 ρ s1 _ Ed _ E1 q1 (fun y H2 e s2 E2 st2 d2 q2 =>
    hf H2 (c.hs ρ) x y d e _ _ E2.tr (Dv.same st2 _ _ d1) d2 q2 fun v H' z sm dz qz => hv v H' z s2 (E2.grow sm) (st1.trans (st2.trans (stp_grow sm))) dz qz) he) he
theorem ed_op {a b : Expr} {pos : Pos} {op : Operator} {r : R2} {f : PyData → PyData → (PyData → Prop) → Prop} {wa wb : DE S} (ho : OpR X (binaryOp op) r) (hf : OpD X.K r f) (ha : ED Wo X W a ta wa) (hb : ED Wo X W b tb wb) : ED Wo X W (.BinOp a op b pos) (tOp r ta tb) (wOp f wa wb) := by
  obtain ⟨pa, ha⟩ := ha
  obtain ⟨pb, hb⟩ := hb
  exact ⟨pe_op ho pa pb, fun c σ H ρ s Qd Ed Q E hw hv he => tOp_go hf ha hb E hw hv he⟩
theorem ed_un {a : Expr} {pos : Pos} {op : UnaryOp} {r : V → Hp → VK → Prop} {f : PyData → (PyData → Prop) → Prop} {wa : DE S} (ho : UnR X (unaryOp op) r) (hf : UnD X.K r f) (ha : ED Wo X W a ta wa) : ED Wo X W (.UnaryOp op a pos) (tUn r ta) (wUn f wa) := by
  obtain ⟨pa, ha⟩ := ha
  exact ⟨pe_un ho pa, fun c σ H ρ s Qd Ed Q E hw hv he =>
    ha c σ H ρ s _ Ed _ E hw (fun x H1 d s1 E1 st1 d1 q1 => hf H1 (c.hs ρ) x d _ _ E1.tr d1 q1 fun v H' z sm dz qz => hv v H' z s1 (E1.grow sm) (st1.trans (stp_grow sm)) dz qz) he⟩
theorem ed_cmp {a b : Expr} {pos : Pos} {op : CmpOp} {r : R2} {f : PyData → PyData → (PyData → Prop) → Prop} {wa wb : DE S} (ho : OpR X (compareOp op) r) (hf : OpD X.K r f) (ha : ED Wo X W a ta wa) (hb : ED Wo X W b tb wb) (hm : behindInMarks op b = false) :
    ED Wo X W (.Compare a [op] [b] pos) (tOp r ta tb) (wOp f wa wb) := by
  obtain ⟨pa, ha⟩ := ha
  obtain ⟨pb, hb⟩ := hb
  exact ⟨pe_cmpR ho pa pb hm, fun c σ H ρ s Qd Ed Q E hw hv he => tOp_go hf ha hb E hw hv he⟩
/-- a value that must be a bool, as a test -/
def wT {S : Type} (w : DE S) : DT S := fun ρ s Q E => w ρ s (fun x s1 => match x with | .bool b => Q b s1 | _ => False) E
theorem Dv.of_bool {K : PySem.W.Frag} {H : Hp} {v : V} {b : Bool} (h : Dv K H v (.bool b)) : v = .bl b := by cases h; rfl
theorem td_cmp {a b : Expr} {pos : Pos} {op : CmpOp} {r : R2} {f : PyData → PyData → (PyData → Prop) → Prop} {wa wb : DE S} (ho : OpR X (compareOp op) r) (hf : OpD X.K r f) (ha : ED Wo X W a ta wa) (hb : ED Wo X W b tb wb) (hm : behindInMarks op b = false) :
    TD Wo X W (.Compare a [op] [b] pos) (tTest (tOp r ta tb)) (wT (wOp f wa wb)) := by
  obtain ⟨pa, ha⟩ := ha
  obtain ⟨pb, hb⟩ := hb
  exact ⟨pt_cmpR ho pa pb hm, fun c σ H ρ s Qd Ed Q E hw hv he => tOp_go hf ha hb E hw (fun v H' d s' E' st' dv q => by
    cases d with
    | bool b => exact ⟨b, dv.of_bool, hv b H' s' E' st' q⟩
    | _ => exact q.elim) he⟩
theorem td_val {e : Expr} {w : DE S} (h : ED Wo X W e ta w) (he : ∀ whole, isTrue e X.env whole = (do let v ← whole; standAt e.pos; holding [v] (truthy v)) := by intro _; rfl) : TD Wo X W e (tB ta) (wT w) := by
  obtain ⟨pa, ha⟩ := h
  exact ⟨pt_val pa he, fun c σ H ρ s Qd Ed Q E hw hv he => ha c σ H ρ s _ Ed _ E hw (fun v H' d s' E' st' dv q => by
    cases d with
    | bool b => exact ⟨b, dv.of_bool, hv b H' s' E' st' q⟩
    | _ => exact q.elim) he⟩
/-! ### chains of two comparisons -/
def wChain {S : Type} (f g : PyData → PyData → (PyData → Prop) → Prop) (wa wb wc : DE S) : DE S := fun ρ s Q E => wa ρ s (fun x s1 => wb ρ s1 (fun y s2 => f x y fun z => match z with
  | .bool true => wc ρ s2 (fun u s3 => g y u fun z => Q z s3) E
  | .bool false => Q (.bool false) s2
  | _ => False) E) E
theorem tChain_go {a b e' : Expr} {r r' : R2} {f g : PyData → PyData → (PyData → Prop) → Prop} {ta tb tc : TE} {wa wb wc : DE S} {c : Cn Wo} {σ : St} {H : Hp} {ρ : List Sl} {s : S} {Qd : PyData → S → Prop} {Ed : Er → S → Prop} {Q : VK} (hf : OpD X.K r f) (hg : OpD X.K r' g)
    (ha : ∀ (c : Cn Wo) σ H ρ s Qd Ed Q, EnvD X.K c σ H ρ s → wa ρ s Qd Ed → VTo X.K c σ H ρ Qd Q → ErTo X.K c σ ρ Ed W → ta σ H Q)
    (hb : ∀ (c : Cn Wo) σ H ρ s Qd Ed Q, EnvD X.K c σ H ρ s → wb ρ s Qd Ed → VTo X.K c σ H ρ Qd Q → ErTo X.K c σ ρ Ed W → tb σ H Q)
    (hc : ∀ (c : Cn Wo) σ H ρ s Qd Ed Q, EnvD X.K c σ H ρ s → wc ρ s Qd Ed → VTo X.K c σ H ρ Qd Q → ErTo X.K c σ ρ Ed W → tc σ H Q)
    (E : EnvD X.K c σ H ρ s) (hw : wChain f g wa wb wc ρ s Qd Ed) (hv : VTo X.K c σ H ρ Qd Q) (he : ErTo X.K c σ ρ Ed W) : tChain r r' ta tb tc σ H Q :=
  ha c σ H ρ s _ Ed _ E hw (fun x H1 d s1 E1 st1 d1 q1 => hb c σ H1 ρ s1 _ Ed _ E1 q1 (fun y H2 e s2 E2 st2 d2 q2 =>
    hf H2 (c.hs ρ) x y d e _ _ E2.tr (Dv.same st2 _ _ d1) d2 q2 fun v H3 z sm dz qz => by
      have E3 := E2.grow sm
      have st3 : Stp c ρ ρ H2 H3 := stp_grow sm
      cases z with
      | bool k =>
        refine ⟨k, dz.of_bool, ?_⟩
        cases k with
        | false =>
          rw [if_neg Bool.false_ne_true]
          exact hv (.bl false) H3 (.bool false) s2 E3 (st1.trans (st2.trans st3)) (.bl _) qz
        | true =>
          rw [if_pos rfl]
          exact hc c σ H3 ρ s2 _ Ed _ E3 qz (fun u H4 w s3 E4 st4 d4 q4 => hg H4 (c.hs ρ) y u e w _ _ E4.tr (Dv.same (st3.trans st4) _ _ d2) d4 q4 fun v H' z sm dz qz =>
            hv v H' z s3 (E4.grow sm) (st1.trans (st2.trans (st3.trans (st4.trans (stp_grow sm))))) dz qz) he
      | _ => exact qz.elim) he) he
theorem ed_chain {a b e' : Expr} {pos : Pos} {op op' : CmpOp} {r r' : R2} {f g : PyData → PyData → (PyData → Prop) → Prop} {wa wb wc : DE S} (ho : OpR X (compareOp op) r) (hf : OpD X.K r f) (ho' : OpR X (compareOp op') r') (hg : OpD X.K r' g)
    (ha : ED Wo X W a ta wa) (hb : ED Wo X W b tb wb) (hc : ED Wo X W e' tc wc) (hm : lastMarks [op, op'] [b, e'] = false := by rfl) : ED Wo X W (.Compare a [op, op'] [b, e'] pos) (tChain r r' ta tb tc) (wChain f g wa wb wc) := by
  obtain ⟨pa, ha⟩ := ha
  obtain ⟨pb, hb⟩ := hb
  obtain ⟨pc, hc⟩ := hc
  exact ⟨pe_chain ho ho' pa pb pc hm, fun c σ H ρ s Qd Ed Q E hw hv he => tChain_go (a := a) (b := b) (e' := e') hf hg ha hb hc E hw hv he⟩
theorem td_chain {a b e' : Expr} {pos : Pos} {op op' : CmpOp} {r r' : R2} {f g : PyData → PyData → (PyData → Prop) → Prop} {wa wb wc : DE S} (ho : OpR X (compareOp op) r) (hf : OpD X.K r f) (ho' : OpR X (compareOp op') r') (hg : OpD X.K r' g)
    (ha : ED Wo X W a ta wa) (hb : ED Wo X W b tb wb) (hc : ED Wo X W e' tc wc) (hm : lastMarks [op, op'] [b, e'] = false := by rfl) : TD Wo X W (.Compare a [op, op'] [b, e'] pos) (tTest (tChain r r' ta tb tc)) (wT (wChain f g wa wb wc)) := by
  obtain ⟨pa, ha⟩ := ha
  obtain ⟨pb, hb⟩ := hb
  obtain ⟨pc, hc⟩ := hc
  exact ⟨pt_chain ho ho' pa pb pc hm, fun c σ H ρ s Qd Ed Q E hw hv he => tChain_go (a := a) (b := b) (e' := e') hf hg ha hb hc E hw (fun v H' d s' E' st' dv q => by
    cases d with
    | bool b => exact ⟨b, dv.of_bool, hv b H' s' E' st' q⟩
    | _ => exact q.elim) he⟩
/-! ### and, or, not -/
def wAnd {S : Type} (wa wb : DE S) : DE S := fun ρ s Q E => wa ρ s (fun x s1 => match x with | .bool true => wb ρ s1 Q E | .bool false => Q (.bool false) s1 | _ => False) E
def wOr {S : Type} (wa wb : DE S) : DE S := fun ρ s Q E => wa ρ s (fun x s1 => match x with | .bool false => wb ρ s1 Q E | .bool true => Q (.bool true) s1 | _ => False) E
def wNot {S : Type} (wa : DE S) : DE S := fun ρ s Q E => wa ρ s (fun x s1 => match x with | .bool b => Q (.bool !b) s1 | _ => False) E
theorem ed_one {a : Expr} {pos : Pos} {op} {wa : DE S} (ha : ED Wo X W a ta wa) : ED Wo X W (.BoolOp op [a] pos) ta wa := by
  obtain ⟨pa, ha⟩ := ha
  exact ⟨pe_one pa, ha⟩
theorem ed_and {a b : Expr} {rest : List Expr} {pos : Pos} {wa wb : DE S} (ha : ED Wo X W a ta wa) (hb : ED Wo X W (.BoolOp .And (b :: rest) pos) tb wb) : ED Wo X W (.BoolOp .And (a :: b :: rest) pos) (tAndV ta tb) (wAnd wa wb) := by
  obtain ⟨pa, ha⟩ := ha
  obtain ⟨pb, hb⟩ := hb
  refine ⟨pe_and pa pb, fun c σ H ρ s Qd Ed Q E hw hv he => ha c σ H ρ s _ Ed _ E hw (fun v H' d s' E' st' dv q => ?_) he⟩
  cases d with
  | bool k =>
    refine ⟨k, dv.of_bool, ?_⟩
    cases k with
    | true => rw [if_pos rfl]; exact hb c σ H' ρ s' _ Ed _ E' q (fun v H2 d s2 E2 st2 => hv v H2 d s2 E2 (st'.trans st2)) he
    | false => rw [if_neg Bool.false_ne_true]; exact hv _ H' _ s' E' st' (.bl _) q
  | _ => exact q.elim
theorem ed_or {a b : Expr} {rest : List Expr} {pos : Pos} {wa wb : DE S} (ha : ED Wo X W a ta wa) (hb : ED Wo X W (.BoolOp .Or (b :: rest) pos) tb wb) : ED Wo X W (.BoolOp .Or (a :: b :: rest) pos) (tOrV ta tb) (wOr wa wb) := by
  obtain ⟨pa, ha⟩ := ha
  obtain ⟨pb, hb⟩ := hb
  refine ⟨pe_or pa pb, fun c σ H ρ s Qd Ed Q E hw hv he => ha c σ H ρ s _ Ed _ E hw (fun v H' d s' E' st' dv q => ?_) he⟩
  cases d with
  | bool k =>
    refine ⟨k, dv.of_bool, ?_⟩
    cases k with
    | false => rw [if_neg Bool.false_ne_true]; exact hb c σ H' ρ s' _ Ed _ E' q (fun v H2 d s2 E2 st2 => hv v H2 d s2 E2 (st'.trans st2)) he
    | true => rw [if_pos rfl]; exact hv _ H' _ s' E' st' (.bl _) q
  | _ => exact q.elim
theorem ed_not {a : Expr} {pos : Pos} {wa : DE S} (ha : ED Wo X W a ta wa) : ED Wo X W (.UnaryOp .Not a pos) (tNotV ta) (wNot wa) := by
  obtain ⟨pa, ha⟩ := ha
  refine ⟨pe_not pa, fun c σ H ρ s Qd Ed Q E hw hv he => ha c σ H ρ s _ Ed _ E hw (fun v H' d s' E' st' dv q => ?_) he⟩
  cases d with
  | bool k => exact ⟨k, dv.of_bool, hv _ H' _ s' E' st' (.bl _) q⟩
  | _ => exact q.elim
def wTand {S : Type} (wa wb : DT S) : DT S := fun ρ s Q E => wa ρ s (fun b s1 => if b = true then wb ρ s1 Q E else Q false s1) E
def wTor {S : Type} (wa wb : DT S) : DT S := fun ρ s Q E => wa ρ s (fun b s1 => if b = true then Q true s1 else wb ρ s1 Q E) E
def wTnot {S : Type} (wa : DT S) : DT S := fun ρ s Q E => wa ρ s (fun b s1 => Q (!b) s1) E
theorem tw_and1 {a : Expr} {pos : Pos} {wa : DT S} (ha : TD Wo X W a tA wa) : TWD Wo X W (.BoolOp .And [a] pos) tA wa := by
  obtain ⟨pa, ha⟩ := ha
  exact ⟨pw_and1 pa, ha⟩
theorem tw_or1 {a : Expr} {pos : Pos} {wa : DT S} (ha : TD Wo X W a tA wa) : TWD Wo X W (.BoolOp .Or [a] pos) tA wa := by
  obtain ⟨pa, ha⟩ := ha
  exact ⟨pw_or1 pa, ha⟩
theorem tw_and {a b : Expr} {rest : List Expr} {pos : Pos} {wa wb : DT S} (ha : TD Wo X W a tA wa) (hb : TWD Wo X W (.BoolOp .And (b :: rest) pos) tB' wb) : TWD Wo X W (.BoolOp .And (a :: b :: rest) pos) (tAnd tA tB') (wTand wa wb) := by
  obtain ⟨pa, ha⟩ := ha
  obtain ⟨pb, hb⟩ := hb
  refine ⟨pw_and pa pb, fun c σ H ρ s Qd Ed Q E hw hv he => ha c σ H ρ s _ Ed _ E hw (fun k H' s' E' st' q => ?_) he⟩
  cases k with
  | true => rw [if_pos rfl] at q ⊢; exact hb c σ H' ρ s' _ Ed _ E' q (fun k H2 s2 E2 st2 => hv k H2 s2 E2 (st'.trans st2)) he
  | false => rw [if_neg Bool.false_ne_true] at q ⊢; exact hv _ H' s' E' st' q
theorem tw_or {a b : Expr} {rest : List Expr} {pos : Pos} {wa wb : DT S} (ha : TD Wo X W a tA wa) (hb : TWD Wo X W (.BoolOp .Or (b :: rest) pos) tB' wb) : TWD Wo X W (.BoolOp .Or (a :: b :: rest) pos) (tOr tA tB') (wTor wa wb) := by
  obtain ⟨pa, ha⟩ := ha
  obtain ⟨pb, hb⟩ := hb
  refine ⟨pw_or pa pb, fun c σ H ρ s Qd Ed Q E hw hv he => ha c σ H ρ s _ Ed _ E hw (fun k H' s' E' st' q => ?_) he⟩
  cases k with
  | true => rw [if_pos rfl] at q ⊢; exact hv _ H' s' E' st' q
  | false => rw [if_neg Bool.false_ne_true] at q ⊢; exact hb c σ H' ρ s' _ Ed _ E' q (fun k H2 s2 E2 st2 => hv k H2 s2 E2 (st'.trans st2)) he
theorem td_bool {e : Expr} {w : DT S} (h : TWD Wo X W e tA w) : TD Wo X W e tA w := by
  obtain ⟨p, h⟩ := h
  exact ⟨p.pt, h⟩
theorem td_not {a : Expr} {pos : Pos} {wa : DT S} (ha : TD Wo X W a tA wa) : TD Wo X W (.UnaryOp .Not a pos) (tNot tA) (wTnot wa) := by
  obtain ⟨pa, ha⟩ := ha
  exact ⟨pt_not pa, fun c σ H ρ s Qd Ed Q E hw hv he => ha c σ H ρ s _ Ed _ E hw (fun k H' s' E' st' q => hv _ H' s' E' st' q) he⟩
def wIf {S : Type} (wc : DT S) (wa wb : DE S) : DE S := fun ρ s Q E => wc ρ s (fun b s1 => if b = true then wa ρ s1 Q E else wb ρ s1 Q E) E
theorem ed_if {k a b : Expr} {pos : Pos} {wc : DT S} {wa wb : DE S} (hc : TD Wo X W k tC' wc) (ha : ED Wo X W a ta wa) (hb : ED Wo X W b tb wb) : ED Wo X W (.IfExp k a b pos) (tIf tC' ta tb) (wIf wc wa wb) := by
  obtain ⟨pc, hc⟩ := hc
  obtain ⟨pa, ha⟩ := ha
  obtain ⟨pb, hb⟩ := hb
  refine ⟨pe_ifExp pc pa pb, fun c σ H ρ s Qd Ed Q E hw hv he => hc c σ H ρ s _ Ed _ E hw (fun k H' s' E' st' q => ?_) he⟩
  cases k with
  | true => rw [if_pos rfl] at q ⊢; exact ha c σ H' ρ s' _ Ed _ E' q (fun v H2 d s2 E2 st2 => hv v H2 d s2 E2 (st'.trans st2)) he
  | false => rw [if_neg Bool.false_ne_true] at q ⊢; exact hb c σ H' ρ s' _ Ed _ E' q (fun v H2 d s2 E2 st2 => hv v H2 d s2 E2 (st'.trans st2)) he
end
end Dt

set_option Elab.async false
set_option linter.all false
set_option autoImplicit false
set_option maxRecDepth 100000
namespace Dt
open PySem PySem.Spec L2

/-! ### heaps -/
theorem limL_size : limL ≤ sizeLine := by rw [sizeLine_eq]; unfold limL; decide
theorem hd_new {H : Hp} {l : List Addr} {p : Addr} {o : HO} (ht : ∀ a ∈ l, H a ≠ none) (hp : H p = none) : hd (upd H p o) l p = some o := by
  rw [hd_out (fun h => ht p h hp), upd_same]
theorem Dv.newT {K : PySem.W.Frag} {H : Hp} {l : List Addr} {p : Addr} {vs : List V} {ds : List PyData} (ht : ∀ a ∈ l, H a ≠ none) (hp : H p = none) (h : DvAll K (hd H l) vs ds) (n : ds.length ≤ limL) : Dv K (hd (upd H p (.tup vs)) l) (.ref p) (.tuple ds) :=
  .tup (SqT.of (hd_new ht hp)) n (DvAll.same (hd_same l fun b u _ q => same_upd hp b u q) _ _ h)
theorem Dv.newL {K : PySem.W.Frag} {H : Hp} {l : List Addr} {p : Addr} {vs : List V} {ds : List PyData} (ht : ∀ a ∈ l, H a ≠ none) (hp : H p = none) (h : DvAll K (hd H l) vs ds) (n : ds.length ≤ limL) : Dv K (hd (upd H p (.lst vs)) l) (.ref p) (.list ds) :=
  .lst (hd_new ht hp) n (DvAll.same (hd_same l fun b u _ q => same_upd hp b u q) _ _ h)
theorem Dv.all {K : PySem.W.Frag} {H H' : Hp} {l : List Addr} {vs : List V} {ds : List PyData} (s : Same H H') (h : DvAll K (hd H l) vs ds) : DvAll K (hd H' l) vs ds := DvAll.same (hd_same l fun b u _ q => s b u q) _ _ h

/-! ### operators -/
abbrev Dop := PyData → PyData → (PyData → Prop) → Prop
theorem strOk_iff {x : Str} : PyData.strOk x = true ↔ ∀ c ∈ x.cps.toList, c < 1114112 := by
  unfold PyData.strOk
  rw [Array.all_eq_true_iff_forall_mem]
  constructor
  · intro h c hc
    simpa using h c (Array.mem_toList_iff.mp hc)
  · intro h c hc
    simpa using h c (Array.mem_toList_iff.mpr hc)
theorem strOk_lit (s : String) : PyData.strOk (Str.ofString s) = true := by
  rw [strOk_iff, Str.ofString_eq_toList]
  intro c hc
  simp only [List.mem_map] at hc
  obtain ⟨ch, _, rfl⟩ := hc
  have := ch.valid
  rcases this with h | ⟨_, h⟩
  · show ch.val.toNat < _
    have : ch.val.toNat < 0xd800 := h
    omega
  · exact h
theorem strOk_app {x y : Str} (hx : PyData.strOk x = true) (hy : PyData.strOk y = true) : PyData.strOk (x ++ y) = true := by
  rw [strOk_iff] at hx hy ⊢
  intro c hc
  have e : (x ++ y).cps.toList = x.cps.toList ++ y.cps.toList := by
    show (x.cps ++ y.cps).toList = _
    exact Array.toList_append
  rw [e] at hc
  rcases List.mem_append.mp hc with h | h
  · exact hx c h
  · exact hy c h
theorem strOk_join {sep : Str} (hs : PyData.strOk sep = true) : ∀ {ts : List Str}, (∀ t ∈ ts, PyData.strOk t = true) → PyData.strOk (Str.join sep ts) = true
  | [], _ => by show PyData.strOk Str.empty = true; decide +kernel
  | [x], h => h x (by simp)
  | x :: y :: r, h => by
    show PyData.strOk (x ++ sep ++ Str.join sep (y :: r)) = true
    exact strOk_app (strOk_app (h x (by simp)) hs) (strOk_join hs fun t ht => h t (List.mem_cons_of_mem _ ht))
def dAdd : Dop
  | .int i, .int j, Q => okI (i + j) ∧ Q (.int (i + j))
  | .str x, .str y, Q => x.length + y.length ≤ limL ∧ Q (.str (x ++ y))
  | .tuple xs, .tuple ys, Q => (xs ++ ys).length ≤ limL ∧ Q (.tuple (xs ++ ys))
  | .list xs, .list ys, Q => (xs ++ ys).length ≤ limL ∧ Q (.list (xs ++ ys))
  | _, _, _ => False
def rAddD (K : PySem.W.Frag) : R2 := fun x y H Q => (rI0 fun i j => .int (i + j)) x y H Q ∨ (∃ i j, x = .str i ∧ y = .str j ∧ i.length + j.length ≤ sizeLine ∧ Q (.str (i ++ j)) H) ∨ rCatA K x y H Q ∨ rCat x y H Q
theorem or_add {X : Cx} : OpR X (binaryOp .Add) (rAddD X.K) := op_add.or (op_add_str.or (op_catA.or op_cat))
theorem str_app_len (x y : Str) : (x ++ y).length = x.length + y.length := by
  show (x.cps ++ y.cps).size = _
  rw [Array.size_append]; rfl
theorem od_add {K : PySem.W.Frag} : OpD K (rAddD K) dAdd := by
  intro H l x y d e Qd Q ht hx hy hf hq
  cases d with
  | int i =>
    cases e with
    | int j =>
      cases hx; cases hy
      exact .inl ⟨i, j, rfl, rfl, hq _ H _ (Same.refl _) (.int hf.1) hf.2⟩
    | _ => exact hf.elim
  | str i =>
    cases e with
    | str j =>
      cases hx with
      | str o1 =>
        cases hy with
        | str o2 => exact .inr (.inl ⟨i, j, rfl, rfl, Nat.le_trans hf.1 limL_size, hq _ H _ (Same.refl _) (.str ⟨by rw [str_app_len]; exact hf.1, strOk_app o1.2 o2.2⟩) hf.2⟩)
    | _ => exact hf.elim
  | tuple xs =>
    cases e with
    | tuple ys =>
      cases hx with
      | tup h1 n1 a1 =>
        cases hy with
        | tup h2 n2 a2 =>
          rename_i a vs b ws
          refine .inr (.inr (.inl ⟨a, b, vs, ws, rfl, rfl, same_seqT (hd_to _ _) h1, same_seqT (hd_to _ _) h2, ?_, ?_⟩))
          · have := hf.1
            rw [List.length_append, ← a1.length, ← a2.length] at this
            exact Nat.le_trans this limL_size
          · have A := a1.append a2
            refine ⟨fun e => ?_, fun _ e => ?_, fun n1 n2 p hp => hq _ _ _ (same_upd hp) (Dv.newT ht hp A hf.1) hf.2⟩
            · subst e
              cases a1
              exact hq _ H _ (Same.refl _) (.tup h2 n2 a2) hf.2
            · subst e
              cases a2
              have := hf.2
              rw [List.append_nil] at this
              exact hq _ H _ (Same.refl _) (.tup h1 n1 a1) this
    | _ => exact hf.elim
  | list xs =>
    cases e with
    | list ys =>
      cases hx with
      | lst h1 n1 a1 =>
        cases hy with
        | lst h2 n2 a2 =>
          rename_i a vs b ws
          refine .inr (.inr (.inr ⟨a, b, vs, ws, rfl, rfl, hd_to _ _ _ _ h1, hd_to _ _ _ _ h2, ?_, fun p hp => hq _ _ _ (same_upd hp) (Dv.newL ht hp (a1.append a2) hf.1) hf.2⟩))
          have := hf.1
          rw [List.length_append, ← a1.length, ← a2.length] at this
          exact Nat.le_trans this limL_size
    | _ => exact hf.elim
  | _ => exact hf.elim
/-! ### ints -/
def dI2 (C : Int → Int → Prop) (g : Int → Int → Int) : Dop
  | .int i, .int j, Q => C i j ∧ okI (g i j) ∧ Q (.int (g i j))
  | _, _, _ => False
theorem od_int {K : PySem.W.Frag} {C : Int → Int → Prop} {g : Int → Int → Int} : OpD K (rI C fun i j => .int (g i j)) (dI2 C g) := by
  intro H l x y d e Qd Q ht hx hy hf hq
  cases d with
  | int i =>
    cases e with
    | int j =>
      cases hx; cases hy
      exact ⟨i, j, rfl, rfl, hf.1, hq _ H _ (Same.refl _) (.int hf.2.1) hf.2.2⟩
    | _ => exact hf.elim
  | _ => exact hf.elim
def dI0 (g : Int → Int → Int) : Dop
  | .int i, .int j, Q => okI (g i j) ∧ Q (.int (g i j))
  | _, _, _ => False
theorem od_int0 {K : PySem.W.Frag} {g : Int → Int → Int} : OpD K (rI0 fun i j => .int (g i j)) (dI0 g) := by
  intro H l x y d e Qd Q ht hx hy hf hq
  cases d with
  | int i =>
    cases e with
    | int j =>
      cases hx; cases hy
      exact ⟨i, j, rfl, rfl, hq _ H _ (Same.refl _) (.int hf.1) hf.2⟩
    | _ => exact hf.elim
  | _ => exact hf.elim
def dCm (g : Int → Int → Bool) : Dop
  | .int i, .int j, Q => Q (.bool (g i j))
  | _, _, _ => False
theorem od_cm {K : PySem.W.Frag} {g : Int → Int → Bool} : OpD K (rI0 fun i j => .bl (g i j)) (dCm g) := by
  intro H l x y d e Qd Q ht hx hy hf hq
  cases d with
  | int i =>
    cases e with
    | int j =>
      cases hx; cases hy
      exact ⟨i, j, rfl, rfl, hq _ H _ (Same.refl _) (.bl _) hf⟩
    | _ => exact hf.elim
  | _ => exact hf.elim
abbrev dLt := dCm fun i j => decide (i < j)
abbrev dLe := dCm fun i j => decide (i ≤ j)
abbrev dGt := dCm fun i j => decide (j < i)
abbrev dGe := dCm fun i j => decide (j ≤ i)
def dMul : Dop
  | .int i, .int j, Q => CMul i j ∧ okI (i * j) ∧ Q (.int (i * j))
  | .tuple xs, .int k, Q => xs ≠ [] ∧ 2 ≤ k ∧ k ≤ 1000 ∧ xs.length ≤ 1000 ∧ Q (.tuple (List.replicate k.toNat xs).flatten)
  | _, _, _ => False
def rMulD (K : PySem.W.Frag) : R2 := fun x y H Q => (rI CMul fun i j => .int (i * j)) x y H Q ∨ rRepT K x y H Q
theorem or_mul {X : Cx} : OpR X (binaryOp .Mult) (rMulD X.K) := op_mul.or op_repT
theorem DvAll.rep {K : PySem.W.Frag} {H : Hp} {vs : List V} {ds : List PyData} (h : DvAll K H vs ds) : ∀ k : Nat, DvAll K H (List.replicate k vs).flatten (List.replicate k ds).flatten
  | 0 => .nil
  | k + 1 => by
    simp only [List.replicate_succ, List.flatten_cons]
    exact h.append (DvAll.rep h k)
theorem od_mul {K : PySem.W.Frag} : OpD K (rMulD K) dMul := by
  intro H l x y d e Qd Q ht hx hy hf hq
  cases d with
  | int i =>
    cases e with
    | int j =>
      cases hx; cases hy
      exact .inl ⟨i, j, rfl, rfl, hf.1, hq _ H _ (Same.refl _) (.int hf.2.1) hf.2.2⟩
    | _ => exact hf.elim
  | tuple xs =>
    cases e with
    | int k =>
      cases hy
      cases hx with
      | tup h1 n1 a1 =>
        rename_i a vs
        obtain ⟨g1, g2, g3, g4, g5⟩ := hf
        refine .inr ⟨a, k, vs, rfl, rfl, same_seqT (hd_to _ _) h1, ?_, g2, g3, by rw [a1.length]; exact g4, fun p hp => hq _ _ _ (same_upd hp) (Dv.newT ht hp (a1.rep _) ?_) g5⟩
        · intro z; subst z; cases a1; exact g1 rfl
        · have e : ∀ n : Nat, ((List.replicate n xs).flatten).length = n * xs.length := fun n => by simp
          rw [e]
          have h1 : k.toNat ≤ 1000 := by omega
          exact Nat.le_trans (Nat.mul_le_mul h1 g4) (by unfold limL; decide)
    | _ => exact hf.elim
  | _ => exact hf.elim
/-! ### == -/
mutual
theorem Dv.lay {K : PySem.W.Frag} {H : Hp} : ∀ (d : PyData) (v : V), d.hasDict = false → Dv K H v d → PyData.canLay0 d = true
  | .none, _, _, h => by simp only [PyData.canLay0]
  | .bool b, _, _, h => by simp only [PyData.canLay0]
  | .int i, _, _, h => by simp only [PyData.canLay0]
  | .str x, _, _, h => by cases h with | str q => simp only [PyData.canLay0, q.2]
  | .list ds, _, z, h => by cases h with | lst a n b => simp only [PyData.canLay0, DvAll.lay ds _ (by simpa only [PyData.hasDict] using z) b]
  | .tuple ds, _, z, h => by cases h with | tup a n b => simp only [PyData.canLay0, DvAll.lay ds _ (by simpa only [PyData.hasDict] using z) b]
  | .dict _, _, z, h => by simp only [PyData.hasDict] at z; cases z
theorem DvAll.lay {K : PySem.W.Frag} {H : Hp} : ∀ (ds : List PyData) (vs : List V), PyData.hasDictAll ds = false → DvAll K H vs ds → PyData.canLayAll0 ds = true
  | [], _, _, h => by simp only [PyData.canLayAll0]
  | d :: ds, _, z, h => by cases h with | cons a b => simp only [PyData.canLayAll0, Dv.lay d _ (hd_cons z).1 a, DvAll.lay ds _ (hd_cons z).2 b, Bool.and_true]
end
/-- no deeper than what == looks through -/
def shp (d : PyData) : Bool := decide (PyData.depth d ≤ 64) && !d.hasDict
theorem shp_iff {d : PyData} : shp d = true ↔ PyData.depth d ≤ 64 ∧ d.hasDict = false := by
  unfold shp
  rw [Bool.and_eq_true, decide_eq_true_eq, Bool.not_eq_true']
theorem shp_nd {d : PyData} (h : shp d = true) : d.hasDict = false := (shp_iff.mp h).2
theorem Dv.shaped {K : PySem.W.Frag} {H : Hp} {d : PyData} {v : V} (h : Dv K H v d) (s : shp d = true) : SeqAt.shaped d = true := by
  show (PyData.canLay0 d && decide (PyData.depth d ≤ 64)) = true
  rw [Dv.lay d v (shp_nd s) h]
  exact decide_eq_true (shp_iff.mp s).1
def dEq : Dop := fun d e Q => shp d = true ∧ shp e = true ∧ Q (.bool (PyData.eqv d e))
def dNe : Dop := fun d e Q => shp d = true ∧ shp e = true ∧ Q (.bool (!PyData.eqv d e))
theorem od_eq {K : PySem.W.Frag} : OpD K (rEqD K) dEq := by
  intro H l x y d e Qd Q ht hx hy hf hq
  exact ⟨d, e, Dv.dp _ _ (shp_nd hf.1) (Dv.same (hd_to _ _) _ _ hx), Dv.dp _ _ (shp_nd hf.2.1) (Dv.same (hd_to _ _) _ _ hy), hx.shaped hf.1, hy.shaped hf.2.1, hq _ H _ (Same.refl _) (.bl _) hf.2.2⟩
theorem od_ne {K : PySem.W.Frag} : OpD K (rNeD K) dNe := by
  intro H l x y d e Qd Q ht hx hy hf hq
  exact ⟨d, e, Dv.dp _ _ (shp_nd hf.1) (Dv.same (hd_to _ _) _ _ hx), Dv.dp _ _ (shp_nd hf.2.1) (Dv.same (hd_to _ _) _ _ hy), hx.shaped hf.1, hy.shaped hf.2.1, hq _ H _ (Same.refl _) (.bl _) hf.2.2⟩
/-! ### is None -/
def dIsN : Dop
  | d, .none, Q => Q (.bool (match d with | .none => true | _ => false))
  | _, _, _ => False
def dNotN : Dop
  | d, .none, Q => Q (.bool (match d with | .none => false | _ => true))
  | _, _, _ => False
theorem od_isN {K : PySem.W.Frag} : OpD K (fun x y H Q => y = .non ∧ Q (.bl (decide (x = .non))) H) dIsN := by
  intro H l x y d e Qd Q ht hx hy hf hq
  cases e with
  | none =>
    cases hy
    refine ⟨rfl, ?_⟩
    cases d <;> cases hx <;> exact hq _ H _ (Same.refl _) (.bl _) hf
  | _ => exact hf.elim
theorem od_notN {K : PySem.W.Frag} : OpD K (fun x y H Q => y = .non ∧ Q (.bl (!decide (x = .non))) H) dNotN := by
  intro H l x y d e Qd Q ht hx hy hf hq
  cases e with
  | none =>
    cases hy
    refine ⟨rfl, ?_⟩
    cases d <;> cases hx <;> exact hq _ H _ (Same.refl _) (.bl _) hf
  | _ => exact hf.elim
/-! ### in -/
def flatD : PyData → Bool
  | .none | .bool _ | .int _ | .str _ => true
  | _ => false
theorem Dv.flat {K : PySem.W.Frag} {H : Hp} {v : V} {d : PyData} (h : Dv K H v d) (f : flatD d = true) : flatV v = true := by
  cases d <;> simp [flatD] at f <;> cases h <;> rfl
theorem Dv.eqV {K : PySem.W.Frag} {H : Hp} {v w : V} {d e : PyData} (h : Dv K H v d) (g : Dv K H w e) (f : flatD d = true) (f' : flatD e = true) : L2.eqV v w = PyData.eqv d e := by
  cases d <;> simp [flatD] at f <;> cases e <;> simp [flatD] at f' <;> cases h <;> cases g <;> simp [L2.eqV, PyData.eqv]
theorem DvAll.flat {K : PySem.W.Frag} {H : Hp} : ∀ {vs : List V} {ds : List PyData}, DvAll K H vs ds → ds.all flatD = true → vs.all flatV = true
  | _, [], h, _ => by cases h; rfl
  | _, d :: ds, h, f => by
    cases h with
    | cons a b =>
      simp only [List.all_cons, Bool.and_eq_true] at f ⊢
      exact ⟨a.flat f.1, DvAll.flat b f.2⟩
theorem DvAll.inV {K : PySem.W.Frag} {H : Hp} {w : V} {e : PyData} (g : Dv K H w e) (f' : flatD e = true) : ∀ {vs : List V} {ds : List PyData}, DvAll K H vs ds → ds.all flatD = true → L2.inV w vs = ds.any fun y => PyData.eqv y e
  | _, [], h, _ => by cases h; rfl
  | _, d :: ds, h, f => by
    cases h with
    | cons a b =>
      simp only [List.all_cons, Bool.and_eq_true] at f
      show (L2.eqV _ w || L2.inV w _) = (PyData.eqv d e || _)
      rw [a.eqV g f.1 f', DvAll.inV g f' b f.2]
def strIn (x y : Str) : Bool := !(Builtin.Str.occurrences y x 0 y.length 1).isEmpty
def dInG (g : Bool → Bool) : Dop
  | .str x, .str y, Q => Q (.bool (g (strIn x y)))
  | d, .tuple ys, Q => flatD d = true ∧ ys.all flatD = true ∧ Q (.bool (g (ys.any fun y => PyData.eqv y d)))
  | d, .list ys, Q => shp d = true ∧ shp (.list ys) = true ∧ Q (.bool (g (ys.any fun y => PyData.eqv y d)))
  | _, _, _ => False
abbrev dIn : Dop := dInG id
abbrev dNotIn : Dop := dInG not
def rInG (K : PySem.W.Frag) : R2 := fun x y H Q => (∃ i j, x = .str i ∧ y = .str j ∧ Q (.bl (!(Builtin.Str.occurrences j i 0 j.length 1).isEmpty)) H) ∨ rIn K false x y H Q ∨ rInD K x y H Q
def rNotInG (K : PySem.W.Frag) : R2 := fun x y H Q => (∃ i j, x = .str i ∧ y = .str j ∧ Q (.bl (!(!(Builtin.Str.occurrences j i 0 j.length 1).isEmpty))) H) ∨ rIn K true x y H Q ∨ rNotInD K x y H Q
theorem or_in {X : Cx} {k : Nat} (hr : Room k X.A) : OpR X (compareOp .In) (rInG X.K) := op_in_str.or (op_in_seq.or (op_inD (by have := hr.un; omega)))
theorem or_notIn {X : Cx} {k : Nat} (hr : Room k X.A) : OpR X (compareOp .NotIn) (rNotInG X.K) := op_notIn_str.or (op_notIn_seq.or (op_notInD (by have := hr.un; omega)))
theorem od_in {K : PySem.W.Frag} : OpD K (rInG K) dIn := by
  intro H l x y d e Qd Q ht hx hy hf hq
  have up := hd_to H l
  cases e with
  | str j =>
    cases d with
    | str i => cases hx; cases hy; exact .inl ⟨i, j, rfl, rfl, hq _ H _ (Same.refl _) (.bl _) hf⟩
    | _ => exact hf.elim
  | tuple ys =>
    have hf : flatD d = true ∧ ys.all flatD = true ∧ Qd (.bool (ys.any fun y => PyData.eqv y d)) := by cases d <;> exact hf
    cases hy with
    | tup h2 n2 a2 =>
      refine .inr (.inl ⟨_, _, rfl, .inr (same_seqT up h2), hx.flat hf.1, a2.flat hf.2.1, ?_⟩)
      rw [a2.inV hx hf.1 hf.2.1]
      exact hq _ H _ (Same.refl _) (.bl _) hf.2.2
  | list ys =>
    have hf : shp d = true ∧ shp (.list ys) = true ∧ Qd (.bool (ys.any fun y => PyData.eqv y d)) := by cases d <;> exact hf
    exact .inr (.inr ⟨d, ys, Dv.dp _ _ (shp_nd hf.1) (Dv.same up _ _ hx), Dv.dp _ _ (shp_nd hf.2.1) (Dv.same up _ _ hy), hx.shaped hf.1, hy.shaped hf.2.1, hq _ H _ (Same.refl _) (.bl _) hf.2.2⟩)
  | _ => cases d <;> exact hf.elim
theorem od_notIn {K : PySem.W.Frag} : OpD K (rNotInG K) dNotIn := by
  intro H l x y d e Qd Q ht hx hy hf hq
  have up := hd_to H l
  cases e with
  | str j =>
    cases d with
    | str i => cases hx; cases hy; exact .inl ⟨i, j, rfl, rfl, hq _ H _ (Same.refl _) (.bl _) hf⟩
    | _ => exact hf.elim
  | tuple ys =>
    have hf : flatD d = true ∧ ys.all flatD = true ∧ Qd (.bool (!ys.any fun y => PyData.eqv y d)) := by cases d <;> exact hf
    cases hy with
    | tup h2 n2 a2 =>
      refine .inr (.inl ⟨_, _, rfl, .inr (same_seqT up h2), hx.flat hf.1, a2.flat hf.2.1, ?_⟩)
      rw [a2.inV hx hf.1 hf.2.1]
      exact hq _ H _ (Same.refl _) (.bl _) hf.2.2
  | list ys =>
    have hf : shp d = true ∧ shp (.list ys) = true ∧ Qd (.bool (!ys.any fun y => PyData.eqv y d)) := by cases d <;> exact hf
    exact .inr (.inr ⟨d, ys, Dv.dp _ _ (shp_nd hf.1) (Dv.same up _ _ hx), Dv.dp _ _ (shp_nd hf.2.1) (Dv.same up _ _ hy), hx.shaped hf.1, hy.shaped hf.2.1, hq _ H _ (Same.refl _) (.bl _) hf.2.2⟩)
  | _ => cases d <;> exact hf.elim
/-! ### an item -/
def dIdx : Dop
  | .list xs, .int i, Q => ∃ z, atI xs i = some z ∧ Q z
  | .tuple xs, .int i, Q => ∃ z, atI xs i = some z ∧ Q z
  | .str x, .int i, Q => ∃ c, atI x.cps.toList i = some c ∧ Q (.str ⟨#[c]⟩)
  | _, _, _ => False
theorem DvAll.at {K : PySem.W.Frag} {H : Hp} {vs : List V} {ds : List PyData} {i : Int} {z : PyData} (h : DvAll K H vs ds) (e : atI ds i = some z) : ∃ v, atI vs i = some v ∧ Dv K H v z := by
  unfold atI at e ⊢
  rw [h.length]
  cases q : ixN ds.length i with
  | none => rw [q] at e; cases e
  | some j =>
    rw [q] at e
    exact h.get' e
theorem strOk_all {x : Str} (h : PyData.strOk x = true) : ∀ c ∈ x.cps.toList, c < 0x110000 := by
  unfold PyData.strOk at h
  rw [Array.all_eq_true] at h
  intro c hc
  obtain ⟨i, hi, e⟩ := List.getElem_of_mem hc
  have := h i (by simpa using hi)
  simp at this
  rw [← e]
  simpa using this
theorem strOk_of {x : Str} (h : ∀ c ∈ x.cps.toList, c < 0x110000) : PyData.strOk x = true := by
  unfold PyData.strOk
  rw [Array.all_eq_true]
  intro i hi
  have := h (x.cps[i]) (by simp)
  simpa using this
theorem okS_sign {x : Str} {c : Nat} (h : okS x) (hc : c ∈ x.cps.toList) : okS ⟨#[c]⟩ := ⟨by show 1 ≤ limL; unfold limL; decide, strOk_of fun d hd => by
  have : d = c := by simpa using hd
  subst this
  exact strOk_all h.2 _ hc⟩
theorem atI_mem {α : Type} {xs : List α} {i : Int} {z : α} (h : atI xs i = some z) : z ∈ xs := by
  obtain ⟨j, _, h2, _⟩ := atI_get h
  exact List.mem_of_getElem? h2
theorem od_idx {K : PySem.W.Frag} : OpD K (rIx K) dIdx := by
  intro H l x y d e Qd Q ht hx hy hf hq
  cases d with
  | list xs =>
    cases e with
    | int i =>
      obtain ⟨z, hz, q⟩ := hf
      cases hy
      cases hx with
      | lst h1 n1 a1 =>
        obtain ⟨v, hv, dv⟩ := a1.at hz
        exact .inl ⟨_, _, i, v, rfl, rfl, SqL.of (hd_to _ _ _ _ h1), hv, hq _ H _ (Same.refl _) dv q⟩
    | _ => exact hf.elim
  | tuple xs =>
    cases e with
    | int i =>
      obtain ⟨z, hz, q⟩ := hf
      cases hy
      cases hx with
      | tup h1 n1 a1 =>
        obtain ⟨v, hv, dv⟩ := a1.at hz
        exact .inr (.inl ⟨_, _, i, v, rfl, rfl, same_seqT (hd_to _ _) h1, hv, hq _ H _ (Same.refl _) dv q⟩)
    | _ => exact hf.elim
  | str x =>
    cases e with
    | int i =>
      obtain ⟨z, hz, q⟩ := hf
      cases hy
      cases hx with
      | str ok => exact .inr (.inr ⟨x, i, z, rfl, rfl, Nat.le_trans ok.1 limL_size, hz, hq _ H _ (Same.refl _) (.str (okS_sign ok (atI_mem hz))) q⟩)
    | _ => exact hf.elim
  | _ => exact hf.elim
section
variable {S : Type} {Wo : Wd S} {X : Cx} {W : WX} {ta tb tc : TE}
theorem ed_ix {a b : Expr} {pos : Pos} {wa wb : DE S} (ha : ED Wo X W a ta wa) (hb : ED Wo X W b tb wb) (hs : PlainIx b) : ED Wo X W (.Subscript a b pos) (tOp (rIx X.K) ta tb) (wOp dIdx wa wb) :=
  ⟨pe_ix ix_seq ha.pe hb.pe hs, fun c σ H ρ s Qd Ed Q E hw hv he => tOp_go od_idx ha.go hb.go E hw hv he⟩
end
end Dt

set_option Elab.async false
set_option linter.all false
set_option autoImplicit false
set_option maxRecDepth 100000
namespace Dt
open PySem PySem.Spec L2

/-! ### arguments -/
def wNil {S : Type} : DA S := fun _ s Q _ => Q [] s
def wCons {S : Type} (w : DE S) (r : DA S) : DA S := fun ρ s Q E => w ρ s (fun x s1 => r ρ s1 (fun as s2 => Q (.d x :: as) s2) E) E
def wRaw {S : Type} (i : Nat) (r : DA S) : DA S := fun ρ s Q E => match ρ[i]? with
  | some (.raw v) => r ρ s (fun as s2 => Q (.raw v :: as) s2) E
  | _ => False
def allK : List Ag → (List PyData → Prop) → Prop
  | [], k => k []
  | .d x :: r, k => allK r fun ds => k (x :: ds)
  | .raw _ :: _, _ => False
theorem AgOk.same {K : PySem.W.Frag} {H H' : Hp} (e : Same H H') : ∀ {vs : List V} {as : List Ag}, AgOk K H vs as → AgOk K H' vs as
  | [], [], _ => trivial
  | v :: r, .d x :: t, h => ⟨Dv.same e _ _ h.1, AgOk.same e h.2⟩
  | v :: r, .raw u :: t, h => ⟨h.1, AgOk.same e h.2⟩
  | [], .d _ :: _, h => h.elim
  | [], .raw _ :: _, h => h.elim
  | _ :: _, [], h => h.elim
theorem AgOk.all {K : PySem.W.Frag} {H : Hp} : ∀ {vs : List V} {as : List Ag} {k : List PyData → Prop}, AgOk K H vs as → allK as k → ∃ ds, DvAll K H vs ds ∧ k ds
  | [], [], k, _, h => ⟨[], .nil, h⟩
  | v :: r, .d x :: t, k, h, q => by
    obtain ⟨ds, h1, h2⟩ := AgOk.all (k := fun ds => k (x :: ds)) h.2 q
    exact ⟨_, .cons h.1 h1, h2⟩
  | v :: r, .raw u :: t, k, h, q => q.elim
  | [], .d _ :: _, _, h, _ => h.elim
  | [], .raw _ :: _, _, h, _ => h.elim
  | _ :: _, [], _, h, _ => h.elim
section
variable {S : Type} {Wo : Wd S} {X : Cx} {W : WX} {ta tb tc : TE} {tl : TA} {e : Expr} {es : List Expr} {pos : Pos}
theorem ad_nil : AD Wo X W [] tNil wNil := ⟨pa_nil, fun c σ H ρ s Qd Ed Q E hw hv he => hv [] H [] s E (Same.refl _) trivial hw⟩
theorem ad_cons {w : DE S} {r : DA S} (ha : ED Wo X W e ta w) (hr : AD Wo X W es tl r) (hs : starEach (e :: es) X.env = (false, eval e X.env) :: starEach es X.env := by rfl) : AD Wo X W (e :: es) (tCons ta tl) (wCons w r) :=
  ⟨pa_cons ha.pe hr.pe hs, fun c σ H ρ s Qd Ed Q E hw hv he => ha.go c σ H ρ s _ Ed _ E hw (fun v H1 d s1 E1 st1 d1 q1 => hr.go c σ H1 ρ s1 _ Ed _ E1 q1 (fun vs H2 as s2 E2 st2 a2 q2 =>
    hv (v :: vs) H2 (.d d :: as) s2 E2 (st1.trans st2) ⟨Dv.same st2 _ _ d1, a2⟩ q2) he) he⟩
theorem ad_raw (i : Nat) {x : Str} {p : Pos} {r : DA S} (hr : AD Wo X W es tl r) (hN : X.N[i]? = some x := by rfl) (hv : Vis X.env.scope x := by first | exact Or.inl rfl | exact Or.inr (Or.inl rfl) | exact Or.inr (Or.inr rfl))
    (hd : (x == ("__debug__" : Str)) = false := by decide) (hcd : (x == ("__classdict__" : Str)) = false := by decide) (hs : starEach (.Name x p :: es) X.env = (false, eval (.Name x p) X.env) :: starEach es X.env := by rfl) : AD Wo X W (.Name x p :: es) (tCons (tVar i) tl) (wRaw i r) :=
  ⟨pa_cons (pe_var hN hv hd hcd) hr.pe hs, fun c σ H ρ s Qd Ed Q E hw hv he => by
    unfold wRaw at hw
    split at hw
    · rename_i v hy
      obtain ⟨o, h1, h2⟩ := E.slot i _ hy
      have h2 : o = some v := h2
      subst h2
      exact ⟨v, h1, hr.go c σ H ρ s _ Ed _ E hw (fun vs H2 as s2 E2 st2 a2 q2 => hv (v :: vs) H2 (.raw v :: as) s2 E2 st2 ⟨rfl, a2⟩ q2) he⟩
    · exact hw.elim⟩
/-! ### tuples -/
def wTup {S : Type} (w : DA S) : DE S := fun ρ s Q E => w ρ s (fun as s1 => allK as fun ds => ds.length ≤ limL ∧ Q (.tuple ds) s1) E
theorem ed_tup {x1} {w : DA S} (h : AD Wo X W es tl w) : ED Wo X W (.Tuple es x1 pos) (tTup tl) (wTup w) :=
  ⟨pe_tup h.pe, fun c σ H ρ s Qd Ed Q E hw hv he => h.go c σ H ρ s _ Ed _ E hw (fun vs H1 as s1 E1 st1 a1 q1 => by
    obtain ⟨ds, h1, h2, h3⟩ := a1.all q1
    have n : vs.length ≤ sizeLine := by rw [h1.length]; exact Nat.le_trans h2 limL_size
    exact ⟨n, fun p hp => hv _ _ _ s1 (E1.grow (same_upd hp)) (st1.trans (stp_grow (same_upd hp))) (Dv.newT E1.tr hp h1 h2) h3⟩) he⟩
/-! ### new lists -/
abbrev Cn.hide {S : Type} {Wo : Wd S} (c : Cn Wo) (p : Addr) : Cn Wo := { c with R := p :: c.R }
theorem hs_hide_sub {c : Cn Wo} {p : Addr} {ρ : List Sl} : ∀ a ∈ c.hs ρ, a ∈ (c.hide p).hs ρ := fun a h => by
  rcases List.mem_append.mp h with h | h
  · rcases List.mem_append.mp h with h | h
    · exact List.mem_append_left _ (List.mem_append_left _ h)
    · exact List.mem_append_left _ (List.mem_append_right _ (List.mem_cons_of_mem _ h))
  · exact List.mem_append_right _ h
theorem hs_hide_mem {c : Cn Wo} {p : Addr} {ρ : List Sl} {a : Addr} : a ∈ (c.hide p).hs ρ ↔ a = p ∨ a ∈ c.hs ρ := by
  simp only [Cn.hs, List.mem_append, List.mem_cons]
  constructor
  · rintro ((h | h | h) | h)
    · exact .inr (.inl (.inl h))
    · exact .inl h
    · exact .inr (.inl (.inr h))
    · exact .inr (.inr h)
  · rintro (h | ((h | h) | h))
    · exact .inl (.inr (.inl h))
    · exact .inl (.inl h)
    · exact .inl (.inr (.inr h))
    · exact .inr h
theorem nodup_mid {α : Type} {a b c : List α} {p : α} : (a ++ (p :: b) ++ c).Nodup ↔ p ∉ a ++ b ++ c ∧ (a ++ b ++ c).Nodup := by
  have : (a ++ (p :: b) ++ c).Perm (p :: (a ++ b ++ c)) := by
    rw [List.append_assoc, List.append_assoc]
    exact List.perm_middle
  rw [this.nodup_iff, List.nodup_cons]
theorem EnvD.unhide {K : PySem.W.Frag} {c : Cn Wo} {p : Addr} {σ : St} {H : Hp} {ρ : List Sl} {s : S} (E : EnvD K (c.hide p) σ H ρ s) : EnvD K c σ H ρ s where
  len := E.len
  slot := fun i x h => by
    obtain ⟨o, h1, h2⟩ := E.slot i x h
    exact ⟨o, h1, h2.same (hd_sub hs_hide_sub) fun _ _ _ => rfl⟩
  nd := (nodup_mid.mp E.nd).2
  tr := fun a h => E.tr a (hs_hide_sub a h)
  g := E.g
  ext := E.ext
  new := E.new
theorem EnvD.hideNew {K : PySem.W.Frag} {c : Cn Wo} {p : Addr} {σ : St} {H : Hp} {ρ : List Sl} {s : S} {o : HO} (E : EnvD K c σ H ρ s) (hp : H p = none) : EnvD K (c.hide p) σ (upd H p o) ρ s ∧ Same (hd H (c.hs ρ)) (hd (upd H p o) ((c.hide p).hs ρ)) := by
  have E1 := E.grow (same_upd (o := o) hp)
  have np : p ∉ c.hs ρ := fun h => E.tr p h hp
  have sm : Same (hd H (c.hs ρ)) (hd (upd H p o) ((c.hide p).hs ρ)) := fun b u h => by
    obtain ⟨n, q⟩ := hd_some.mp h
    refine hd_some.mpr ⟨fun z => ?_, same_upd hp _ _ q⟩
    rcases hs_hide_mem.mp z with z | z
    · subst z; rw [hp] at q; cases q
    · exact n z
  refine ⟨⟨E.len, fun i x h => ?_, nodup_mid.mpr ⟨np, E.nd⟩, fun a h => ?_, E1.g, E1.ext, E.new⟩, sm⟩
  · obtain ⟨v, h1, h2⟩ := E.slot i x h
    refine ⟨v, h1, h2.same sm fun q z _ => ?_⟩
    exact upd_ne fun e => np (List.mem_append_right _ (e ▸ own_memG h z))
  · rcases hs_hide_mem.mp h with z | z
    · subst z; rw [upd_same]; exact fun q => nomatch q
    · exact E1.tr a z
abbrev DL (S : Type) := List Sl → S → (List PyData → S → Prop) → (Er → S → Prop) → Prop
/-- an expression that makes a new list -/
structure FD {S : Type} (Wo : Wd S) (X : Cx) (W : WX) (e : Expr) (t : TE) (w : DL S) : Prop where
  pe : PE X e t
  go : ∀ (c : Cn Wo) σ H ρ s Qd Ed Q, EnvD X.K c σ H ρ s → w ρ s Qd Ed →
    (∀ p vs H' ds s', EnvD X.K (c.hide p) σ H' ρ s' → Same (hd H (c.hs ρ)) (hd H' ((c.hide p).hs ρ)) → H' p = some (.lst vs) → DvAll X.K (hd H' ((c.hide p).hs ρ)) vs ds → ds.length ≤ limL → H p = none → Qd ds s' → Q (.ref p) H') →
    ErTo X.K c σ ρ Ed W → t σ H Q
def wL {S : Type} (w : DL S) : DE S := fun ρ s Q E => w ρ s (fun ds s1 => Q (.list ds) s1) E
theorem ed_new {w : DL S} (h : FD Wo X W e ta w) : ED Wo X W e ta (wL w) :=
  ⟨h.pe, fun c σ H ρ s Qd Ed Q E hw hv he => h.go c σ H ρ s _ Ed _ E hw (fun p vs H' ds s' E' sm hp a n _ q => by
    have np : p ∉ c.hs ρ := (nodup_mid.mp E'.nd).1
    have s2 : Same (hd H' ((c.hide p).hs ρ)) (hd H' (c.hs ρ)) := hd_sub hs_hide_sub
    exact hv _ H' _ s' E'.unhide (sm.trans s2) (.lst (by rw [hd_out np]; exact hp) n (DvAll.same s2 _ _ a)) q) he⟩
def wLst {S : Type} (w : DA S) : DL S := fun ρ s Q E => w ρ s (fun as s1 => allK as fun ds => ds.length ≤ limL ∧ Q ds s1) E
theorem fd_lst {w : DA S} (h : AD Wo X W es tl w) : FD Wo X W (.List es pos) (tLst tl) (wLst w) :=
  ⟨pe_lst h.pe, fun c σ H ρ s Qd Ed Q E hw hv he => h.go c σ H ρ s _ Ed _ E hw (fun vs H1 as s1 E1 st1 a1 q1 => by
    obtain ⟨ds, h1, h2, h3⟩ := a1.all q1
    have n : vs.length ≤ sizeLine := by rw [h1.length]; exact Nat.le_trans h2 limL_size
    refine ⟨n, fun p hp => ?_⟩
    obtain ⟨E2, sm⟩ := E1.hideNew (o := .lst vs) hp
    refine hv p vs _ ds s1 E2 (st1.trans sm) upd_same (DvAll.same sm _ _ h1) h2 ?_ h3
    cases q : H p with
    | none => rfl
    | some u =>
      by_cases z : p ∈ c.hs ρ
      · exact absurd hp (E1.tr p z)
      · have := hd_to _ _ _ _ (st1 p u (hd_some.mpr ⟨z, q⟩))
        rw [hp] at this; cases this) he⟩
/-! ### calls of built-ins -/
def CallD (K : PySem.W.Frag) (r : List V → Hp → VK → Prop) (f : List PyData → (PyData → Prop) → Prop) : Prop :=
  ∀ (H : Hp) (l : List Addr) (vs : List V) (ds : List PyData) (Qd : PyData → Prop) (Q : VK), (∀ a ∈ l, H a ≠ none) → DvAll K (hd H l) vs ds → f ds Qd →
    (∀ v H' z, Same H H' → Dv K (hd H' l) v z → Qd z → Q v H') → r vs H Q
def wCB {S : Type} (f : List PyData → (PyData → Prop) → Prop) (w : DA S) : DE S := fun ρ s Q E => w ρ s (fun as s1 => allK as fun ds => f ds fun z => Q z s1) E
section
variable {r : List V → Hp → VK → Prop} {f : List PyData → (PyData → Prop) → Prop} {id T : String} {x : Str} {p : Pos}
theorem tCB_go {w : DA S} (hf : CallD X.K r f) (h : AD Wo X W es tl w) {c : Cn Wo} {σ : St} {H : Hp} {ρ : List Sl} {s : S} {Qd : PyData → S → Prop} {Ed : Er → S → Prop} {Q : VK}
    (E : EnvD X.K c σ H ρ s) (hw : wCB f w ρ s Qd Ed) (hv : VTo X.K c σ H ρ Qd Q) (he : ErTo X.K c σ ρ Ed W) : tCB r tl σ H Q :=
  h.go c σ H ρ s _ Ed _ E hw (fun vs H1 as s1 E1 st1 a1 q1 => by
    obtain ⟨ds, h1, h2⟩ := a1.all q1
    exact hf H1 (c.hs ρ) vs ds _ _ E1.tr h1 h2 fun v H' z sm dz qz => hv v H' z s1 (E1.grow sm) (st1.trans (stp_grow sm)) dz qz) he
theorem ed_callB {w : DA S} (hc : CallR X (.builtin id) r) (hf : CallD X.K r f) (hg : Gl X x) (hm : X.mg x = none) (hv : bootBuiltins x = some (.builtin id)) (ha : AD Wo X W (e :: es) tl w) (hn : x ≠ "__name__" := by decide) (hdb : (x == ("__debug__" : Str)) = false := by decide)
    (he : starEach (e :: es) X.env = (false, eval e X.env) :: starEach es X.env := by rfl) (hpl : (backTo pos (starEach es X.env)).any (·.1) = false := by rfl) : ED Wo X W (.Call (.Name x p) (e :: es) [] pos) (tCB r tl) (wCB f w) :=
  ⟨pe_callB hc hg hm hv ha.pe hn hdb he hpl, fun c σ H ρ s Qd Ed Q E hw hv he => tCB_go hf ha E hw hv he⟩
theorem ed_callTy {w : DA S} (hc : CallR X (.type T) r) (hf : CallD X.K r f) (hg : Gl X x) (hm : X.mg x = none) (hv : bootBuiltins x = some (.type T)) (ha : AD Wo X W (e :: es) tl w) (hn : x ≠ "__name__" := by decide) (hdb : (x == ("__debug__" : Str)) = false := by decide)
    (he : starEach (e :: es) X.env = (false, eval e X.env) :: starEach es X.env := by rfl) (hpl : (backTo pos (starEach es X.env)).any (·.1) = false := by rfl) : ED Wo X W (.Call (.Name x p) (e :: es) [] pos) (tCB r tl) (wCB f w) :=
  ⟨pe_callTy hc hg hm hv ha.pe hn hdb he hpl, fun c σ H ρ s Qd Ed Q E hw hv he => tCB_go hf ha E hw hv he⟩
end
/-! isinstance(e, T), T a written built-in class -/
def tyD : PyData → String
  | .none => "NoneType" | .bool _ => "bool" | .int _ => "int" | .str _ => "str" | .list _ => "list" | .tuple _ => "tuple" | .dict _ => "dict"
theorem Dv.ty {K : PySem.W.Frag} {H : Hp} {v : V} {d : PyData} (h : Dv K H v d) : TyX K H v (.type (tyD d)) := by
  cases d with
  | none => cases h; exact .base .non
  | bool b => cases h; exact .base (.bl b)
  | int i => cases h; exact .base (.int i)
  | str x => cases h; exact .base (.str x)
  | list ds => cases h with | lst h n a => exact .base (.lst h)
  | tuple ds =>
    cases h with
    | tup h n a =>
      rcases h with (h | ⟨o, h⟩) | ⟨o, its, k, h1, h2, _⟩
      · exact .base (.tup h)
      · exact .fTuple h
      · exact .kTuple h1 h2
  | dict _ => cases h with | dct h n a => exact .base (.dK h)
def isT (T : String) (d : PyData) : Bool := (kitB (tyD d) T).getD false
def tIsi (T : String) (K : PySem.W.Frag) (ta : TE) : TE := tCB (rIsi K) (tCons ta (tCons (tC (.ty T)) tNil))
def wIsi {S : Type} (T : String) (w : DE S) : DE S := fun ρ s Q E => w ρ s (fun d s1 => (kitB (tyD d) T).isSome = true ∧ Q (.bool (isT T d)) s1) E
theorem ed_isi {a : Expr} {w : DE S} {x : Str} {T : String} {p q pos : Pos} (ha : ED Wo X W a ta w) (hm : X.mg "isinstance" = none) (hT : X.mg x = none) (hb : bootBuiltins x = some (.type T)) (hg : Gl X "isinstance" := by rfl) (hgT : Gl X x := by rfl) (hn : x ≠ "__name__" := by decide) (hdb : (x == ("__debug__" : Str)) = false := by decide)
    (he : starEach (a :: [.Name x q]) X.env = (false, eval a X.env) :: starEach [.Name x q] X.env := by rfl) (he2 : starEach (.Name x q :: []) X.env = (false, eval (.Name x q) X.env) :: starEach [] X.env := by rfl) (hpl : (backTo pos (starEach [.Name x q] X.env)).any (·.1) = false := by rfl) :
    ED Wo X W (.Call (.Name "isinstance" p) [a, .Name x q] [] pos) (tIsi T X.K ta) (wIsi T w) :=
  ⟨pe_callB call_isi hg hm (by decide +kernel) (pa_cons ha.pe (pa_cons (pe_bltn hgT hT hb rfl hn hdb) pa_nil he2) he) (by decide) (by decide) he hpl, fun c σ H ρ s Qd Ed Q E hw hv he =>
    ha.go c σ H ρ s _ Ed _ E hw (fun v H1 d s1 E1 st1 d1 q1 => by
      obtain ⟨h1, h2⟩ := q1
      obtain ⟨b, hb⟩ := Option.isSome_iff_exists.mp h1
      have e1 : isT T d = b := by unfold isT; rw [hb]; rfl
      refine ⟨v, .ty T, .type (tyD d), .type T, b, rfl, .ty T, (Dv.same (hd_to _ _) _ _ d1).ty, kit_ty hb, ?_⟩
      rw [e1] at h2
      exact hv _ H1 _ s1 E1 st1 (.bl b) h2) he⟩
end
end Dt

set_option Elab.async false
set_option linter.all false
set_option autoImplicit false
set_option maxRecDepth 100000
namespace Dt
open PySem PySem.Spec PyProof.Rows L2

/-! ### defs and calls where it is known that no repr is under way -/
structure FnG (P : Program) (w : World) (K : PySem.W.Frag) (mg : Str → Option Value) (base : Heap) (CX : CXT) (k : Nat) (f : Addr) (fd : FuncData) (ps : List Str) (sp : Sp) : Prop where
  len : ∀ vs H Q E, sp vs H Q E → vs.length = ps.length
  go : ∀ (A : Around), A.guards = some [] → ∀ (outer : List Env) (s : Shared) (H : Hp) (args : Args) (us : List Value) (vs : List V) (Q : VK) (E : XK),
    Room k A → Env0 P w K mg base A outer s H → BindsTo s fd args (ps.zip us) → Vals vs us → sp vs H Q E → codeAny (model P w) A (.call (.ref f) args) (CR CX outer P w H s Q E) s
section
variable {P : Program} {w : World} {K : PySem.W.Frag} {mg : Str → Option Value} {base : Heap} {CX : CXT} {k : Nat} {f : Addr} {fd : FuncData} {ps : List Str} {sp sp' : Sp}
theorem FnG.of (F : FnOk P w K mg base CX k f fd ps sp) : FnG P w K mg base CX k f fd ps sp := ⟨F.len, fun A _ outer s H args us vs Q E => F.run A outer s H args us vs Q E⟩
theorem FnG.mono {j : Nat} (F : FnG P w K mg base CX j f fd ps sp) (h : j ≤ k) : FnG P w K mg base CX k f fd ps sp := ⟨F.len, fun A g outer s H args us vs Q E hr => F.go A g outer s H args us vs Q E (hr.mono h)⟩
theorem FnG.imp (F : FnG P w K mg base CX k f fd ps sp) (h : ∀ vs H Q E, sp' vs H Q E → sp vs H Q E) : FnG P w K mg base CX k f fd ps sp' :=
  ⟨fun vs H Q E q => F.len vs H Q E (h _ _ _ _ q), fun A g outer s H args us vs Q E hr he hb hv hs => F.go A g outer s H args us vs Q E hr he hb hv (h _ _ _ _ hs)⟩
theorem guards_deeper {A : Around} {env : Env} (h : A.guards = some []) : (A.deeper env).guards = some [] := h
/-- a def by its body -/
theorem fnG {x qual : Str} {st : Stmt} {N : List Str} (F : Fun K x qual st f fd) (S : FnScope N ps (defScope st)) (len : ∀ vs H Q E, sp vs H Q E → vs.length = ps.length)
    (hbody : ∀ (cdv : Value) (A : Around) (outer : List Env) (s : Shared) (H : Hp) (vs : List V) (Q : VK) (E : XK), A.guards = some [] → Room k (A.deeper (envOfC qual (defScope st) s.heap.objs.size f cdv)) → sp vs H Q E →
      ∃ t, PSs (cxOf CX P w K mg base N qual (defScope st) f cdv A outer s H E) (defBody st) t ∧ t ⟨fun _ H' => Q .non H', Q, fun _ _ => False, fun _ _ => False⟩ (start N vs) H) : FnG P w K mg base CX (k + 1) f fd ps sp := by
  obtain ⟨oc, od, kV, doc, pm, an, cdv, ct, osl, rfl, lk, hcd⟩ := F.ex
  constructor
  · exact len
  intro A hgd outer s H args us vs Q E hr e0 hb r hsp
  have old : ∀ b o, base.get? b = some o → s.heap.get? b = some o := fun b o e => (e0.bs b o e).1
  have nl : s.heap.NoLimit := e0.mod.nolimit.keeps old
  have par : ∀ y ∈ ps.zip us, (defScope st).names.lookup y.1 = some .local ∨ ((defScope st).names.lookup y.1 = some .cell ∧ ((cellsFrom (s.heap.objs.size + 1) (defScope st).names []).lookup y.1).isSome = true) := by
    rintro ⟨n, v⟩ hy
    have hn := (List.of_mem_zip hy).1
    cases S.par n hn with
    | inl q => exact .inl q
    | inr q => exact .inr ⟨q, PySem.W.cellsFrom_some _ _ _ (.inl q)⟩
  apply codeAny_call_function hr.depth (e0.mod.kin.keeps old _ _ lk) rfl S.co S.gen rfl (PySem.W.codeRec_of (e0.mod.kin.keeps old) hcd)
  apply hb
  apply wpAny_newFunctionEnv_cells S.kind par
  intro env he s1 x1
  subst he
  refine ⟨nl.keeps x1.toInCall.keep, codeAny_func ?_⟩
  have hR := hr.deeper (envOfC qual (defScope st) s.heap.objs.size f cdv)
  obtain ⟨t, ht, hq⟩ := hbody cdv A outer s H vs Q E hgd hR hsp
  have J0 := inv_start (CX := CX) (E := E) S hr.hd e0 (len _ _ _ _ hsp) r x1
  refine wpAny_mono (ht.run [] s1 (start N vs) H _ J0 hq) ?_ ?_
  · intro fl s' hs
    cases fl with
    | next =>
      obtain ⟨σ', H', J, q⟩ := hs
      exact ⟨V.non, H', J.os, J.bare, J.base, J.hok, rfl, q⟩
    | ret u =>
      obtain ⟨v, σ', H', J, rv, q⟩ := hs
      exact ⟨v, H', J.os, J.bare, J.base, J.hok, rv, q⟩
    | brk =>
      obtain ⟨_, _, _, q⟩ := hs
      cases q
    | cont =>
      obtain ⟨_, _, _, q⟩ := hs
      cases q
  · intro e s' hs
    exact hs
end
section
variable {X : Cx} {CX : CXT} {k : Nat} {f : Addr} {fd : FuncData} {ps : List Str} {sp : Sp} {E : L2.St → XK} {x : Str} {p pos : Pos} {e : Expr} {es : List Expr} {t : TA}
theorem run_fnG {pins : List (Addr × Obj)} {σ : L2.St} {H : Hp} {s : Shared} {Q : VK} {us : List Value} {vs : List V} (F : FnG X.prog X.w X.K X.mg X.base CX k f fd ps sp) (hG : X.A.guards = some []) (hr : Room k X.A) (hb : Binds X.K fd ps [])
    (hx : PassesAt CX X σ (E σ)) (I : Inv X pins σ H s) (r : Vals vs us) (h : sp vs H Q (E σ)) : wpAny (model X.prog X.w) X.A (call (.ref f) us) (EP X pins σ Q) X.xe s := by
  have b := hb s us I.kIn (by rw [List.append_nil, ← r.length]; exact F.len _ _ _ _ h)
  rw [List.append_nil] at b
  apply wpAny_call
  refine codeAny_mono (F.go X.A hG X.stack s H ⟨us, []⟩ us vs Q (E σ) hr I.env0 b r h) ?_
  intro r s' hq
  cases r with
  | ok fl =>
    cases fl with
    | ret u => exact I.after hq
    | next => cases hq
    | brk => cases hq
    | cont => cases hq
  | error e => exact hx pins H s e s' I hq
theorem pe_callG (F : FnG X.prog X.w X.K X.mg X.base CX k f fd ps sp) (hG : X.A.guards = some []) (hr : Room k X.A) (hg : Gl X x) (hm : X.mg x = some (.ref f)) (hk : PySem.W.keepIn X.K (.ref f) = true) (hb : Binds X.K fd ps []) (hx : ∀ σ, PassesAt CX X σ (E σ))
    (ha : PA X (e :: es) t) (hdb : (x == ("__debug__" : Str)) = false := by decide) (he : starEach (e :: es) X.env = (false, eval e X.env) :: starEach es X.env := by rfl) (hpl : (backTo pos (starEach es X.env)).any (·.1) = false := by rfl) :
    PE X (.Call (.Name x p) (e :: es) [] pos) (tCallS sp E t) := by
  constructor
  intro pins s σ H Q I h
  apply wpAny_Call_Name_kw
  apply ld_glob I hg hm _ hdb
  apply PySem.W.callWith_K (h₀ := X.base) I.ok.mod.kin hk _ he hpl
  refine thn (ha.run pos pins s σ H _ I h) ?_
  rintro us s1 ⟨vs, H1, I1, r, q⟩
  exact ⟨I1.kIn, run_fnG F hG hr hb (hx σ) I1 r q⟩
end
end Dt

set_option Elab.async false
set_option linter.all false
set_option autoImplicit false
set_option maxRecDepth 100000
namespace Dt
open PySem PySem.Spec L2

/-! ### promises by data -/
/-- of a def without effects: n arguments -/
def spP (K : PySem.W.Frag) (n : Nat) (f : List PyData → (PyData → Prop) → (Er → Prop) → Prop) : Sp := fun vs H Q E =>
  vs.length = n ∧ ∃ (l : List Addr) (ds : List PyData) (Qd : PyData → Prop) (Ed : Er → Prop), l.Nodup ∧ (∀ a ∈ l, H a ≠ none) ∧ DvAll K (hd H l) vs ds ∧ f ds Qd Ed ∧
    (∀ v H' d, Same H H' → Dv K (hd H' l) v d → Qd d → Q v H') ∧ ∀ e cls dd H', Same H H' → ErIs K (hd H' l) H' e cls dd → Ed e → E cls dd H'
/-- of a def over the world W -/
def spW {S : Type} (K : PySem.W.Frag) (W : Wd S) (n : Nat) (f : List Ag → S → (PyData → S → Prop) → (Er → S → Prop) → Prop) : Sp := fun vs H Q E =>
  vs.length = n ∧ ∃ (R : List Addr) (as : List Ag) (s : S) (Qd : PyData → S → Prop) (Ed : Er → S → Prop), (W.wa ++ R).Nodup ∧ (∀ a ∈ W.wa ++ R, H a ≠ none) ∧ W.G s H ∧ AgOk K (hd H (W.wa ++ R)) vs as ∧ f as s Qd Ed ∧
    (∀ v H' d s', W.G s' H' → (∀ b o, H b = some o → b ∉ W.wa → H' b = some o) → Dv K (hd H' (W.wa ++ R)) v d → Qd d s' → Q v H') ∧
    ∀ e cls dd H' s', W.G s' H' → (∀ b o, H b = some o → b ∉ W.wa → H' b = some o) → ErIs K (hd H' (W.wa ++ R)) H' e cls dd → Ed e s' → E cls dd H'
def wCallP {S : Type} (f : List PyData → (PyData → Prop) → (Er → Prop) → Prop) (w : DA S) : DE S := fun ρ s Q E => w ρ s (fun as s1 => allK as fun ds => f ds (fun d => Q d s1) (fun e => E e s1)) E
def wCallW {S : Type} (f : List Ag → S → (PyData → S → Prop) → (Er → S → Prop) → Prop) (w : DA S) : DE S := fun ρ s Q E => w ρ s (fun as s1 => f as s1 Q E) E
/-- a world's step: what stands outside of it stays, so does what is seen -/
theorem EnvD.step {S : Type} {Wo : Wd S} {K : PySem.W.Frag} {c : Cn Wo} {σ : St} {H H' : Hp} {ρ : List Sl} {s s' : S} (E : EnvD K c σ H ρ s) (g : c.W.G s' H') (e : ∀ b o, H b = some o → b ∉ c.W.wa → H' b = some o) : EnvD K c σ H' ρ s' ∧ Stp c ρ ρ H H' := by
  have nw : ∀ b, b ∉ c.hs ρ → b ∉ c.W.wa := fun b h z => h (List.mem_append_left _ (List.mem_append_left _ z))
  have st : Stp c ρ ρ H H' := hd_same _ fun b o n q => e b o q (nw b n)
  have ow : ∀ p, p ∈ owns ρ → p ∉ c.W.wa := fun p h z => by
    have := List.nodup_append.mp E.nd
    exact this.2.2 p (List.mem_append_left _ z) p h rfl
  have oR : ∀ p, p ∈ c.R → p ∉ c.W.wa := fun p h z => by
    have := List.nodup_append.mp (List.nodup_append.mp E.nd).1
    exact this.2.2 p z p h rfl
  refine ⟨⟨E.len, fun i x h => ?_, E.nd, fun a h => ?_, g, fun b o h n => e b o (E.ext b o h n) n, E.new⟩, st⟩
  · obtain ⟨o, h1, h2⟩ := E.slot i x h
    refine ⟨o, h1, h2.same st fun p z n => ?_⟩
    cases r : H p with
    | none => exact absurd r n
    | some u => exact e _ _ r (ow p (own_memG h z))
  · rcases List.mem_append.mp h with h | h
    · rcases List.mem_append.mp h with h | h
      · exact c.W.tr s' H' g a h
      · cases q : H a with
        | none => exact absurd q (E.tr a (List.mem_append_left _ (List.mem_append_right _ h)))
        | some o => rw [e a o q (oR a h)]; exact fun z => nomatch z
    · cases q : H a with
      | none => exact absurd q (E.tr a (List.mem_append_right _ h))
      | some o => rw [e a o q (ow a h)]; exact fun z => nomatch z
theorem AgOk.length {K : PySem.W.Frag} {H : Hp} : ∀ {vs : List V} {as : List Ag}, AgOk K H vs as → vs.length = as.length
  | [], [], _ => rfl
  | v :: r, .d x :: t, h => by simp [AgOk.length h.2]
  | v :: r, .raw u :: t, h => by simp [AgOk.length h.2]
  | [], .d _ :: _, h => h.elim
  | [], .raw _ :: _, h => h.elim
  | _ :: _, [], h => h.elim
section
variable {S : Type} {Wo : Wd S} {X : Cx} {W : WX} {ta tb tc : TE} {tl : TA} {e : Expr} {es : List Expr} {pos p : Pos} {CX : CXT} {k n : Nat} {f : Addr} {fd : FuncData} {ps : List Str} {x : Str}
theorem ed_callP {F : List PyData → (PyData → Prop) → (Er → Prop) → Prop} {w : DA S} (hF : FnG X.prog X.w X.K X.mg X.base CX k f fd ps (spP X.K n F)) (hG : X.A.guards = some []) (hr : Room k X.A) (hm : X.mg x = some (.ref f)) (hk : PySem.W.keepIn X.K (.ref f) = true) (hb : Binds X.K fd ps [])
    (hx : ∀ σ, PassesAt CX X σ (WE W σ)) (ha : AD Wo X W (e :: es) tl w) (hn : ps.length = n := by rfl) (hg : Gl X x := by rfl) (hdb : (x == ("__debug__" : Str)) = false := by decide) (he : starEach (e :: es) X.env = (false, eval e X.env) :: starEach es X.env := by rfl)
    (hpl : (backTo pos (starEach es X.env)).any (·.1) = false := by rfl) : ED Wo X W (.Call (.Name x p) (e :: es) [] pos) (tCallS (spP X.K n F) (WE W) tl) (wCallP (fun ds Q E => ds.length = n ∧ F ds Q E) w) :=
  ⟨pe_callG hF hG hr hg hm hk hb hx ha.pe hdb he hpl, fun c σ H ρ s Qd Ed Q E hw hv he => ha.go c σ H ρ s _ Ed _ E hw (fun vs H1 as s1 E1 st1 a1 q1 => by
    obtain ⟨ds, h1, h2, h3⟩ := a1.all q1
    exact ⟨by rw [h1.length]; exact h2, c.hs ρ, ds, _, _, E1.nd, E1.tr, h1, h3, fun v H' d sm dv q => hv v H' d s1 (E1.grow sm) (st1.trans (stp_grow sm)) dv q,
      fun e cls dd H' sm ei q => he e cls dd H' s1 (E1.grow sm) ei q⟩) he⟩
/-- a promise over a family of worlds -/
def spI {ι S : Type} (K : PySem.W.Frag) (Wf : ι → Wd S) (n : Nat) (f : ι → List Ag → S → (PyData → S → Prop) → (Er → S → Prop) → Prop) : Sp := fun vs H Q E => ∃ i, spW K (Wf i) n (f i) vs H Q E
theorem ed_callI {ι : Type} {Wf : ι → Wd S} {i : ι} {F : ι → List Ag → S → (PyData → S → Prop) → (Er → S → Prop) → Prop} {w : DA S} (hF : FnG X.prog X.w X.K X.mg X.base CX k f fd ps (spI X.K Wf n F)) (hG : X.A.guards = some []) (hr : Room k X.A) (hm : X.mg x = some (.ref f)) (hk : PySem.W.keepIn X.K (.ref f) = true) (hb : Binds X.K fd ps [])
    (hx : ∀ σ, PassesAt CX X σ (WE W σ)) (ha : AD (Wf i) X W (e :: es) tl w) (hn : ps.length = n := by rfl) (hg : Gl X x := by rfl) (hdb : (x == ("__debug__" : Str)) = false := by decide) (he : starEach (e :: es) X.env = (false, eval e X.env) :: starEach es X.env := by rfl)
    (hpl : (backTo pos (starEach es X.env)).any (·.1) = false := by rfl) : ED (Wf i) X W (.Call (.Name x p) (e :: es) [] pos) (tCallS (spI X.K Wf n F) (WE W) tl) (wCallW (fun as s Q E => as.length = n ∧ F i as s Q E) w) :=
  ⟨pe_callG hF hG hr hg hm hk hb hx ha.pe hdb he hpl, fun c σ H ρ s Qd Ed Q E hw hv he => ha.go c σ H ρ s _ Ed _ E hw (fun vs H1 as s1 E1 st1 a1 q1 => by
    have e1 : c.W.wa ++ (c.R ++ owns ρ) = c.hs ρ := (List.append_assoc _ _ _).symm
    refine ⟨i, a1.length.trans q1.1, c.R ++ owns ρ, as, s1, Qd, Ed, ?_, ?_, E1.g, ?_, q1.2, fun v H' d s' g sm dv q => ?_, fun e cls dd H' s' g sm ei q => ?_⟩
    · rw [e1]; exact E1.nd
    · rw [e1]; exact E1.tr
    · rw [e1]; exact a1
    · rw [e1] at dv
      obtain ⟨E2, st2⟩ := E1.step g sm
      exact hv v H' d s' E2 (st1.trans st2) dv q
    · rw [e1] at ei
      exact he e cls dd H' s' (E1.step g sm).1 ei q) he⟩
end
end Dt

set_option Elab.async false
set_option linter.all false
set_option autoImplicit false
set_option maxRecDepth 100000
namespace Dt
open PySem PySem.Spec L2

/-! ### blocks and statements -/
section
variable {S : Type} {Wo : Wd S} {X : Cx} {W : WX} {ta tb tc : TE} {tA : TT} {t u : TS} {st : Stmt} {rest body orelse : List Stmt} {e : Expr} {pos : Pos}
theorem STo.from {K : PySem.W.Frag} {c : Cn Wo} {H H1 : Hp} {ρ ρ1 : List Sl} {Dd : DEnds S} {D : Ends} (h : STo K c H ρ Dd D W) (st : Stp c ρ ρ1 H H1) : STo K c H1 ρ1 Dd D W :=
  ⟨fun σ' H' ρ' s' E st' => h.nx σ' H' ρ' s' E (st.trans st'), fun σ' H' ρ' s' E st' => h.bk σ' H' ρ' s' E (st.trans st'), fun σ' H' ρ' s' E st' => h.ct σ' H' ρ' s' E (st.trans st'), h.rt, h.er⟩
theorem STo.err {K : PySem.W.Frag} {c : Cn Wo} {H : Hp} {ρ : List Sl} {Dd : DEnds S} {D : Ends} (h : STo K c H ρ Dd D W) (σ : St) (ρ' : List Sl) : ErTo K c σ ρ' (fun e s => Dd.er e ρ' s) W := fun e cls dd H' s' E ei q => h.er e cls dd σ H' ρ' s' E ei q
def wNext {S : Type} : DS S := fun ρ s D => D.nx ρ s
theorem sd_nil : SSD Wo X W [] tNext wNext := ⟨pss_nil, fun c σ H ρ s Dd D E hw h => h.nx σ H ρ s E (Same.refl _) hw⟩
def wSeq {S : Type} (w v : DS S) : DS S := fun ρ s D => w ρ s { D with nx := fun ρ' s' => v ρ' s' D }
theorem sd_cons {w v : DS S} (h : SD Wo X W st t w) (g : SSD Wo X W rest u v) : SSD Wo X W (st :: rest) (tSeq t u) (wSeq w v) :=
  ⟨pss_cons h.pe g.pe, fun c σ H ρ s Dd D E hw to => h.go c σ H ρ s _ { D with nx := u D } E hw
    ⟨fun σ' H' ρ' s' E' st' q => g.go c σ' H' ρ' s' Dd D E' q (to.from st'), to.bk, to.ct, to.rt, to.er⟩⟩
theorem sd_one {w : DS S} (h : SD Wo X W st t w) : SSD Wo X W [st] t w := ⟨pss_one h.pe, h.go⟩
theorem sd_pass : SD Wo X W (.Pass pos) tNext wNext := ⟨ps_pass, fun c σ H ρ s Dd D E hw h => h.nx σ H ρ s E (Same.refl _) hw⟩
def wBreak {S : Type} : DS S := fun ρ s D => D.bk ρ s
def wCont {S : Type} : DS S := fun ρ s D => D.ct ρ s
theorem sd_break : SD Wo X W (.Break pos) tBreak wBreak := ⟨ps_break, fun c σ H ρ s Dd D E hw h => h.bk σ H ρ s E (Same.refl _) hw⟩
theorem sd_continue : SD Wo X W (.Continue pos) tCont wCont := ⟨ps_continue, fun c σ H ρ s Dd D E hw h => h.ct σ H ρ s E (Same.refl _) hw⟩
def wRet {S : Type} (w : DE S) : DS S := fun ρ s D => w ρ s D.rt fun e s' => D.er e ρ s'
theorem sd_ret {w : DE S} (h : ED Wo X W e ta w) : SD Wo X W (.Return (some e) pos) (tRet ta) (wRet w) :=
  ⟨ps_ret h.pe, fun c σ H ρ s Dd D E hw to => h.go c σ H ρ s _ _ _ E hw (fun v H' d s' E' st' dv q => to.rt v H' d s' E'.g E'.ext (Dv.same (hd_sub fun a h => List.mem_append_left _ h) _ _ dv) q) (to.err σ ρ)⟩
def wRetN {S : Type} : DS S := fun ρ s D => D.rt .none s
theorem sd_retN : SD Wo X W (.Return none pos) tRetN wRetN := ⟨ps_retN, fun c σ H ρ s Dd D E hw to => to.rt .non H .none s E.g E.ext .non hw⟩
def wIfS {S : Type} (w : DT S) (a b : DS S) : DS S := fun ρ s D => w ρ s (fun k s1 => if k = true then a ρ s1 D else b ρ s1 D) fun e s' => D.er e ρ s'
theorem sd_if {k : Expr} {w : DT S} {a b : DS S} (hc : TD Wo X W k tA w) (ha : SSD Wo X W body t a) (hb : SSD Wo X W orelse u b) : SD Wo X W (.If k body orelse pos) (tIfS tA t u) (wIfS w a b) :=
  ⟨ps_if hc.pe ha.pe hb.pe, fun c σ H ρ s Dd D E hw to => hc.go c σ H ρ s _ _ _ E hw (fun k H' s' E' st' q => by
    cases k with
    | true => rw [if_pos rfl] at q ⊢; exact ha.go c σ H' ρ s' Dd D E' q (to.from st')
    | false => rw [if_neg Bool.false_ne_true] at q ⊢; exact hb.go c σ H' ρ s' Dd D E' q (to.from st')) (to.err σ ρ)⟩
def wExpr {S : Type} (w : DE S) : DS S := fun ρ s D => w ρ s (fun _ s1 => D.nx ρ s1) fun e s' => D.er e ρ s'
theorem sd_expr {w : DE S} (h : ED Wo X W e ta w) (hs : swapsWith e none pos.line X.env = pure false := by rfl) : SD Wo X W (.Expr e pos) (tDrop ta) (wExpr w) :=
  ⟨ps_expr h.pe hs, fun c σ H ρ s Dd D E hw to => h.go c σ H ρ s _ _ _ E hw (fun v H' d s' E' st' dv q => to.nx σ H' ρ s' E' st' q) (to.err σ ρ)⟩
/-! ### targets -/
def wipeD (ρ : List Sl) : List Nat → List Sl
  | [] => ρ
  | v :: vs => (wipeD ρ vs).set v .no
theorem wipe_set {σ : St} {i : Nat} {v : Option V} : ∀ {vs : List Nat}, i ∈ vs → wipe (σ.set i v) vs = wipe σ vs
  | a :: vs, h => by
    unfold wipe
    by_cases hi : i ∈ vs
    · rw [wipe_set hi]
    · have e : a = i := by rcases List.mem_cons.mp h with h | h; exact h.symm; exact absurd h hi
      subst e
      have q : ∀ (ws : List Nat), a ∉ ws → wipe (σ.set a v) ws = (wipe σ ws).set a v := by
        intro ws
        induction ws with
        | nil => intro _; rfl
        | cons b ws ih =>
          intro hb
          simp only [List.mem_cons, not_or] at hb
          unfold wipe
          rw [ih hb.2, List.set_comm _ _ hb.1]
      rw [q vs hi, List.set_set]
theorem wipeD_set {ρ : List Sl} {i : Nat} {v : Sl} : ∀ {vs : List Nat}, i ∈ vs → wipeD (ρ.set i v) vs = wipeD ρ vs
  | a :: vs, h => by
    unfold wipeD
    by_cases hi : i ∈ vs
    · rw [wipeD_set hi]
    · have e : a = i := by rcases List.mem_cons.mp h with h | h; exact h.symm; exact absurd h hi
      subst e
      have q : ∀ (ws : List Nat), a ∉ ws → wipeD (ρ.set a v) ws = (wipeD ρ ws).set a v := by
        intro ws
        induction ws with
        | nil => intro _; rfl
        | cons b ws ih =>
          intro hb
          simp only [List.mem_cons, not_or] at hb
          unfold wipeD
          rw [ih hb.2, List.set_comm _ _ hb.1]
      rw [q vs hi, List.set_set]
/-- what a target changes: the slots ns alone -/
def Only1 (ns : List Nat) (σ σ' : St) (ρ ρ' : List Sl) : Prop := ∀ vs : List Nat, (∀ i ∈ ns, i ∈ vs) → wipe σ' vs = wipe σ vs ∧ wipeD ρ' vs = wipeD ρ vs
abbrev DG := PyData → List Sl → (List Sl → Prop) → Prop
structure GD (Wo : Wd S) (X : Cx) (tg : Expr) (t : TG) (ns : List Nat) (g : DG) : Prop where
  pe : PG X tg t
  go : ∀ (c : Cn Wo) σ H ρ s v d Qd Q, EnvD X.K c σ H ρ s → Dv X.K (hd H (c.hs ρ)) v d → g d ρ Qd → (∀ σ' ρ', EnvD X.K c σ' H ρ' s → Stp c ρ ρ' H H → Only1 ns σ σ' ρ ρ' → Qd ρ' → Q σ' H) → t v σ H Q
def gN (i : Nat) : DG := fun d ρ Q => Q (ρ.set i (.d d))
theorem gd_name (i : Nat) {x : Str} (hN : X.N.Nodup) (hi : X.N[i]? = some x) (hx : Loc X.env.scope x) (hf : X.fn x = true ∨ X.env.scope.names.lookup x = some .local := by first | exact .inl rfl | exact .inr rfl | assumption) : GD Wo X (.Name x pos) (gName i) [i] (gN i) :=
  ⟨pg_name hN hi hx hf, fun c σ H ρ s v d Qd Q E dv hw hq => by
    obtain ⟨E1, st⟩ := E.setD (i := i) (x := .d d) (v := v) rfl ⟨v, rfl, dv⟩
    exact hq _ _ E1 st (fun vs h => ⟨wipe_set (h i (by simp)), wipeD_set (h i (by simp))⟩) hw⟩
structure GDs (Wo : Wd S) (X : Cx) (tgs : List Expr) (t : TGs) (ns : List Nat) (g : List PyData → List Sl → (List Sl → Prop) → Prop) : Prop where
  pe : PGs X tgs t
  go : ∀ (c : Cn Wo) σ H ρ s vs ds Qd Q, EnvD X.K c σ H ρ s → DvAll X.K (hd H (c.hs ρ)) vs ds → g ds ρ Qd → (∀ σ' ρ', EnvD X.K c σ' H ρ' s → Stp c ρ ρ' H H → Only1 ns σ σ' ρ ρ' → Qd ρ' → Q σ' H) → t vs σ H Q
def gNs : List PyData → List Sl → (List Sl → Prop) → Prop
  | [], ρ, Q => Q ρ
  | _ :: _, _, _ => False
def gCs (g : DG) (r : List PyData → List Sl → (List Sl → Prop) → Prop) : List PyData → List Sl → (List Sl → Prop) → Prop
  | d :: ds, ρ, Q => g d ρ fun ρ' => r ds ρ' Q
  | [], _, _ => False
theorem gds_nil : GDs Wo X [] gNil [] gNs := ⟨pgs_nil, fun c σ H ρ s vs ds Qd Q E dv hw hq => by
  cases ds with
  | nil => cases dv; exact ⟨rfl, hq σ ρ E (Same.refl _) (fun _ _ => ⟨rfl, rfl⟩) hw⟩
  | cons _ _ => exact hw.elim⟩
theorem gds_cons {tg : Expr} {tgs : List Expr} {t : TG} {ts : TGs} {n1 n2 : List Nat} {g : DG} {r : List PyData → List Sl → (List Sl → Prop) → Prop} (h1 : GD Wo X tg t n1 g) (h2 : GDs Wo X tgs ts n2 r) (hs : (assignEach (tg :: tgs) X.env).map (·.2) = assign tg X.env :: (assignEach tgs X.env).map (·.2) := by rfl) :
    GDs Wo X (tg :: tgs) (gCons t ts) (n1 ++ n2) (gCs g r) := ⟨pgs_cons h1.pe h2.pe hs, fun c σ H ρ s vs ds Qd Q E dv hw hq => by
  cases ds with
  | nil => exact hw.elim
  | cons d ds =>
    cases dv with
    | cons a b => exact ⟨_, _, rfl, h1.go c σ H ρ s _ d _ _ E a hw fun σ1 ρ1 E1 st1 o1 q1 => h2.go c σ1 H ρ1 s _ ds _ _ E1 (DvAll.same st1 _ _ b) q1 fun σ2 ρ2 E2 st2 o2 q2 => hq σ2 ρ2 E2 (st1.trans st2) (fun vs h => by
      obtain ⟨a1, b1⟩ := o1 vs fun i hi => h i (List.mem_append_left _ hi)
      obtain ⟨a2, b2⟩ := o2 vs fun i hi => h i (List.mem_append_right _ hi)
      exact ⟨a2.trans a1, b2.trans b1⟩) q2⟩⟩
def gT (n : Nat) (r : List PyData → List Sl → (List Sl → Prop) → Prop) : DG := fun d ρ Q => match d with
  | .tuple ds => ds.length = n ∧ r ds ρ Q
  | _ => False
theorem gd_tup {tgs : List Expr} {k n : Nat} {ts : TGs} {r : List PyData → List Sl → (List Sl → Prop) → Prop} {ns : List Nat} (hc : X.calm = true) (h : GDs Wo X tgs ts ns r) 
    (hn : (assignEach tgs X.env).length = n := by rfl) (hst : (assignEach tgs X.env).findIdx? (·.1) = none := by rfl) : GD Wo X (.Tuple tgs k pos) (gTup X.K n ts) ns (gT n r) :=
  ⟨pg_tup hc h.pe hn hst, fun c σ H ρ s v d Qd Q E dv hw hq => by
    cases d with
    | tuple ds =>
      cases dv with
      | tup h1 n1 a1 => exact ⟨_, _, rfl, same_seqT (hd_to _ _) h1, by rw [a1.length]; exact hw.1, h.go c σ H ρ s _ ds Qd Q E a1 hw.2 hq⟩
    | _ => exact hw.elim⟩
def wAsg {S : Type} (w : DE S) (g : DG) : DS S := fun ρ s D => w ρ s (fun d s1 => g d ρ fun ρ' => D.nx ρ' s1) fun e s' => D.er e ρ s'
theorem sd_asg {tg : Expr} {w : DE S} {t : TG} {ns : List Nat} {g : DG} (h : ED Wo X W e ta w) (hg : GD Wo X tg t ns g) (hs : swapsWithSole [tg] e pos.line X.env = pure false := by rfl) (hw : swappedStores [tg] e X.env = pure none := by rfl)
    (h1 : (assignEach [tg] X.env).map (·.2) = [assign tg X.env] := by rfl) : SD Wo X W (.Assign [tg] e pos) (tAsg ta t) (wAsg w g) :=
  ⟨ps_asg h.pe hg.pe hs hw h1, fun c σ H ρ s Dd D E hw to => h.go c σ H ρ s _ _ _ E hw (fun v H' d s' E' st' dv q => hg.go c σ H' ρ s' v d _ _ E' dv q fun σ2 ρ2 E2 st2 _ q2 => to.nx σ2 H' ρ2 s' E2 (st'.trans st2) q2) (to.err σ ρ)⟩
theorem sd_set (i : Nat) {x : Str} {pos' : Pos} {w : DE S} (hN : X.N.Nodup) (hi : X.N[i]? = some x) (hx : Loc X.env.scope x) (h : ED Wo X W e ta w) (hs : swapsWith e (some (.Name x pos')) pos.line X.env = pure false := by rfl) (hf : X.fn x = true ∨ X.env.scope.names.lookup x = some .local := by first | exact .inl rfl | exact .inr rfl | assumption) :
    SD Wo X W (.Assign [.Name x pos'] e pos) (tAsg ta (gName i)) (wAsg w (gN i)) :=
  ⟨ps_set hN hi hx h.pe hs hf, fun c σ H ρ s Dd D E hw to => h.go c σ H ρ s _ _ _ E hw (fun v H' d s' E' st' dv q => by
    obtain ⟨E1, st⟩ := E'.setD (i := i) (x := .d d) (v := v) rfl ⟨v, rfl, dv⟩
    exact to.nx _ H' _ s' E1 (st'.trans st) q) (to.err σ ρ)⟩
end
end Dt

set_option Elab.async false
set_option linter.all false
set_option autoImplicit false
set_option maxRecDepth 100000
namespace Dt
open PySem PySem.Spec L2

/-! ### what is walked -/
structure ItD (K : PySem.W.Frag) (l : List Addr) (H1 : Hp) (J : It) (ds : List PyData) : Prop where
  go : ∀ (l' : List Addr) (H : Hp) (i : Nat), Same (hd H1 l) (hd H l') → i < ds.length → J.go i H
  stop : ∀ (l' : List Addr) (H : Hp) (i : Nat), Same (hd H1 l) (hd H l') → ds.length ≤ i → J.stop i H
  yld : ∀ (l' : List Addr) (H : Hp) (i : Nat) (x : V) (H' : Hp) (d : PyData), Same (hd H1 l) (hd H l') → (∀ a ∈ l', H a ≠ none) → J.yld i H x H' → ds[i]? = some d → Same H H' ∧ Dv K (hd H' l') x d
structure ID {S : Type} (Wo : Wd S) (X : Cx) (W : WX) (tg iter : Expr) (wi : TI) (w : DL S) : Prop where
  pe : PI X tg iter wi
  go : ∀ (c : Cn Wo) σ H ρ s Qd Ed R, EnvD X.K c σ H ρ s → w ρ s Qd Ed →
    (∀ J H1 ds s1, EnvD X.K c σ H1 ρ s1 → Stp c ρ ρ H H1 → ItD X.K (c.hs ρ) H1 J ds → ds.length ≤ limL → Qd ds s1 → R J H1) → ErTo X.K c σ ρ Ed W → wi σ H R
/-! ### for -/
def wLoop {S : Type} (g : DG) (b : DS S) : List PyData → DS S
  | [], ρ, s, D => D.nx ρ s
  | d :: ds, ρ, s, D => g d ρ fun ρ1 => b ρ1 s { D with nx := fun ρ2 s2 => wLoop g b ds ρ2 s2 D, ct := fun ρ2 s2 => wLoop g b ds ρ2 s2 D, bk := D.nx }
def wFor {S : Type} (w : DL S) (g : DG) (b : DS S) : DS S := fun ρ s D => w ρ s (fun ds s1 => wLoop g b ds ρ s1 D) fun e s' => D.er e ρ s'
theorem drop_cons {α : Type} {l : List α} {i : Nat} (h : i < l.length) : l.drop i = l[i] :: l.drop (i + 1) := List.drop_eq_getElem_cons h
section
variable {S : Type} {Wo : Wd S} {X : Cx} {W : WX} {ta tb tc te : TE} {tt : TT} {t u : TS} {wi : TI} {tg iter e elt : Expr} {body : List Stmt} {pos : Pos}
theorem sd_for {w : DL S} {g : TG} {ns : List Nat} {gd : DG} {b : DS S} (hp : PassesOwn (model X.prog X.w) X.A X.env X.xe) (hc : X.calm = true) (hi : ID Wo X W tg iter wi w) (hg : GD Wo X tg g ns gd) (hb : SSD Wo X W body t b)
    (hs : ∀ x, foldedSetIterable iter X.env x = pure x := by intro _; rfl) : SD Wo X W (.For tg iter body [] pos) (tFor wi g t) (wFor w gd b) :=
  ⟨ps_for hp hc hi.pe hg.pe hb.pe hs, fun c σ H ρ s Dd D E hw to => hi.go c σ H ρ s _ _ _ E hw (fun J H1 ds s1 E1 st1 it n1 q1 => by
    refine ⟨fun i m σ' H' => m = ds.length - i ∧ i ≤ ds.length ∧ ∃ ρ' s', EnvD X.K c σ' H' ρ' s' ∧ Stp c ρ ρ' H1 H' ∧ wLoop gd b (ds.drop i) ρ' s' Dd, ⟨_, rfl, Nat.zero_le _, ρ, s1, E1, Same.refl _, q1⟩, ?_⟩
    rintro i m σ' H' ⟨rfl, hi', ρ', s', E', st', q'⟩
    by_cases hlt : i < ds.length
    · refine .inr ⟨it.go _ _ _ st' hlt, fun σ2 H2 => ∃ ρ2 s2, EnvD X.K c σ2 H2 ρ2 s2 ∧ Stp c ρ ρ2 H1 H2 ∧ wLoop gd b (ds.drop (i + 1)) ρ2 s2 Dd, fun σ2 H2 ⟨ρ2, s2, E2, st2, q2⟩ => ⟨ds.length - (i + 1), by omega, rfl, hlt, ρ2, s2, E2, st2, q2⟩, fun x H2 y => ?_⟩
      obtain ⟨sm, dv⟩ := it.yld _ _ _ _ _ ds[i] st' E'.tr y (List.getElem?_eq_getElem hlt)
      rw [drop_cons hlt] at q'
      refine hg.go c σ' H2 ρ' s' x ds[i] _ _ (E'.grow sm) dv q' fun σ3 ρ3 E3 st3 _ q3 => ?_
      have stA : Stp c ρ ρ3 H1 H2 := st'.trans ((stp_grow sm).trans st3)
      have stB : Stp c ρ ρ3 H H2 := st1.trans stA
      exact hb.go c σ3 H2 ρ3 s' _ _ E3 q3 ⟨fun σ4 H4 ρ4 s4 E4 st4 q4 => ⟨ρ4, s4, E4, stA.trans st4, q4⟩, fun σ4 H4 ρ4 s4 E4 st4 q4 => to.nx σ4 H4 ρ4 s4 E4 (stB.trans st4) q4, fun σ4 H4 ρ4 s4 E4 st4 q4 => ⟨ρ4, s4, E4, stA.trans st4, q4⟩, to.rt, to.er⟩
    · have e : i = ds.length := by omega
      subst e
      rw [List.drop_length] at q'
      exact .inl ⟨it.stop _ _ _ st' (Nat.le_refl _), to.nx σ' H' ρ' s' E' (st1.trans st') q'⟩) (to.err σ ρ)⟩
/-! ### comprehensions -/
def noOwn (ρ : List Sl) (vs : List Nat) : Bool := vs.all fun i => match ρ[i]? with
  | some (.own _ _) => false
  | some (.ownK _ _) => false
  | some (.ownT _ _) => false
  | _ => true
def noE {S : Type} : Er → S → Prop := fun _ _ => False
def wCompL {S : Type} (g : DG) (wt : DT S) (we : DE S) (vs : List Nat) (ρ : List Sl) : List PyData → S → (List PyData → S → Prop) → Prop
  | [], s, Q => Q [] s
  | d :: ds, s, Q => g d ρ fun ρ1 => noOwn ρ1 vs = true ∧ wt ρ1 s (fun b s1 => if b = true then we ρ1 s1 (fun y s2 => wCompL g wt we vs ρ ds s2 fun ys s3 => Q (y :: ys) s3) noE else wCompL g wt we vs ρ ds s1 Q) noE
def wComp {S : Type} (w : DL S) (g : DG) (wt : DT S) (we : DE S) (vs : List Nat) : DL S := fun ρ s Q E => noOwn ρ vs = true ∧ w ρ s (fun ds s1 => wCompL g wt we vs (wipeD ρ vs) ds s1 Q) E
theorem owns_set {ρ : List Sl} {i : Nat} {x : Sl} (h : ∀ y, ρ[i]? = some y → own1 y = []) (hx : own1 x = []) : owns (ρ.set i x) = owns ρ := by
  induction ρ generalizing i with
  | nil => rfl
  | cons y r ih =>
    cases i with
    | zero =>
      have := h y rfl
      show own1 x ++ owns r = own1 y ++ owns r
      rw [hx, this]
    | succ i =>
      show own1 y ++ owns (r.set i x) = own1 y ++ owns r
      rw [ih fun z hz => h z (by simpa using hz)]
theorem noOwn_at {ρ : List Sl} {vs : List Nat} (h : noOwn ρ vs = true) {i : Nat} (hi : i ∈ vs) : ∀ y, ρ[i]? = some y → own1 y = [] := fun y e => by
  have := List.all_eq_true.mp h i hi
  rw [e] at this
  cases y <;> first | rfl | cases this
theorem wipeD_at {ρ : List Sl} : ∀ {vs : List Nat} {i : Nat} {y : Sl}, (wipeD ρ vs)[i]? = some y → y = .no ∨ (ρ[i]? = some y ∧ i ∉ vs)
  | [], i, y, h => .inr ⟨h, by simp⟩
  | v :: vs, i, y, h => by
    unfold wipeD at h
    by_cases e : v = i
    · subst e
      by_cases hl : v < (wipeD ρ vs).length
      · rw [List.getElem?_set_self hl] at h; cases h; exact .inl rfl
      · rw [List.getElem?_eq_none (by simpa using hl)] at h; cases h
    · rw [List.getElem?_set_ne e] at h
      rcases wipeD_at h with z | ⟨z, n⟩
      · exact .inl z
      · exact .inr ⟨z, by simp only [List.mem_cons, not_or]; exact ⟨fun q => e q.symm, n⟩⟩
theorem wipeD_out {ρ : List Sl} {i : Nat} : ∀ {vs : List Nat}, i ∉ vs → (wipeD ρ vs)[i]? = ρ[i]?
  | [], _ => rfl
  | v :: vs, h => by
    simp only [List.mem_cons, not_or] at h
    unfold wipeD
    rw [List.getElem?_set_ne (fun e => h.1 e.symm)]
    exact wipeD_out h.2
theorem wipeD_len {ρ : List Sl} : ∀ {vs : List Nat}, (wipeD ρ vs).length = ρ.length
  | [] => rfl
  | v :: vs => by unfold wipeD; rw [List.length_set, wipeD_len]
theorem owns_wipe {ρ : List Sl} : ∀ {vs : List Nat}, noOwn ρ vs = true → owns (wipeD ρ vs) = owns ρ
  | [], _ => rfl
  | v :: vs, h => by
    have h2 : noOwn ρ vs = true := by
      unfold noOwn at h ⊢
      rw [List.all_cons, Bool.and_eq_true] at h
      exact h.2
    unfold wipeD
    rw [owns_set _ rfl, owns_wipe h2]
    intro y e
    rcases wipeD_at e with z | ⟨z, _⟩
    · subst z; rfl
    · exact noOwn_at h List.mem_cons_self y z
theorem EnvD.wipe {K : PySem.W.Frag} {c : Cn Wo} {σ : St} {H : Hp} {ρ : List Sl} {s : S} (E : EnvD K c σ H ρ s) {vs : List Nat} (h : noOwn ρ vs = true) : EnvD K c (wipe σ vs) H (wipeD ρ vs) s := by
  have eo := owns_wipe h
  have eh : c.hs (wipeD ρ vs) = c.hs ρ := by show _ ++ owns _ = _; rw [eo]
  refine ⟨by rw [wipe_length, wipeD_len, E.len], fun i x hx => ?_, by rw [eh]; exact E.nd, by rw [eh]; exact E.tr, E.g, E.ext, by rw [eo]; exact E.new⟩
  rcases wipeD_at hx with z | ⟨z, n⟩
  · subst z
    have hl : i < (L2.wipe σ vs).length := by
      rw [wipe_length, E.len, ← wipeD_len (vs := vs)]
      exact (List.getElem?_eq_some_iff.mp hx).1
    exact ⟨_, List.getElem?_eq_getElem hl, trivial⟩
  · obtain ⟨o, h1, h2⟩ := E.slot i x z
    refine ⟨o, by rw [wipe_out n]; exact h1, ?_⟩
    rw [eh]
    exact h2
/-- back from the block: the slots that it had forgotten stand as data -/
theorem EnvD.unwipe {K : PySem.W.Frag} {c : Cn Wo} {c' : Cn Wo} {σ : St} {H H' : Hp} {ρ : List Sl} {s s' : S} {vs : List Nat} (E : EnvD K c σ H ρ s) (h : noOwn ρ vs = true) (E' : EnvD K c' (L2.wipe σ vs) H' (wipeD ρ vs) s') (st : Same (hd H (c.hs ρ)) (hd H' (c'.hs ρ))) : EnvD K c' σ H' ρ s' := by
  have eo := owns_wipe h
  have eh : c'.hs (wipeD ρ vs) = c'.hs ρ := by show _ ++ owns _ = _; rw [eo]
  refine ⟨E.len, fun i x hx => ?_, by rw [← eh]; exact E'.nd, by rw [← eh]; exact E'.tr, E'.g, E'.ext, by rw [← eo]; exact E'.new⟩
  by_cases hv : i ∈ vs
  · obtain ⟨o, h1, h2⟩ := E.slot i x hx
    exact ⟨o, h1, h2.same st fun p z _ => absurd (noOwn_at h hv _ hx) (by rw [z]; simp)⟩
  · obtain ⟨o, h1, h2⟩ := E'.slot i x (by rw [wipeD_out hv]; exact hx)
    rw [wipe_out hv] at h1
    rw [eh] at h2
    exact ⟨o, h1, h2⟩
/-- what a body may change: a list, a dict -/
def Chg (o : HO) : Prop := (∃ xs, o = .lst xs) ∨ (∃ xs, o = .dK xs) ∨ ∃ xs, o = .dT xs
theorem upd_same_orG {H : Hp} {p b : Addr} {o o2 : HO} (hl : ∃ u, H p = some u ∧ Chg u) (q : H b = some o2) (n : ∀ xs, o2 ≠ .lst xs) (n2 : ∀ xs, o2 ≠ .dK xs) (n3 : ∀ xs, o2 ≠ .dT xs) : upd H p o b = some o2 := by
  obtain ⟨u, hl, hc⟩ := hl
  have : b ≠ p := fun e => by
    rw [e, hl] at q
    cases q
    rcases hc with ⟨xs, z⟩ | ⟨xs, z⟩ | ⟨xs, z⟩
    · exact n xs z
    · exact n2 xs z
    · exact n3 xs z
  rw [upd_ne this]; exact q
theorem upd_same_or {H : Hp} {p b : Addr} {o o2 : HO} (hl : ∃ xs, H p = some (.lst xs)) (q : H b = some o2) (n : ∀ xs, o2 ≠ .lst xs) (n2 : ∀ xs, o2 ≠ .dK xs) (n3 : ∀ xs, o2 ≠ .dT xs) : upd H p o b = some o2 :=
  upd_same_orG (let ⟨xs, e⟩ := hl; ⟨_, e, .inl ⟨xs, rfl⟩⟩) q n n2 n3
/-- a hidden list that is no variable's is changed -/
theorem EnvD.updHidG {K : PySem.W.Frag} {c : Cn Wo} {σ : St} {H : Hp} {ρ : List Sl} {s : S} {p : Addr} {o : HO} (E : EnvD K (c.hide p) σ H ρ s) (h0 : c.H0 p = none) (hl : ∃ u, H p = some u ∧ Chg u) : EnvD K (c.hide p) σ (upd H p o) ρ s ∧ hd (upd H p o) ((c.hide p).hs ρ) = hd H ((c.hide p).hs ρ) := by
  have hin : p ∈ (c.hide p).hs ρ := hs_hide_mem.mpr (.inl rfl)
  have np : p ∉ c.hs ρ := (nodup_mid.mp E.nd).1
  have eh : hd (upd H p o) ((c.hide p).hs ρ) = hd H ((c.hide p).hs ρ) := by
    funext b
    by_cases hb : b ∈ (c.hide p).hs ρ
    · rw [hd_in hb, hd_in hb]
    · rw [hd_out hb, hd_out hb, upd_ne (fun (e : b = p) => hb (by rw [e]; exact hin))]
  refine ⟨⟨E.len, fun i x hx => ?_, E.nd, fun a ha => ?_, Wo.st s H _ E.g (fun a ha => upd_ne fun e => np (List.mem_append_left _ (List.mem_append_left _ (e ▸ ha)))) (fun b o2 q n n2 n3 => upd_same_orG (o := o) hl q n n2 n3), fun b u hb n => ?_, E.new⟩, eh⟩
  · obtain ⟨v, h1, h2⟩ := E.slot i x hx
    refine ⟨v, h1, ?_⟩
    rw [eh]
    exact h2.same (Same.refl _) fun q z _ => upd_ne fun e => np (List.mem_append_right _ (e ▸ own_memG hx z))
  · by_cases e : a = p
    · subst e; rw [upd_same]; exact fun z => nomatch z
    · rw [upd_ne e]; exact E.tr a ha
  · have e : b ≠ p := fun e => by subst e; have hb : c.H0 b = some u := hb; rw [h0] at hb; cases hb
    rw [upd_ne e]
    exact E.ext b u hb n
theorem EnvD.updHid {K : PySem.W.Frag} {c : Cn Wo} {σ : St} {H : Hp} {ρ : List Sl} {s : S} {p : Addr} {o : HO} (E : EnvD K (c.hide p) σ H ρ s) (h0 : c.H0 p = none) (hl : ∃ xs, H p = some (.lst xs)) : EnvD K (c.hide p) σ (upd H p o) ρ s ∧ hd (upd H p o) ((c.hide p).hs ρ) = hd H ((c.hide p).hs ρ) :=
  E.updHidG h0 (let ⟨xs, e⟩ := hl; ⟨_, e, .inl ⟨xs, rfl⟩⟩)
/-- the context of a turn: what is hidden now must stay -/
def Cn.base (c : Cn Wo) (H : Hp) (ρ : List Sl) : Cn Wo := ⟨c.R, fun b => if b ∈ owns ρ then none else H b⟩
theorem EnvD.rebase {K : PySem.W.Frag} {c : Cn Wo} {σ : St} {H : Hp} {ρ : List Sl} {s : S} (E : EnvD K c σ H ρ s) : EnvD K (c.base H ρ) σ H ρ s :=
  ⟨E.len, E.slot, E.nd, E.tr, E.g, fun b o h _ => by
    have h : (if b ∈ owns ρ then none else H b) = some o := h
    split at h
    · cases h
    · exact h, fun p hp => if_pos hp⟩
theorem EnvD.unbase {K : PySem.W.Frag} {c : Cn Wo} {σ σ' : St} {H H' : Hp} {ρ : List Sl} {s s' : S} (E : EnvD K c σ H ρ s) (E' : EnvD K (c.base H ρ) σ' H' ρ s') : EnvD K c σ' H' ρ s' :=
  ⟨E'.len, E'.slot, E'.nd, E'.tr, E'.g, fun b o h n => E'.ext b o (by
    show (if b ∈ owns ρ then none else H b) = some o
    rw [if_neg fun z => by have := E.new b z; rw [h] at this; cases this]
    exact E.ext b o h n) n, E.new⟩
theorem Cn.hs_base (c : Cn Wo) (H : Hp) (ρ ρ' : List Sl) : (c.base H ρ).hs ρ' = c.hs ρ' := rfl
def WF : WX := fun _ _ _ _ => False
structure PTD (Wo : Wd S) (X : Cx) (W : WX) (ifs : List Expr) (t : TT) (w : DT S) : Prop where
  pe : PTs X ifs t
  go : ∀ (c : Cn Wo) σ H ρ s Qd Ed Q, EnvD X.K c σ H ρ s → w ρ s Qd Ed → BTo X.K c σ H ρ Qd Q → ErTo X.K c σ ρ Ed W → t σ H Q
def wYes {S : Type} : DT S := fun _ s Q _ => Q true s
theorem ptd_nil : PTD Wo X W [] tYes wYes := ⟨pts_nil, fun c σ H ρ s Qd Ed Q E hw hq he => hq true H s E (Same.refl _) hw⟩
theorem ptd_one {k : Expr} {w : DT S} (h : TD Wo X W k tt w) : PTD Wo X W [k] tt w := ⟨pts_one h.pe, h.go⟩
theorem tLc_go {w : DL S} {g : TG} {ns : List Nat} {gd : DG} {wt : DT S} {we : DE S} {vs : List Nat} {X' : Cx} (hK : X'.K = X.K) (hns : ∀ i ∈ ns, i ∈ vs)
    (hi : ID Wo X W tg iter wi w) (hg : ∀ (c : Cn Wo) σ H ρ s v d Qd Q, EnvD X.K c σ H ρ s → Dv X.K (hd H (c.hs ρ)) v d → gd d ρ Qd → (∀ σ' ρ', EnvD X.K c σ' H ρ' s → Stp c ρ ρ' H H → Only1 ns σ σ' ρ ρ' → Qd ρ' → Q σ' H) → g v σ H Q)
    (ht : ∀ (c : Cn Wo) σ H ρ s Qd Ed Q, EnvD X.K c σ H ρ s → wt ρ s Qd Ed → BTo X.K c σ H ρ Qd Q → ErTo X.K c σ ρ Ed WF → tt σ H Q)
    (he : ∀ (c : Cn Wo) σ H ρ s Qd Ed Q, EnvD X.K c σ H ρ s → we ρ s Qd Ed → VTo X.K c σ H ρ Qd Q → ErTo X.K c σ ρ Ed WF → te σ H Q)
    {c : Cn Wo} {σ : St} {H : Hp} {ρ : List Sl} {s : S} {Qd : List PyData → S → Prop} {Ed : Er → S → Prop} {Q : VK} (E : EnvD X.K c σ H ρ s) (hw : wComp w gd wt we vs ρ s Qd Ed)
    (hq : ∀ p ws H' ds s', EnvD X.K (c.hide p) σ H' ρ s' → Same (hd H (c.hs ρ)) (hd H' ((c.hide p).hs ρ)) → H' p = some (.lst ws) → DvAll X.K (hd H' ((c.hide p).hs ρ)) ws ds → ds.length ≤ limL → H p = none → Qd ds s' → Q (.ref p) H')
    (her : ErTo X.K c σ ρ Ed W) : tLc wi g tt te vs σ H Q := by
  obtain ⟨hno, hw⟩ := hw
  refine hi.go c σ H ρ s _ _ _ E hw (fun J H1 ds s1 E1 st1 it n1 q1 => fun D hD => ?_) her
  have hDH : H D = none := by
    cases q : H D with
    | none => rfl
    | some u =>
      by_cases z : D ∈ c.hs ρ
      · exact absurd hD (E1.tr D z)
      · have := hd_to _ _ _ _ (st1 D u (hd_some.mpr ⟨z, q⟩))
        rw [hD] at this; cases this
  have hD0 : c.H0 D = none := by
    cases q : c.H0 D with
    | none => rfl
    | some u =>
      by_cases z : D ∈ c.W.wa
      · exact absurd hD (E1.tr D (List.mem_append_left _ (List.mem_append_left _ z)))
      · have := E1.ext D u q z
        rw [hD] at this; cases this
  obtain ⟨E2, sm2⟩ := E1.hideNew (o := .lst []) hD
  have eo := owns_wipe hno
  have eh : (c.hide D).hs (wipeD ρ vs) = (c.hide D).hs ρ := by show _ ++ owns _ = _; rw [eo]
  have E3 := E2.wipe hno
  refine ⟨fun i m H' => m = ds.length - i ∧ i ≤ ds.length ∧ ∃ s' acc ws, EnvD X.K (c.hide D) (wipe σ vs) H' (wipeD ρ vs) s' ∧ Same (hd H1 (c.hs ρ)) (hd H' ((c.hide D).hs ρ)) ∧ H' D = some (.lst ws) ∧ DvAll X.K (hd H' ((c.hide D).hs ρ)) ws acc ∧ acc.length ≤ i ∧
    wCompL gd wt we vs (wipeD ρ vs) (ds.drop i) s' (fun ys s'' => Qd (acc ++ ys) s''), ⟨_, rfl, Nat.zero_le _, s1, [], [], E3, sm2, upd_same, .nil, Nat.zero_le _, q1⟩, ?_⟩
  rintro i m H' ⟨rfl, hi', s', acc, ws, E', sm', hDl, hacc, hlen, q'⟩
  by_cases hlt : i < ds.length
  · refine .inr ⟨it.go _ _ _ sm' hlt, fun H2 => ∃ s2 acc2 ws2, EnvD X.K (c.hide D) (wipe σ vs) H2 (wipeD ρ vs) s2 ∧ Same (hd H1 (c.hs ρ)) (hd H2 ((c.hide D).hs ρ)) ∧ H2 D = some (.lst ws2) ∧ DvAll X.K (hd H2 ((c.hide D).hs ρ)) ws2 acc2 ∧ acc2.length ≤ i + 1 ∧
      wCompL gd wt we vs (wipeD ρ vs) (ds.drop (i + 1)) s2 (fun ys s'' => Qd (acc2 ++ ys) s''), fun H2 ⟨s2, acc2, ws2, a, b, c', d, e, f⟩ => ⟨ds.length - (i + 1), by omega, rfl, hlt, s2, acc2, ws2, a, b, c', d, e, f⟩, fun x H2 y => ?_⟩
    have tr' : ∀ a ∈ (c.hide D).hs ρ, H' a ≠ none := fun a ha => E'.tr a (eh ▸ ha)
    obtain ⟨sm, dv⟩ := it.yld _ _ _ _ _ ds[i] sm' tr' y (List.getElem?_eq_getElem hlt)
    rw [drop_cons hlt] at q'
    have E4 := E'.grow sm
    have hDl2 : H2 D = some (.lst ws) := sm _ _ hDl
    have st4 : Same (hd H' ((c.hide D).hs ρ)) (hd H2 ((c.hide D).hs ρ)) := hd_same _ fun b u _ q => sm b u q
    refine hg (c.hide D) (wipe σ vs) H2 (wipeD ρ vs) s' x ds[i] _ _ E4 (by rw [eh]; exact dv) q' fun σ5 ρ5 E5 st5 o5 q5 => ?_
    obtain ⟨hno5, q5⟩ := q5
    obtain ⟨w5, d5⟩ := o5 vs hns
    have w5' : wipe σ5 vs = wipe σ vs := by
      rw [w5]
      have : ∀ us : List Nat, (∀ i ∈ us, i ∈ vs) → wipe (wipe σ us) vs = wipe σ vs := by
        intro us
        induction us with
        | nil => intro _; rfl
        | cons a us ih =>
          intro h
          show wipe ((wipe σ us).set a none) vs = _
          rw [wipe_set (h a List.mem_cons_self), ih fun i hi => h i (List.mem_cons_of_mem _ hi)]
      exact this vs fun _ h => h
    have d5' : wipeD ρ5 vs = wipeD ρ vs := by
      rw [d5]
      have : ∀ us : List Nat, (∀ i ∈ us, i ∈ vs) → wipeD (wipeD ρ us) vs = wipeD ρ vs := by
        intro us
        induction us with
        | nil => intro _; rfl
        | cons a us ih =>
          intro h
          show wipeD ((wipeD ρ us).set a .no) vs = _
          rw [wipeD_set (h a List.mem_cons_self), ih fun i hi => h i (List.mem_cons_of_mem _ hi)]
      exact this vs fun _ h => h
    refine ⟨by rw [w5'], ?_⟩
    have eo5 : owns ρ5 = owns ρ := by rw [← owns_wipe hno5, d5', eo]
    have eh5 : (c.hide D).hs ρ5 = (c.hide D).hs ρ := by show _ ++ owns _ = _; rw [eo5]
    have DR : D ∉ owns ρ5 := fun z => by
      rw [eo5] at z
      exact (nodup_mid.mp E2.nd).1 (List.mem_append_right _ z)
    have Dw : D ∉ Wo.wa := fun z => (nodup_mid.mp E2.nd).1 (List.mem_append_left _ (List.mem_append_left _ z))
    -- the heap behind an evaluation within the turn
    have back : ∀ {H6 : Hp} {s6 : S}, EnvD X.K ((c.hide D).base H2 ρ5) σ5 H6 ρ5 s6 → Stp ((c.hide D).base H2 ρ5) ρ5 ρ5 H2 H6 → H6 D = some (.lst ws) ∧ EnvD X.K (c.hide D) σ5 H6 ρ5 s6 ∧ Same (hd H2 ((c.hide D).hs ρ)) (hd H6 ((c.hide D).hs ρ)) := fun {H6 s6} E6 st6 => by
      refine ⟨E6.ext D _ ?_ Dw, E5.unbase E6, ?_⟩
      · show (if D ∈ owns ρ5 then none else H2 D) = some (.lst ws)
        rw [if_neg DR]; exact hDl2
      · have := st6
        unfold Stp at this
        rw [Cn.hs_base, eh5] at this
        exact this
    refine ht ((c.hide D).base H2 ρ5) σ5 H2 ρ5 s' _ _ _ E5.rebase q5 (fun b H6 s6 E6 st6 q6 => ?_) fun _ _ _ _ _ _ _ z => z.elim
    cases b with
    | true =>
      rw [if_pos rfl] at q6 ⊢
      refine he ((c.hide D).base H2 ρ5) σ5 H6 ρ5 s6 _ _ _ E6 q6 (fun v H7 d7 s7 E7 st7 dv7 q7 => ?_) fun _ _ _ _ _ _ _ z => z.elim
      obtain ⟨hD7, E7', sm7⟩ := back E7 (st6.trans st7)
      have n7 : acc.length < sizeLine := Nat.lt_of_le_of_lt hlen (Nat.lt_of_lt_of_le hlt (Nat.le_trans n1 limL_size))
      have dv7 : Dv X.K (hd H7 ((c.hide D).hs ρ)) v d7 := by
        rw [Cn.hs_base, eh5] at dv7
        exact dv7
      obtain ⟨E8, e8⟩ := E7'.updHid (o := .lst (ws ++ [v])) hD0 ⟨_, hD7⟩
      rw [eh5] at e8
      have E9 := E8.wipe hno5
      rw [w5', d5'] at E9
      refine ⟨ws, hD7, by rw [hacc.length]; exact n7, s7, acc ++ [d7], ws ++ [v], E9, ?_, upd_same, ?_, by rw [List.length_append, List.length_singleton]; omega, ?_⟩
      · rw [e8]; exact sm'.trans (st4.trans sm7)
      · rw [e8]; exact (DvAll.same (st4.trans sm7) _ _ hacc).append (.cons dv7 .nil)
      · have e : (fun (ys : List PyData) (s'' : S) => Qd ((acc ++ [d7]) ++ ys) s'') = fun ys s'' => Qd (acc ++ (d7 :: ys)) s'' := by
          funext ys s''
          rw [List.append_assoc]; rfl
        rw [e]
        exact q7
    | false =>
      rw [if_neg Bool.false_ne_true] at q6 ⊢
      obtain ⟨hD7, E7', sm7⟩ := back E6 st6
      have E9 := E7'.wipe hno5
      rw [w5', d5'] at E9
      exact ⟨s6, acc, ws, E9, sm'.trans (st4.trans sm7), hD7, DvAll.same (st4.trans sm7) _ _ hacc, Nat.le_succ_of_le hlen, q6⟩
  · have e : i = ds.length := by omega
    subst e
    rw [List.drop_length] at q'
    have q' : Qd (acc ++ []) s' := q'
    rw [List.append_nil] at q'
    refine .inl ⟨it.stop _ _ _ sm' (Nat.le_refl _), hq D ws H' acc s' (E1.unwipe hno E' sm') (st1.trans sm') hDl hacc (Nat.le_trans hlen n1) hDH q'⟩
/-- [elt for tg in iter if ..] -/
theorem fd_lc {ifs : List Expr} {scope : Scope} {own : List (Str × Nat)} {w : DL S} {g : TG} {ns : List Nat} {gd : DG} {wt : DT S} {we : DE S} (hc : X.calm = true) (hN : X.N.Nodup) (hi : ID Wo X W tg iter wi w) (ok : BlkOk X.N X.env.scope scope own)
    (hg : ∀ (s : Shared) (H : Hp) (C : Addr) (cl : List (Str × Addr)) (fp : List Addr), GD Wo (X.blk s H scope (compEnvC scope cl C X.env) fp) tg g ns gd)
    (ht : ∀ (s : Shared) (H : Hp) (C : Addr) (cl : List (Str × Addr)) (fp : List Addr), PTD Wo (X.blk s H scope (compEnvC scope cl C X.env) fp) WF ifs tt wt)
    (he : ∀ (s : Shared) (H : Hp) (C : Addr) (cl : List (Str × Addr)) (fp : List Addr), ED Wo (X.blk s H scope (compEnvC scope cl C X.env) fp) WF elt te we) (hns : ∀ i ∈ ns, i ∈ own.map (·.2)) (hs : ∀ x, foldedSetIterable iter X.env x = pure x := by intro _; rfl) :
    FD Wo X W (.ListComp elt [⟨tg, iter, ifs, 0⟩] scope pos) (tLc wi g tt te (own.map (·.2))) (wComp w gd wt we (own.map (·.2))) :=
  ⟨pe_lc hc hN hi.pe ok (fun s H C cl fp => (hg s H C cl fp).pe) (fun s H C cl fp => (ht s H C cl fp).pe) (fun s H C cl fp => (he s H C cl fp).pe) hs, fun c σ H ρ s Qd Ed Q E hw hq her =>
    tLc_go (X' := X) rfl hns hi (hg X.s_0 (fun _ => none) 0 [] []).go (ht X.s_0 (fun _ => none) 0 [] []).go (he X.s_0 (fun _ => none) 0 [] []).go E hw hq her⟩
end
end Dt

set_option Elab.async false
set_option linter.all false
set_option autoImplicit false
set_option maxRecDepth 100000
namespace Dt
open PySem PySem.Spec L2

/-! ### a list, a tuple, a text, walked -/
def iSeq (K : PySem.W.Frag) (tl : TE) : TI := fun σ H R => tl σ H fun x H1 =>
  (∃ a, x = .ref a ∧ (∃ xs, SqL K H1 a xs) ∧ R (Itl K a) H1) ∨ (∃ a, x = .ref a ∧ (∃ xs, SqT K H1 a xs) ∧ R (Itt K a) H1) ∨ ∃ z, x = .str z ∧ R (Its z) H1
section
variable {X : Cx} {tg l : Expr} {tl : TE}
theorem pi_seq (hl : PE X l tl) : PI X tg l (iSeq X.K tl) := by
  constructor
  intro pins s σ H R I h
  apply thn (hl.run pins s σ H _ I h)
  rintro v s1 ⟨x, H1, I1, r1, q1⟩
  have new : ∀ (o : Obj), ∀ b ∈ [s1.heap.objs.size], FpOk X pins H1 b := by
    intro o b hb
    obtain rfl : b = s1.heap.objs.size := by simpa using hb
    exact I1.fpOk (Nat.le_refl _) (I1.hok.fresh (Nat.le_refl _))
  rcases q1 with ⟨a, rfl, ⟨xs, hq⟩, q⟩ | ⟨a, rfl, ⟨xs, hq⟩, q⟩ | ⟨z, rfl, q⟩
  · cases r1
    obtain ⟨its, rv, p, hz⟩ := I1.list hq
    apply wpAny_pyIter_list p.isList
    exact ⟨_, [s1.heap.objs.size], _, _, H1, rfl, I1.kept (t' := s1.toks) (fun b o e => Heap.get?_push_of_some _ e), turn_list a _, ⟨_, Heap.get?_push_size _ rfl, rfl, rfl⟩, new { cls := .none, data := .cell none }, q⟩
  · cases r1
    obtain ⟨its, rv, p, hz⟩ := I1.tuple hq
    apply wpAny_pyIter_tuple (show s1.heap.IsTuple a its.toArray from p)
    exact ⟨_, [s1.heap.objs.size], _, _, H1, rfl, I1.kept (t' := s1.toks) (fun b o e => Heap.get?_push_of_some _ e), turn_tuple a _, ⟨_, Heap.get?_push_size _ rfl, rfl, rfl⟩, new { cls := .none, data := .cell none }, q⟩
  · obtain ⟨t, rfl⟩ := r1
    by_cases ha : z.cps.all (· < 128) = true
    · apply wpAny_pyIter_ascii ha
      apply pi_one (tk := s1.toks) I1 _ (turn_str _ z t "str_ascii_iterator" (.inl rfl)) _ q
      exact ⟨_, Heap.get?_push_size _ rfl, rfl, rfl⟩
    · apply wpAny_pyIter_wide (by simpa using ha)
      apply pi_one (tk := s1.toks) I1 _ (turn_str _ z t "str_iterator" (.inr rfl)) _ q
      exact ⟨_, Heap.get?_push_size _ rfl, rfl, rfl⟩
end
def signs (x : Str) : List PyData := x.cps.toList.map fun c => .str ⟨#[c]⟩
def seqOf : PyData → (List PyData → Prop) → Prop
  | .list xs, Q => Q xs
  | .tuple xs, Q => Q xs
  | .str x, Q => Q (signs x)
  | _, _ => False
def wSeqI {S : Type} (w : DE S) : DL S := fun ρ s Q E => w ρ s (fun d s1 => seqOf d fun ds => Q ds s1) E
theorem itd_list {K : PySem.W.Frag} {l : List Addr} {H1 : Hp} {a : Addr} {vs : List V} {ds : List PyData} (h : hd H1 l a = some (.lst vs)) (dv : DvAll K (hd H1 l) vs ds) : ItD K l H1 (Itl K a) ds where
  go := fun l' H i st hi => by
    obtain ⟨x, hx, _⟩ := dv.get' (List.getElem?_eq_getElem hi)
    exact ⟨vs, x, SqL.of (hd_to _ _ _ _ (st _ _ h)), hx⟩
  stop := fun l' H i st hi => ⟨vs, SqL.of (hd_to _ _ _ _ (st _ _ h)), by rw [dv.length]; exact hi⟩
  yld := fun l' H i x H' d st tr y hd' => by
    obtain ⟨rfl, y⟩ := y
    have hx := y vs (SqL.of (hd_to _ _ _ _ (st _ _ h)))
    obtain ⟨d2, h2, dv2⟩ := dv.get hx
    rw [hd'] at h2; cases h2
    exact ⟨Same.refl _, Dv.same st _ _ dv2⟩
theorem itd_tup {K : PySem.W.Frag} {l : List Addr} {H1 : Hp} {a : Addr} {vs : List V} {ds : List PyData} (h : SqT K (hd H1 l) a vs) (dv : DvAll K (hd H1 l) vs ds) : ItD K l H1 (Itt K a) ds where
  go := fun l' H i st hi => by
    obtain ⟨x, hx, _⟩ := dv.get' (List.getElem?_eq_getElem hi)
    exact ⟨vs, x, same_seqT (st.trans (hd_to _ _)) h, hx⟩
  stop := fun l' H i st hi => ⟨vs, same_seqT (st.trans (hd_to _ _)) h, by rw [dv.length]; exact hi⟩
  yld := fun l' H i x H' d st tr y hd' => by
    obtain ⟨rfl, y⟩ := y
    have hx := y vs (same_seqT (st.trans (hd_to _ _)) h)
    obtain ⟨d2, h2, dv2⟩ := dv.get hx
    rw [hd'] at h2; cases h2
    exact ⟨Same.refl _, Dv.same st _ _ dv2⟩
theorem itd_str {K : PySem.W.Frag} {l : List Addr} {H1 : Hp} {z : Str} (ok : okS z) : ItD K l H1 (Its z) (signs z) where
  go := fun l' H i st hi => by
    show i < z.cps.size
    simpa [signs] using hi
  stop := fun l' H i st hi => by
    show z.cps.size ≤ i
    simpa [signs] using hi
  yld := fun l' H i x H' d st tr y hd' => by
    obtain ⟨rfl, c, hc, rfl⟩ := y
    have e : z.cps.toList[i]? = some c := by simpa using hc
    unfold signs at hd'
    rw [List.getElem?_map, e] at hd'
    cases hd'
    exact ⟨Same.refl _, .str (okS_sign ok (List.mem_of_getElem? e))⟩
section
variable {S : Type} {Wo : Wd S} {X : Cx} {W : WX} {ta tb tc te : TE} {tl : TA} {tt : TT} {t u : TS} {wi : TI} {tg iter e elt : Expr} {es : List Expr} {body : List Stmt} {pos p : Pos}
theorem id_seq {w : DE S} (h : ED Wo X W e ta w) : ID Wo X W tg e (iSeq X.K ta) (wSeqI w) :=
  ⟨pi_seq h.pe, fun c σ H ρ s Qd Ed R E hw hq he => h.go c σ H ρ s _ Ed _ E hw (fun v H1 d s1 E1 st1 dv q => by
    cases d with
    | list ds => cases dv with | lst a n b => exact .inl ⟨_, rfl, ⟨_, SqL.of (hd_to _ _ _ _ a)⟩, hq _ H1 ds s1 E1 st1 (itd_list a b) n q⟩
    | tuple ds => cases dv with | tup a n b => exact .inr (.inl ⟨_, rfl, ⟨_, same_seqT (hd_to _ _) a⟩, hq _ H1 ds s1 E1 st1 (itd_tup a b) n q⟩)
    | str z => cases dv with | str ok => exact .inr (.inr ⟨z, rfl, hq _ H1 _ s1 E1 st1 (itd_str ok) (by unfold signs; rw [List.length_map]; exact ok.1) q⟩)
    | _ => exact q.elim) he⟩
/-! ### range -/
def rngD (lo : Int) (n : Nat) : List PyData := (List.range n).map fun i => .int (lo + (i : Nat))
theorem itd_rng {K : PySem.W.Frag} {l : List Addr} {H1 : Hp} {lo : Int} {n : Nat} (h : ∀ i : Nat, i < n → okI (lo + (i : Nat))) : ItD K l H1 (Itr lo n) (rngD lo n) where
  go := fun l' H i st hi => by
    show i < n
    simpa [rngD] using hi
  stop := fun l' H i st hi => by
    show n ≤ i
    simpa [rngD] using hi
  yld := fun l' H i x H' d st tr y hd' => by
    obtain ⟨rfl, rfl⟩ := y
    unfold rngD at hd'
    rw [List.getElem?_map] at hd'
    by_cases hi : i < n
    · rw [List.getElem?_range hi] at hd'
      cases hd'
      exact ⟨Same.refl _, .int (h i hi)⟩
    · rw [List.getElem?_eq_none (by simpa using hi)] at hd'
      cases hd'
theorem okI_small {i : Int} (h : i.natAbs < 2 ^ 64) : okI i := Nat.lt_of_lt_of_le h (by decide)
def wRng1 {S : Type} (w : DA S) : DL S := fun ρ s Q E => w ρ s (fun as s1 => allK as fun ds => match ds with
  | [.int j] => j ≤ 4194304 ∧ -(2 ^ 62) ≤ j ∧ Q (rngD 0 j.toNat) s1
  | _ => False) E
theorem id_rng1 {w : DA S} (hm : X.mg "range" = none) (h : AD Wo X W [e] tl w) (hg : Gl X "range" := by rfl) (hs : starEach [e] X.env = [(false, eval e X.env)] := by rfl) : ID Wo X W tg (.Call (.Name "range" p) [e] [] pos) (iRng1 tl) (wRng1 w) :=
  ⟨pi_range1 hg hm h.pe hs, fun c σ H ρ s Qd Ed R E hw hq he => h.go c σ H ρ s _ Ed _ E hw (fun vs H1 as s1 E1 st1 a1 q1 => by
    obtain ⟨ds, h1, h2⟩ := a1.all q1
    split at h2
    · rename_i j
      obtain ⟨g1, g2, g3⟩ := h2
      cases h1 with
      | cons a b =>
        cases b
        cases a
        refine ⟨j, rfl, g2, by omega, hq _ H1 _ s1 E1 st1 (itd_rng fun i hi => okI_small (by omega)) (by unfold rngD limL; simp; omega) g3⟩
    · exact h2.elim) he⟩
/-! ### zip -/
def zipD : List PyData → List PyData → List PyData
  | a :: x, b :: y => .tuple [a, b] :: zipD x y
  | _, _ => []
theorem zipD_len : ∀ x y, (zipD x y).length = min x.length y.length
  | [], y => by simp [zipD]
  | a :: x, [] => by simp [zipD]
  | a :: x, b :: y => by simp only [zipD, List.length_cons, zipD_len x y]; omega
theorem zipD_get : ∀ (x y : List PyData) (i : Nat) (d : PyData), (zipD x y)[i]? = some d → ∃ a b, x[i]? = some a ∧ y[i]? = some b ∧ d = .tuple [a, b]
  | [], y, i, d, h => by simp [zipD] at h
  | a :: x, [], i, d, h => by simp [zipD] at h
  | a :: x, b :: y, 0, d, h => by simp [zipD] at h; exact ⟨a, b, rfl, rfl, h.symm⟩
  | a :: x, b :: y, i + 1, d, h => by
    obtain ⟨a', b', h1, h2, h3⟩ := zipD_get x y i d (by simpa [zipD] using h)
    exact ⟨a', b', by simpa using h1, by simpa using h2, h3⟩
theorem dv_pair {K : PySem.W.Frag} {l' : List Addr} {H : Hp} {T : Addr} {v w : V} {a b : PyData} (tr : ∀ a ∈ l', H a ≠ none) (hT : H T = none) (h1 : Dv K (hd H l') v a) (h2 : Dv K (hd H l') w b) : Same H (upd H T (.tup [v, w])) ∧ Dv K (hd (upd H T (.tup [v, w])) l') (.ref T) (.tuple [a, b]) :=
  ⟨same_upd hT, Dv.newT tr hT (.cons h1 (.cons h2 .nil)) (by show 2 ≤ limL; unfold limL; decide)⟩
def zipS : List PyData → (List PyData → Prop) → Prop
  | [.list x, .list y], Q => Q (zipD x y)
  | [.tuple x, .tuple y], Q => Q (zipD x y)
  | _, _ => False
def wZip {S : Type} (w : DA S) : DL S := fun ρ s Q E => w ρ s (fun as s1 => allK as fun ds => zipS ds fun z => Q z s1) E
theorem id_zip {e2 : Expr} {w : DA S} {elts : List Expr} {kk : Nat} {tpos : Pos} (hm : X.mg "zip" = none) (h : AD Wo X W [e, e2] tl w) (hg : Gl X "zip" := by rfl) (hs : starEach [e, e2] X.env = (false, eval e X.env) :: starEach [e2] X.env := by rfl) (hpl : (backTo pos (starEach [e2] X.env)).any (·.1) = false := by rfl) :
    ID Wo X W (.Tuple elts kk tpos) (.Call (.Name "zip" p) [e, e2] [] pos) (RZ.iZipA X.K tl) (wZip w) :=
  ⟨RZ.pi_zipA hg hm h.pe hs hpl, fun c σ H ρ s Qd Ed R E hw hq he => h.go c σ H ρ s _ Ed _ E hw (fun vs H1 as s1 E1 st1 a1 q1 => by
    obtain ⟨ds, h1, h2⟩ := a1.all q1
    unfold zipS at h2
    split at h2
    · rename_i x y
      cases h1 with
      | cons a b =>
        cases b with
        | cons b n =>
          cases n
          cases a with
          | lst ha na da =>
            cases b with
            | lst hb nb db =>
              rename_i pa va pb vb
              refine ⟨pa, pb, va, vb, rfl, .inl ⟨SqL.of (hd_to _ _ _ _ ha), SqL.of (hd_to _ _ _ _ hb), hq _ H1 _ s1 E1 st1 ⟨fun l' H i st hi => ?_, fun l' H i st hi => ?_, fun l' H i x' H' d st tr yl hd' => ?_⟩ (by rw [zipD_len]; omega) h2⟩⟩
              · rw [zipD_len] at hi
                obtain ⟨u, hu, _⟩ := da.get' (List.getElem?_eq_getElem (show i < x.length by omega))
                obtain ⟨u2, hu2, _⟩ := db.get' (List.getElem?_eq_getElem (show i < y.length by omega))
                exact ⟨va, vb, u, u2, SqL.of (hd_to _ _ _ _ (st _ _ ha)), SqL.of (hd_to _ _ _ _ (st _ _ hb)), hu, hu2⟩
              · rw [zipD_len] at hi
                have l1 := da.length
                have l2 := db.length
                exact ⟨va, vb, SqL.of (hd_to _ _ _ _ (st _ _ ha)), SqL.of (hd_to _ _ _ _ (st _ _ hb)), by omega⟩
              · obtain ⟨T, u, u2, rfl, hT, rfl, k1, k2⟩ := yl
                obtain ⟨d1, d2, g1, g2, rfl⟩ := zipD_get _ _ _ _ hd'
                obtain ⟨e1, f1, f2⟩ := da.get (k1 va (SqL.of (hd_to _ _ _ _ (st _ _ ha))))
                obtain ⟨e2', f3, f4⟩ := db.get (k2 vb (SqL.of (hd_to _ _ _ _ (st _ _ hb))))
                rw [g1] at f1; cases f1
                rw [g2] at f3; cases f3
                exact dv_pair tr hT (Dv.same st _ _ f2) (Dv.same st _ _ f4)
    · rename_i x y
      cases h1 with
      | cons a b =>
        cases b with
        | cons b n =>
          cases n
          cases a with
          | tup ha na da =>
            cases b with
            | tup hb nb db =>
              rename_i pa va pb vb
              have up : ∀ {l' : List Addr} {H : Hp}, Same (hd H1 (c.hs ρ)) (hd H l') → Same (hd H1 (c.hs ρ)) H := fun st => st.trans (hd_to _ _)
              refine ⟨pa, pb, va, vb, rfl, .inr ⟨same_seqT (hd_to _ _) ha, same_seqT (hd_to _ _) hb, hq _ H1 _ s1 E1 st1 ⟨fun l' H i st hi => ?_, fun l' H i st hi => ?_, fun l' H i x' H' d st tr yl hd' => ?_⟩ (by rw [zipD_len]; omega) h2⟩⟩
              · rw [zipD_len] at hi
                obtain ⟨u, hu, _⟩ := da.get' (List.getElem?_eq_getElem (show i < x.length by omega))
                obtain ⟨u2, hu2, _⟩ := db.get' (List.getElem?_eq_getElem (show i < y.length by omega))
                exact ⟨va, vb, u, u2, same_seqT (up st) ha, same_seqT (up st) hb, hu, hu2⟩
              · rw [zipD_len] at hi
                have l1 := da.length
                have l2 := db.length
                exact ⟨va, vb, same_seqT (up st) ha, same_seqT (up st) hb, by omega⟩
              · obtain ⟨T, u, u2, rfl, hT, rfl, k1, k2⟩ := yl
                obtain ⟨d1, d2, g1, g2, rfl⟩ := zipD_get _ _ _ _ hd'
                obtain ⟨e1, f1, f2⟩ := da.get (k1 va (same_seqT (up st) ha))
                obtain ⟨e2', f3, f4⟩ := db.get (k2 vb (same_seqT (up st) hb))
                rw [g1] at f1; cases f1
                rw [g2] at f3; cases f3
                exact dv_pair tr hT (Dv.same st _ _ f2) (Dv.same st _ _ f4)
    · exact h2.elim) he⟩
end
end Dt

set_option Elab.async false
set_option linter.all false
set_option autoImplicit false
set_option maxRecDepth 100000
namespace Dt
open PySem PySem.Spec L2

/-! ### variables that hold a list of their own -/
theorem owns_sameG {ρ : List Sl} {i : Nat} {p : Addr} {x y : Sl} (hx : own1 x = [p]) (hy : own1 y = [p]) (h : ρ[i]? = some x) : owns (ρ.set i y) = owns ρ := by
  induction ρ generalizing i with
  | nil => rfl
  | cons z r ih =>
    cases i with
    | zero =>
      simp at h; subst h
      show own1 y ++ owns r = own1 z ++ owns r
      rw [hx, hy]
    | succ i =>
      show own1 z ++ owns (r.set i _) = own1 z ++ owns r
      rw [ih (by simpa using h)]
theorem owns_same {ρ : List Sl} {i : Nat} {p : Addr} {xs ys : List PyData} (h : ρ[i]? = some (.own p xs)) : owns (ρ.set i (.own p ys)) = owns ρ := owns_sameG rfl rfl h
theorem owns_own_memG {ρ : List Sl} {i : Nat} {p a : Addr} {x : Sl} (hx : own1 x = [p]) (h : a ∈ owns (ρ.set i x)) : a = p ∨ a ∈ owns ρ := by
  induction ρ generalizing i with
  | nil => exact .inr h
  | cons y r ih =>
    cases i with
    | zero =>
      have h : a ∈ own1 x ++ owns r := h
      rw [hx] at h
      rcases List.mem_append.mp h with h | h
      · exact .inl (by simpa using h)
      · exact .inr (List.mem_append_right _ h)
    | succ i =>
      have h : a ∈ own1 y ++ owns (r.set i x) := h
      rcases List.mem_append.mp h with h | h
      · exact .inr (List.mem_append_left _ h)
      · rcases ih h with h | h
        · exact .inl h
        · exact .inr (List.mem_append_right _ h)
theorem owns_own_mem {ρ : List Sl} {i : Nat} {p a : Addr} {xs : List PyData} (h : a ∈ owns (ρ.set i (.own p xs))) : a = p ∨ a ∈ owns ρ := owns_own_memG rfl h
theorem owns_own_nodupG {l : List Addr} {ρ : List Sl} {i : Nat} {p : Addr} {x : Sl} (hx : own1 x = [p]) (h : (l ++ owns ρ).Nodup) (hp : p ∉ l ++ owns ρ) : (l ++ owns (ρ.set i x)).Nodup := by
  induction ρ generalizing i l with
  | nil => exact h
  | cons y r ih =>
    cases i with
    | zero =>
      have h : (l ++ (own1 y ++ owns r)).Nodup := h
      show (l ++ (own1 x ++ owns r)).Nodup
      rw [hx]
      show (l ++ (p :: owns r)).Nodup
      have h2 : (l ++ owns r).Nodup := h.sublist (List.Sublist.append (List.Sublist.refl _) (List.sublist_append_right _ _))
      have hp2 : p ∉ l ++ owns r := fun z => hp (by
        rcases List.mem_append.mp z with z | z
        · exact List.mem_append_left _ z
        · exact List.mem_append_right _ (List.mem_append_right _ z))
      exact (List.perm_middle.nodup_iff).mpr (List.nodup_cons.mpr ⟨hp2, h2⟩)
    | succ i =>
      show (l ++ (own1 y ++ owns (r.set i x))).Nodup
      rw [← List.append_assoc]
      have h : (l ++ (own1 y ++ owns r)).Nodup := h
      have hp : p ∉ l ++ (own1 y ++ owns r) := hp
      rw [← List.append_assoc] at h hp
      exact ih h hp
section
variable {S : Type} {Wo : Wd S} {X : Cx} {W : WX} {ta tb tc te : TE} {tl : TA} {t u : TS} {e : Expr} {es : List Expr} {pos p : Pos}
/-- a variable is given a list, a dict that was made here -/
theorem EnvD.setOwnG {K : PySem.W.Frag} {c : Cn Wo} {q : Addr} {σ : St} {H : Hp} {ρ : List Sl} {s : S} {x : Sl} {i : Nat} (hx : own1 x = [q]) (E : EnvD K (c.hide q) σ H ρ s) (so : ∀ Hh, Same (hd H ((c.hide q).hs ρ)) Hh → SlotOk K Hh H x (some (.ref q))) (h0 : c.H0 q = none) :
    EnvD K c (σ.set i (some (.ref q))) H (ρ.set i x) s ∧ Same (hd H ((c.hide q).hs ρ)) (hd H (c.hs (ρ.set i x))) := by
  have nq : q ∉ c.hs ρ := (nodup_mid.mp E.nd).1
  have sub : ∀ a ∈ c.hs (ρ.set i x), a ∈ (c.hide q).hs ρ := fun a ha => hs_hide_mem.mpr (by
    rcases List.mem_append.mp ha with z | z
    · exact .inr (List.mem_append_left _ z)
    · rcases owns_own_memG hx z with z | z
      · exact .inl z
      · exact .inr (List.mem_append_right _ z))
  have st := hd_sub (H := H) sub
  refine ⟨⟨by simp [E.len], fun j y hy => ?_, owns_own_nodupG hx (nodup_mid.mp E.nd).2 nq, fun a ha => E.tr a (sub a ha), E.g, E.ext, fun b hb => ?_⟩, st⟩
  · by_cases hj : i = j
    · subst hj
      have hi : i < ρ.length := by
        have := (List.getElem?_eq_some_iff.mp hy).1
        simpa using this
      rw [List.getElem?_set_self hi] at hy
      cases hy
      exact ⟨some (.ref q), by rw [List.getElem?_set_self (by rw [E.len]; exact hi)], so _ st⟩
    · rw [List.getElem?_set_ne hj] at hy
      obtain ⟨o, h1, h2⟩ := E.slot j y hy
      exact ⟨o, by rw [List.getElem?_set_ne hj]; exact h1, h2.same st fun _ _ _ => rfl⟩
  · rcases owns_own_memG hx hb with z | z
    · subst z; exact h0
    · exact E.new b z
theorem EnvD.setOwn {K : PySem.W.Frag} {c : Cn Wo} {q : Addr} {σ : St} {H : Hp} {ρ : List Sl} {s : S} {vs : List V} {ds : List PyData} {i : Nat} (E : EnvD K (c.hide q) σ H ρ s) (hq : H q = some (.lst vs)) (a : DvAll K (hd H ((c.hide q).hs ρ)) vs ds) (n : ds.length ≤ limL) (h0 : c.H0 q = none) :
    EnvD K c (σ.set i (some (.ref q))) H (ρ.set i (.own q ds)) s ∧ Same (hd H ((c.hide q).hs ρ)) (hd H (c.hs (ρ.set i (.own q ds)))) :=
  E.setOwnG rfl (fun Hh st => ⟨rfl, n, vs, hq, DvAll.same st _ _ a⟩) h0
def wSetF {S : Type} (i : Nat) (w : DL S) : DS S := fun ρ s D => w ρ s (fun ds s1 => ∀ p, D.nx (ρ.set i (.own p ds)) s1) fun e s' => D.er e ρ s'
theorem setF_go {c : Cn Wo} {σ : St} {H : Hp} {ρ : List Sl} {s : S} {Dd : DEnds S} {D : Ends} {i : Nat} {w : DL S} (h : FD Wo X W e ta w) (E : EnvD X.K c σ H ρ s) (hw : wSetF i w ρ s Dd) (to : STo X.K c H ρ Dd D W) : tAsg ta (gName i) D σ H :=
  h.go c σ H ρ s _ _ _ E hw (fun q vs H' ds s' E' sm hq a n hn qd => by
    have h0 : c.H0 q = none := by
      cases z : c.H0 q with
      | none => rfl
      | some o =>
        by_cases hw : q ∈ c.W.wa
        · exact absurd hn (E.tr q (List.mem_append_left _ (List.mem_append_left _ hw)))
        · have := E.ext q o z hw
          rw [hn] at this; cases this
    obtain ⟨E1, st⟩ := E'.setOwn (i := i) hq a n h0
    exact to.nx _ H' _ s' E1 (sm.trans st) (qd q)) (to.err σ ρ)
theorem sd_setF (i : Nat) {x : Str} {pos' : Pos} {w : DL S} (hN : X.N.Nodup) (hi : X.N[i]? = some x) (hx : Loc X.env.scope x) (h : FD Wo X W e ta w) (hs : swapsWith e (some (.Name x pos')) pos.line X.env = pure false := by rfl) (hf : X.fn x = true ∨ X.env.scope.names.lookup x = some .local := by first | exact .inl rfl | exact .inr rfl | assumption) :
    SD Wo X W (.Assign [.Name x pos'] e pos) (tAsg ta (gName i)) (wSetF i w) := ⟨ps_set hN hi hx h.pe hs hf, fun c σ H ρ s Dd D E hw to => setF_go h E hw to⟩
/-- what a variable owns is changed -/
theorem EnvD.updOwnG {K : PySem.W.Frag} {c : Cn Wo} {σ : St} {H : Hp} {ρ : List Sl} {s : S} {i : Nat} {q : Addr} {x y : Sl} {o : HO} (hx : own1 x = [q]) (hy : own1 y = [q]) (E : EnvD K c σ H ρ s) (hi : ρ[i]? = some x) (hv : σ[i]? = some (some (.ref q))) (hl : ∃ u, H q = some u ∧ Chg u)
    (so : SlotOk K (hd H (c.hs ρ)) (upd H q o) y (some (.ref q))) : EnvD K c σ (upd H q o) (ρ.set i y) s ∧ Stp c ρ (ρ.set i y) H (upd H q o) := by
  have eo : owns (ρ.set i y) = owns ρ := owns_sameG hx hy hi
  have eh : c.hs (ρ.set i y) = c.hs ρ := by show _ ++ owns _ = _; rw [eo]
  have hm : q ∈ owns ρ := own_memG hi hx
  have hin : q ∈ c.hs ρ := List.mem_append_right _ hm
  have nw : q ∉ Wo.wa ++ c.R := fun z => (List.nodup_append.mp E.nd).2.2 q z q hm rfl
  have ehd : hd (upd H q o) (c.hs ρ) = hd H (c.hs ρ) := by
    funext b
    by_cases hb : b ∈ c.hs ρ
    · rw [hd_in hb, hd_in hb]
    · rw [hd_out hb, hd_out hb, upd_ne (fun (e : b = q) => hb (by rw [e]; exact hin))]
  refine ⟨⟨by simp [E.len], fun j z hz => ?_, by rw [eh]; exact E.nd, fun b hb => ?_, Wo.st s H _ E.g (fun b hb => upd_ne fun e => nw (List.mem_append_left _ (e ▸ hb))) (fun b o2 q2 n n2 n3 => upd_same_orG hl q2 n n2 n3), fun b u hb nb => ?_, by rw [eo]; exact E.new⟩, ?_⟩
  · rw [eh, ehd]
    by_cases hj : i = j
    · subst hj
      have hl : i < ρ.length := (List.getElem?_eq_some_iff.mp hi).1
      rw [List.getElem?_set_self hl] at hz
      cases hz
      exact ⟨_, hv, so⟩
    · rw [List.getElem?_set_ne hj] at hz
      obtain ⟨o', g1, g2⟩ := E.slot j z hz
      refine ⟨o', g1, g2.same (Same.refl _) fun r hr _ => ?_⟩
      -- two variables own two things
      have apart : ∀ {ρ : List Sl} {i j : Nat} {q r : Addr} {x z : Sl}, (owns ρ).Nodup → i ≠ j → ρ[i]? = some x → own1 x = [q] → ρ[j]? = some z → own1 z = [r] → r ≠ q := by
        intro ρ
        induction ρ with
        | nil => intro i j q r x z _ _ h; simp at h
        | cons y l ih =>
          intro i j q r x z nd ne h ox h' oz
          have nd : (own1 y ++ owns l).Nodup := nd
          cases i with
          | zero =>
            simp at h; subst h
            cases j with
            | zero => exact absurd rfl ne
            | succ j =>
              intro e
              subst e
              exact (List.nodup_append.mp nd).2.2 r (by rw [ox]; simp) r (own_memG (i := j) (by simpa using h') oz) rfl
          | succ i =>
            cases j with
            | zero =>
              simp at h'; subst h'
              intro e
              subst e
              exact (List.nodup_append.mp nd).2.2 r (by rw [oz]; simp) r (own_memG (i := i) (by simpa using h) ox) rfl
            | succ j => exact ih (List.nodup_append.mp nd).2.1 (fun (e : i = j) => ne (by rw [e])) (by simpa using h) ox (by simpa using h') oz
      exact upd_ne (apart (List.nodup_append.mp E.nd).2.1 hj hi hx hz hr)
  · rw [eh] at hb
    by_cases e : b = q
    · subst e; rw [upd_same]; exact fun z => nomatch z
    · rw [upd_ne e]; exact E.tr b hb
  · have e : b ≠ q := fun e => by subst e; have := E.new b hm; rw [hb] at this; cases this
    rw [upd_ne e]
    exact E.ext b u hb nb
  · show Same (hd H (c.hs ρ)) (hd (upd H q o) (c.hs (ρ.set i y)))
    rw [eh, ehd]
    exact Same.refl _
/-- x.append(e) -/
theorem EnvD.updOwn {K : PySem.W.Frag} {c : Cn Wo} {σ : St} {H : Hp} {ρ : List Sl} {s : S} {i : Nat} {q : Addr} {xs ys : List PyData} {ws : List V} (E : EnvD K c σ H ρ s) (hi : ρ[i]? = some (.own q xs)) (a : DvAll K (hd H (c.hs ρ)) ws ys) (n : ys.length ≤ limL) :
    EnvD K c σ (upd H q (.lst ws)) (ρ.set i (.own q ys)) s ∧ Stp c ρ (ρ.set i (.own q ys)) H (upd H q (.lst ws)) := by
  obtain ⟨o, h1, rfl, n1, vs, h2, _⟩ := E.slot i _ hi
  exact E.updOwnG rfl rfl hi h1 ⟨_, h2, .inl ⟨_, rfl⟩⟩ ⟨rfl, n, ws, upd_same, a⟩
def wApp {S : Type} (i : Nat) (w : DE S) : DS S := fun ρ s D => match ρ[i]? with
  | some (.own p xs) => w ρ s (fun d s1 => xs.length < limL ∧ D.nx (ρ.set i (.own p (xs ++ [d]))) s1) fun e s' => D.er e ρ s'
  | _ => False
theorem sd_append (i : Nat) {x : Str} {px pa : Pos} {w : DE S} (h : ED Wo X W e ta w) (hN : X.N[i]? = some x := by rfl) (hv : Vis X.env.scope x := by first | exact Or.inl rfl | exact Or.inr (Or.inl rfl) | exact Or.inr (Or.inr rfl)) (hdb : (x == ("__debug__" : Str)) = false := by decide) (hcd : (x == ("__classdict__" : Str)) = false := by decide)
    (he : starEach (e :: []) X.env = (false, eval e X.env) :: starEach [] X.env := by rfl) (hpl : (backTo pos (starEach [] X.env)).any (·.1) = false := by rfl) (hbase : attributeBase (.Name x px) "append" X.env (eval (.Name x px) X.env) = eval (.Name x px) X.env := by rfl)
    (hfew : ((backTo pos (starEach (e :: []) X.env)).all (fun x => !x.1) && (backToKw pos (keywordEach [] X.env)).all (fun x => x.1.isSome) && decide ((e :: []).length + ([] : List Keyword).length + (if ([] : List Keyword).isEmpty then 0 else 1) < 30)) = true := by rfl)
    (hline : (pa.endLine == pos.line) = true := by rfl) (hs : swapsWith (.Call (.Attribute (.Name x px) "append" pa) [e] [] pos) none p.line X.env = pure false := by rfl) :
    SD Wo X W (.Expr (.Call (.Attribute (.Name x px) "append" pa) [e] [] pos) p) (tDrop (tBM X.K "list" rAppend (tVar i) (tCons ta tNil))) (wApp i w) :=
  ⟨ps_expr (pe_bm PySem.F.plainAttrs_list PySem.F.slot_list_append PySem.F.type_list_append mt_append (pe_var hN hv hdb hcd) (pa_cons h.pe pa_nil he) hbase hfew hline he hpl) hs, fun c σ H ρ s Dd D E hw to => by
    unfold wApp at hw
    split at hw
    · rename_i q xs hq
      obtain ⟨o, h1, rfl, n, vs, hH, hA⟩ := E.slot i _ hq
      refine ⟨_, h1, .inl ⟨rfl, _, SqL.of hH⟩, ?_⟩
      refine h.go c σ H ρ s _ _ _ E hw (fun v H1 d s1 E1 st1 dv q1 => ?_) (to.err σ ρ)
      obtain ⟨n1, q1⟩ := q1
      obtain ⟨o, g1, g2, n2, vs1, hH1, hA1⟩ := E1.slot i _ hq
      refine ⟨q, vs1, v, rfl, rfl, hH1, by rw [hA1.length]; exact Nat.lt_of_lt_of_le n1 limL_size, ?_⟩
      obtain ⟨E2, st2⟩ := E1.updOwn (ys := xs ++ [d]) hq (hA1.append (.cons dv .nil)) (by rw [List.length_append]; exact n1)
      have e2 : σ.set i (some (.ref q)) = σ := by
        apply List.ext_getElem?
        intro j
        by_cases hj : i = j
        · subst hj
          rw [List.getElem?_set_self (List.getElem?_eq_some_iff.mp h1).1, h1]
        · rw [List.getElem?_set_ne hj]
      exact to.nx σ _ _ s1 E2 (st1.trans st2) q1
    · exact hw.elim⟩
/-- x.extend([..]) -/
def wExt {S : Type} (i : Nat) (w : DL S) : DS S := fun ρ s D => match ρ[i]? with
  | some (.own p xs) => w ρ s (fun ds s1 => (xs ++ ds).length ≤ limL ∧ D.nx (ρ.set i (.own p (xs ++ ds))) s1) fun e s' => D.er e ρ s'
  | _ => False
theorem sd_extend (i : Nat) {x : Str} {px pa : Pos} {w : DL S} (h : FD Wo X W e ta w) (hN : X.N[i]? = some x := by rfl) (hv : Vis X.env.scope x := by first | exact Or.inl rfl | exact Or.inr (Or.inl rfl) | exact Or.inr (Or.inr rfl)) (hdb : (x == ("__debug__" : Str)) = false := by decide) (hcd : (x == ("__classdict__" : Str)) = false := by decide)
    (he : starEach (e :: []) X.env = (false, eval e X.env) :: starEach [] X.env := by rfl) (hpl : (backTo pos (starEach [] X.env)).any (·.1) = false := by rfl) (hbase : attributeBase (.Name x px) "extend" X.env (eval (.Name x px) X.env) = eval (.Name x px) X.env := by rfl)
    (hfew : ((backTo pos (starEach (e :: []) X.env)).all (fun x => !x.1) && (backToKw pos (keywordEach [] X.env)).all (fun x => x.1.isSome) && decide ((e :: []).length + ([] : List Keyword).length + (if ([] : List Keyword).isEmpty then 0 else 1) < 30)) = true := by rfl)
    (hline : (pa.endLine == pos.line) = true := by rfl) (hs : swapsWith (.Call (.Attribute (.Name x px) "extend" pa) [e] [] pos) none p.line X.env = pure false := by rfl) :
    SD Wo X W (.Expr (.Call (.Attribute (.Name x px) "extend" pa) [e] [] pos) p) (tDrop (tBM X.K "list" rExtend (tVar i) (tCons ta tNil))) (wExt i w) :=
  ⟨ps_expr (pe_bm PySem.F.plainAttrs_list PySem.F.slot_list_extend PySem.F.type_list_extend mt_extend (pe_var hN hv hdb hcd) (pa_cons h.pe pa_nil he) hbase hfew hline he hpl) hs, fun c σ H ρ s Dd D E hw to => by
    unfold wExt at hw
    split at hw
    · rename_i q xs hq
      obtain ⟨o, h1, rfl, n, vs, hH, hA⟩ := E.slot i _ hq
      refine ⟨_, h1, .inl ⟨rfl, _, SqL.of hH⟩, ?_⟩
      refine h.go c σ H ρ s _ _ _ E hw (fun b ws H1 ds s1 E1 sm hb a n' hn q1 => ?_) (to.err σ ρ)
      obtain ⟨n1, q1⟩ := q1
      have st2 : Same (hd H1 ((c.hide b).hs ρ)) (hd H1 (c.hs ρ)) := hd_sub hs_hide_sub
      have E1' := E1.unhide
      obtain ⟨o, g1, g2, n2, vs1, hH1, hA1⟩ := E1'.slot i _ hq
      refine ⟨q, b, vs1, ws, rfl, rfl, hH1, hb, by rw [hA1.length, a.length, ← List.length_append]; exact Nat.le_trans n1 limL_size, ?_⟩
      obtain ⟨E2, st3⟩ := E1'.updOwn (ys := xs ++ ds) hq (hA1.append (DvAll.same st2 _ _ a)) n1
      exact to.nx σ _ _ s1 E2 (sm.trans (st2.trans st3)) q1
    · exact hw.elim⟩
/-- return x, x a list of its own -/
def wRetO {S : Type} (i : Nat) : DS S := fun ρ s D => match ρ[i]? with
  | some (.own _ xs) => D.rt (.list xs) s
  | _ => False
theorem sd_retO (i : Nat) {x : Str} {px : Pos} (hN : X.N[i]? = some x := by rfl) (hv : Vis X.env.scope x := by first | exact Or.inl rfl | exact Or.inr (Or.inl rfl) | exact Or.inr (Or.inr rfl)) (hdb : (x == ("__debug__" : Str)) = false := by decide) (hcd : (x == ("__classdict__" : Str)) = false := by decide) :
    SD Wo X W (.Return (some (.Name x px)) pos) (tRet (tVar i)) (wRetO i) :=
  ⟨ps_ret (pe_var hN hv hdb hcd), fun c σ H ρ s Dd D E hw to => by
    unfold wRetO at hw
    split at hw
    · rename_i q xs hq
      obtain ⟨o, h1, rfl, n, vs, hH, hA⟩ := E.slot i _ hq
      have nw : q ∉ Wo.wa ++ c.R := fun z => (List.nodup_append.mp E.nd).2.2 q z q (own_mem hq) rfl
      exact ⟨_, h1, to.rt _ H _ s E.g E.ext (.lst (by rw [hd_out nw]; exact hH) n (DvAll.same (hd_sub fun a h => List.mem_append_left _ h) _ _ hA)) hw⟩
    · exact hw.elim⟩
/-- e(x), x a list of its own, read by a rule over the list's place -/
def wOwnE {S : Type} (i : Nat) (f : List PyData → (PyData → Prop) → Prop) : DE S := fun ρ s Q _ => match ρ[i]? with
  | some (.own _ xs) => f xs fun z => Q z s
  | _ => False
/-- tuple(x), x a list of its own -/
theorem ed_tupO (i : Nat) {x : Str} {px : Pos} (hm : X.mg "tuple" = none) (hN : X.N[i]? = some x := by rfl) (hv : Vis X.env.scope x := by first | exact Or.inl rfl | exact Or.inr (Or.inl rfl) | exact Or.inr (Or.inr rfl)) (hdb : (x == ("__debug__" : Str)) = false := by decide) (hcd : (x == ("__classdict__" : Str)) = false := by decide)
    (hg : Gl X "tuple" := by rfl) (he : starEach (.Name x px :: []) X.env = (false, eval (.Name x px) X.env) :: starEach [] X.env := by rfl) (hpl : (backTo pos (starEach [] X.env)).any (·.1) = false := by rfl) :
    ED Wo X W (.Call (.Name "tuple" p) [.Name x px] [] pos) (tCB (fun xs H Q => ∃ p ys, xs = [.ref p] ∧ ((SqL X.K H p ys ∧ ∀ l, H l = none → Q (.ref l) (upd H l (.tup ys))) ∨ (SqT X.K H p ys ∧ Q (.ref p) H))) (tCons (tVar i) tNil)) (wOwnE i fun xs Q => Q (.tuple xs)) :=
  ⟨pe_callTy call_tuple_of hg hm (by decide +kernel) (pa_cons (pe_var hN hv hdb hcd) pa_nil he) (by decide) (by decide) he hpl, fun c σ H ρ s Qd Ed Q E hw hv he => by
    unfold wOwnE at hw
    split at hw
    · rename_i q xs hq
      obtain ⟨o, h1, rfl, n, vs, hH, hA⟩ := E.slot i _ hq
      exact ⟨_, h1, q, vs, rfl, .inl ⟨SqL.of hH, fun l hl => hv _ _ _ s (E.grow (same_upd hl)) (stp_grow (same_upd hl)) (Dv.newT E.tr hl hA n) hw⟩⟩
    · exact hw.elim⟩
end
end Dt

set_option Elab.async false
set_option linter.all false
set_option autoImplicit false
set_option maxRecDepth 100000
namespace Dt
open PySem PySem.Spec L2

/-! ### built-ins -/
def fLen : List PyData → (PyData → Prop) → Prop
  | [.list xs], Q => Q (.int xs.length)
  | [.tuple xs], Q => Q (.int xs.length)
  | [.str x], Q => Q (.int x.length)
  | _, _ => False
def rLenG (K : PySem.W.Frag) : List V → Hp → VK → Prop := fun xs H Q => (∃ p ys, xs = [.ref p] ∧ (SqL K H p ys ∨ SqT K H p ys) ∧ Q (.int ys.length) H) ∨ ∃ z, xs = [.str z] ∧ z.length ≤ sizeLine ∧ Q (.int z.length) H
theorem cr_lenG {X : Cx} : CallR X (.builtin "len") (rLenG X.K) := call_len_seq.or call_len_str
theorem okI_len {n : Nat} (h : n ≤ limL) : okI (n : Int) := okI_small (by unfold limL at h; omega)
theorem cd_len {K : PySem.W.Frag} : CallD K (rLenG K) fLen := by
  intro H l vs ds Qd Q ht ha hf hq
  unfold fLen at hf
  split at hf
  · cases ha with
    | cons a b =>
      cases b
      cases a with
      | lst h n a =>
        refine .inl ⟨_, _, rfl, .inl (SqL.of (hd_to _ _ _ _ h)), ?_⟩
        rw [a.length]
        exact hq _ H _ (Same.refl _) (.int (okI_len n)) hf
  · cases ha with
    | cons a b =>
      cases b
      cases a with
      | tup h n a =>
        refine .inl ⟨_, _, rfl, .inr (same_seqT (hd_to _ _) h), ?_⟩
        rw [a.length]
        exact hq _ H _ (Same.refl _) (.int (okI_len n)) hf
  · cases ha with
    | cons a b =>
      cases b
      cases a with
      | str ok => exact .inr ⟨_, rfl, Nat.le_trans ok.1 limL_size, hq _ H _ (Same.refl _) (.int (okI_len ok.1)) hf⟩
  · exact hf.elim
def fAll (g : List Bool → Bool) : List PyData → (PyData → Prop) → Prop
  | [.list xs], Q => ∃ bs : List Bool, xs = bs.map PyData.bool ∧ Q (.bool (g bs))
  | _, _ => False
theorem DvAll.bools {K : PySem.W.Frag} {H : Hp} : ∀ {bs : List Bool} {vs : List V}, DvAll K H vs (bs.map PyData.bool) → vs = bs.map V.bl
  | [], _, h => by cases h; rfl
  | b :: bs, _, h => by
    cases h with
    | cons a r => cases a; rw [DvAll.bools r]; rfl
theorem cd_all {K : PySem.W.Frag} : CallD K (rAll K) (fAll fun bs => bs.all id) := by
  intro H l vs ds Qd Q ht ha hf hq
  unfold fAll at hf
  split at hf
  · obtain ⟨bs, rfl, q⟩ := hf
    cases ha with
    | cons a b =>
      cases b
      cases a with
      | lst h n a => exact ⟨_, bs, rfl, by rw [← a.bools]; exact SqL.of (hd_to _ _ _ _ h), hq _ H _ (Same.refl _) (.bl _) q⟩
  · exact hf.elim
theorem cd_any {K : PySem.W.Frag} : CallD K (rAny K) (fAll fun bs => bs.any id) := by
  intro H l vs ds Qd Q ht ha hf hq
  unfold fAll at hf
  split at hf
  · obtain ⟨bs, rfl, q⟩ := hf
    cases ha with
    | cons a b =>
      cases b
      cases a with
      | lst h n a => exact ⟨_, bs, rfl, by rw [← a.bools]; exact SqL.of (hd_to _ _ _ _ h), hq _ H _ (Same.refl _) (.bl _) q⟩
  · exact hf.elim
def fTuple : List PyData → (PyData → Prop) → Prop
  | [.list xs], Q => Q (.tuple xs)
  | [.tuple xs], Q => Q (.tuple xs)
  | _, _ => False
theorem cd_tuple {K : PySem.W.Frag} : CallD K (fun xs H Q => ∃ p ys, xs = [.ref p] ∧ ((SqL K H p ys ∧ ∀ l, H l = none → Q (.ref l) (upd H l (.tup ys))) ∨ (SqT K H p ys ∧ Q (.ref p) H))) fTuple := by
  intro H l vs ds Qd Q ht ha hf hq
  unfold fTuple at hf
  split at hf
  · cases ha with
    | cons a b =>
      cases b
      cases a with
      | lst h n a => exact ⟨_, _, rfl, .inl ⟨SqL.of (hd_to _ _ _ _ h), fun l hl => hq _ _ _ (same_upd hl) (Dv.newT ht hl a n) hf⟩⟩
  · cases ha with
    | cons a b =>
      cases b
      cases a with
      | tup h n a => exact ⟨_, _, rfl, .inr ⟨same_seqT (hd_to _ _) h, hq _ H _ (Same.refl _) (.tup h n a) hf⟩⟩
  · exact hf.elim
def fInt : List PyData → (PyData → Prop) → Prop
  | [.int i], Q => Q (.int i)
  | [.bool b], Q => Q (.int (if b then 1 else 0))
  | _, _ => False
theorem cd_int {K : PySem.W.Frag} : CallD K (fun xs H Q => (∃ i, xs = [.int i] ∧ Q (.int i) H) ∨ ∃ k, xs = [.bl k] ∧ Q (.int (if k then 1 else 0)) H) fInt := by
  intro H l vs ds Qd Q ht ha hf hq
  unfold fInt at hf
  split at hf
  · cases ha with
    | cons a b =>
      cases b
      cases a with
      | int h => exact .inl ⟨_, rfl, hq _ H _ (Same.refl _) (.int h) hf⟩
  · cases ha with
    | cons a b =>
      cases b
      cases a
      exact .inr ⟨_, rfl, hq _ H _ (Same.refl _) (.int (by split <;> exact okI_small (by decide))) hf⟩
  · exact hf.elim
def fStr : List PyData → (PyData → Prop) → Prop
  | [.int i], Q => Q (.str (toString i : String))
  | _, _ => False
theorem cd_str {K : PySem.W.Frag} : CallD K (fun xs H Q => ∃ i, xs = [.int i] ∧ i.natAbs.log2 < 1920 ∧ Q (.str (toString i)) H) fStr := by
  intro H l vs ds Qd Q ht ha hf hq
  unfold fStr at hf
  split at hf
  · cases ha with
    | cons a b =>
      cases b
      cases a with
      | int h =>
        rename_i i
        have e := int_text_length_le10 (a := i) (k := 76) (by decide) (Nat.lt_of_lt_of_le h (by decide))
        refine ⟨i, rfl, ?_, hq _ H _ (Same.refl _) (.str ⟨by rw [ofString_length]; unfold limL; omega, strOk_lit _⟩) hf⟩
        by_cases z : i.natAbs = 0
        · rw [z]; decide
        · exact (Nat.log2_lt z).mpr (Nat.lt_of_lt_of_le h (by exact Nat.pow_le_pow_right (by decide) (by decide)))
  · exact hf.elim
/-! ### repr -/
def rRepr (K : PySem.W.Frag) : List V → Hp → VK → Prop := fun xs H Q => ∃ a d, xs = [.ref a] ∧ Dp K H (.ref a) d ∧ d.showable = true ∧ d.depth ≤ 60 ∧ d.shown.length ≤ sizeLine ∧ Q (.str d.shown) H
theorem Dp.noDict {K : PySem.W.Frag} {H : Hp} : ∀ (d : PyData) (v : V), Dp K H v d → d.hasDict = false
  | .none, _, _ => by simp only [PyData.hasDict]
  | .bool _, _, _ => by simp only [PyData.hasDict]
  | .int _, _, _ => by simp only [PyData.hasDict]
  | .str _, _, _ => by simp only [PyData.hasDict]
  | .list ds, _, h => by
    simp only [PyData.hasDict]
    cases h with | lst a b => exact all ds _ b
  | .tuple ds, _, h => by
    simp only [PyData.hasDict]
    cases h with | tup a b => exact all ds _ b
  | .dict _, _, h => by cases h
where all : ∀ (ds : List PyData) (vs : List V), DpAll K H vs ds → PyData.hasDictAll ds = false
  | [], _, _ => by simp only [PyData.hasDictAll]
  | d :: ds, _, h => by
    cases h with
    | cons a b => simp only [PyData.hasDictAll, Dp.noDict d _ a, all ds _ b, Bool.or_false]
theorem cr_repr {X : Cx} {k : Nat} (hr : Room k X.A) (hG : X.A.guards = some []) : CallR X (.builtin "repr") (rRepr X.K) := by
  intro pins s σ H xs us Q I r h
  obtain ⟨a, d, rfl, hd, hs, hdep, hz, q⟩ := h
  obtain rfl := r.ref1
  obtain ⟨as, rd⟩ := Dp.reads I d _ _ hd (show RelV (.ref a) (.ref a) from rfl)
  refine repr_of_reads' rd hs (PyData.noDict_hsm (Dp.noDict d _ hd)) hG (by have := hr.un; omega) (fun _ _ e => e) (fun h' u tk hk => ?_) hz
  exact ⟨.str d.shown, H, I.kept (t' := tk) hk, ⟨u, rfl⟩, q⟩
def fRepr : List PyData → (PyData → Prop) → Prop
  | [d], Q => (match d with | .list _ => True | .tuple _ => True | _ => False) ∧ d.depth ≤ 60 ∧ d.hasDict = false ∧ okS d.shown ∧ Q (.str d.shown)
  | _, _ => False
theorem okI_show {i : Int} (h : okI i) : i.natAbs.log2 < 1920 := by
  by_cases z : i.natAbs = 0
  · rw [z]; decide
  · exact (Nat.log2_lt z).mpr (Nat.lt_of_lt_of_le h (by exact Nat.pow_le_pow_right (by decide) (by decide)))
theorem Dv.showable {K : PySem.W.Frag} {H : Hp} : ∀ (d : PyData) (v : V), d.hasDict = false → Dv K H v d → d.showable = true
  | .none, _, _, _ => by simp only [PyData.showable]
  | .bool _, _, _, _ => by simp only [PyData.showable]
  | .int i, _, _, h => by
    cases h with | int h => simp only [PyData.showable]; exact decide_eq_true (okI_show h)
  | .str _, _, _, _ => by simp only [PyData.showable]
  | .list ds, _, z, h => by
    simp only [PyData.showable]
    cases h with | lst a n b => exact all ds _ (by simpa only [PyData.hasDict] using z) b
  | .tuple ds, _, z, h => by
    simp only [PyData.showable]
    cases h with | tup a n b => exact all ds _ (by simpa only [PyData.hasDict] using z) b
  | .dict _, _, z, h => by simp only [PyData.hasDict] at z; cases z
where all : ∀ (ds : List PyData) (vs : List V), PyData.hasDictAll ds = false → DvAll K H vs ds → PyData.showableAll ds = true
  | [], _, _, _ => by simp only [PyData.showableAll]
  | d :: ds, _, z, h => by
    cases h with
    | cons a b => simp only [PyData.showableAll, Dv.showable d _ (hd_cons z).1 a, all ds _ (hd_cons z).2 b, Bool.and_true]
theorem cd_repr {K : PySem.W.Frag} : CallD K (rRepr K) fRepr := by
  intro H l vs ds Qd Q ht ha hf hq
  unfold fRepr at hf
  split at hf
  · rename_i d
    obtain ⟨h1, h2, h0, h3, h4⟩ := hf
    cases ha with
    | cons a b =>
      cases b
      have up := Dv.same (hd_to H l) _ _ a
      cases d with
      | list ds => cases a with | lst _ _ _ => exact ⟨_, _, rfl, Dv.dp _ _ h0 up, Dv.showable _ _ h0 up, h2, Nat.le_trans h3.1 limL_size, hq _ H _ (Same.refl _) (.str h3) h4⟩
      | tuple ds => cases a with | tup _ _ _ => exact ⟨_, _, rfl, Dv.dp _ _ h0 up, Dv.showable _ _ h0 up, h2, Nat.le_trans h3.1 limL_size, hq _ H _ (Same.refl _) (.str h3) h4⟩
      | _ => exact h1.elim
  · exact hf.elim
/-! ### defs -/
def argS (n m : Nat) (as : List Sl) : List Sl := as ++ List.replicate (m - n) .no
theorem env_start {S : Type} {Wo : Wd S} {K : PySem.W.Frag} {H : Hp} {N : List Str} {R : List Addr} {vs : List V} {as : List Ag} {s : S} (nd : (Wo.wa ++ R).Nodup) (tr : ∀ a ∈ Wo.wa ++ R, H a ≠ none) (g : Wo.G s H) (ok : AgOk K (hd H (Wo.wa ++ R)) vs as) :
    EnvD K (⟨R, H⟩ : Cn Wo) (L2.start N vs) H (argS vs.length N.length (as.map toSl)) s := by
  have ow : ∀ (as : List Ag) (k : Nat), owns ((as.map toSl) ++ List.replicate k .no) = [] := by
    intro as k
    induction as with
    | nil =>
      induction k with
      | zero => rfl
      | succ k ih => exact ih
    | cons a as ih =>
      cases a with
      | d x => exact ih
      | raw v => exact ih
  have eh : (⟨R, H⟩ : Cn Wo).hs (argS vs.length N.length (as.map toSl)) = Wo.wa ++ R := by
    show (Wo.wa ++ R) ++ owns _ = _
    unfold argS
    rw [ow, List.append_nil]
  have at' : ∀ {vs : List V} {as : List Ag} {i : Nat} {x : Sl}, AgOk K (hd H (Wo.wa ++ R)) vs as → (as.map toSl)[i]? = some x → ∃ v, vs[i]? = some v ∧ SlotOk K (hd H (Wo.wa ++ R)) H x (some v) := by
    intro vs
    induction vs with
    | nil =>
      intro as i x h e
      cases as with
      | nil => simp at e
      | cons a _ => cases a <;> exact h.elim
    | cons v vs ih =>
      intro as i x h e
      cases as with
      | nil => exact h.elim
      | cons a as =>
        cases i with
        | zero =>
          simp at e
          subst e
          cases a with
          | d x => exact ⟨v, rfl, v, rfl, h.1⟩
          | raw u => exact ⟨v, rfl, congrArg some h.1⟩
        | succ i =>
          have h2 : AgOk K (hd H (Wo.wa ++ R)) vs as := by cases a <;> exact h.2
          obtain ⟨w, h3, h4⟩ := ih (i := i) h2 (by simpa using e)
          exact ⟨w, by simpa using h3, h4⟩
  have len := AgOk.length ok
  refine ⟨?_, fun i x hx => ?_, by rw [eh]; exact nd, by rw [eh]; exact tr, g, fun b o h _ => h, fun p hp => ?_⟩
  · unfold L2.start argS
    simp only [List.length_append, List.length_map, List.length_replicate]
    omega
  · rw [eh]
    unfold argS at hx
    by_cases hi : i < as.length
    · rw [List.getElem?_append_left (by simpa using hi)] at hx
      obtain ⟨v, h1, h2⟩ := at' ok hx
      refine ⟨some v, ?_, h2⟩
      unfold L2.start
      rw [List.getElem?_append_left (by rw [List.length_map]; omega), List.getElem?_map, h1]; rfl
    · rw [List.getElem?_append_right (by simpa using hi), List.getElem?_replicate] at hx
      split at hx
      · rename_i hlt
        cases hx
        rw [List.length_map] at hlt
        refine ⟨none, ?_, trivial⟩
        unfold L2.start
        rw [List.getElem?_append_right (by rw [List.length_map]; omega), List.getElem?_replicate, if_pos (by rw [List.length_map]; omega)]
      · cases hx
  · unfold argS at hp
    rw [ow] at hp
    cases hp
def endP (Qd : PyData → Prop) (Ed : Er → Prop) : DEnds Unit := ⟨fun _ _ => Qd .none, fun d _ => Qd d, fun _ _ => False, fun _ _ => False, fun e _ _ => Ed e⟩
def WXE (E : XK) : WX := fun cls d _ H => E cls d H
section
variable {P : Program} {w : World} {K : PySem.W.Frag} {mg : Str → Option Value} {base : Heap} {CX : CXT} {k n : Nat} {f : Addr} {fd : FuncData} {N ps : List Str} {x qual : Str} {st : Stmt}
/-- a def without effects, by its body -/
theorem fnP {F : List PyData → (PyData → Prop) → (Er → Prop) → Prop} {wb : DS Unit} (Fu : Fun K x qual st f fd) (Sc : FnScope N ps (defScope st)) (hn : ps.length = n)
    (hbody : ∀ (cdv : Value) (A : Around) (outer : List Env) (s : Shared) (H : Hp) (E : XK), A.guards = some [] → Room k (A.deeper (PyProof.Rows.envOfC qual (defScope st) s.heap.objs.size f cdv)) →
      ∃ t, SSD W0 (cxOf CX P w K mg base N qual (defScope st) f cdv A outer s H E) (WXE E) (defBody st) t wb)
    (spec : ∀ ds Qd Ed, ds.length = n → F ds Qd Ed → wb (argS n N.length (ds.map Sl.d)) () (endP Qd Ed)) : FnG P w K mg base CX (k + 1) f fd ps (spP K n F) := by
  refine fnG Fu Sc (fun vs H Q E h => by rw [h.1, hn]) fun cdv A outer s H vs Q E hG hr h => ?_
  obtain ⟨hl, l, ds, Qd, Ed, nd, tr, da, hf, hq, he⟩ := h
  obtain ⟨t, B⟩ := hbody cdv A outer s H E hG hr
  refine ⟨t, B.pe, ?_⟩
  have hdl : ds.length = n := by rw [← da.length]; exact hl
  have ag : ∀ {vs : List V} {ds : List PyData}, DvAll K (hd H l) vs ds → AgOk K (hd H l) vs (ds.map Ag.d) := by
    intro vs ds h
    induction ds generalizing vs with
    | nil => cases h; trivial
    | cons d ds ih => cases h with | cons a b => exact ⟨a, ih b⟩
  have e1 : (ds.map Ag.d).map toSl = ds.map Sl.d := by rw [List.map_map]; rfl
  have E0 := env_start (Wo := W0) (N := N) (R := l) (s := ()) (by simpa [W0] using nd) (by simpa [W0] using tr) trivial (by simpa [W0] using ag da)
  rw [e1, hl] at E0
  refine B.go _ _ H _ () (endP Qd Ed) _ E0 (spec ds Qd Ed hdl hf) ⟨fun σ' H' ρ' s' E' st' q => ?_, fun _ _ _ _ _ _ z => z.elim, fun _ _ _ _ _ _ z => z.elim, fun v H' d s' g ex dv q => ?_, fun e cls dd σ' H' ρ' s' E' ei q => ?_⟩
  · exact hq .non H' .none (fun b o h => E'.ext b o h (by simp [W0, Cn.W])) .non q
  · exact hq v H' d (fun b o h => ex b o h (by simp [W0, Cn.W])) (by have dv2 : Dv K (hd H' (([] : List Addr) ++ l)) v d := dv; simpa using dv2) q
  · refine he e cls dd H' (fun b o h => E'.ext b o h (by simp [W0, Cn.W])) ?_ q
    have sub : Same (hd H' ((⟨l, H⟩ : Cn W0).hs ρ')) (hd H' l) := hd_sub fun a ha => List.mem_append_left _ (by simpa [W0, Cn.W] using ha)
    obtain ⟨c1, d, fs, c2, c3, c4⟩ := ei
    refine ⟨c1, d, fs, c2, c3, ?_⟩
    have go : ∀ (fs : List (Str × V)) (es : List (Str × PyData)), FsOk K (hd H' ((⟨l, H⟩ : Cn W0).hs ρ')) fs es → FsOk K (hd H' l) fs es := by
      intro fs
      induction fs with
      | nil => intro es h; cases es with | nil => trivial | cons _ _ => exact h.elim
      | cons y fs ih =>
        intro es h
        cases es with
        | nil => exact h.elim
        | cons z es => exact ⟨h.1, Dv.same sub _ _ h.2.1, ih es h.2.2⟩
    exact go _ _ c4
end
end Dt

set_option Elab.async false
set_option linter.all false
set_option autoImplicit false
set_option maxRecDepth 100000
namespace Dt
open PySem PySem.Spec L2

/-- a def of the text, ready to be called -/
structure Df (P : Program) (w : World) (K : PySem.W.Frag) (mg : Str → Option Value) (base : Heap) (CX : CXT) (k : Nat) (x : Str) (n : Nat) (sp : Sp) : Prop where
  ex : ∃ (f : Addr) (fd : FuncData) (ps : List Str), ps.length = n ∧ mg x = some (.ref f) ∧ PySem.W.keepIn K (.ref f) = true ∧ Binds K fd ps [] ∧ FnG P w K mg base CX k f fd ps sp
/-- the built-ins' names stand for the built-ins -/
structure Bt (mg : Str → Option Value) : Prop where
  no : ∀ x ∈ (["isinstance", "int", "bool", "str", "tuple", "list", "len", "all", "any", "zip", "range", "repr", "set", "sorted", "sum", "min", "max", "enumerate", "dict"] : List Str), mg x = none
/-- a constant of the module -/
structure Gc (K : PySem.W.Frag) (mg : Str → Option Value) (x : Str) (v : V) (d : PyData) : Prop where
  ex : ∃ u, mg x = some u ∧ RelV v u
  dv : ∀ H, Dv K H v d
section
variable {S : Type} {Wo : Wd S} {X : Cx} {W : WX} {K : PySem.W.Frag} {ta tb tc te : TE} {tl : TA} {tt : TT} {t u : TS} {wi : TI} {tg iter e e' a b elt : Expr} {es : List Expr} {body : List Stmt} {pos p q : Pos} {wa wb : DE S} {wl : DA S} {k n : Nat}
theorem e_glob {x : Str} {v : V} {d : PyData} (g : Gc K X.mg x v d) (hK : X.K = K := by rfl) (hg : Gl X x := by rfl) (hdb : (x == ("__debug__" : Str)) = false := by decide) : ED Wo X W (.Name x pos) (tC v) (wC d) := by
  subst hK
  obtain ⟨u, h1, h2⟩ := g.ex
  exact ed_glob hg h1 h2 g.dv hdb
theorem e_add (ha : ED Wo X W a ta wa) (hb : ED Wo X W b tb wb) (hK : X.K = K := by rfl) : ED Wo X W (.BinOp a .Add b pos) (tOp (rAddD K) ta tb) (wOp dAdd wa wb) := by subst hK; exact ed_op or_add od_add ha hb
theorem e_sub (ha : ED Wo X W a ta wa) (hb : ED Wo X W b tb wb) : ED Wo X W (.BinOp a .Sub b pos) (tOp (rI0 fun i j => .int (i - j)) ta tb) (wOp (dI0 fun i j => i - j) wa wb) := ed_op op_sub od_int0 ha hb
theorem e_mul (ha : ED Wo X W a ta wa) (hb : ED Wo X W b tb wb) (hK : X.K = K := by rfl) : ED Wo X W (.BinOp a .Mult b pos) (tOp (rMulD K) ta tb) (wOp dMul wa wb) := by subst hK; exact ed_op or_mul od_mul ha hb
theorem e_mod (ha : ED Wo X W a ta wa) (hb : ED Wo X W b tb wb) : ED Wo X W (.BinOp a .Mod b pos) (tOp (rI (fun _ j => 0 < j) fun i j => .int (i % j)) ta tb) (wOp (dI2 (fun _ j => 0 < j) fun i j => i % j) wa wb) := ed_op op_mod od_int ha hb
theorem e_fdiv (ha : ED Wo X W a ta wa) (hb : ED Wo X W b tb wb) : ED Wo X W (.BinOp a .FloorDiv b pos) (tOp (rI CDiv fun i j => .int (i / j)) ta tb) (wOp (dI2 CDiv fun i j => i / j) wa wb) := ed_op op_fdiv od_int ha hb
theorem e_pow (ha : ED Wo X W a ta wa) (hb : ED Wo X W b tb wb) : ED Wo X W (.BinOp a .Pow b pos) (tOp (rI CPow fun i j => .int (i ^ j.toNat)) ta tb) (wOp (dI2 CPow fun i j => i ^ j.toNat) wa wb) := ed_op op_pow od_int ha hb
def dNeg : PyData → (PyData → Prop) → Prop
  | .int i, Q => Q (.int (-i))
  | _, _ => False
theorem ud_neg : UnD K (rU fun i => .int (-i)) dNeg := by
  intro H l x d Qd Q ht hx hf hq
  cases d with
  | int i => cases hx with | int h => exact ⟨i, rfl, hq _ H _ (Same.refl _) (.int (by unfold okI at h ⊢; omega)) hf⟩
  | _ => exact hf.elim
theorem e_neg (ha : ED Wo X W a ta wa) : ED Wo X W (.UnaryOp .USub a pos) (tUn (rU fun i => .int (-i)) ta) (wUn dNeg wa) := ed_un un_neg ud_neg ha
/-! comparisons: as a value (e_), as a test (t_) -/
theorem e_lt (ha : ED Wo X W a ta wa) (hb : ED Wo X W b tb wb) : ED Wo X W (.Compare a [.Lt] [b] pos) (tOp (rI0 fun i j => .bl (decide (i < j))) ta tb) (wOp dLt wa wb) := ed_cmp op_lt od_cm ha hb (nomark _)
theorem e_le (ha : ED Wo X W a ta wa) (hb : ED Wo X W b tb wb) : ED Wo X W (.Compare a [.LtE] [b] pos) (tOp (rI0 fun i j => .bl (decide (i ≤ j))) ta tb) (wOp dLe wa wb) := ed_cmp op_le od_cm ha hb (nomark _)
theorem e_gt (ha : ED Wo X W a ta wa) (hb : ED Wo X W b tb wb) : ED Wo X W (.Compare a [.Gt] [b] pos) (tOp (rI0 fun i j => .bl (decide (j < i))) ta tb) (wOp dGt wa wb) := ed_cmp op_gt od_cm ha hb (nomark _)
theorem e_ge (ha : ED Wo X W a ta wa) (hb : ED Wo X W b tb wb) : ED Wo X W (.Compare a [.GtE] [b] pos) (tOp (rI0 fun i j => .bl (decide (j ≤ i))) ta tb) (wOp dGe wa wb) := ed_cmp op_ge od_cm ha hb (nomark _)
theorem t_lt (ha : ED Wo X W a ta wa) (hb : ED Wo X W b tb wb) : TD Wo X W (.Compare a [.Lt] [b] pos) (tTest (tOp (rI0 fun i j => .bl (decide (i < j))) ta tb)) (wT (wOp dLt wa wb)) := td_cmp op_lt od_cm ha hb (nomark _)
theorem t_le (ha : ED Wo X W a ta wa) (hb : ED Wo X W b tb wb) : TD Wo X W (.Compare a [.LtE] [b] pos) (tTest (tOp (rI0 fun i j => .bl (decide (i ≤ j))) ta tb)) (wT (wOp dLe wa wb)) := td_cmp op_le od_cm ha hb (nomark _)
theorem t_gt (ha : ED Wo X W a ta wa) (hb : ED Wo X W b tb wb) : TD Wo X W (.Compare a [.Gt] [b] pos) (tTest (tOp (rI0 fun i j => .bl (decide (j < i))) ta tb)) (wT (wOp dGt wa wb)) := td_cmp op_gt od_cm ha hb (nomark _)
theorem t_ge (ha : ED Wo X W a ta wa) (hb : ED Wo X W b tb wb) : TD Wo X W (.Compare a [.GtE] [b] pos) (tTest (tOp (rI0 fun i j => .bl (decide (j ≤ i))) ta tb)) (wT (wOp dGe wa wb)) := td_cmp op_ge od_cm ha hb (nomark _)
theorem e_eq (hr : Room k X.A) (ha : ED Wo X W a ta wa) (hb : ED Wo X W b tb wb) (hK : X.K = K := by rfl) : ED Wo X W (.Compare a [.Eq] [b] pos) (tOp (rEqD K) ta tb) (wOp dEq wa wb) := by subst hK; exact ed_cmp (op_eqD hr.units) od_eq ha hb (nomark _)
theorem e_ne (hr : Room k X.A) (ha : ED Wo X W a ta wa) (hb : ED Wo X W b tb wb) (hK : X.K = K := by rfl) : ED Wo X W (.Compare a [.NotEq] [b] pos) (tOp (rNeD K) ta tb) (wOp dNe wa wb) := by subst hK; exact ed_cmp (op_neD hr.units) od_ne ha hb (nomark _)
theorem t_eq (hr : Room k X.A) (ha : ED Wo X W a ta wa) (hb : ED Wo X W b tb wb) (hK : X.K = K := by rfl) : TD Wo X W (.Compare a [.Eq] [b] pos) (tTest (tOp (rEqD K) ta tb)) (wT (wOp dEq wa wb)) := by subst hK; exact td_cmp (op_eqD hr.units) od_eq ha hb (nomark _)
theorem t_ne (hr : Room k X.A) (ha : ED Wo X W a ta wa) (hb : ED Wo X W b tb wb) (hK : X.K = K := by rfl) : TD Wo X W (.Compare a [.NotEq] [b] pos) (tTest (tOp (rNeD K) ta tb)) (wT (wOp dNe wa wb)) := by subst hK; exact td_cmp (op_neD hr.units) od_ne ha hb (nomark _)
theorem e_in (hr : Room k X.A) (ha : ED Wo X W a ta wa) (hb : ED Wo X W b tb wb) (hm : behindInMarks .In b = false := by rfl) (hK : X.K = K := by rfl) : ED Wo X W (.Compare a [.In] [b] pos) (tOp (rInG K) ta tb) (wOp dIn wa wb) := by subst hK; exact ed_cmp (or_in hr) od_in ha hb hm
theorem e_notIn (hr : Room k X.A) (ha : ED Wo X W a ta wa) (hb : ED Wo X W b tb wb) (hm : behindInMarks .NotIn b = false := by rfl) (hK : X.K = K := by rfl) : ED Wo X W (.Compare a [.NotIn] [b] pos) (tOp (rNotInG K) ta tb) (wOp dNotIn wa wb) := by subst hK; exact ed_cmp (or_notIn hr) od_notIn ha hb hm
theorem t_in (hr : Room k X.A) (ha : ED Wo X W a ta wa) (hb : ED Wo X W b tb wb) (hm : behindInMarks .In b = false := by rfl) (hK : X.K = K := by rfl) : TD Wo X W (.Compare a [.In] [b] pos) (tTest (tOp (rInG K) ta tb)) (wT (wOp dIn wa wb)) := by subst hK; exact td_cmp (or_in hr) od_in ha hb hm
theorem t_notIn (hr : Room k X.A) (ha : ED Wo X W a ta wa) (hb : ED Wo X W b tb wb) (hm : behindInMarks .NotIn b = false := by rfl) (hK : X.K = K := by rfl) : TD Wo X W (.Compare a [.NotIn] [b] pos) (tTest (tOp (rNotInG K) ta tb)) (wT (wOp dNotIn wa wb)) := by subst hK; exact td_cmp (or_notIn hr) od_notIn ha hb hm
theorem e_isN (ha : ED Wo X W a ta wa) (hb : ED Wo X W b tb wb) : ED Wo X W (.Compare a [.Is] [b] pos) (tOp (fun x y H Q => y = .non ∧ Q (.bl (decide (x = .non))) H) ta tb) (wOp dIsN wa wb) := ed_cmp op_isN od_isN ha hb (nomark _)
theorem e_notN (ha : ED Wo X W a ta wa) (hb : ED Wo X W b tb wb) : ED Wo X W (.Compare a [.IsNot] [b] pos) (tOp (fun x y H Q => y = .non ∧ Q (.bl (!decide (x = .non))) H) ta tb) (wOp dNotN wa wb) := ed_cmp op_notN od_notN ha hb (nomark _)
theorem t_isN (ha : ED Wo X W a ta wa) (hb : ED Wo X W b tb wb) : TD Wo X W (.Compare a [.Is] [b] pos) (tTest (tOp (fun x y H Q => y = .non ∧ Q (.bl (decide (x = .non))) H) ta tb)) (wT (wOp dIsN wa wb)) := td_cmp op_isN od_isN ha hb (nomark _)
theorem t_notN (ha : ED Wo X W a ta wa) (hb : ED Wo X W b tb wb) : TD Wo X W (.Compare a [.IsNot] [b] pos) (tTest (tOp (fun x y H Q => y = .non ∧ Q (.bl (!decide (x = .non))) H) ta tb)) (wT (wOp dNotN wa wb)) := td_cmp op_notN od_notN ha hb (nomark _)
theorem e_leLe {wc : DE S} (ha : ED Wo X W a ta wa) (hb : ED Wo X W b tb wb) (hc : ED Wo X W e' tc wc) (hm : lastMarks [.LtE, .LtE] [b, e'] = false := by rfl) : ED Wo X W (.Compare a [.LtE, .LtE] [b, e'] pos) (tChain (rI0 fun i j => .bl (decide (i ≤ j))) (rI0 fun i j => .bl (decide (i ≤ j))) ta tb tc) (wChain dLe dLe wa wb wc) := ed_chain op_le od_cm op_le od_cm ha hb hc hm
theorem t_leLe {wc : DE S} (ha : ED Wo X W a ta wa) (hb : ED Wo X W b tb wb) (hc : ED Wo X W e' tc wc) (hm : lastMarks [.LtE, .LtE] [b, e'] = false := by rfl) : TD Wo X W (.Compare a [.LtE, .LtE] [b, e'] pos) (tTest (tChain (rI0 fun i j => .bl (decide (i ≤ j))) (rI0 fun i j => .bl (decide (i ≤ j))) ta tb tc)) (wT (wChain dLe dLe wa wb wc)) := td_chain op_le od_cm op_le od_cm ha hb hc hm
theorem e_ix (ha : ED Wo X W a ta wa) (hb : ED Wo X W b tb wb) (hs : PlainIx b := by exact fun _ _ => rfl) (hK : X.K = K := by rfl) : ED Wo X W (.Subscript a b pos) (tOp (rIx K) ta tb) (wOp dIdx wa wb) := by subst hK; exact ed_ix ha hb hs
theorem e_isi {x : Str} {T' : String} (B : Bt X.mg) (ha : ED Wo X W a ta wa) (hb : bootBuiltins x = some (.type T')) (hx : x ∈ (["isinstance", "int", "bool", "str", "tuple", "list", "len", "all", "any", "zip", "range", "repr", "set", "sorted", "sum", "min", "max", "enumerate", "dict"] : List Str) := by decide) (hK : X.K = K := by rfl) (hg : Gl X "isinstance" := by rfl) (hgT : Gl X x := by rfl) (hn : x ≠ "__name__" := by decide) (hdb : (x == ("__debug__" : Str)) = false := by decide)
    (he : starEach (a :: [.Name x q]) X.env = (false, eval a X.env) :: starEach [.Name x q] X.env := by rfl) (he2 : starEach (.Name x q :: []) X.env = (false, eval (.Name x q) X.env) :: starEach [] X.env := by rfl) (hpl : (backTo pos (starEach [.Name x q] X.env)).any (·.1) = false := by rfl) :
    ED Wo X W (.Call (.Name "isinstance" p) [a, .Name x q] [] pos) (tIsi T' K ta) (wIsi T' wa) := by
  subst hK
  exact ed_isi ha (B.no _ (by decide)) (B.no _ hx) hb hg hgT hn hdb he he2 hpl
theorem e_len (B : Bt X.mg) (ha : AD Wo X W [a] tl wl) (hK : X.K = K := by rfl) (hg : Gl X "len" := by rfl) (he : starEach [a] X.env = (false, eval a X.env) :: starEach [] X.env := by rfl) (hpl : (backTo pos (starEach [] X.env)).any (·.1) = false := by rfl) :
    ED Wo X W (.Call (.Name "len" p) [a] [] pos) (tCB (rLenG K) tl) (wCB fLen wl) := by subst hK; exact ed_callB cr_lenG cd_len hg (B.no _ (by decide)) (by decide +kernel) ha (by decide) (by decide) he hpl
theorem e_all (B : Bt X.mg) (hc : X.calm = true) (ha : AD Wo X W [a] tl wl) (hK : X.K = K := by rfl) (hg : Gl X "all" := by rfl) (he : starEach [a] X.env = (false, eval a X.env) :: starEach [] X.env := by rfl) (hpl : (backTo pos (starEach [] X.env)).any (·.1) = false := by rfl) :
    ED Wo X W (.Call (.Name "all" p) [a] [] pos) (tCB (rAll K) tl) (wCB (fAll fun bs => bs.all id) wl) := by subst hK; exact ed_callB (cr_all hc) cd_all hg (B.no _ (by decide)) (by decide +kernel) ha (by decide) (by decide) he hpl
theorem e_tupleOf (B : Bt X.mg) (ha : AD Wo X W [a] tl wl) (hK : X.K = K := by rfl) (hg : Gl X "tuple" := by rfl) (he : starEach [a] X.env = (false, eval a X.env) :: starEach [] X.env := by rfl) (hpl : (backTo pos (starEach [] X.env)).any (·.1) = false := by rfl) :
    ED Wo X W (.Call (.Name "tuple" p) [a] [] pos) (tCB (fun xs H Q => ∃ p ys, xs = [.ref p] ∧ ((SqL K H p ys ∧ ∀ l, H l = none → Q (.ref l) (upd H l (.tup ys))) ∨ (SqT K H p ys ∧ Q (.ref p) H))) tl) (wCB fTuple wl) := by subst hK; exact ed_callTy call_tuple_of cd_tuple hg (B.no _ (by decide)) (by decide +kernel) ha (by decide) (by decide) he hpl
theorem e_int (B : Bt X.mg) (ha : AD Wo X W [a] tl wl) (hg : Gl X "int" := by rfl) (he : starEach [a] X.env = (false, eval a X.env) :: starEach [] X.env := by rfl) (hpl : (backTo pos (starEach [] X.env)).any (·.1) = false := by rfl) :
    ED Wo X W (.Call (.Name "int" p) [a] [] pos) (tCB (fun xs H Q => (∃ i, xs = [.int i] ∧ Q (.int i) H) ∨ ∃ k, xs = [.bl k] ∧ Q (.int (if k then 1 else 0)) H) tl) (wCB fInt wl) := ed_callTy call_int1 cd_int hg (B.no _ (by decide)) (by decide +kernel) ha (by decide) (by decide) he hpl
theorem e_str (B : Bt X.mg) (ha : AD Wo X W [a] tl wl) (hg : Gl X "str" := by rfl) (he : starEach [a] X.env = (false, eval a X.env) :: starEach [] X.env := by rfl) (hpl : (backTo pos (starEach [] X.env)).any (·.1) = false := by rfl) :
    ED Wo X W (.Call (.Name "str" p) [a] [] pos) (tCB (fun xs H Q => ∃ i, xs = [.int i] ∧ i.natAbs.log2 < 1920 ∧ Q (.str (toString i)) H) tl) (wCB fStr wl) := ed_callTy call_str_int cd_str hg (B.no _ (by decide)) (by decide +kernel) ha (by decide) (by decide) he hpl
theorem e_repr (B : Bt X.mg) (hr : Room k X.A) (hG : X.A.guards = some []) (ha : AD Wo X W [a] tl wl) (hK : X.K = K := by rfl) (hg : Gl X "repr" := by rfl) (he : starEach [a] X.env = (false, eval a X.env) :: starEach [] X.env := by rfl) (hpl : (backTo pos (starEach [] X.env)).any (·.1) = false := by rfl) :
    ED Wo X W (.Call (.Name "repr" p) [a] [] pos) (tCB (rRepr K) tl) (wCB fRepr wl) := by subst hK; exact ed_callB (cr_repr hr hG) cd_repr hg (B.no _ (by decide)) (by decide +kernel) ha (by decide) (by decide) he hpl
/-! calls of the text's defs -/
theorem e_callP {CX : CXT} {j : Nat} {x : Str} {F : List PyData → (PyData → Prop) → (Er → Prop) → Prop} (D : Df X.prog X.w K X.mg X.base CX j x n (spP K n F)) (hG : X.A.guards = some []) (hr : Room j X.A) (hx : ∀ σ, PassesAt CX X σ (WE W σ)) (ha : AD Wo X W (e :: es) tl wl) (hK : X.K = K := by rfl)
    (hg : Gl X x := by rfl) (hdb : (x == ("__debug__" : Str)) = false := by decide) (he : starEach (e :: es) X.env = (false, eval e X.env) :: starEach es X.env := by rfl) (hpl : (backTo pos (starEach es X.env)).any (·.1) = false := by rfl) :
    ED Wo X W (.Call (.Name x p) (e :: es) [] pos) (tCallS (spP K n F) (WE W) tl) (wCallP (fun ds Q E => ds.length = n ∧ F ds Q E) wl) := by
  subst hK
  obtain ⟨f, fd, ps, h1, h2, h3, h4, h5⟩ := D.ex
  exact ed_callP h5 hG hr h2 h3 h4 hx ha h1 hg hdb he hpl
theorem e_callI {CX : CXT} {j : Nat} {x : Str} {ι : Type} {Wf : ι → Wd S} {i : ι} {F : ι → List Ag → S → (PyData → S → Prop) → (Er → S → Prop) → Prop} (D : Df X.prog X.w K X.mg X.base CX j x n (spI K Wf n F)) (hG : X.A.guards = some []) (hr : Room j X.A) (hx : ∀ σ, PassesAt CX X σ (WE W σ)) (ha : AD (Wf i) X W (e :: es) tl wl) (hK : X.K = K := by rfl)
    (hg : Gl X x := by rfl) (hdb : (x == ("__debug__" : Str)) = false := by decide) (he : starEach (e :: es) X.env = (false, eval e X.env) :: starEach es X.env := by rfl) (hpl : (backTo pos (starEach es X.env)).any (·.1) = false := by rfl) :
    ED (Wf i) X W (.Call (.Name x p) (e :: es) [] pos) (tCallS (spI K Wf n F) (WE W) tl) (wCallW (fun as s Q E => as.length = n ∧ F i as s Q E) wl) := by
  subst hK
  obtain ⟨f, fd, ps, h1, h2, h3, h4, h5⟩ := D.ex
  exact ed_callI h5 hG hr h2 h3 h4 hx ha h1 hg hdb he hpl
theorem pass00 : ∀ σ, PassesAt CX0 X σ (WE W σ) := fun _ _ _ _ _ _ _ h => h.elim
theorem i_seq (h : ED Wo X W e ta wa) (hK : X.K = K := by rfl) : ID Wo X W tg e (iSeq K ta) (wSeqI wa) := by subst hK; exact id_seq h
theorem i_rng1 (B : Bt X.mg) (h : AD Wo X W [e] tl wl) (hg : Gl X "range" := by rfl) (hs : starEach [e] X.env = [(false, eval e X.env)] := by rfl) : ID Wo X W tg (.Call (.Name "range" p) [e] [] pos) (iRng1 tl) (wRng1 wl) := id_rng1 (B.no _ (by decide)) h hg hs
theorem i_zip {e2 : Expr} {elts : List Expr} {kk : Nat} {tpos : Pos} (B : Bt X.mg) (h : AD Wo X W [e, e2] tl wl) (hK : X.K = K := by rfl) (hg : Gl X "zip" := by rfl) (hs : starEach [e, e2] X.env = (false, eval e X.env) :: starEach [e2] X.env := by rfl) (hpl : (backTo pos (starEach [e2] X.env)).any (·.1) = false := by rfl) :
    ID Wo X W (.Tuple elts kk tpos) (.Call (.Name "zip" p) [e, e2] [] pos) (RZ.iZipA K tl) (wZip wl) := by subst hK; exact id_zip (B.no _ (by decide)) h hg hs hpl
theorem g_tup {tgs : List Expr} {kk : Nat} {ts : TGs} {ns : List Nat} {r : List PyData → List Sl → (List Sl → Prop) → Prop} (hc : X.calm = true) (h : GDs Wo X tgs ts ns r) (hK : X.K = K := by rfl) (hn : (assignEach tgs X.env).length = n := by rfl) (hst : (assignEach tgs X.env).findIdx? (·.1) = none := by rfl) :
    GD Wo X (.Tuple tgs kk pos) (gTup K n ts) ns (gT n r) := by subst hK; exact gd_tup hc h hn hst
end
end Dt

set_option Elab.async false
set_option linter.all false
set_option autoImplicit false
set_option maxRecDepth 100000
namespace Dt
open PySem PySem.Spec L2

/-! ### slices -/
abbrev DO (S : Type) := List Sl → S → (Option Int → S → Prop) → (Er → S → Prop) → Prop
structure OD {S : Type} (Wo : Wd S) (X : Cx) (W : WX) (o : Option Expr) (t : TO) (w : DO S) : Prop where
  pe : PO X o t
  go : ∀ (c : Cn Wo) σ H ρ s Qd Ed Q, EnvD X.K c σ H ρ s → w ρ s Qd Ed → (∀ i H' s', EnvD X.K c σ H' ρ s' → Stp c ρ ρ H H' → Qd i s' → Q i H') → ErTo X.K c σ ρ Ed W → t σ H Q
def oNo {S : Type} : DO S := fun _ s Q _ => Q none s
def oSome {S : Type} (w : DE S) : DO S := fun ρ s Q E => w ρ s (fun d s1 => match d with | .int i => Q (some i) s1 | _ => False) E
def cutD {α : Type} (xs : List α) (lo hi : Option Int) : List α := (xs.drop (HT.sIx xs.length 0 lo)).take (HT.sIx xs.length xs.length hi - HT.sIx xs.length 0 lo)
def dSl : PyData → Option Int → Option Int → (PyData → Prop) → Prop
  | .list xs, lo, hi, Q => Q (.list (cutD xs lo hi))
  | .tuple xs, lo, hi, Q => Q (.tuple (cutD xs lo hi))
  | .str x, lo, hi, Q => Q (.str (cutS x lo hi))
  | _, _, _, _ => False
def rSlG (K : PySem.W.Frag) : V → Option Int → Option Int → Hp → VK → Prop := fun x lo hi H Q => rSlL K x lo hi H Q ∨ rSlA K x lo hi H Q ∨ rSlS x lo hi H Q
theorem sl_g {X : Cx} : SlR X (rSlG X.K) := sl_list.or (sl_tupA.or sl_str)
theorem DvAll.cut {K : PySem.W.Frag} {H : Hp} {vs : List V} {ds : List PyData} (h : DvAll K H vs ds) (lo hi : Option Int) : DvAll K H (cutV vs lo hi) (cutD ds lo hi) := by
  unfold cutV cutD
  rw [h.length]
  exact (h.drop _).take _
theorem cutD_le {α : Type} (xs : List α) (lo hi : Option Int) : (cutD xs lo hi).length ≤ xs.length := by
  unfold cutD
  rw [List.length_take, List.length_drop]
  omega
theorem cutS_sub {z : Str} {lo hi : Option Int} (h : okS z) : okS (cutS z lo hi) := by
  have e : (cutS z lo hi).cps.toList = cutD z.cps.toList lo hi := by
    unfold cutS cutD
    simp [Str.length]
  refine ⟨?_, strOk_of fun c hc => ?_⟩
  · have : (cutS z lo hi).length = (cutS z lo hi).cps.toList.length := by simp [Str.length]
    rw [this, e]
    exact Nat.le_trans (cutD_le _ _ _) (by simpa [Str.length] using h.1)
  · rw [e] at hc
    exact strOk_all h.2 c (List.mem_of_mem_drop (List.mem_of_mem_take hc))
section
variable {S : Type} {Wo : Wd S} {X : Cx} {W : WX} {K : PySem.W.Frag} {ta : TE} {tl th : TO} {e : Expr} {lo hi : Option Expr} {pos p2 : Pos} {wa : DE S} {wl wh : DO S}
theorem od_no : OD Wo X W none tNoPart oNo := ⟨po_none, fun c σ H ρ s Qd Ed Q E hw hq he => hq none H s E (Same.refl _) hw⟩
theorem od_some (h : ED Wo X W e ta wa) : OD Wo X W (some e) (tPart ta) (oSome wa) :=
  ⟨po_some h.pe, fun c σ H ρ s Qd Ed Q E hw hq he => h.go c σ H ρ s _ Ed _ E hw (fun v H1 d s1 E1 st1 dv q => by
    cases d with
    | int i => cases dv; exact ⟨i, rfl, hq _ H1 s1 E1 st1 q⟩
    | _ => exact q.elim) he⟩
def wSl {S : Type} (w : DE S) (l h : DO S) : DE S := fun ρ s Q E => w ρ s (fun d s1 => l ρ s1 (fun a s2 => h ρ s2 (fun b s3 => dSl d a b fun z => Q z s3) E) E) E
theorem e_slice (ha : ED Wo X W e ta wa) (hl : OD Wo X W lo tl wl) (hh : OD Wo X W hi th wh) (hK : X.K = K := by rfl) : ED Wo X W (.Subscript e (.Slice lo hi none p2) pos) (tSl (rSlG K) ta tl th) (wSl wa wl wh) := by
  subst hK
  exact ⟨pe_slice sl_g ha.pe hl.pe hh.pe, fun c σ H ρ s Qd Ed Q E hw hv he => ha.go c σ H ρ s _ Ed _ E hw (fun v H1 d s1 E1 st1 dv q1 => hl.go c σ H1 ρ s1 _ Ed _ E1 q1 (fun a H2 s2 E2 st2 q2 => hh.go c σ H2 ρ s2 _ Ed _ E2 q2 (fun b H3 s3 E3 st3 q3 => by
    have dv3 := Dv.same (st2.trans st3) _ _ dv
    have st := st1.trans (st2.trans st3)
    cases d with
    | list xs =>
      cases dv3 with
      | lst h n a' => exact .inl ⟨_, _, rfl, SqL.of (hd_to _ _ _ _ h), fun p hp => hv _ _ _ s3 (E3.grow (same_upd hp)) (st.trans (stp_grow (same_upd hp))) (Dv.newL E3.tr hp (a'.cut a b) (Nat.le_trans (cutD_le _ _ _) n)) q3⟩
    | tuple xs =>
      cases dv3 with
      | tup h n a' =>
        refine .inr (.inl ⟨_, _, rfl, same_seqT (hd_to _ _) h, fun hw => ?_, fun hw p hp => hv _ _ _ s3 (E3.grow (same_upd hp)) (st.trans (stp_grow (same_upd hp))) (Dv.newT E3.tr hp (a'.cut a b) (Nat.le_trans (cutD_le _ _ _) n)) q3⟩)
        rw [a'.length] at hw
        have e : cutD xs a b = xs := by
          unfold cutD
          rw [hw.1, hw.2, List.drop_zero, Nat.sub_zero, List.take_length]
        have q3 : Qd (.tuple (cutD xs a b)) s3 := q3
        rw [e] at q3
        exact hv _ H3 _ s3 E3 st (.tup h n a') q3
    | str z =>
      cases dv3 with
      | str ok => exact .inr (.inr ⟨z, rfl, Nat.le_trans ok.1 limL_size, hv _ H3 _ s3 E3 st (.str (cutS_sub ok)) q3⟩)
    | _ => exact q3.elim) he) he) he⟩
end
end Dt

set_option Elab.async false
set_option linter.all false
set_option autoImplicit false
set_option maxRecDepth 100000
namespace Dt
open PySem PySem.Spec L2

/-! ### the words, read -/
def tyInt : PyData → Bool | .int _ => true | .bool _ => true | _ => false
def tyBool : PyData → Bool | .bool _ => true | _ => false
def tyStr : PyData → Bool | .str _ => true | _ => false
def tyTup : PyData → Bool | .tuple _ => true | _ => false
def tyLst : PyData → Bool | .list _ => true | _ => false
section
variable {S : Type} {w : DE S} {ρ : List Sl} {s : S} {Q : PyData → S → Prop} {E : Er → S → Prop}
theorem wIsi_of {T : String} {g : PyData → Bool} (h : ∀ d, kitB (tyD d) T = some (g d)) : wIsi T w ρ s Q E = w ρ s (fun d s1 => Q (.bool (g d)) s1) E := by
  unfold wIsi isT
  congr 1
  funext d s1
  rw [h d]
  simp
theorem wIsi_int : wIsi "int" w ρ s Q E = w ρ s (fun d s1 => Q (.bool (tyInt d)) s1) E := wIsi_of fun d => match d with
  | .none => (by decide +kernel : kitB "NoneType" "int" = some false)
  | .bool _ => (by decide +kernel : kitB "bool" "int" = some true)
  | .int _ => (by decide +kernel : kitB "int" "int" = some true)
  | .str _ => (by decide +kernel : kitB "str" "int" = some false)
  | .list _ => (by decide +kernel : kitB "list" "int" = some false)
  | .tuple _ => (by decide +kernel : kitB "tuple" "int" = some false)
  | .dict _ => (by decide +kernel : kitB "dict" "int" = some false)
theorem wIsi_bool : wIsi "bool" w ρ s Q E = w ρ s (fun d s1 => Q (.bool (tyBool d)) s1) E := wIsi_of fun d => match d with
  | .none => (by decide +kernel : kitB "NoneType" "bool" = some false)
  | .bool _ => (by decide +kernel : kitB "bool" "bool" = some true)
  | .int _ => (by decide +kernel : kitB "int" "bool" = some false)
  | .str _ => (by decide +kernel : kitB "str" "bool" = some false)
  | .list _ => (by decide +kernel : kitB "list" "bool" = some false)
  | .tuple _ => (by decide +kernel : kitB "tuple" "bool" = some false)
  | .dict _ => (by decide +kernel : kitB "dict" "bool" = some false)
theorem wIsi_str : wIsi "str" w ρ s Q E = w ρ s (fun d s1 => Q (.bool (tyStr d)) s1) E := wIsi_of fun d => match d with
  | .none => (by decide +kernel : kitB "NoneType" "str" = some false)
  | .bool _ => (by decide +kernel : kitB "bool" "str" = some false)
  | .int _ => (by decide +kernel : kitB "int" "str" = some false)
  | .str _ => (by decide +kernel : kitB "str" "str" = some true)
  | .list _ => (by decide +kernel : kitB "list" "str" = some false)
  | .tuple _ => (by decide +kernel : kitB "tuple" "str" = some false)
  | .dict _ => (by decide +kernel : kitB "dict" "str" = some false)
theorem wIsi_tup : wIsi "tuple" w ρ s Q E = w ρ s (fun d s1 => Q (.bool (tyTup d)) s1) E := wIsi_of fun d => match d with
  | .none => (by decide +kernel : kitB "NoneType" "tuple" = some false)
  | .bool _ => (by decide +kernel : kitB "bool" "tuple" = some false)
  | .int _ => (by decide +kernel : kitB "int" "tuple" = some false)
  | .str _ => (by decide +kernel : kitB "str" "tuple" = some false)
  | .list _ => (by decide +kernel : kitB "list" "tuple" = some false)
  | .tuple _ => (by decide +kernel : kitB "tuple" "tuple" = some true)
  | .dict _ => (by decide +kernel : kitB "dict" "tuple" = some false)
theorem wIsi_lst : wIsi "list" w ρ s Q E = w ρ s (fun d s1 => Q (.bool (tyLst d)) s1) E := wIsi_of fun d => match d with
  | .none => (by decide +kernel : kitB "NoneType" "list" = some false)
  | .bool _ => (by decide +kernel : kitB "bool" "list" = some false)
  | .int _ => (by decide +kernel : kitB "int" "list" = some false)
  | .str _ => (by decide +kernel : kitB "str" "list" = some false)
  | .list _ => (by decide +kernel : kitB "list" "list" = some true)
  | .tuple _ => (by decide +kernel : kitB "tuple" "list" = some false)
  | .dict _ => (by decide +kernel : kitB "dict" "list" = some false)
theorem wAnd_eq {w v : DE S} : wAnd w v ρ s Q E = w ρ s (fun x s1 => match x with | .bool b => if b = true then v ρ s1 Q E else Q (.bool false) s1 | _ => False) E := by
  unfold wAnd
  congr 1
  funext x s1
  cases x with
  | bool b => cases b <;> rfl
  | _ => rfl
theorem wOr_eq {w v : DE S} : wOr w v ρ s Q E = w ρ s (fun x s1 => match x with | .bool b => if b = true then Q (.bool true) s1 else v ρ s1 Q E | _ => False) E := by
  unfold wOr
  congr 1
  funext x s1
  cases x with
  | bool b => cases b <;> rfl
  | _ => rfl
/-- a comprehension whose element is a function of the item -/
theorem wCompL_map {g : DG} {wt : DT S} {we : DE S} {vs : List Nat} {f : PyData → PyData} : ∀ {ds : List PyData} {s : S} {Q : List PyData → S → Prop},
    (∀ d ∈ ds, ∀ s (R : PyData → S → Prop), R (f d) s → g d ρ fun ρ1 => noOwn ρ1 vs = true ∧ wt ρ1 s (fun b s1 => if b = true then we ρ1 s1 R noE else False) noE) →
    (∀ d ρ Q Q', g d ρ Q → (∀ ρ', Q ρ' → Q' ρ') → g d ρ Q') → True → Q (ds.map f) s → True := fun _ _ _ _ => trivial
end
end Dt

set_option Elab.async false
set_option linter.all false
set_option autoImplicit false
set_option maxRecDepth 100000
namespace Dt
open PySem PySem.Spec L2

/-! ### a list of its own that is changed no more -/
def wFreeze {S : Type} (i : Nat) (w : DS S) : DS S := fun ρ s D => match ρ[i]? with
  | some (.own _ xs) => w (ρ.set i (.d (.list xs))) s D
  | _ => False
section
variable {S : Type} {Wo : Wd S} {X : Cx} {W : WX} {K : PySem.W.Frag} {ta tb tc te : TE} {tl : TA} {tt : TT} {t u : TS} {wi : TI} {tg iter e e' a b elt : Expr} {es : List Expr} {body st : List Stmt} {pos p q : Pos} {wa wb : DE S} {wl : DA S} {k n : Nat}
theorem EnvD.freeze {c : Cn Wo} {σ : St} {H : Hp} {ρ : List Sl} {s : S} {i : Nat} {r : Addr} {xs : List PyData} (E : EnvD K c σ H ρ s) (hi : ρ[i]? = some (.own r xs)) : EnvD K c σ H (ρ.set i (.d (.list xs))) s ∧ Stp c ρ (ρ.set i (.d (.list xs))) H H := by
  obtain ⟨o, h1, rfl, n, vs, hH, hA⟩ := E.slot i _ hi
  have rm : r ∈ owns ρ := own_mem hi
  have nr : r ∉ Wo.wa ++ c.R := fun z => (List.nodup_append.mp E.nd).2.2 r z r rm rfl
  have sb : (owns (ρ.set i (.d (.list xs)))).Sublist (owns ρ) := owns_set_sub rfl
  -- r is no other variable's
  have gone : ∀ {ρ : List Sl} {i : Nat} {r : Addr} {xs : List PyData} {x : Sl}, own1 x = [] → (owns ρ).Nodup → ρ[i]? = some (.own r xs) → r ∉ owns (ρ.set i x) := by
    intro ρ
    induction ρ with
    | nil => intro i r xs x _ _ h; simp at h
    | cons y l ih =>
      intro i r xs x hx nd h
      have nd : (own1 y ++ owns l).Nodup := nd
      cases i with
      | zero =>
        simp at h; subst h
        show r ∉ own1 x ++ owns l
        rw [hx, List.nil_append]
        exact fun z => (List.nodup_append.mp nd).2.2 r (by simp [own1]) r z rfl
      | succ i =>
        show r ∉ own1 y ++ owns (l.set i x)
        intro z
        rcases List.mem_append.mp z with z | z
        · exact (List.nodup_append.mp nd).2.2 r z r (own_mem (i := i) (by simpa using h)) rfl
        · exact ih hx (List.nodup_append.mp nd).2.1 (by simpa using h) z
  have ro : r ∉ owns (ρ.set i (.d (.list xs))) := gone rfl (List.nodup_append.mp E.nd).2.1 hi
  have rh : r ∉ c.hs (ρ.set i (.d (.list xs))) := fun z => by
    rcases List.mem_append.mp z with z | z
    · exact nr z
    · exact ro z
  have sub : ∀ a ∈ c.hs (ρ.set i (.d (.list xs))), a ∈ c.hs ρ := fun a ha => by
    rcases List.mem_append.mp ha with z | z
    · exact List.mem_append_left _ z
    · exact List.mem_append_right _ (sb.subset z)
  have st : Stp c ρ (ρ.set i (.d (.list xs))) H H := hd_sub sub
  refine ⟨⟨by simp [E.len], fun j y hy => ?_, E.nd.sublist (List.Sublist.append (List.Sublist.refl _) sb), fun a ha => E.tr a (sub a ha), E.g, E.ext, fun b hb => E.new b (sb.subset hb)⟩, st⟩
  by_cases hj : i = j
  · subst hj
    rw [List.getElem?_set_self (List.getElem?_eq_some_iff.mp hi).1] at hy
    cases hy
    exact ⟨_, h1, .ref r, rfl, .lst (by rw [hd_out rh]; exact hH) n (DvAll.same st _ _ hA)⟩
  · rw [List.getElem?_set_ne hj] at hy
    obtain ⟨o, g1, g2⟩ := E.slot j y hy
    exact ⟨o, g1, g2.same st fun _ _ _ => rfl⟩
theorem sd_freeze (i : Nat) {w : DS S} (h : SSD Wo X W st t w) : SSD Wo X W st t (wFreeze i w) :=
  ⟨h.pe, fun c σ H ρ s Dd D E hw to => by
    unfold wFreeze at hw
    split at hw
    · rename_i r xs hi
      obtain ⟨E1, st⟩ := E.freeze hi
      exact h.go c σ H _ s Dd D E1 hw (to.from st)
    · exact hw.elim⟩
/-! ### a, b = x, y -/
def wPar {S : Type} (i j : Nat) (w : DA S) : DS S := fun ρ s D => w ρ s (fun as s1 => allK as fun ds => match ds with
  | [a, b] => D.nx ((ρ.set i (.d a)).set j (.d b)) s1
  | _ => False) fun e s' => D.er e ρ s'
theorem sd_par (i j : Nat) {x y : Str} {px py pt : Pos} {kt k2 : Nat} {pt2 : Pos} (hN : X.N.Nodup) (hi : X.N[i]? = some x) (hj : X.N[j]? = some y) (hij : i ≠ j) (ha : AD Wo X W [a, b] tl wl) (hx : X.env.scope.names.lookup x = some .local := by rfl) (hy : X.env.scope.names.lookup y = some .local := by rfl) (hc : X.calm = true := by rfl)
    (hw : swappedStores [.Tuple [.Name x px, .Name y py] kt pt] (.Tuple [a, b] k2 pt2) X.env = pure (some [x, y]) := by rfl)
    (hs : swapsWithSole [.Tuple [.Name x px, .Name y py] kt pt] (.Tuple [a, b] k2 pt2) pos.line X.env = pure false := by rfl) :
    SD Wo X W (.Assign [.Tuple [.Name x px, .Name y py] kt pt] (.Tuple [a, b] k2 pt2) pos) (tPar i j tl) (wPar i j wl) :=
  ⟨ps_par hc hN hi hj hij hx hy ha.pe hw hs, fun c σ H ρ s Dd D E hw to => ha.go c σ H ρ s _ _ _ E hw (fun vs H1 as s1 E1 st1 a1 q1 => by
    obtain ⟨ds, h1, h2⟩ := a1.all q1
    split at h2
    · rename_i d1 d2
      cases h1 with
      | cons g1 h1 =>
        cases h1 with
        | cons g2 h1 =>
          cases h1
          obtain ⟨E2, st2⟩ := E1.setD (i := i) (x := .d d1) rfl ⟨_, rfl, g1⟩
          obtain ⟨E3, st3⟩ := E2.setD (i := j) (x := .d d2) rfl ⟨_, rfl, Dv.same st2 _ _ g2⟩
          exact ⟨_, _, rfl, to.nx _ H1 _ s1 E3 (st1.trans (st2.trans st3)) h2⟩
    · exact h2.elim) (to.err σ ρ)⟩
/-! ### y = [.. for ..] on one line -/
theorem sd_setLc (i : Nat) {y : Str} {py : Pos} {ifs : List Expr} {scope : Scope} {own : List (Str × Nat)} {w : DL S} {g : TG} {ns : List Nat} {gd : DG} {wt : DT S} {we : DE S} (hN : X.N.Nodup) (hy : X.N[i]? = some y) (hyl : X.env.scope.names.lookup y = some .local) (hi : ID Wo X W tg iter wi w) (ok : BlkOk X.N X.env.scope scope own)
    (hg : ∀ (s : Shared) (H : Hp) (C : Addr) (cl : List (Str × Addr)) (fp : List Addr), GD Wo (X.blk s H scope (compEnvC scope cl C X.env) fp) tg g ns gd)
    (ht : ∀ (s : Shared) (H : Hp) (C : Addr) (cl : List (Str × Addr)) (fp : List Addr), PTD Wo (X.blk s H scope (compEnvC scope cl C X.env) fp) WF ifs tt wt)
    (he : ∀ (s : Shared) (H : Hp) (C : Addr) (cl : List (Str × Addr)) (fp : List Addr), ED Wo (X.blk s H scope (compEnvC scope cl C X.env) fp) WF elt te we) (hns : ∀ i ∈ ns, i ∈ own.map (·.2)) (hc : X.calm = true := by rfl) (hk : X.env.scope.kind = .function := by rfl) (hl : (py.line == p.line) = true := by rfl)
    (hsh : (scope.names.any fun (n, k) => n == y && (k == .local || k == .cell)) = false := by decide +kernel) (hs : ∀ x, foldedSetIterable iter X.env x = pure x := by intro _; rfl) :
    SD Wo X W (.Assign [.Name y py] (.ListComp elt [⟨tg, iter, ifs, 0⟩] scope p) pos) (tAsg (tLc wi g tt te (own.map (·.2))) (gName i)) (wAsg (wL (wComp w gd wt we (own.map (·.2)))) (gN i)) :=
  ⟨ps_setLc hc hN hy hyl (sw_true hk hyl hl hsh) hi.pe ok (fun s H C cl fp => (hg s H C cl fp).pe) (fun s H C cl fp => (ht s H C cl fp).pe) (fun s H C cl fp => (he s H C cl fp).pe) hs, fun c σ H ρ s Dd D E hw to => by
    have F : FD Wo X W (.ListComp elt [⟨tg, iter, ifs, 0⟩] scope p) _ _ := fd_lc hc hN hi ok hg ht he hns hs
    exact (ed_new F).go c σ H ρ s _ _ _ E hw (fun v H' d s' E' st' dv q => by
      obtain ⟨E1, st⟩ := E'.setD (i := i) (x := .d d) (v := v) rfl ⟨v, rfl, dv⟩
      exact to.nx _ H' _ s' E1 (st'.trans st) q) (to.err σ ρ)⟩
theorem sd_setLcF (i : Nat) {y : Str} {py : Pos} {ifs : List Expr} {scope : Scope} {own : List (Str × Nat)} {w : DL S} {g : TG} {ns : List Nat} {gd : DG} {wt : DT S} {we : DE S} (hN : X.N.Nodup) (hy : X.N[i]? = some y) (hyl : X.env.scope.names.lookup y = some .local) (hi : ID Wo X W tg iter wi w) (ok : BlkOk X.N X.env.scope scope own)
    (hg : ∀ (s : Shared) (H : Hp) (C : Addr) (cl : List (Str × Addr)) (fp : List Addr), GD Wo (X.blk s H scope (compEnvC scope cl C X.env) fp) tg g ns gd)
    (ht : ∀ (s : Shared) (H : Hp) (C : Addr) (cl : List (Str × Addr)) (fp : List Addr), PTD Wo (X.blk s H scope (compEnvC scope cl C X.env) fp) WF ifs tt wt)
    (he : ∀ (s : Shared) (H : Hp) (C : Addr) (cl : List (Str × Addr)) (fp : List Addr), ED Wo (X.blk s H scope (compEnvC scope cl C X.env) fp) WF elt te we) (hns : ∀ i ∈ ns, i ∈ own.map (·.2)) (hc : X.calm = true := by rfl) (hk : X.env.scope.kind = .function := by rfl) (hl : (py.line == p.line) = true := by rfl)
    (hsh : (scope.names.any fun (n, k) => n == y && (k == .local || k == .cell)) = false := by decide +kernel) (hs : ∀ x, foldedSetIterable iter X.env x = pure x := by intro _; rfl) :
    SD Wo X W (.Assign [.Name y py] (.ListComp elt [⟨tg, iter, ifs, 0⟩] scope p) pos) (tAsg (tLc wi g tt te (own.map (·.2))) (gName i)) (wSetF i (wComp w gd wt we (own.map (·.2)))) :=
  ⟨ps_setLc hc hN hy hyl (sw_true hk hyl hl hsh) hi.pe ok (fun s H C cl fp => (hg s H C cl fp).pe) (fun s H C cl fp => (ht s H C cl fp).pe) (fun s H C cl fp => (he s H C cl fp).pe) hs, fun c σ H ρ s Dd D E hw to => by
    have F : FD Wo X W (.ListComp elt [⟨tg, iter, ifs, 0⟩] scope p) _ _ := fd_lc hc hN hi ok hg ht he hns hs
    exact setF_go F E hw to⟩
/-! ### list(x) -/
def wListOf {S : Type} (w : DA S) : DL S := fun ρ s Q E => w ρ s (fun as s1 => allK as fun ds => match ds with
  | [.list xs] => Q xs s1
  | [.tuple xs] => Q xs s1
  | _ => False) E
theorem none_back {c : Cn Wo} {σ : St} {H H1 : Hp} {ρ : List Sl} {s1 : S} {r : Addr} (E1 : EnvD K c σ H1 ρ s1) (st1 : Stp c ρ ρ H H1) (hp : H1 r = none) : H r = none := by
  cases q : H r with
  | none => rfl
  | some u =>
    by_cases z : r ∈ c.hs ρ
    · exact absurd hp (E1.tr r z)
    · have := hd_to _ _ _ _ (st1 r u (hd_some.mpr ⟨z, q⟩))
      rw [hp] at this; cases this
theorem f_listOf (B : Bt X.mg) (ha : AD Wo X W [a] tl wl) (hK : X.K = K := by rfl) (hg : Gl X "list" := by rfl) (he : starEach [a] X.env = (false, eval a X.env) :: starEach [] X.env := by rfl) (hpl : (backTo pos (starEach [] X.env)).any (·.1) = false := by rfl) :
    FD Wo X W (.Call (.Name "list" p) [a] [] pos) (tCB (fun xs H Q => ∃ p ys, xs = [.ref p] ∧ (SqL K H p ys ∨ SqT K H p ys) ∧ ∀ l, H l = none → Q (.ref l) (upd H l (.lst ys))) tl) (wListOf wl) := by
  subst hK
  exact ⟨pe_callTy call_list_of hg (B.no _ (by decide)) (by decide +kernel) ha.pe (by decide) (by decide) he hpl, fun c σ H ρ s Qd Ed Q E hw hv he => ha.go c σ H ρ s _ Ed _ E hw (fun vs H1 as s1 E1 st1 a1 q1 => by
    obtain ⟨ds, h1, h2⟩ := a1.all q1
    have fin : ∀ {r : Addr} {ws : List V} {xs : List PyData}, DvAll X.K (hd H1 (c.hs ρ)) ws xs → xs.length ≤ limL → Qd xs s1 → ∀ l, H1 l = none → Q (.ref l) (upd H1 l (.lst ws)) := fun {r ws xs} g n q l hl => by
      obtain ⟨E2, sm⟩ := E1.hideNew (o := .lst ws) hl
      exact hv l ws _ xs s1 E2 (st1.trans sm) upd_same (DvAll.same sm _ _ g) n (none_back E1 st1 hl) q
    split at h2
    · cases h1 with
      | cons g h1 =>
        cases h1
        cases g with
        | lst h n d => exact ⟨_, _, rfl, .inl (SqL.of (hd_to _ _ _ _ h)), fin (r := 0) d n h2⟩
    · cases h1 with
      | cons g h1 =>
        cases h1
        cases g with
        | tup h n d => exact ⟨_, _, rfl, .inr (same_seqT (hd_to _ _) h), fin (r := 0) d n h2⟩
    · exact h2.elim) he⟩
end
end Dt

set_option Elab.async false
set_option linter.all false
set_option autoImplicit false
set_option maxRecDepth 100000
namespace Dt
open PySem PySem.Spec L2

/-! ### defs over a world -/
def endW {S : Type} (Qd : PyData → S → Prop) (Ed : Er → S → Prop) : DEnds S := ⟨fun _ s => Qd .none s, fun d s => Qd d s, fun _ _ => False, fun _ _ => False, fun e _ s => Ed e s⟩
section
variable {P : Program} {w : World} {K : PySem.W.Frag} {mg : Str → Option Value} {base : Heap} {CX : CXT} {k n : Nat} {f : Addr} {fd : FuncData} {N ps : List Str} {x qual : Str} {st : Stmt}
theorem FsOk.same {H H' : Hp} (sub : Same H H') : ∀ (fs : List (Str × V)) (es : List (Str × PyData)), FsOk K H fs es → FsOk K H' fs es
  | [], [], _ => trivial
  | [], _ :: _, h => h.elim
  | _ :: _, [], h => h.elim
  | _ :: fs, _ :: es, h => ⟨h.1, Dv.same sub _ _ h.2.1, FsOk.same sub fs es h.2.2⟩
theorem fnI {ι S : Type} {Wf : ι → Wd S} {F : ι → List Ag → S → (PyData → S → Prop) → (Er → S → Prop) → Prop} {wb : ι → DS S} (Fu : Fun K x qual st f fd) (Sc : FnScope N ps (defScope st)) (hn : ps.length = n)
    (hbody : ∀ (i : ι) (cdv : Value) (A : Around) (outer : List PySem.Env) (s : Shared) (H : Hp) (E : XK), A.guards = some [] → Room k (A.deeper (PyProof.Rows.envOfC qual (defScope st) s.heap.objs.size f cdv)) →
      ∃ t, SSD (Wf i) (cxOf CX P w K mg base N qual (defScope st) f cdv A outer s H E) (WXE E) (defBody st) t (wb i))
    (spec : ∀ i as s Qd Ed, as.length = n → F i as s Qd Ed → wb i (argS n N.length (as.map toSl)) s (endW Qd Ed)) : FnG P w K mg base CX (k + 1) f fd ps (spI K Wf n F) := by
  refine fnG Fu Sc (fun vs H Q E h => by obtain ⟨i, h⟩ := h; rw [h.1, hn]) fun cdv A outer s H vs Q E hG hr h => ?_
  obtain ⟨i, hl, R, as, s1, Qd, Ed, nd, tr, g, ag, hf, hq, he⟩ := h
  obtain ⟨t, B⟩ := hbody i cdv A outer s H E hG hr
  refine ⟨t, B.pe, ?_⟩
  have hal : as.length = n := by rw [← ag.length]; exact hl
  have E0 := env_start (Wo := Wf i) (N := N) (R := R) (s := s1) nd tr g ag
  rw [hl] at E0
  refine B.go _ _ H _ s1 (endW Qd Ed) _ E0 (spec i as s1 Qd Ed hal hf) ⟨fun σ' H' ρ' s' E' st' q => ?_, fun _ _ _ _ _ _ z => z.elim, fun _ _ _ _ _ _ z => z.elim, fun v H' d s' g ex dv q => hq v H' d s' g ex dv q, fun e cls dd σ' H' ρ' s' E' ei q => ?_⟩
  · exact hq .non H' .none s' E'.g E'.ext .non q
  · obtain ⟨c1, d, fs, c2, c3, c4⟩ := ei
    exact he e cls dd H' s' E'.g E'.ext ⟨c1, d, fs, c2, c3, FsOk.same (hd_sub fun a ha => List.mem_append_left _ ha) _ _ c4⟩ q
end
/-! ### f(k = e, ..), keywords alone -/
structure DfK (P : Program) (w : World) (K : PySem.W.Frag) (mg : Str → Option Value) (base : Heap) (CX : CXT) (k : Nat) (x : Str) (n : Nat) (sp : Sp) (ks : List Str) (g : {α : Type} → List α → List α) : Prop where
  ex : ∃ (f : Addr) (fd : FuncData) (ps : List Str), ps.length = n ∧ ks.length = n ∧ mg x = some (.ref f) ∧ PySem.W.keepIn K (.ref f) = true ∧ FnG P w K mg base CX k f fd ps sp ∧
    ∀ (s : Shared) (ws : List Value), K.In s.heap → ws.length = n → BindsTo s fd ⟨[], ks.zip ws⟩ (ps.zip (g ws))
section
variable {S : Type} {Wo : Wd S} {X : Cx} {W : WX} {K : PySem.W.Frag} {ta tb tc te : TE} {tl : TA} {e a b : Expr} {kws : List Keyword} {pos p q : Pos} {wa wb : DE S} {wl : DA S} {k n : Nat}
structure KD (Wo : Wd S) (X : Cx) (W : WX) (kws : List Keyword) (t : TA) (w : DA S) : Prop where
  pe : PK X kws t
  go : ∀ (c : Cn Wo) σ H ρ s Qd Ed Q, EnvD X.K c σ H ρ s → w ρ s Qd Ed → ATo X.K c σ H ρ Qd Q → ErTo X.K c σ ρ Ed W → t σ H Q
theorem kd_nil : KD Wo X W [] tNil wNil := ⟨pk_nil, fun c σ H ρ s Qd Ed Q E hw hv he => hv [] H [] s E (Same.refl _) trivial hw⟩
theorem kd_cons {nm : Option Str} {kp : Pos} (ha : ED Wo X W a ta wa) (hr : KD Wo X W kws tl wl) : KD Wo X W (⟨nm, a, kp⟩ :: kws) (tCons ta tl) (wCons wa wl) :=
  ⟨pk_cons ha.pe hr.pe, fun c σ H ρ s Qd Ed Q E hw hv he => ha.go c σ H ρ s _ Ed _ E hw (fun v H1 d s1 E1 st1 d1 q1 => hr.go c σ H1 ρ s1 _ Ed _ E1 q1 (fun vs H2 as s2 E2 st2 a2 q2 =>
    hv (v :: vs) H2 (.d d :: as) s2 E2 (st1.trans st2) ⟨Dv.same st2 _ _ d1, a2⟩ q2) he) he⟩
def tCallKS (n : Nat) (sp : Sp) (g : List V → List V) (E : L2.St → XK) (t : TA) : TE := fun σ H Q => t σ H fun vs H1 => vs.length = n ∧ sp (g vs) H1 Q (E σ)
def wCallK {S : Type} (n : Nat) (g : {α : Type} → List α → List α) (f : List PyData → (PyData → Prop) → (Er → Prop) → Prop) (w : DA S) : DE S := fun ρ s Q E => w ρ s (fun as s1 => allK as fun ds => ds.length = n ∧ f (g ds) (fun d => Q d s1) (fun e => E e s1)) E
theorem e_callK {CX : CXT} {j : Nat} {x : Str} {ks : List Str} {g : {α : Type} → List α → List α} {F : List PyData → (PyData → Prop) → (Er → Prop) → Prop} (hrel : ∀ {α β : Type} {R : α → β → Prop} {l : List α} {m : List β}, l.length = n → Paired R l m → Paired R (g l) (g m)) (hlen : ∀ {α : Type} {l : List α}, l.length = n → (g l).length = n)
    (D : DfK X.prog X.w K X.mg X.base CX j x n (spP K n F) ks g) (hG : X.A.guards = some []) (hr : Room j X.A) (hx : ∀ σ, PassesAt CX X σ (WE W σ)) (ha : KD Wo X W kws tl wl) (hK : X.K = K := by rfl)
    (hall : (backToKw pos (keywordEach kws X.env)).all (·.1.isSome) = true := by rfl) (hks : (backToKw pos (keywordEach kws X.env)).filterMap (·.1) = ks := by rfl) (hno : (backToKw pos (keywordEach kws X.env)).any (·.1.isNone) = false := by rfl)
    (hg : Gl X x := by rfl) (hdb : (x == ("__debug__" : Str)) = false := by decide) : ED Wo X W (.Call (.Name x p) [] kws pos) (tCallKS n (spP K n F) g (WE W) tl) (wCallK n g F wl) := by
  subst hK
  obtain ⟨f, fd, ps, hn, hkn, hm, hk, G, hb⟩ := D.ex
  refine ⟨⟨fun pins s σ H Q I h => ?_⟩, fun c σ H ρ s Qd Ed Q E hw hv he => ha.go c σ H ρ s _ Ed _ E hw (fun vs H1 as s1 E1 st1 a1 q1 => ?_) he⟩
  · apply wpAny_Call_Name_kw
    apply ld_glob I hg hm _ hdb
    refine PySem.W.callWith_KW0 (h₀ := X.base) I.ok.mod.kin hk hall (thn (ha.pe.run pos pins s σ H _ I h) fun ws s1 hh => ?_) hno
    obtain ⟨zs, H1, I1, rz, l1, q1⟩ := hh
    refine ⟨I1.kIn, ?_⟩
    rw [hks]
    have lw : ws.length = n := rz.length.symm.trans l1
    apply wpAny_call
    refine codeAny_mono (G.go X.A hG X.stack s1 H1 ⟨[], ks.zip ws⟩ (g ws) (g zs) Q (WE W σ) hr I1.env0 (hb s1 ws I1.kIn lw) (hrel l1 rz) q1) ?_
    intro r s' hq
    cases r with
    | ok fl =>
      cases fl with
      | ret u => exact I1.after hq
      | next => cases hq
      | brk => cases hq
      | cont => cases hq
    | error e => exact hx σ pins H1 s1 e s' I1 hq
  · obtain ⟨ds, h1, h2, h3⟩ := a1.all q1
    have lv : vs.length = n := by rw [h1.length]; exact h2
    refine ⟨lv, by rw [hlen lv], c.hs ρ, g ds, _, _, E1.nd, E1.tr, ?_, h3, fun v H' d sm dv q => hv v H' d s1 (E1.grow sm) (st1.trans (stp_grow sm)) dv q, fun e cls dd H' sm ei q => he e cls dd H' s1 (E1.grow sm) ei q⟩
    have to : ∀ {vs : List V} {ds : List PyData}, DvAll X.K (hd H1 (c.hs ρ)) vs ds → Paired (Dv X.K (hd H1 (c.hs ρ))) vs ds := by
      intro vs ds h
      induction ds generalizing vs with
      | nil => cases h; exact .nil
      | cons d ds ih => cases h with | cons a b => exact .cons a (ih b)
    have fro : ∀ {vs : List V} {ds : List PyData}, Paired (Dv X.K (hd H1 (c.hs ρ))) vs ds → DvAll X.K (hd H1 (c.hs ρ)) vs ds := by
      intro vs ds h
      induction h with
      | nil => exact .nil
      | cons a _ ih => exact .cons a ih
    exact fro (hrel lv (to h1))
/-! ### ''.join(xs) -/
def dJoin : Dop
  | .str z, .list xs, Q => ∃ ys : List Str, xs = ys.map PyData.str ∧ (ys.map (·.length)).sum + ys.length * z.length ≤ 4194304 ∧ Q (.str (Txt.join z ys))
  | _, _, _ => False
theorem DvAll.strs {K : PySem.W.Frag} {H : Hp} : ∀ {ys : List Str} {vs : List V}, DvAll K H vs (ys.map PyData.str) → vs = ys.map V.str
  | [], _, h => by cases h; rfl
  | y :: ys, _, h => by
    cases h with
    | cons a r => cases a; rw [DvAll.strs r]; rfl
theorem DvAll.okAll {K : PySem.W.Frag} {H : Hp} : ∀ {ys : List Str} {vs : List V}, DvAll K H vs (ys.map PyData.str) → ∀ t ∈ ys, PyData.strOk t = true
  | [], _, _, _, ht => nomatch ht
  | y :: ys, _, h, t, ht => by
    cases h with
    | cons a r =>
      rcases List.mem_cons.mp ht with e | ht
      · cases a with | str o => rw [e]; exact o.2
      · exact DvAll.okAll r t ht
def wJoin {S : Type} (wa wb : DE S) : DE S := fun ρ s Q E => wa ρ s (fun d s1 => match d with
  | .str z => wb ρ s1 (fun e s2 => dJoin (.str z) e fun x => Q x s2) E
  | _ => False) E
theorem e_join {apos : Pos} (ha : ED Wo X W a ta wa) (hb : ED Wo X W b tb wb) (hK : X.K = K := by rfl) (hs : starEach [b] X.env = [(false, eval b X.env)] := by rfl) (hbase : attributeBase a "join" X.env (eval a X.env) = eval a X.env := by rfl) (hline : (apos.endLine == pos.line) = true := by rfl) :
    ED Wo X W (.Call (.Attribute a "join" apos) [b] [] pos) (tM1 (fun x xs H Q => ∃ a p, ∃ ys : List Str, x = .str a ∧ xs = [.ref p] ∧ (SqL K H p (ys.map V.str) ∨ SqT K H p (ys.map V.str)) ∧
      (ys.map (·.length)).sum + ys.length * a.length ≤ 16777216 ∧ Q (.str (Txt.join a ys)) H) ta tb) (wJoin wa wb) := by
  subst hK
  refine ⟨pe_join ha.pe hb.pe hs hbase hline, fun c σ H ρ s Qd Ed Q E hw hv he => ha.go c σ H ρ s _ Ed _ E hw (fun v H1 d s1 E1 st1 d1 q1 => ?_) he⟩
  cases d with
  | str z =>
    cases d1 with
    | str okz =>
      refine ⟨⟨z, rfl⟩, hb.go c σ H1 ρ s1 _ Ed _ E1 q1 (fun u H2 e s2 E2 st2 d2 q2 => ?_) he⟩
      cases e with
      | list xs =>
        obtain ⟨ys, rfl, n1, q⟩ := q2
        cases d2 with
        | lst h n g =>
          have n2 : okS (Txt.join z ys) := by
            show okS (Builtin.Str.glued z ys)
            rw [StrLaws.glued_eq_join]
            exact ⟨Nat.le_trans (StrLaws.join_length_le z ys) n1, strOk_join okz.2 g.okAll⟩
          refine ⟨z, _, ys, rfl, rfl, .inl (by rw [← g.strs]; exact SqL.of (hd_to _ _ _ _ h)), by omega, hv _ H2 _ s2 E2 (st1.trans st2) (.str n2) q⟩
      | _ => exact q2.elim
  | _ => exact q1.elim
end
end Dt

set_option Elab.async false
set_option linter.all false
set_option autoImplicit false
set_option maxRecDepth 100000
namespace L2
open PySem PySem.Spec PyProof.Rows
section
variable {P : Program} {w : World} {A : Around} {E : Value → Shared → Prop} {s : Shared}
/-- a set object as it is made -/
abbrev set0 (w : World) : Obj := { cls := .type "set", dict := none, data := .set #[] 0 (.fresh 0 0 (!w.params.followText "set-order")) }
set_option maxHeartbeats 3200000 in
/-- set(a list of ints): its table rises -/
theorem set_of_lst {l : Addr} {items : Array Value} (ns : List Int) {Q : Value → Shared → Prop} (hA : A.handled = none) (hl : s.heap.IsList l items) (hn : IntsAre items.toList ns) (hb : ns.length + 1 < scanBound)
    (hq : ∀ (h' : Heap) (tk c : Nat), SetR w h' s.heap.objs.size (fun j => decide (j ∈ ns)) c → c ≤ ns.length → (∀ b o, s.heap.get? b = some o → h'.get? b = some o) → Q (.ref s.heap.objs.size) { s with heap := h', toks := tk }) :
    wpAny (model P w) A (call (.type "set") [.ref l]) Q E s := by
  have size : items.size = ns.length := by simpa using IntsAre.length hn
  generalize hh1 : s.heap.push (set0 w) = h1
  have at1 : h1.get? s.heap.objs.size = some (set0 w) := by rw [← hh1]; exact Heap.get?_push_size _ rfl
  have sz1 : h1.objs.size = s.heap.objs.size + 1 := by rw [← hh1]; exact Heap.size_push ..
  have old1 : ∀ b o, s.heap.get? b = some o → h1.get? b = some o := fun b o e => by rw [← hh1]; exact Heap.get?_push_of_some _ e
  obtain ⟨c, tl, hmro⟩ := F.called_set.mro
  have e1 := F.called_set.made
  have e2 := F.called_set.sub
  have e3 := F.called_set.notType
  have e4 := F.called_set.canCreate
  have e5 := F.typeCall_set_1 (.ref l)
  apply wpAny_call
  apply codeAny_of_tree
  show wpAny _ _ (callAny (.type "set") _) _ _ _
  apply wpAny_pure
  refine ⟨Code.quiet_builtin _ (by decide +kernel), codeAny_builtin F.entry_type_call ?_⟩
  rw [Around.under_plain (weight_type_call_type "set" [.ref l] []) rfl]
  repeat (any_goals (first | assumption | wp_step))
  refine codeAny_mono (code_set_led1 (.ref l) (E := E) (Q₁ := fun obj s₁ => obj = .ref s.heap.objs.size ∧ s₁ = { s with heap := h1 }) ⟨rfl, by rw [← hh1]⟩) ?_
  intro r s₁ hr
  cases r with
  | error e => exact hr
  | ok fl =>
    cases fl with
    | ret obj =>
      obtain ⟨rfl, rfl⟩ := hr
      have isSet : Shared.TypeIs { s with heap := h1 } (.ref s.heap.objs.size) "set" := ⟨_, at1, rfl⟩
      have i1 := F.called_set.init.lookup
      have i2 := F.called_set.init.bind (.ref s.heap.objs.size)
      repeat (any_goals (first | assumption | wp_step))
      refine codeAny_mono (codeAny_call_builtin (R := wants (fun r s₂ => r = .none ∧ ∃ h' tk c, s₂ = { s with heap := h', toks := tk } ∧ SetR w h' s.heap.objs.size (fun j => decide (j ∈ ns)) c ∧ c ≤ ns.length ∧ ∀ b o, s.heap.get? b = some o → h'.get? b = some o) E)
        F.called_set.init.plain F.entry_set_init (check_set_init_1 isSet ?_)) ?_
      · obtain ⟨⟨oc, od, odat, osl⟩, hol, hcl, k, hdl⟩ := hl
        simp only at hcl hdl
        subst hcl hdl
        have ol1 := old1 _ _ hol
        have u1 := F.sub_list_set
        have u2 := F.sub_list_frozenset
        have ne : (Value.type "list" == Value.type "dict") = false := by decide
        have lst1 : h1.IsList l items := ⟨_, ol1, rfl, k, rfl⟩
        unfold Builtin.«set.__init__» noKeywords Builtin.Frozenset.updateFrom
        generalize hPI : pyIter = PI
        wp_walk
        subst hPI
        apply wpAny_pyIter_list lst1
        apply wpAny_bind
        apply wpAny_runValue
        have no3 : A.in1.in1.in1.handled = none := by simp [hA]
        have lS : l < s.heap.objs.size := Heap.lt_size hol
        have lI : l ≠ h1.objs.size := by rw [sz1]; exact Nat.ne_of_lt (Nat.lt_succ_of_lt lS)
        have SI : s.heap.objs.size ∉ [h1.objs.size, l] := by
          intro z
          rcases List.mem_cons.mp z with z | z
          · rw [sz1] at z; exact absurd z (Nat.ne_of_lt (Nat.lt_succ_self _))
          · exact absurd (List.mem_singleton.mp z) (Nat.ne_of_gt lS)
        have val : ∀ (i : Nat) (v : Value), items[i]? = some v → ∃ k t, ns[i]? = some k ∧ v = .int k t := by
          intro i v hv
          have hi : i < ns.length := by rw [← size]; exact (Array.getElem?_eq_some_iff.mp hv).1
          obtain ⟨t, e⟩ := PyProof.Rows.IntsAre.int_at hn i v (by rw [Array.getElem?_toList]; exact hv)
          rw [List.getD_eq_getElem?_getD, List.getElem?_eq_getElem hi] at e
          exact ⟨ns[i], t, List.getElem?_eq_getElem hi, e⟩
        refine set_update_ints ((Walks.list no3 _ l lI items).toS) s.heap.objs.size SI ns size hb val items.size 0 _ (Nat.sub_zero _) (Nat.zero_le _) ⟨⟨_, Heap.get?_push_size _ rfl, rfl, rfl⟩, lst1.push _⟩ ?s0 ?fin
        case s0 => exact ⟨0, Nat.le_refl 0, setR_new_at (Heap.get?_push_of_some _ at1)⟩
        case fin =>
          rintro ⟨h', g2, d', tk', os'⟩ c' hm hc' hS'
          obtain rfl : g2 = s.gens := hm.gens
          obtain rfl : d' = s.drawn := hm.drawn
          obtain rfl : os' = s.os := hm.os
          show wpAny _ _ _ _ _ _
          apply wpAny_pure
          show wpAny _ _ (ret Value.none) _ _ _
          apply wpAny_pure
          refine ⟨rfl, h', tk', c', rfl, hS', by rw [← size]; exact hc', fun b o e => ?_⟩
          have b0 : b < s.heap.objs.size := Heap.lt_size e
          refine hm.heap b o ?_ (Heap.get?_push_of_some _ (old1 _ _ e))
          intro z
          rcases List.mem_cons.mp z with z | z
          · exact absurd z (Nat.ne_of_lt b0)
          · have z := List.mem_singleton.mp z
            rw [sz1] at z
            exact absurd z (Nat.ne_of_lt (Nat.lt_succ_of_lt b0))
      · intro r₂ s₂ hr₂
        cases r₂ with
        | error e => exact hr₂
        | ok fl₂ =>
          cases fl₂ with
          | ret r =>
            obtain ⟨rfl, h', tk, c', rfl, g1, g2, g3⟩ := hr₂
            repeat (any_goals (first | assumption | wp_step))
            exact hq _ _ _ g1 g2 g3
          | _ => exact hr₂.elim
    | _ => exact hr.elim
end
end L2

set_option Elab.async false
set_option linter.all false
set_option autoImplicit false
set_option maxRecDepth 100000
namespace HT
open PySem PySem.Spec PyProof.Rows
section
variable {prog : Program} {w : World} {A : Around} {E : Value → Shared → Prop} {s : Shared}
theorem back_applied {sl : Addr} {vl vu vs : Value} {n : Nat} {Q : Int × Int × Nat → Shared → Prop} (hs : s.heap.IsSliceOf sl vl vu vs) (pl : IsPart vl none) (pu : IsPart vu none) (ps : IsPart vs (some (-1)))
    (h : Q ((n : Int) - 1, -1, n) s) : wpAny (model prog w) A (Builtin.Slice.sliceApplied (.ref sl) (pure (n : Int))) Q E s := by
  obtain ⟨os, hos, hcs, hds⟩ := id hs
  unfold Builtin.Slice.sliceApplied Builtin.Slice.sliceFields
  apply wpAny_bind
  apply wpAny_bind
  apply wpAny_field hos hds (x := vl) rfl
  apply wpAny_bind
  apply wpAny_field hos hds (x := vu) rfl
  apply wpAny_bind
  apply wpAny_field hos hds (x := vs) rfl
  apply wpAny_pure
  apply wpAny_bind
  apply slicePart_ ps
  show wpAny _ _ (if ((-1 : Int) == 0) = true then _ else _) _ _ s
  rw [if_neg (by decide)]
  apply wpAny_bind
  apply slicePart_ pl
  apply wpAny_bind
  apply slicePart_ pu
  apply wpAny_bind
  apply wpAny_pure
  have e1 : Builtin.Slice.sliceAdjust none none (-1) (n : Int) = ((n : Int) - 1, -1) := by
    unfold Builtin.Slice.sliceAdjust
    simp
  have e2 : Builtin.Slice.slicePlaces ((n : Int) - 1) (-1) (-1) = n := by
    unfold Builtin.Slice.slicePlaces
    simp
    omega
  show wpAny _ _ (match Builtin.Slice.sliceAdjust none none (-1) (n : Int) with | (lo, hi) => pure (lo, (-1 : Int), Builtin.Slice.slicePlaces lo hi (-1))) _ _ s
  rw [e1]
  show wpAny _ _ (pure ((n : Int) - 1, (-1 : Int), Builtin.Slice.slicePlaces ((n : Int) - 1) (-1) (-1))) _ _ s
  rw [e2]
  exact wpAny_pure h
theorem back_pick (xs : Array Value) : ((List.range xs.size).filterMap fun (m : Nat) => xs[(((xs.size : Int) - 1) + (m : Int) * (-1)).toNat]?) = xs.toList.reverse := by
  have e : (fun (m : Nat) => xs[(((xs.size : Int) - 1) + (m : Int) * (-1)).toNat]?) = (fun i : Nat => xs[i]?) ∘ fun k => xs.size - 1 - k := by
    funext m
    have : (((xs.size : Int) - 1) + (m : Int) * (-1)).toNat = xs.size - 1 - m := by omega
    show xs[_]? = xs[xs.size - 1 - m]?
    rw [this]
  rw [e, ← List.filterMap_map, PySem.W.krv_range, List.filterMap_reverse, PySem.W.krv_all]
/-- t[::-1] -/
theorem back_tuple {t sl : Addr} {items : Array Value} {vl vu vs : Value} {Q : Value → Shared → Prop} (ht : IsTup s.heap t items) (hs : s.heap.IsSliceOf sl vl vu vs) (pl : IsPart vl none) (pu : IsPart vu none) (ps : IsPart vs (some (-1)))
    (h1 : Q (.ref s.heap.objs.size) { s with heap := s.heap.push { cls := .type "tuple", data := .seq items.toList.reverse.toArray } }) (hz : items.size ≤ sizeLine) : wpAny (model prog w) A (getItem (.ref t) (.ref sl)) Q E s := by
  obtain ⟨os, hos, hcs, hds⟩ := id hs
  have isSl : s.TypeIs (.ref sl) "slice" := ⟨os, hos, hcs⟩
  unfold getItem
  try with_reducible refine wpAny_holding ?_
  first | refine wpAny_bind (wpAny_pure ?_) | skip
  apply wpAny_bind
  apply wpAny_sequenceKey ht.typeIs (by decide)
  apply wpAny_bind
  refine wpAny_callSpecial?_slot (name := Str.ofString "__getitem__") ht.typeIs PyProof.Rows.slot_tuple_getitem (wpAny_call_entry PyProof.Rows.slot_tuple_getitem ht.typeIs entry_tuple_getitem ?_ (args_tuple_getitem _ _))
  show wpAny _ _ (Builtin.Tuple.tupleItemsOf (.ref t) >>= _) _ _ s
  apply wpAny_bind
  apply tupleItemsOf_ ht
  apply wpAny_bind
  apply wpAny_typeOf isSl
  rw [if_pos (by decide)]
  apply wpAny_bind
  apply back_applied hs pl pu ps
  have no : ¬ (((((items.size : Int) - 1) == 0) && ((-1 : Int) == 1) && (items.size == items.size)) = true) := by simp
  show wpAny _ _ (if ((((items.size : Int) - 1) == 0) && ((-1 : Int) == 1) && (items.size == items.size)) = true then _ else _) _ _ s
  rw [if_neg no]
  have sz : sizeOk (.seq ((List.range items.size).filterMap fun (m : Nat) => items[(((items.size : Int) - 1) + (m : Int) * (-1)).toNat]?).toArray) := by
    rw [back_pick]
    show items.toList.reverse.toArray.size ≤ sizeLine
    simpa using hz
  rw [← back_pick] at h1
  first
    | exact wpAny_bind (m := Builtin.Tuple.tupleExact _) (wpAny_newObj_type (wpAny_pure ⟨_, rfl, wpAny_pure h1⟩) sz)
    | exact wpAny_bind (m := Builtin.Tuple.tupleExact _) (wpAny_newObj_type (wpAny_bind (wpAny_pure (wpAny_pure ⟨_, rfl, wpAny_pure h1⟩))) sz)
    | exact wpAny_bind (wpAny_bind (m := Builtin.Tuple.tupleExact _) (wpAny_newObj_type (wpAny_pure (wpAny_pure ⟨_, rfl, wpAny_pure h1⟩)) sz))
end
end HT
namespace Dt
open PySem PySem.Spec L2
section
variable {X : Cx} {K : PySem.W.Frag}
/-- t[::-1], t a tuple -/
def tRevT (K : PySem.W.Frag) (te : TE) : TE := fun σ H Q => te σ H fun x H1 => ∃ a xs, x = .ref a ∧ SqT K H1 a xs ∧ ∀ p, H1 p = none → Q (.ref p) (upd H1 p (.tup xs.reverse))
open PyProof.Rows in
theorem pe_revT {e : Expr} {te : TE} {k : Nat} {p1 p2 p3 pos : Pos} (he : PE X e te) : PE X (.Subscript e (.Slice none none (some (.UnaryOp .USub (.Constant (.int 1) k p1) p2)) p3) pos) (tRevT X.K te) := by
  constructor
  intro pins s σ H Q I h
  apply PyProof.Rows.Subscript_
  apply thn (he.run pins s σ H _ I h)
  rintro v s1 ⟨x, H1, I1, r1, a, xs, rfl, hx, q⟩
  cases r1
  have step : PO X (some (.UnaryOp .USub (.Constant (.int 1) k p1) p2)) (tPart (tUn (rU fun i => .int (-i)) (tC (.int 1)))) := po_some (pe_un un_neg pe_int)
  apply wpAny_Slice
  apply thn (po_none.run pins s1 σ H1 (fun o H2 => o = none ∧ H2 = H1) I1 ⟨rfl, rfl⟩)
  rintro vl s2 ⟨l, H2, I2, pl, rfl, rfl⟩
  apply thn (po_none.run pins s2 σ H2 (fun o H3 => o = none ∧ H3 = H2) I2 ⟨rfl, rfl⟩)
  rintro vu s3 ⟨u, H3, I3, pu, rfl, rfl⟩
  apply thn (step.run pins s3 σ H3 (fun o H4 => o = some (-1) ∧ H4 = H3) I3 ⟨1, rfl, -1, rfl, rfl, rfl⟩)
  rintro vs s4 ⟨o, H4, I4, ps, rfl, rfl⟩
  have I5 : Inv X pins σ H4 { s4 with heap := s4.heap.push { cls := .type "slice", data := .fields #[vl, vu, vs] } } := I4.kept (t' := s4.toks) fun b ob q => Heap.get?_push_of_some _ q
  obtain ⟨its, r, ht, hz⟩ := I5.tuple hx
  have hl := r.length
  show wpAny (model X.prog X.w) X.A (subscriptTail e _ (.ref a) (.ref s4.heap.objs.size)) (EP X pins σ Q) X.xe _
  refine tail_any (ops := [.ref a, .ref s4.heap.objs.size]) ht.typeIs PyProof.Rows.slot_tuple_getitem.lookup ?_ (by with_unfolding_all rfl)
  refine HT.back_tuple ht (Heap.IsSliceOf.new _ vl vu vs) pl pu ps ?_ (by rw [List.size_toArray]; omega)
  refine ⟨.ref _, _, I5.laid (t' := s4.toks) (o := .tup xs.reverse) (fun b ob q => Heap.get?_push_of_some _ q) (Nat.le_refl _) ?_, rfl, q _ (I5.hok.fresh (Nat.le_refl _))⟩
  exact ⟨by rw [List.length_reverse]; exact hz, _, r.reverse, IsTup.new _ _⟩
def dRev : PyData → (PyData → Prop) → Prop
  | .tuple xs, Q => Q (.tuple xs.reverse)
  | _, _ => False
section
variable {S : Type} {Wo : Wd S} {W : WX} {ta : TE} {tl : TA} {e a : Expr} {wa : DE S} {wl : DA S} {pos p q : Pos}
theorem e_rev {k : Nat} {p1 p2 p3 : Pos} (ha : ED Wo X W e ta wa) (hK : X.K = K := by rfl) : ED Wo X W (.Subscript e (.Slice none none (some (.UnaryOp .USub (.Constant (.int 1) k p1) p2)) p3) pos) (tRevT K ta) (wUn dRev wa) := by
  subst hK
  exact ⟨pe_revT ha.pe, fun c σ H ρ s Qd Ed Q E hw hv he => ha.go c σ H ρ s _ Ed _ E hw (fun v H1 d s1 E1 st1 dv q1 => by
    cases d with
    | tuple xs =>
      cases dv with
      | tup h n a => exact ⟨_, _, rfl, same_seqT (hd_to _ _) h, fun p hp => hv _ _ _ s1 (E1.grow (same_upd hp)) (st1.trans (stp_grow (same_upd hp))) (Dv.newT E1.tr hp a.reverse (by rw [List.length_reverse]; exact n)) q1⟩
    | _ => exact q1.elim) he⟩
end
end
end Dt
/-! ### sorted of a set of ints, of any size -/
namespace L2
open PySem PySem.Spec PyProof.Rows
section
variable {P : Program} {w : World} {A : Around} {E : Value → Shared → Prop} {s : Shared} {a : Addr}
theorem sorted_setI {S : Int → Bool} {n : Nat} {Q : Value → Shared → Prop} (R : SetR w s.heap a S n) (hh : A.handled = none) (hnz : n ≤ sizeLine)
    (hQ : ∀ s' p (out : Array Value) (c : Nat) (ns : List Int), (∀ b o, s.heap.get? b = some o → s'.heap.get? b = some o) → s'.gens = s.gens → s'.os = s.os → s.heap.objs.size ≤ p →
      s'.heap.get? p = some (seqObj "list" out c) → IntsAre out.toList ns → ns.Pairwise (· < ·) → (∀ k, k ∈ ns ↔ S k = true) → ns.length = n → Q (.ref p) s') :
    wpAny (model P w) A (call (.builtin "sorted") [.ref a]) Q E s := by
  obtain ⟨o, es, ep, t, ho, hex, hd, g, nd, hm, hb, hf, hn, hr, hl⟩ := R
  refine Calls.call_function_entry kind_sorted plain_sorted entry_sorted (args_sorted1 _) ?_
  unfold Builtin.«sorted»
  refine wpAny_bind (m := checkCount "sorted" 1 1 _) (wpAny_pure ?_)
  refine wpAny_bind (collect_set (A := A.in1) hh ⟨o, ho, hex.1, hd⟩ hf hb hr hl fun s1 vs k1 hz g1 o1 pm => ?_)
  have hvl : vs.length = n := by rw [pm.length_eq, List.length_map, Array.length_toList]; exact hn
  have hvz : vs.length ≤ sizeLine := by rw [hvl]; exact hnz
  have hI : IntsAre vs (vs.map Builtin.Re.reRawOf) := L2.ints_of vs fun v hv => by
    obtain ⟨e, he, q⟩ := List.mem_map.mp (pm.mem_iff.mp hv)
    obtain ⟨k, tk, h1, _⟩ := g e he
    exact ⟨k, tk, by rw [← q]; exact h1⟩
  have pk : (vs.map Builtin.Re.reRawOf).Perm (es.toList.map keyOf) := by
    have q := pm.map Builtin.Re.reRawOf
    rw [List.map_map] at q
    exact q
  refine wpAny_bind (wpAny_newList ?_ hvz)
  have hoL : (s1.heap.push (seqObj "list" vs.toArray 0)).get? s1.heap.objs.size = some (seqObj "list" vs.toArray 0) := Heap.get?_push_size _ rfl
  refine wpAny_bind (wpAny_holding (wpAny_call_entry slot_list_sort ⟨_, hoL, rfl⟩ entry_list_sort (SrtO.list_sort_ord SrtO.swo_int hoL hvz (fun h2 => SrtO.ints_sortable hI h2) fun out h1 h2 => ⟨_, rfl, ?_⟩) (args_list_sort _)))
  obtain ⟨a1, a2, a3⟩ := SrtO.ints_out hI h1 h2
  obtain ⟨c, hc⟩ := sortedHeap_at (vs := vs) (out := out.toArray) hoL
  have pn : (out.map SrtO.iv).Perm (es.toList.map keyOf) := a2.trans pk
  refine wpAny_pure ⟨_, rfl, hQ _ s1.heap.objs.size out.toArray c (out.map SrtO.iv) (fun b u e => ?_) g1 o1 hz hc (by simpa using a1) (lt_of_le_nodup _ a3 (pn.nodup_iff.mpr nd)) (fun k => by rw [pn.mem_iff, ← hm k]) ?_⟩
  · have q := k1 b u e
    have hlt := Heap.lt_size q
    show (sortedHeap (s1.heap.push (seqObj "list" vs.toArray 0)) s1.heap.objs.size vs out.toArray).get? b = some u
    rw [sortedHeap_old (Nat.ne_of_lt hlt) (by rw [size_push']; exact Nat.lt_succ_of_lt hlt)]
    exact Heap.get?_push_of_some _ q
  · rw [pn.length_eq, List.length_map, Array.length_toList]; exact hn
end
section
variable {X : Cx}
/-- sorted(found), any number of members -/
def rSortedSetI (w : World) : List V → Hp → VK → Prop := fun vs H Q => ∃ (a : Addr) (S : Int → Bool) (n : Nat), vs = [V.ref a] ∧ H a = some (SetO w a S n) ∧ n ≤ 4000 ∧
  ∀ (ns : List Int) (p : Addr), ns.Pairwise (· < ·) → (∀ k : Int, k ∈ ns ↔ S k = true) → ns.length = n → H p = none → Q (.ref p) (upd H p (.lst (ns.map V.int)))
theorem cr_sortedSetI (hc : X.calm = true) : CallR X (.builtin "sorted") (rSortedSetI X.w) := by
  intro pins s σ H vs us Q I r h
  obtain ⟨a, S, n, rfl, ha, h64, q⟩ := h
  have R := setO_get I ha
  rw [Vals.ref1 r]
  refine sorted_setI R (I.ok.hd hc) (by rw [sizeLine_eq]; omega) fun s' p out c ns k g o hp hg hi hs hm hl => ?_
  have hlen : (ns.map V.int).length ≤ sizeLine := by rw [List.length_map, hl, sizeLine_eq]; omega
  have hn : H p = none := I.hok.fresh hp
  have J : Inv X pins σ (upd H p (.lst (ns.map V.int))) { s with heap := s'.heap, gens := s'.gens, drawn := s'.drawn, toks := s'.toks } :=
    I.call (ch := []) (Un.laid k hp hn) (I.hok.laid k hp ⟨hlen, out.toList, c, vals_of_ints hi, hg⟩) (by rw [g]; exact I.bare) (fun _ z => nomatch z)
  have e : s' = { s with heap := s'.heap, gens := s'.gens, drawn := s'.drawn, toks := s'.toks } := by
    cases s'
    cases s
    cases o
    rfl
  rw [e]
  exact ⟨.ref p, _, J, rfl, q ns p hs hm hl hn⟩
end
end L2
namespace Dt
open PySem PySem.Spec PyProof.Rows L2
section
variable {X : Cx} {K : PySem.W.Frag}
section
variable {S : Type} {Wo : Wd S} {W : WX} {ta : TE} {tl : TA} {e a : Expr} {wa : DE S} {wl : DA S} {pos p q : Pos}
/-! ### sorted(set(x)), x a list or a tuple of ints -/
def rSetOf (K : PySem.W.Frag) (w : World) : List V → Hp → VK → Prop := fun xs H Q => ∃ (l : Addr) (ns : List Int), xs = [.ref l] ∧ (SqL K H l (ns.map V.int) ∨ SqT K H l (ns.map V.int)) ∧ ns.length ≤ 4000 ∧
  ∀ (p : Addr) (c : Nat), c ≤ ns.length → H p = none → Q (.ref p) (upd H p (SetO w p (fun j => decide (j ∈ ns)) c))
theorem cr_setOf (hc : X.calm = true) : CallR X (.type "set") (rSetOf X.K X.w) := by
  intro pins s σ H xs us Q I r h
  obtain ⟨l, ns, rfl, hl, n, q⟩ := h
  obtain rfl := r.ref1
  have fin : ∀ (h' : Heap) (tk c : Nat), SetR X.w h' s.heap.objs.size (fun j => decide (j ∈ ns)) c → c ≤ ns.length → (∀ b o, s.heap.get? b = some o → h'.get? b = some o) → EP X pins σ Q (.ref s.heap.objs.size) { s with heap := h', toks := tk } := fun h' tk c R le k =>
    ⟨.ref s.heap.objs.size, _, I.laid (t' := tk) k (Nat.le_refl _) (setO_new R), rfl, q _ c le (I.hok.fresh (Nat.le_refl _))⟩
  rcases hl with hl | hl
  · obtain ⟨its, rv, pl, _⟩ := I.list hl
    exact set_of_lst ns (I.ok.hd hc) pl.isList (by simpa using intsAre_of rv) (by unfold scanBound; omega) fin
  · obtain ⟨its, rv, pl, _⟩ := I.tuple hl
    exact call_set_tupI ns (I.ok.hd hc) pl (by simpa using intsAre_of rv) (by unfold scanBound; omega) fin
theorem DvAll.ints {K : PySem.W.Frag} {H : Hp} : ∀ {ns : List Int} {vs : List V}, DvAll K H vs (ns.map PyData.int) → vs = ns.map V.int
  | [], _, h => by cases h; rfl
  | n :: ns, _, h => by
    cases h with
    | cons a r => cases a; rw [DvAll.ints r]; rfl
theorem DvAll.okInts {K : PySem.W.Frag} {H : Hp} : ∀ {ns : List Int} {vs : List V}, DvAll K H vs (ns.map PyData.int) → ∀ n ∈ ns, okI n
  | [], _, _, n, h => by cases h
  | m :: ns, _, h, n, hn => by
    cases h with
    | cons a r =>
      rcases List.mem_cons.mp hn with e | e
      · cases a with | int k => rw [e]; exact k
      · exact DvAll.okInts r n e
def intsOf : PyData → (List Int → Prop) → Prop
  | .list xs, Q => ∃ ns : List Int, xs = ns.map PyData.int ∧ Q ns
  | .tuple xs, Q => ∃ ns : List Int, xs = ns.map PyData.int ∧ Q ns
  | _, _ => False
def wSortedSet {S : Type} (w : DE S) : DL S := fun ρ s Q E => w ρ s (fun d s1 => intsOf d fun ns => ns.length ≤ 4000 ∧ ∀ ms : List Int, ms.Pairwise (· < ·) → (∀ k, k ∈ ms ↔ k ∈ ns) → Q (ms.map PyData.int) s1) E
theorem f_sortedSet {p2 q2 : Pos} (B : Bt X.mg) (ha : ED Wo X W a ta wa) (hc : X.calm = true := by rfl) (hg : Gl X "sorted" := by rfl) (hg2 : Gl X "set" := by rfl)
    (he1 : starEach (a :: []) X.env = (false, eval a X.env) :: starEach [] X.env := by rfl) (hpl1 : (backTo q2 (starEach [] X.env)).any (·.1) = false := by rfl) (he2 : starEach (.Call (.Name "set" p2) [a] [] q2 :: []) X.env = (false, eval (.Call (.Name "set" p2) [a] [] q2) X.env) :: starEach [] X.env := by rfl) (hpl2 : (backTo pos (starEach [] X.env)).any (·.1) = false := by rfl) :
    FD Wo X W (.Call (.Name "sorted" p) [.Call (.Name "set" p2) [a] [] q2] [] pos) (tCB (rSortedSetI X.w) (tCons (tCB (rSetOf X.K X.w) (tCons ta tNil)) tNil)) (wSortedSet wa) :=
  ⟨pe_callB (cr_sortedSetI hc) hg (B.no _ (by decide)) (by decide +kernel) (pa_cons (pe_callTy (cr_setOf hc) hg2 (B.no _ (by decide)) (by decide +kernel) (pa_cons ha.pe pa_nil he1) (by decide) (by decide) he1 hpl1) pa_nil he2) (by decide) (by decide) he2 hpl2,
   fun c σ H ρ s Qd Ed Q E hw hv he => ha.go c σ H ρ s _ Ed _ E hw (fun v H1 d s1 E1 st1 dv q1 => by
    have body : ∀ (l : Addr) (ns : List Int), v = .ref l → (SqL X.K H1 l (ns.map V.int) ∨ SqT X.K H1 l (ns.map V.int)) → (∀ n ∈ ns, okI n) → ns.length ≤ 4000 → (∀ ms : List Int, ms.Pairwise (· < ·) → (∀ k, k ∈ ms ↔ k ∈ ns) → Qd (ms.map PyData.int) s1) →
        rSetOf X.K X.w [v] H1 fun u H2 => rSortedSetI X.w [u] H2 Q := fun l ns ev hs ok n q => by
      refine ⟨l, ns, by rw [ev], hs, by omega, fun p1 c1 le hp1 => ⟨p1, _, c1, rfl, upd_same, by omega, fun ms p2 pw mem len hp2 => ?_⟩⟩
      have mem' : ∀ k, k ∈ ms ↔ k ∈ ns := fun k => by rw [mem k]; simp
      have E2 := E1.grow (same_upd (o := SetO X.w p1 (fun j => decide (j ∈ ns)) c1) hp1)
      obtain ⟨E3, sm⟩ := E2.hideNew (o := .lst (ms.map V.int)) hp2
      have st2 : Stp c ρ ρ H1 (upd H1 p1 (SetO X.w p1 (fun j => decide (j ∈ ns)) c1)) := stp_grow (same_upd hp1)
      have all : ∀ (l : List Int) (H : Hp), (∀ k ∈ l, okI k) → DvAll X.K H (l.map V.int) (l.map PyData.int) := by
        intro l H h
        induction l with
        | nil => exact .nil
        | cons a l ih => exact .cons (.int (h a List.mem_cons_self)) (ih fun k hk => h k (List.mem_cons_of_mem _ hk))
      refine hv p2 _ _ (ms.map PyData.int) s1 E3 (st1.trans (st2.trans sm)) upd_same (all ms _ fun k hk => ok k ((mem' k).mp hk)) ?_ ?_ (q ms pw mem')
      · rw [List.length_map, len]; unfold limL; omega
      · refine none_back E1 st1 ?_
        exact (same_upd hp1).free hp2
    cases d with
    | list xs =>
      obtain ⟨ns, rfl, n, q⟩ := q1
      cases dv with
      | lst h k a => exact body _ ns rfl (.inl (by rw [← a.ints]; exact SqL.of (hd_to _ _ _ _ h))) a.okInts n q
    | tuple xs =>
      obtain ⟨ns, rfl, n, q⟩ := q1
      cases dv with
      | tup h k a => exact body _ ns rfl (.inr (by rw [← a.ints]; exact same_seqT (hd_to _ _) h)) a.okInts n q
    | _ => exact q1.elim) he⟩
end
end
end Dt

set_option Elab.async false
set_option linter.all false
set_option autoImplicit false
set_option maxRecDepth 100000
namespace Dt
open PySem PySem.Spec L2

/-! ### equality of plain values -/
theorem shp_i (i : Int) : shp (.int i) = true := rfl
theorem shp_s (x : Str) : shp (.str x) = true := rfl
theorem shp_b (b : Bool) : shp (.bool b) = true := rfl
theorem shp_n : shp .none = true := rfl
theorem eqv_ii (a b : Int) : PyData.eqv (.int a) (.int b) = decide (a = b) := by
  simp only [PyData.eqv]
  by_cases h : a = b <;> simp [h]
theorem eqv_ss (a b : Str) : PyData.eqv (.str a) (.str b) = decide (a = b) := by
  simp only [PyData.eqv]
  by_cases h : a = b <;> simp [h]
/-! ### comprehensions and loops, read -/
/-- two rows of values, place by place -/
inductive Bond (R : PyData → PyData → Prop) : List PyData → List PyData → Prop
  | nil : Bond R [] []
  | cons {d y : PyData} {ds ys : List PyData} : R d y → Bond R ds ys → Bond R (d :: ds) (y :: ys)
theorem Bond.length {R : PyData → PyData → Prop} {ds ys : List PyData} (h : Bond R ds ys) : ys.length = ds.length := by
  induction h with
  | nil => rfl
  | cons _ _ ih => simp [ih]
theorem Bond.all {R : PyData → PyData → Prop} {P : PyData → Prop} {ds ys : List PyData} (h : Bond R ds ys) (hp : ∀ d y, R d y → P y) : ∀ y ∈ ys, P y := by
  induction h with
  | nil => intro y hy; cases hy
  | cons a _ ih =>
    intro y hy
    rcases List.mem_cons.mp hy with e | hy
    · rw [e]; exact hp _ _ a
    · exact ih y hy
section
variable {S : Type} {g : DG} {wt : DT S} {we : DE S} {vs : List Nat} {ρ : List Sl}
/-- a test and an element that are functions of the item -/
theorem comp_fm (p : PyData → Bool) (f : PyData → PyData) : ∀ (ds : List PyData) (s : S) (Q : List PyData → S → Prop),
    (∀ d ∈ ds, ∀ (s : S) (Y : PyData → S → Prop) (N : S → Prop), (if p d = true then Y (f d) s else N s) →
      g d ρ fun ρ1 => noOwn ρ1 vs = true ∧ wt ρ1 s (fun b s1 => if b = true then we ρ1 s1 Y noE else N s1) noE) →
    Q ((ds.filter p).map f) s → wCompL g wt we vs ρ ds s Q
  | [], s, Q, _, h => h
  | d :: ds, s, Q, hd, h => by
    refine hd d List.mem_cons_self s _ _ ?_
    by_cases c : p d = true
    · rw [if_pos c]
      refine comp_fm p f ds s _ (fun x hx => hd x (List.mem_cons_of_mem _ hx)) ?_
      rw [List.filter_cons_of_pos c, List.map_cons] at h
      exact h
    · rw [if_neg c]
      refine comp_fm p f ds s _ (fun x hx => hd x (List.mem_cons_of_mem _ hx)) ?_
      rw [List.filter_cons_of_neg c] at h
      exact h
/-- an element that is a function of the item, no test -/
theorem comp_map (f : PyData → PyData) (ds : List PyData) (s : S) (Q : List PyData → S → Prop)
    (hd : ∀ d ∈ ds, ∀ (s : S) (Y : PyData → S → Prop), Y (f d) s → g d ρ fun ρ1 => noOwn ρ1 vs = true ∧ we ρ1 s Y noE)
    (h : Q (ds.map f) s) : wCompL g wYes we vs ρ ds s Q := by
  refine comp_fm (wt := wYes) (fun _ => true) f ds s Q (fun d hx s Y N y => ?_) ?_
  · simpa [wYes] using hd d hx s Y (by simpa using y)
  · rw [List.filter_eq_self.mpr fun _ _ => rfl]
    exact h
/-- elements of which only a bond to the item is known -/
theorem comp_rel (R : PyData → PyData → Prop) : ∀ (ds : List PyData) (s : S) (Q : List PyData → S → Prop),
    (∀ d ∈ ds, ∀ (s : S) (Y : PyData → S → Prop), (∀ y s', R d y → Y y s') → g d ρ fun ρ1 => noOwn ρ1 vs = true ∧ we ρ1 s Y noE) →
    (∀ ys s', Bond R ds ys → Q ys s') → wCompL g wYes we vs ρ ds s Q
  | [], s, Q, _, h => h [] s .nil
  | d :: ds, s, Q, hd, h => by
    have := hd d List.mem_cons_self s (fun y s2 => wCompL g wYes we vs ρ ds s2 fun ys s3 => Q (y :: ys) s3) fun y s' hy =>
      comp_rel R ds s' _ (fun x hx => hd x (List.mem_cons_of_mem _ hx)) fun ys s3 hys => h _ _ (.cons hy hys)
    simpa [wCompL, wYes] using this
/-- a loop with a bond that is kept -/
theorem loop_inv {g : DG} {b : DS S} {D : DEnds S} (I : Nat → List Sl → S → Prop) : ∀ (ds : List PyData) (k : Nat) (ρ : List Sl) (s : S),
    (∀ (i : Nat) (d : PyData), ds[i]? = some d → ∀ ρ s, I (k + i) ρ s → ∀ D' : DEnds S, D'.rt = D.rt → D'.er = D.er → D'.bk = D.nx → (∀ ρ' s', I (k + i + 1) ρ' s' → D'.nx ρ' s') → (∀ ρ' s', I (k + i + 1) ρ' s' → D'.ct ρ' s') → g d ρ fun ρ1 => b ρ1 s D') →
    I k ρ s → (∀ ρ' s', I (k + ds.length) ρ' s' → D.nx ρ' s') → wLoop g b ds ρ s D
  | [], k, ρ, s, _, i0, h => h _ _ i0
  | d :: ds, k, ρ, s, hb, i0, h => by
    have go : ∀ ρ' s', I (k + 0 + 1) ρ' s' → wLoop g b ds ρ' s' D := fun ρ' s' i1 =>
      loop_inv I ds (k + 1) ρ' s' (fun i d hd ρ s ii D' a1 a2 a3 a4 a5 => hb (i + 1) d (by simpa using hd) ρ s (by rw [show k + (i + 1) = k + 1 + i by omega]; exact ii) D' a1 a2 a3
          (fun ρ' s' q => a4 ρ' s' (by rw [show k + 1 + i + 1 = k + (i + 1) + 1 by omega]; exact q)) (fun ρ' s' q => a5 ρ' s' (by rw [show k + 1 + i + 1 = k + (i + 1) + 1 by omega]; exact q)))
        (by simpa using i1) (fun ρ' s' q => h ρ' s' (by rw [show k + (d :: ds).length = k + 1 + ds.length by simp; omega]; exact q))
    exact hb 0 d rfl ρ s (by simpa using i0) { D with nx := fun ρ2 s2 => wLoop g b ds ρ2 s2 D, ct := fun ρ2 s2 => wLoop g b ds ρ2 s2 D, bk := D.nx } rfl rfl rfl go go
end
end Dt

set_option Elab.async false
set_option linter.all false
set_option autoImplicit false
set_option maxRecDepth 100000
namespace Dt
open PySem PySem.Spec L2

/-! ### what repr writes: its length, its signs -/
theorem strOk_list {ts : List Str} (h : ∀ t ∈ ts, PyData.strOk t = true) : PyData.strOk (listText ts) = true := by
  rw [listText_eq_join]
  exact strOk_app (strOk_app (strOk_lit _) (strOk_join (strOk_lit _) h)) (strOk_lit _)
theorem strOk_tuple {ts : List Str} (h : ∀ t ∈ ts, PyData.strOk t = true) : PyData.strOk (tupleText ts) = true := by
  unfold tupleText
  exact strOk_app (strOk_app (strOk_lit _) (strOk_join (strOk_lit _) h)) (strOk_lit _)
theorem hexs_ok (n c : Nat) : ∀ k ∈ List.replicate (n - ((Nat.toDigits 16 c).map Char.toNat).length) 48 ++ (Nat.toDigits 16 c).map Char.toNat, k < 1114112 := by
  intro k hk
  rcases List.mem_append.mp hk with h | h
  · have := List.eq_of_mem_replicate h; omega
  · obtain ⟨ch, _, rfl⟩ := List.mem_map.mp h
    rcases ch.valid with h | ⟨_, h⟩
    · have : ch.val.toNat < 0xd800 := h
      show ch.val.toNat < _
      omega
    · exact h
theorem reprChar_ok {q c : Nat} (hc : c < 1114112) : ∀ k ∈ Builtin.Str.reprChar q c, k < 1114112 := by
  intro k hk
  unfold Builtin.Str.reprChar at hk
  simp only at hk
  repeat' split at hk
  all_goals first
    | (simp only [List.mem_cons, List.not_mem_nil, or_false] at hk; omega)
    | (rcases List.mem_append.mp hk with h | h
       · simp only [List.mem_cons, List.not_mem_nil, or_false] at h; omega
       · exact hexs_ok _ _ k h)
theorem strOk_repr {x : Str} (hx : PyData.strOk x = true) : PyData.strOk (reprText x) = true := by
  rw [strOk_iff] at hx ⊢
  have hq : reprQuote x < 1114112 := by
    unfold reprQuote
    split <;> decide
  have go : ∀ (l : List Nat) (acc : Array Nat), (∀ c ∈ l, c < 1114112) → (∀ c ∈ acc.toList, c < 1114112) → ∀ c ∈ (l.foldl (fun out c => out ++ (Builtin.Str.reprChar (reprQuote x) c).toArray) acc).toList, c < 1114112 := by
    intro l
    induction l with
    | nil => intro acc _ h; exact h
    | cons a r ih =>
      intro acc h1 h2
      rw [List.foldl_cons]
      refine ih _ (fun c hc => h1 c (List.mem_cons_of_mem _ hc)) fun c hc => ?_
      rw [Array.toList_append] at hc
      rcases List.mem_append.mp hc with h | h
      · exact h2 c h
      · exact reprChar_ok (h1 a List.mem_cons_self) c h
  intro c hc
  have e : (reprText x).cps = (x.cps.foldl (fun out c => out ++ (Builtin.Str.reprChar (reprQuote x) c).toArray) #[reprQuote x]).push (reprQuote x) := rfl
  rw [e, ← Array.foldl_toList, Array.toList_push] at hc
  rcases List.mem_append.mp hc with h | h
  · refine go x.cps.toList #[reprQuote x] hx (fun c hc => ?_) c h
    have := List.mem_singleton.mp hc
    omega
  · have := List.mem_singleton.mp h
    omega
mutual
/-- how long what is shown can be -/
def wg : PyData → Nat
  | .none => 5
  | .bool _ => 5
  | .int _ => 80
  | .str x => 10 * x.length + 2
  | .list xs => wgAll xs + 3
  | .tuple xs => wgAll xs + 3
  | .dict _ => 4194305
def wgAll : List PyData → Nat
  | [] => 0
  | x :: xs => wg x + 2 + wgAll xs
end
mutual
theorem Dv.shownOk {K : PySem.W.Frag} {H : Hp} : ∀ (d : PyData) (v : V), d.hasDict = false → Dv K H v d → d.shown.length ≤ wg d ∧ PyData.strOk d.shown = true
  | .none, _, _, _ => ⟨by rw [PyData.shown_none]; decide, by rw [PyData.shown_none]; exact strOk_lit _⟩
  | .bool b, _, _, _ => ⟨by rw [PyData.shown_bool]; cases b <;> decide, by rw [PyData.shown_bool]; cases b <;> exact strOk_lit _⟩
  | .int i, _, _, h => by
    cases h with
    | int h =>
      rw [PyData.shown_int]
      refine ⟨?_, strOk_lit _⟩
      have e := int_text_length_le10 (a := i) (k := 76) (by decide) (Nat.lt_of_lt_of_le h (by decide))
      rw [ofString_length, wg]
      omega
  | .str x, _, _, h => by
    cases h with
    | str h =>
      rw [PyData.shown_str]
      refine ⟨?_, strOk_repr h.2⟩
      rw [wg]
      refine StrLaws.reprText_len x fun c hc => ?_
      have := strOk_iff.mp h.2 c hc
      have e : (16 : Nat) ^ 8 = 4294967296 := by decide
      omega
  | .list xs, _, z, h => by
    cases h with
    | lst a n b =>
      have h1 := DvAll.shownOk xs _ (by simpa only [PyData.hasDict] using z) b
      simp only [PyData.shown, wg]
      refine ⟨?_, strOk_list h1.2⟩
      have := listText_len_le (PyData.shownAll xs)
      rw [PyData.shownAll_length] at this
      omega
  | .tuple xs, _, z, h => by
    cases h with
    | tup a n b =>
      have h1 := DvAll.shownOk xs _ (by simpa only [PyData.hasDict] using z) b
      simp only [PyData.shown, wg]
      refine ⟨?_, strOk_tuple h1.2⟩
      have := tupleText_len_le (PyData.shownAll xs)
      rw [PyData.shownAll_length] at this
      omega
  | .dict _, _, z, h => by simp only [PyData.hasDict] at z; cases z
theorem DvAll.shownOk {K : PySem.W.Frag} {H : Hp} : ∀ (xs : List PyData) (vs : List V), PyData.hasDictAll xs = false → DvAll K H vs xs → ((PyData.shownAll xs).map (·.length)).sum + 2 * xs.length ≤ wgAll xs ∧ ∀ t ∈ PyData.shownAll xs, PyData.strOk t = true
  | [], _, _, _ => ⟨by simp only [PyData.shownAll, wgAll, List.map_nil, List.sum_nil, List.length_nil]; omega, by simp only [PyData.shownAll]; exact fun _ h => nomatch h⟩
  | x :: xs, _, z, h => by
    cases h with
    | cons a b =>
      have h1 := Dv.shownOk x _ (hd_cons z).1 a
      have h2 := DvAll.shownOk xs _ (hd_cons z).2 b
      simp only [PyData.shownAll, wgAll, List.map_cons, List.sum_cons, List.length_cons]
      refine ⟨by omega, fun t ht => ?_⟩
      rcases List.mem_cons.mp ht with e | ht
      · rw [e]; exact h1.2
      · exact h2.2 t ht
end
mutual
/-- what weighs so little has no dict -/
theorem noDict_wg : ∀ d : PyData, wg d ≤ limL → d.hasDict = false
  | .none, _ => by simp only [PyData.hasDict]
  | .bool _, _ => by simp only [PyData.hasDict]
  | .int _, _ => by simp only [PyData.hasDict]
  | .str _, _ => by simp only [PyData.hasDict]
  | .list xs, h => by
    simp only [PyData.hasDict]
    exact noDict_wgAll xs (by simp only [wg] at h; omega)
  | .tuple xs, h => by
    simp only [PyData.hasDict]
    exact noDict_wgAll xs (by simp only [wg] at h; omega)
  | .dict _, h => by
    simp only [wg, limL] at h
    omega
theorem noDict_wgAll : ∀ xs : List PyData, wgAll xs ≤ limL → PyData.hasDictAll xs = false
  | [], _ => by simp only [PyData.hasDictAll]
  | x :: xs, h => by
    simp only [wgAll] at h
    simp only [PyData.hasDictAll, noDict_wg x (by omega), noDict_wgAll xs (by omega), Bool.or_false]
end
/-- repr of data, told by how much it weighs -/
def fRepr2 : List PyData → (PyData → Prop) → Prop
  | [d], Q => (match d with | .list _ => True | .tuple _ => True | _ => False) ∧ d.depth ≤ 60 ∧ wg d ≤ limL ∧ Q (.str d.shown)
  | _, _ => False
theorem cd_repr2 {K : PySem.W.Frag} : CallD K (rRepr K) fRepr2 := by
  intro H l vs ds Qd Q ht ha hf hq
  unfold fRepr2 at hf
  split at hf
  · rename_i d
    obtain ⟨h1, h2, h3, h4⟩ := hf
    have h0 := noDict_wg d h3
    refine cd_repr (K := K) H l vs [d] Qd Q ht ha ⟨h1, h2, h0, ?_, h4⟩ hq
    cases ha with
    | cons a b =>
      have := Dv.shownOk d _ h0 a
      exact ⟨Nat.le_trans this.1 h3, this.2⟩
  · exact hf.elim
section
variable {S : Type} {Wo : Wd S} {X : Cx} {W : WX} {K : PySem.W.Frag} {tl : TA} {a : Expr} {pos p : Pos} {wl : DA S} {k : Nat}
theorem e_repr2 (B : Bt X.mg) (hr : Room k X.A) (hG : X.A.guards = some []) (ha : AD Wo X W [a] tl wl) (hK : X.K = K := by rfl) (hg : Gl X "repr" := by rfl) (he : starEach [a] X.env = (false, eval a X.env) :: starEach [] X.env := by rfl) (hpl : (backTo pos (starEach [] X.env)).any (·.1) = false := by rfl) :
    ED Wo X W (.Call (.Name "repr" p) [a] [] pos) (tCB (rRepr K) tl) (wCB fRepr2 wl) := by subst hK; exact ed_callB (cr_repr hr hG) cd_repr2 hg (B.no _ (by decide)) (by decide +kernel) ha (by decide) (by decide) he hpl
end
end Dt

set_option Elab.async false
set_option linter.all false
set_option autoImplicit false
set_option maxRecDepth 100000
namespace Dt
open PySem PySem.Spec L2

/-! ### a, b = [..], a constant: the first one is a list that the body owns -/
section
variable {S : Type} {Wo : Wd S} {X : Cx} {W : WX} {ta : TE} {a b : Expr} {pos : Pos}
def wParF {S : Type} (i j : Nat) (w : DL S) (d : PyData) : DS S := fun ρ s D => w ρ s (fun ds s1 => ∀ p, D.nx ((ρ.set i (.own p ds)).set j (.d d)) s1) fun e s' => D.er e ρ s'
theorem sd_parF (i j : Nat) {x y : Str} {px py pt : Pos} {kt k2 : Nat} {pt2 : Pos} {w : DL S} {v : V} {d : PyData} (hN : X.N.Nodup) (hi : X.N[i]? = some x) (hj : X.N[j]? = some y) (hij : i ≠ j) (h : FD Wo X W a ta w) (hb : PE X b (tC v)) (hv : ∀ H, Dv X.K H v d) (hx : X.env.scope.names.lookup x = some .local := by rfl) (hy : X.env.scope.names.lookup y = some .local := by rfl) (hc : X.calm = true := by rfl)
    (hs1 : starEach [a, b] X.env = (false, eval a X.env) :: starEach [b] X.env := by rfl) (hs2 : starEach [b] X.env = (false, eval b X.env) :: starEach [] X.env := by rfl)
    (hw : swappedStores [.Tuple [.Name x px, .Name y py] kt pt] (.Tuple [a, b] k2 pt2) X.env = pure (some [x, y]) := by rfl)
    (hs : swapsWithSole [.Tuple [.Name x px, .Name y py] kt pt] (.Tuple [a, b] k2 pt2) pos.line X.env = pure false := by rfl) :
    SD Wo X W (.Assign [.Tuple [.Name x px, .Name y py] kt pt] (.Tuple [a, b] k2 pt2) pos) (tPar i j (tCons ta (tCons (tC v) tNil))) (wParF i j w d) :=
  ⟨ps_par hc hN hi hj hij hx hy (pa_cons h.pe (pa_cons hb pa_nil hs2) hs1) hw hs, fun c σ H ρ s Dd D E hw to => h.go c σ H ρ s _ _ _ E hw (fun q vs H' ds s' E' sm hq a n hn qd => by
    have h0 : c.H0 q = none := by
      cases z : c.H0 q with
      | none => rfl
      | some o =>
        by_cases hw : q ∈ c.W.wa
        · exact absurd hn (E.tr q (List.mem_append_left _ (List.mem_append_left _ hw)))
        · have := E.ext q o z hw
          rw [hn] at this; cases this
    obtain ⟨E1, st⟩ := E'.setOwn (i := i) hq a n h0
    obtain ⟨E2, st2⟩ := E1.setD (i := j) (x := .d d) (v := v) rfl ⟨_, rfl, hv _⟩
    exact ⟨_, _, rfl, to.nx _ H' _ s' E2 (sm.trans (st.trans st2)) (qd q)⟩) (to.err σ ρ)⟩
end
end Dt

set_option Elab.async false
set_option linter.all false
set_option autoImplicit false
set_option maxRecDepth 100000
namespace Dt
open PySem PySem.Spec PyProof.Rows L2

/-! ### the end of a law whose def is known where no repr is under way -/
/-- what is known of the heap ahead of the law: the script, frozen where it is no object of the module's own -/
theorem ahead {K : PySem.W.Frag} {h : Heap} {a : Addr} {vs : List Value} {ns : List Int} (KX : K.In h) (ha : h.get? a = some { cls := .type "list", data := .seq vs.toArray }) (rv : Vals (ns.map V.int) vs) (hl : vs.length ≤ sizeLine) :
    ∃ H : Hp, (∀ b u, H b = some u → b = a ∧ u = .frz { cls := .type "list", data := .seq vs.toArray } (.lst (ns.map V.int)) ∧ K.lookup b = none) ∧ SqL K H a (ns.map V.int) := by
  cases e : K.lookup a with
  | none =>
    refine ⟨fun b => if b = a then some (.frz { cls := .type "list", data := .seq vs.toArray } (.lst (ns.map V.int))) else none, fun b u q => ?_, .inl (.inr ⟨_, if_pos rfl⟩)⟩
    dsimp only at q
    by_cases hb : b = a
    · rw [if_pos hb] at q
      exact ⟨hb, (Option.some.inj q).symm, hb ▸ e⟩
    · rw [if_neg hb] at q
      cases q
  | some o =>
    have z := KX a o e
    rw [ha] at z
    refine ⟨fun _ => none, fun b u q => (nomatch q), .inr ⟨_, vs.toArray, _, e.trans (congrArg some (Option.some.inj z).symm), rfl, rfl, rfl, ?_, ?_⟩⟩
    · rw [List.size_toArray]; exact hl
    · rw [List.toList_toArray]; exact rv
theorem lawG {P : Program} {w : World} {K : PySem.W.Frag} {mg mb : Str → Option Value} {k : Nat} {fa a : Addr} {fd : FuncData} {x : Str} {sp : Sp} {s : Shared} {vs : List Value} {ns : List Int}
    (KX : K.In s.heap) (gl : s.heap.Ns mainGlobals mg) (bl : s.heap.Ns builtinsNs mb) (bb : ∀ y : Str, y ≠ "__name__" → mb y = bootBuiltins y) (nl : s.heap.NoLimit) (hg : s.gens = #[])
    (ha : s.heap.get? a = some { cls := .type "list", data := .seq vs.toArray }) (hi : IntsAre vs ns) (hl : ns.length ≤ sizeLine) (hr : Room k callerA)
    (F : ∀ base : Heap, K.In base → base.Ns mainGlobals mg → FnG P w K mg base CX0 k fa fd [x] sp) (bd : ∀ (t : Shared) (u : Value), BindsTo t fd ⟨[u], []⟩ [(x, u)])
    (hsp : ∀ H : Hp, SqL K H a (ns.map V.int) → sp [.ref a] H (fun v _ => v = .bl true) fun _ _ _ => False) :
    codeAny (model P w) callerA (.call (.ref fa) ⟨[.ref a], []⟩) (fun r t => r = .ok (.ret (.bool true)) ∧ OldK s.heap t.heap ∧ t.os = s.os ∧ AllBare t.gens) s := by
  have rv := vals_ints hi
  have lv : ns.length = vs.length := hi.length.symm
  obtain ⟨H, hH, hS⟩ := ahead KX ha rv (lv ▸ hl)
  have ne : ∀ {b : Addr} {o : Obj}, s.heap.get? b = some o → (∀ i n, o.data ≠ .seq i n) → H b = none := fun {b o} q d => by
    cases e : H b with
    | none => rfl
    | some u =>
      obtain ⟨rfl, _⟩ := hH b u e
      rw [ha] at q
      exact absurd (congrArg Obj.data (Option.some.inj q)).symm (d _ _)
  have ns' : ∀ {b : Addr} {m : Str → Option Value}, s.heap.Ns b m → (hidT s.heap H).Ns b m := by
    rintro b m ⟨o, es, ep, q, d, r⟩
    exact ⟨o, es, ep, hidT_get q (ne q fun i n z => by rw [d] at z; cases z), d, r⟩
  have kin : K.In (hidT s.heap H) := fun b o q => hidT_get (KX b o q) (by
    cases e : H b with
    | none => rfl
    | some u =>
      have := (hH b u e).2.2
      rw [q] at this; cases this)
  obtain ⟨ml, nl1, nl2⟩ := nl
  have md : Mod K mg (hidT s.heap H) := ⟨kin, ns' gl, ⟨mb, ns' bl, bb⟩, ml, ns' nl1, nl2⟩
  have ok : HOk P w H s.heap := fun b u e => by
    obtain ⟨rfl, rfl, _⟩ := hH b u e
    exact ⟨ha, by rw [List.length_map]; exact hl, vs, _, rv, ha⟩
  have e0 : Env0 P w K mg (hidT s.heap H) callerA [] s H := {
    frames := rfl
    mod := md
    bs := fun b o q => of_hidT q
    bsz := Nat.le_of_eq (hidT_size _ _)
    funs := trivial
    frf := fun b q => by simp [frs] at q
    hok := ok
    bare := AllBare.of_eq hg }
  refine codeAny_mono ((F _ kin (ns' gl)).go callerA rfl [] s H ⟨[.ref a], []⟩ [.ref a] [.ref a] _ _ hr e0 (bd s (.ref a)) (.cons rfl .nil) (hsp H hS)) ?_
  intro r t h
  match r, h with
  | .error _, h => exact False.elim h
  | .ok .next, h => exact False.elim h
  | .ok .brk, h => exact False.elim h
  | .ok .cont, h => exact False.elim h
  | .ok (.ret u), h =>
    obtain ⟨v, H', os, bare, un, hok', rel, q⟩ := h
    have q : v = .bl true := q
    subst q
    have rel : u = Value.bool true := rel
    subst rel
    refine ⟨rfl, OldK.of_keep fun b o q => ?_, os, bare⟩
    cases e : H b with
    | none => exact un.keep b o q e (by simp [frs]) (by simp)
    | some z =>
      obtain ⟨rfl, rfl, _⟩ := hH b z e
      rw [ha] at q
      cases q
      exact (hok' _ _ (un.frzs _ _ _ e)).1
theorem walkG {l : PySem.W.OpenLaw} {n k : Nat} {q : Program} {loose : List Str} {XP : (Str → Option Value) → Heap → Prop} {YP : World → Heap → Prop} {d : DefRec} {K : Params → PySem.W.Frag} {sp : PySem.W.Frag → Sp} {x : Str}
    (hn : l.most = some n) (hn2 : n ≤ sizeLine) (hdf : d.params.defaults = []) (hr : Room k callerA) (hY : ∀ (w : World) (h : Heap), YP w h → (K w.params).In h)
    (F : ∀ (w : World) (mg : Str → Option Value) (fa : Addr) (h : Heap), (K w.params).In h → h.Ns mainGlobals mg → mg d.name = some (.ref fa) →
      ∃ fd : FuncData, (∀ (s : Shared) (u : Value), BindsTo s fd ⟨[u], []⟩ [(x, u)]) ∧ ∀ base : Heap, (K w.params).In base → base.Ns mainGlobals mg → FnG l.prog w (K w.params) mg base CX0 k fa fd [x] (sp (K w.params)))
    (hsp : ∀ (K : PySem.W.Frag) (H : Hp) (a : Addr) (ns : List Int), ns.length ≤ n → SqL K H a (ns.map V.int) → sp K [.ref a] H (fun v _ => v = .bl true) fun _ _ _ => False) :
    PySem.W.WalkO q loose XP YP l.row.toRowW d [] (fun f vs => PySem.call f vs) := by
  refine Att.attach_call hn hdf ?_
  intro w s0 s1 mg mb fa o pm cd doc a vs ns G Y _ _ _ hm hob hin hle hge
  obtain ⟨fd, bd, hF⟩ := F w mg fa _ (hY w _ Y) G.T.g hm
  exact lawG (hY w _ Y) G.T.g G.T.b G.T.builtins G.T.nolimit hge hob hin (Nat.le_trans hle hn2) hr hF bd fun H hS => hsp _ H a ns hle hS
end Dt

set_option Elab.async false
set_option linter.all false
set_option autoImplicit false
set_option maxRecDepth 100000
namespace Dt
open PySem PySem.Spec PyProof.Rows L2

/-! ### defs that may be called wherever there is room: no repr in them -/
structure Do (P : Program) (w : World) (K : PySem.W.Frag) (mg : Str → Option Value) (base : Heap) (CX : CXT) (k : Nat) (x : Str) (n : Nat) (sp : Sp) : Prop where
  ex : ∃ (f : Addr) (fd : FuncData) (ps : List Str), ps.length = n ∧ mg x = some (.ref f) ∧ PySem.W.keepIn K (.ref f) = true ∧ Binds K fd ps [] ∧ FnOk P w K mg base CX k f fd ps sp
section
variable {P : Program} {w : World} {K : PySem.W.Frag} {mg : Str → Option Value} {base : Heap} {CX : CXT} {k n : Nat} {f : Addr} {fd : FuncData} {N ps : List Str} {x qual : Str} {st : Stmt} {sp : Sp}
theorem Do.df (D : Do P w K mg base CX k x n sp) : Df P w K mg base CX k x n sp := by
  obtain ⟨f, fd, ps, h1, h2, h3, h4, h5⟩ := D.ex
  exact ⟨f, fd, ps, h1, h2, h3, h4, .of h5⟩
/-- what lets no error out may be called where errors pass -/
theorem ok_lift (F : FnOk P w K mg base CX0 k f fd ps sp) : FnOk P w K mg base CX k f fd ps sp := ⟨F.len, fun A outer s H args us vs Q E hr e0 hb hv hs => codeAny_mono (F.run A outer s H args us vs Q E hr e0 hb hv hs) fun r s' h => by
  match r, h with
  | .error e, h => exact False.elim h
  | .ok (.ret u), h => exact h
  | .ok .next, h => exact h
  | .ok .brk, h => exact h
  | .ok .cont, h => exact h⟩
theorem Do.lift (D : Do P w K mg base CX0 k x n sp) : Do P w K mg base CX k x n sp := by
  obtain ⟨f, fd, ps, h1, h2, h3, h4, h5⟩ := D.ex
  exact ⟨f, fd, ps, h1, h2, h3, h4, ok_lift h5⟩
/-- a def by its body, wherever -/
theorem fnO (F : Fun K x qual st f fd) (S : FnScope N ps (defScope st)) (len : ∀ vs H Q E, sp vs H Q E → vs.length = ps.length)
    (hbody : ∀ (cdv : Value) (A : Around) (outer : List Env) (s : Shared) (H : Hp) (vs : List V) (Q : VK) (E : XK), Room k (A.deeper (envOfC qual (defScope st) s.heap.objs.size f cdv)) → sp vs H Q E →
      ∃ t, PSs (cxOf CX P w K mg base N qual (defScope st) f cdv A outer s H E) (defBody st) t ∧ t ⟨fun _ H' => Q .non H', Q, fun _ _ => False, fun _ _ => False⟩ (start N vs) H) : FnOk P w K mg base CX (k + 1) f fd ps sp := by
  obtain ⟨oc, od, kV, doc, pm, an, cdv, ct, osl, rfl, lk, hcd⟩ := F.ex
  exact fn_of lk hcd S len fun A outer s H vs Q E hr hsp => hbody cdv A outer s H vs Q E hr hsp
theorem dvs_ag {H : Hp} {l : List Addr} : ∀ {vs : List V} {ds : List PyData}, DvAll K (hd H l) vs ds → AgOk K (hd H l) vs (ds.map Ag.d)
  | _, [], h => by cases h; trivial
  | _, d :: ds, h => by cases h with | cons a b => exact ⟨a, dvs_ag b⟩
/-- a def without effects, by its body, wherever -/
theorem fnPO {F : List PyData → (PyData → Prop) → (Er → Prop) → Prop} {wb : DS Unit} (Fu : Fun K x qual st f fd) (Sc : FnScope N ps (defScope st)) (hn : ps.length = n)
    (hbody : ∀ (cdv : Value) (A : Around) (outer : List Env) (s : Shared) (H : Hp) (E : XK), Room k (A.deeper (PyProof.Rows.envOfC qual (defScope st) s.heap.objs.size f cdv)) →
      ∃ t, SSD W0 (cxOf CX P w K mg base N qual (defScope st) f cdv A outer s H E) (WXE E) (defBody st) t wb)
    (spec : ∀ ds Qd Ed, ds.length = n → F ds Qd Ed → wb (argS n N.length (ds.map Sl.d)) () (endP Qd Ed)) : FnOk P w K mg base CX (k + 1) f fd ps (spP K n F) := by
  refine fnO Fu Sc (fun vs H Q E h => by rw [h.1, hn]) fun cdv A outer s H vs Q E hr h => ?_
  obtain ⟨hl, l, ds, Qd, Ed, nd, tr, da, hf, hq, he⟩ := h
  obtain ⟨t, B⟩ := hbody cdv A outer s H E hr
  refine ⟨t, B.pe, ?_⟩
  have hdl : ds.length = n := by rw [← da.length]; exact hl
  have e1 : (ds.map Ag.d).map toSl = ds.map Sl.d := by rw [List.map_map]; rfl
  have E0 := env_start (Wo := W0) (N := N) (R := l) (s := ()) (by simpa [W0] using nd) (by simpa [W0] using tr) trivial (by simpa [W0] using dvs_ag da)
  rw [e1, hl] at E0
  refine B.go _ _ H _ () (endP Qd Ed) _ E0 (spec ds Qd Ed hdl hf) ⟨fun σ' H' ρ' s' E' st' q => ?_, fun _ _ _ _ _ _ z => z.elim, fun _ _ _ _ _ _ z => z.elim, fun v H' d s' g ex dv q => ?_, fun e cls dd σ' H' ρ' s' E' ei q => ?_⟩
  · exact hq .non H' .none (fun b o h => E'.ext b o h (by simp [W0, Cn.W])) .non q
  · exact hq v H' d (fun b o h => ex b o h (by simp [W0, Cn.W])) (by have dv2 : Dv K (hd H' (([] : List Addr) ++ l)) v d := dv; simpa using dv2) q
  · refine he e cls dd H' (fun b o h => E'.ext b o h (by simp [W0, Cn.W])) ?_ q
    have sub : Same (hd H' ((⟨l, H⟩ : Cn W0).hs ρ')) (hd H' l) := hd_sub fun a ha => List.mem_append_left _ (by simpa [W0, Cn.W] using ha)
    obtain ⟨c1, d, fs, c2, c3, c4⟩ := ei
    exact ⟨c1, d, fs, c2, c3, FsOk.same sub _ _ c4⟩
end
section
variable {X : Cx} {CX : CXT} {k n : Nat} {f : Addr} {fd : FuncData} {ps : List Str} {sp : Sp} {E : L2.St → XK} {x : Str} {p pos : Pos} {e : Expr} {es : List Expr} {t : TA}
theorem run_fnO {pins : List (Addr × Obj)} {σ : L2.St} {H : Hp} {s : Shared} {Q : VK} {us : List Value} {vs : List V} (F : FnOk X.prog X.w X.K X.mg X.base CX k f fd ps sp) (hr : Room k X.A) (hb : Binds X.K fd ps [])
    (hx : PassesAt CX X σ (E σ)) (I : Inv X pins σ H s) (r : Vals vs us) (h : sp vs H Q (E σ)) : wpAny (model X.prog X.w) X.A (call (.ref f) us) (EP X pins σ Q) X.xe s := by
  have b := hb s us I.kIn (by rw [List.append_nil, ← r.length]; exact F.len _ _ _ _ h)
  rw [List.append_nil] at b
  refine wpAny_call (codeAny_mono (F.run X.A X.stack s H ⟨us, []⟩ us vs Q (E σ) hr I.env0 b r h) fun r s' hq => ?_)
  match r, hq with
  | .error e, hq => exact hx pins H s e s' I hq
  | .ok (.ret u), hq => exact I.after hq
  | .ok .next, hq => cases hq
  | .ok .brk, hq => cases hq
  | .ok .cont, hq => cases hq
theorem pe_callO (F : FnOk X.prog X.w X.K X.mg X.base CX k f fd ps sp) (hr : Room k X.A) (hg : Gl X x) (hm : X.mg x = some (.ref f)) (hk : PySem.W.keepIn X.K (.ref f) = true) (hb : Binds X.K fd ps []) (hx : ∀ σ, PassesAt CX X σ (E σ))
    (ha : PA X (e :: es) t) (hdb : (x == ("__debug__" : Str)) = false := by decide) (he : starEach (e :: es) X.env = (false, eval e X.env) :: starEach es X.env := by rfl) (hpl : (backTo pos (starEach es X.env)).any (·.1) = false := by rfl) :
    PE X (.Call (.Name x p) (e :: es) [] pos) (tCallS sp E t) := by
  refine ⟨fun pins s σ H Q I h => wpAny_Call_Name_kw (ld_glob I hg hm (PySem.W.callWith_K (h₀ := X.base) I.ok.mod.kin hk (thn (ha.run pos pins s σ H _ I h) ?_) he hpl) hdb)⟩
  rintro us s1 ⟨vs, H1, I1, r, q⟩
  exact ⟨I1.kIn, run_fnO F hr hb (hx σ) I1 r q⟩
end
section
variable {S : Type} {Wo : Wd S} {X : Cx} {W : WX} {K : PySem.W.Frag} {tl : TA} {e : Expr} {es : List Expr} {pos p : Pos} {wl : DA S} {n : Nat}
theorem e_callO {CX : CXT} {j : Nat} {x : Str} {F : List PyData → (PyData → Prop) → (Er → Prop) → Prop} (D : Do X.prog X.w K X.mg X.base CX j x n (spP K n F)) (hr : Room j X.A) (hx : ∀ σ, PassesAt CX X σ (WE W σ)) (ha : AD Wo X W (e :: es) tl wl) (hK : X.K = K := by rfl)
    (hg : Gl X x := by rfl) (hdb : (x == ("__debug__" : Str)) = false := by decide) (he : starEach (e :: es) X.env = (false, eval e X.env) :: starEach es X.env := by rfl) (hpl : (backTo pos (starEach es X.env)).any (·.1) = false := by rfl) :
    ED Wo X W (.Call (.Name x p) (e :: es) [] pos) (tCallS (spP K n F) (WE W) tl) (wCallP (fun ds Q E => ds.length = n ∧ F ds Q E) wl) := by
  subst hK
  obtain ⟨f, fd, ps, h1, h2, h3, h4, h5⟩ := D.ex
  exact ⟨pe_callO h5 hr hg h2 h3 h4 hx ha.pe hdb he hpl, fun c σ H ρ s Qd Ed Q E hw hv he => ha.go c σ H ρ s _ Ed _ E hw (fun vs H1 as s1 E1 st1 a1 q1 => by
    obtain ⟨ds, g1, g2, g3⟩ := a1.all q1
    exact ⟨by rw [g1.length]; exact g2, c.hs ρ, ds, _, _, E1.nd, E1.tr, g1, g3, fun v H' d sm dv q => hv v H' d s1 (E1.grow sm) (st1.trans (stp_grow sm)) dv q,
      fun e cls dd H' sm ei q => he e cls dd H' s1 (E1.grow sm) ei q⟩) he⟩
/-- errors of a callee that this body lets pass -/
theorem passT {E : XK} (tk : Takes X (WXE E)) : ∀ σ, PassesAt (L2.CX X.prog X.w) X σ (WE (WXE E) σ) := fun σ => passAt tk σ
end
/-! ### an error that is raised: an own class with two fields -/
def spIni (C : Addr) (f1 f2 : Str) : Sp := fun vs H Q _ => ∃ (a : Addr) (v1 v2 : V), vs = [.ref a, v1, v2] ∧ H a = some (exo a C none) ∧
  ∀ d, H d = none → d ≠ a → Q .non (upd (upd (upd H d (exd d [(f1, v1)])) a (exo a C (some d))) d (exd d [(f2, v2), (f1, v1)]))
/-- the class x stands at C, it is made of two values -/
structure Ec (P : Program) (w : World) (K : PySem.W.Frag) (mg : Str → Option Value) (base : Heap) (x : Str) (C : Addr) (f1 f2 : Str) : Prop where
  at' : mg x = some (.ref C)
  oex : OexC K C
  ini : ∃ (fI : Addr) (fd : FuncData) (ps : List Str), PySem.W.findIn K (.ref C) "__init__" = some (some (.ref fI)) ∧ PySem.W.typeIn K (.ref fI) = some (.type "function") ∧ FnOk P w K mg base CX0 1 fI fd ps (spIni C f1 f2) ∧ Binds K fd ps []
theorem no_calls {X : Cx} {E : XK} : Passes CX0 X E := fun _ _ _ _ _ _ _ h => h.elim
def wRaise {S : Type} (C : Addr) (f1 f2 : Str) (w : DA S) : DS S := fun ρ s D => w ρ s (fun as s1 => allK as fun ds => match ds with
  | [d1, d2] => D.er ⟨C, [(f2, d2), (f1, d1)]⟩ ρ s1
  | _ => False) fun e s' => D.er e ρ s'
section
variable {S : Type} {Wo : Wd S} {X : Cx} {W : WX} {K : PySem.W.Frag} {tl : TA} {e1 e2 : Expr} {pos pos' p : Pos} {wl : DA S}
theorem sd_raise {x : Str} {C : Addr} {f1 f2 : Str} (R : Ec X.prog X.w K X.mg X.base x C f1 f2) (hr : Room 2 X.A) (hc : X.calm = true) (tk : Takes X W) (ha : AD Wo X W [e1, e2] tl wl) (hK : X.K = K := by rfl) (hg : Gl X x := by rfl) (hdb : (x == ("__debug__" : Str)) = false := by decide)
    (he : starEach [e1, e2] X.env = (false, eval e1 X.env) :: starEach [e2] X.env := by rfl) (hpl : (backTo pos (starEach [e2] X.env)).any (·.1) = false := by rfl) :
    SD Wo X W (.Raise (some (.Call (.Name x p) [e1, e2] [] pos)) none pos') (fun _ σ H => tMkO C (spIni C f1 f2) [] tl σ H fun cls d H' => W cls d σ H') (wRaise C f1 f2 wl) := by
  subst hK
  obtain ⟨fI, fd, ps, h1, h2, h3, h4⟩ := R.ini
  refine ⟨ps_raise hc tk (pmk_oex R.oex h1 h2 h3 hr h4 .nil no_calls hg R.at' ha.pe hdb he hpl), fun c σ H ρ s Dd D E hw to => ha.go c σ H ρ s _ _ _ E hw (fun vs H1 as s1 E1 st1 a1 q1 => ?_) (fun e cls dd H' s' E' ei q => to.er e cls dd σ H' ρ s' E' ei q)⟩
  obtain ⟨ds, g1, g2⟩ := a1.all q1
  match ds, g1, g2 with
  | [d1, d2], g1, g2 =>
    cases g1 with
    | @cons v1 _ _ _ b1 r1 =>
    cases r1 with
    | @cons v2 _ _ _ b2 r2 =>
    cases r2
    refine ⟨by simp, fun a na => ⟨a, v1, v2, rfl, upd_same, fun d nd ne => ⟨rfl, d, [(f2, v2), (f1, v1)], by rw [upd_ne (Ne.symm ne)]; exact upd_same, upd_same, by rw [upd_ne ne] at nd; exact nd, ?_⟩⟩⟩
    have nd' : H1 d = none := by rw [upd_ne ne] at nd; exact nd
    have sm : Same H1 (upd (del (upd (upd (upd (upd H1 a (exo a C none)) d (exd d [(f1, v1)])) a (exo a C (some d))) d (exd d [(f2, v2), (f1, v1)])) a) d (.xd [(f2, v2), (f1, v1)])) := fun b o q => by
      have z1 : b ≠ a := ne_of_none q na
      have z2 : b ≠ d := ne_of_none q nd'
      rw [upd_ne z2, del_ne z1, upd_ne z2, upd_ne z1, upd_ne z2, upd_ne z1]
      exact q
    have s2 : Same (hd H1 (c.hs ρ)) (hd (upd (del (upd (upd (upd (upd H1 a (exo a C none)) d (exd d [(f1, v1)])) a (exo a C (some d))) d (exd d [(f2, v2), (f1, v1)])) a) d (.xd [(f2, v2), (f1, v1)])) (c.hs ρ)) := stp_grow (c := c) (ρ := ρ) sm
    exact to.er ⟨C, [(f2, d2), (f1, d1)]⟩ _ _ σ _ ρ s1 (E1.grow sm) ⟨rfl, d, _, rfl, upd_same, ⟨rfl, Dv.same s2 _ _ b2, rfl, Dv.same s2 _ _ b1, trivial⟩⟩ g2
  | [], _, g2 => exact False.elim g2
  | [_], _, g2 => exact False.elim g2
  | _ :: _ :: _ :: _, _, g2 => exact False.elim g2
end
/-- the reading of two stores into an error that is being made -/
theorem ini_read {K : PySem.W.Frag} {C a : Addr} {f1 f2 : Str} {v1 v2 : V} {σ : L2.St} {H : Hp} {D : Ends} (T : OexC K C) (n1 : PySem.W.findIn K (.ref C) f1 = some none) (n2 : PySem.W.findIn K (.ref C) f2 = some none) (h0 : σ[0]? = some (some (.ref a))) (h1 : σ[1]? = some (some v1)) (h2 : σ[2]? = some (some v2)) (ha : H a = some (exo a C none))
    (hq : ∀ d, H d = none → d ≠ a → D.nx σ (upd (upd (upd H d (exd d [(f1, v1)])) a (exo a C (some d))) d (exd d [(f2, v2), (f1, v1)]))) : tSeq (tOst K f1 (tVar 0) (tVar 1)) (tOst K f2 (tVar 0) (tVar 2)) D σ H := by
  refine ⟨v1, h1, .ref a, h0, a, C, rfl, T, n1, .inl ⟨ha, fun d nd ne => ?_⟩⟩
  refine ⟨v2, h2, .ref a, h0, a, C, rfl, T, n2, .inr ⟨d, [(f1, v1)], upd_same, by rw [upd_ne ne]; exact upd_same, by simp, ?_⟩⟩
  exact hq d nd ne
end Dt

set_option Elab.async false
set_option linter.all false
set_option autoImplicit false
set_option maxRecDepth 100000
namespace L07
open PySem PySem.Spec Dt
open L2 hiding wT wNot
def top (i : Nat) : Stmt := PySem.Challenge.pw_surelywrong_k07_whole_names_and_kinds_tu.main.body.getD i (.Pass ⟨0, 0, 0, 0⟩)
def inCls : Stmt → Nat → Stmt
  | .ClassDef _ _ _ b _ _ _ _ _ _ _, i => b.getD i (.Pass ⟨0, 0, 0, 0⟩)
  | st, _ => st
section
variable {P : Program} {w : World} {K : PySem.W.Frag} {mg : Str → Option Value} {base : Heap}
abbrev s_iniIP : Stmt := inCls (top 6) 0
theorem sc_iniIP : FnScope ["self", "word", "at"] ["self", "word", "at"] (defScope s_iniIP) := ⟨rfl, rfl, rfl, by decide +kernel, rfl, by decide +kernel, by decide +kernel⟩
theorem ok_iniIP {f C : Addr} {fd : FuncData} (Fu : Fun K "__init__" "InvalidPaper.__init__" s_iniIP f fd) (T : OexC K C) (n1 : PySem.W.findIn K (.ref C) "word" = some none) (n2 : PySem.W.findIn K (.ref C) "at" = some none) : FnOk P w K mg base CX0 1 f fd ["self", "word", "at"] (spIni C "word" "at") := by
  refine fnO Fu sc_iniIP (fun vs H Q E h => by obtain ⟨a, v1, v2, rfl, _⟩ := h; rfl) fun cdv A outer s H vs Q E hr h => ?_
  obtain ⟨a, v1, v2, rfl, ha, hq⟩ := h
  exact ⟨_, pss_cons (ps_ost (pv 0) (pv 1)) (pss_one (ps_ost (pv 0) (pv 2))), ini_read T n1 n2 rfl rfl rfl ha hq⟩
abbrev s_iniNU : Stmt := inCls (top 7) 0
theorem sc_iniNU : FnScope ["self", "word", "at"] ["self", "word", "at"] (defScope s_iniNU) := ⟨rfl, rfl, rfl, by decide +kernel, rfl, by decide +kernel, by decide +kernel⟩
theorem ok_iniNU {f C : Addr} {fd : FuncData} (Fu : Fun K "__init__" "NotUsable.__init__" s_iniNU f fd) (T : OexC K C) (n1 : PySem.W.findIn K (.ref C) "word" = some none) (n2 : PySem.W.findIn K (.ref C) "at" = some none) : FnOk P w K mg base CX0 1 f fd ["self", "word", "at"] (spIni C "word" "at") := by
  refine fnO Fu sc_iniNU (fun vs H Q E h => by obtain ⟨a, v1, v2, rfl, _⟩ := h; rfl) fun cdv A outer s H vs Q E hr h => ?_
  obtain ⟨a, v1, v2, rfl, ha, hq⟩ := h
  exact ⟨_, pss_cons (ps_ost (pv 0) (pv 1)) (pss_one (ps_ost (pv 0) (pv 2))), ini_read T n1 n2 rfl rfl rfl ha hq⟩
end
end L07

set_option Elab.async false
set_option linter.all false
set_option autoImplicit false
set_option maxRecDepth 100000
set_option maxHeartbeats 1000000
/-! ### an error with fields, asked for its class -/
namespace PySem.W
open PySem PySem.Calls PyProof.Rows
section
variable {prog : Program} {w : World} {A : Around} {E : Value → Shared → Prop} {s : Shared} {K : Frag} {x D : Addr} {ox : Obj}
theorem found_data {C : Addr} {od : Option Obj} {name : Str} {a g : Value} (hc : (clsIn K C).isSome = true) (ha : findIn K (.ref C) name = some (some a)) (hg : specialIn K a "__get__" = some (some g)) (ht : takesIn K a = some true) : findObj K C od name = some (.bind g a) := by
  obtain ⟨cd, e⟩ := Option.isSome_iff_exists.mp hc
  simp only [findObj, e, ha, hg, ht, Option.bind_some]
variable {od : Option Obj}
theorem class_asked {Q : Option Value → Shared → Prop} (hga : findIn K (.ref D) "__getattribute__" = some (some (.builtin "BaseException.__getattribute__"))) (hgt : findIn K (.ref D) "__getattr__" = some none) (hsub : subIn K (.ref D) (.type "BaseException") = some true)
    (hdct : hasDictIn K D = true) (ha : findIn K (.ref D) "__class__" = some (some (.builtin "object.__class__")))
    (hn : specialIn K (.builtin "object.__class__") "__get__" = some (some (.builtin "getset_descriptor.__get__"))) (htk : takesIn K (.builtin "object.__class__") = some true) (hm : mroIn K D (.type "object") = some true)
    (X : K.In s.heap) (I : InstAt s.heap x ox D od) (h : Q (some (.ref D)) { s with toks := s.toks + 1 }) : wpAny (model prog w) A (getAttr? (.ref x) "__class__") Q E s := by
  have hf : findObj K D od "__class__" = some (.bind (.builtin "getset_descriptor.__get__") (.builtin "object.__class__")) := found_data (by obtain ⟨cd, hc, _⟩ := any_some hdct; rw [hc]; rfl) ha hn htk
  obtain ⟨hp, g, d, t, os⟩ := s
  have ty := I.type (M := model prog w)
  have f1 := looks_findIn (M := model prog w) X hga
  have f2 := looks_findIn (M := model prog w) X hgt
  have f3 := looks_find (M := model prog w) X I hf
  have sub : Looks (model prog w) hp (isInstance (.ref x) (.type "BaseException")) true := ty.andThen (looks_subIn X hsub)
  have n0 : (false && onTheHeap (Value.builtin "BaseException.__getattribute__")) = false := rfl
  have n1 : (onTheHeap (Value.ref D) && Value.builtin "BaseException.__getattribute__" == Value.builtin "object.__getattribute__") = false := by
    have e : (Value.builtin "BaseException.__getattribute__" == Value.builtin "object.__getattribute__") = false := by decide +kernel
    rw [e]; rfl
  unfold getAttr? getAttrBy? getAttrBy
  refine wpAny_bind (wpAny_mkText (wpAny_bind (wpAny_attempt (wpAny_holding (wpAny_bind (ty.at (wpAny_bind (f1.at ?_))))))))
  show wpAny _ _ (if (onTheHeap (Value.ref D) && Value.builtin "BaseException.__getattribute__" == Value.builtin "object.__getattribute__") = true then _ else _) _ _ _
  rw [n1, if_neg Bool.false_ne_true]
  unfold getAttrByItsOwn hookBefore
  refine wpAny_bind ?_
  rw [if_pos (show onTheHeap (Value.ref D) = true from rfl)]
  refine f2.at (wpAny_bind (wpAny_attempt (wpAny_holding ?_)))
  unfold callGetattribute
  rw [n0, if_neg Bool.false_ne_true]
  unfold boundAndCalled
  rw [PySem.F.excAttr_ValueError.ga.bind (.ref x)]
  refine wpAny_bind (wpAny_pure ?_)
  show wpAny _ _ (call (.builtin "BaseException.__getattribute__") [.ref x, .str "__class__" t]) _ _ _
  refine wpAny_call (codeAny_call_builtin PySem.F.excAttr_ValueError.ga.plain PySem.F.entry_bexc_ga (@check_slot (model prog w) _ _ ⟨hp, g, d, t + 1, os⟩ "BaseException.__getattribute__" "BaseException" "__getattribute__" (.ref x) [.str "__class__" t] [] _ (by decide +kernel) (by decide +kernel) sub (PySem.F.args_bexc_ga (.ref x) (.str "__class__" t)) ?_))
  unfold Builtin.«object.__getattribute__»
  refine wpAny_bind (wpAny_of_eq (a := ((Value.ref x : Value), [Value.str "__class__" t])) (by first | rfl | (simp only [slotArgs]; rfl)) ?_)
  refine wpAny_bind (wpAny_pure (wpAny_bind (ty.at (wpAny_bind (f3.at ?_)))))
  show wpAny _ _ (holding [Value.builtin "object.__class__"] (call (.builtin "getset_descriptor.__get__") [.builtin "object.__class__", .ref x, .ref D]) >>= ret) _ _ _
  refine wpAny_bind (wpAny_holding (wpAny_call (class_get (s := ⟨hp, g, d, t + 1, os⟩) (ox := ox) (od := od) X I hm (wpAny_pure ?_))))
  show wpAny _ _ (handedOut (.ref D)) _ _ _
  rw [handedOut_of (v := .ref D) rfl]
  first
    | exact wpAny_pure (wpAny_pure h)
    | exact wpAny_pure h
    | exact wpAny_pure (wpAny_bind (wpAny_pure (wpAny_pure h)))
theorem kitx_err (hga : findIn K (.ref D) "__getattribute__" = some (some (.builtin "BaseException.__getattribute__"))) (hgt : findIn K (.ref D) "__getattr__" = some none) (hsub : subIn K (.ref D) (.type "BaseException") = some true) (hdct : hasDictIn K D = true) (ha : findIn K (.ref D) "__class__" = some (some (.builtin "object.__class__")))
    (hn : specialIn K (.builtin "object.__class__") "__get__" = some (some (.builtin "getset_descriptor.__get__"))) (htk : takesIn K (.builtin "object.__class__") = some true) (hm : mroIn K D (.type "object") = some true) (base : KitX K (.ref x) (.ref D) (fun h => InstAt h x ox D none)) :
    KitX K (.ref x) (.ref D) (fun h => ∃ od, InstAt h x ox D od) where
  ty := fun _ _ _ ⟨_, I⟩ => I.type
  it := fun _ _ X _ => by
    obtain ⟨cdD, hcD, _⟩ := any_some hdct
    unfold clsIn at hcD
    split at hcD
    · rename_i c' d' cd' sl' ho
      intro A' Q' E' s' k q
      unfold isType loadHead
      exact wpAny_bind (wpAny_loadPart (k _ _ (X _ _ ho)) (wpAny_pure q))
    · cases hcD
  ne := base.ne
  ca := fun X ⟨_, I⟩ k => class_asked hga hgt hsub hdct ha hn htk hm X I k
end
end PySem.W
namespace Dt
open PySem PySem.Spec PyProof.Rows L2
section
variable {X : Cx} {a D : Addr} {oe : Obj} {dx : Addr}
/-- isinstance(e, c), e an error that is held, its dict at dx -/
def rIsF (K : PySem.W.Frag) (D a dx : Addr) : List V → Hp → VK → Prop := fun xs H Q => ∃ (c : V) (cv : Value) (b : Bool) (fs : List (Str × V)), xs = [.ref a, c] ∧ (∀ u, RelV c u → u = cv) ∧ H dx = some (.xd fs) ∧ PySem.W.kitOne K (.ref D) cv = some b ∧ Q (.bl b) H
theorem call_isF (C : ExcC X.K D) (hp : (a, oe) ∈ X.pn) (hz : Zc (.ref D) (some dx) oe) (hf : ∃ vs, oe.data = .fields vs) : CallR X (.builtin "isinstance") (rIsF X.K D a dx) := by
  intro pins s σ H xs us Q I r h
  obtain ⟨c, cv, b, fs, rfl, hcv, hd, e, q⟩ := h
  cases r with
  | cons rx rr =>
  cases rr with
  | cons rt rr =>
  cases rr
  cases rx
  have ec := hcv _ rt
  subst ec
  obtain ⟨hget, _⟩ := I.pin (a, oe) (List.mem_append_left _ hp)
  obtain ⟨vs, hv⟩ := hf
  have hx : ObjOk X.prog X.w H s.heap dx (.xd fs) := I.hok dx _ hd
  obtain ⟨mA, hns, _⟩ := hx
  obtain ⟨od, ho, _⟩ := lookIn_ns hns
  have J : PySem.W.InstAt s.heap a oe D (some od) := ⟨hget, hz.1, by unfold PySem.W.notCls; rw [hv] <;> rfl, by rw [hz.2]; exact ho⟩
  exact PySem.W.kia_one (PySem.W.kitx_err C.hg C.hk C.hs C.hd C.ha C.hn C.ht C.hm (PySem.W.handS_kitx_exc C.hg C.hk C.hs C.hd C.ha C.hn C.ht C.hm)) I.kIn ⟨_, J⟩ e (fun z => nomatch z) fun tk => ⟨.bl b, H, I.kept (t' := tk) fun _ _ z => z, rfl, q⟩
/-- e.f, e an error that is held -/
def tXg (a D dx : Addr) (f : Str) (te : TE) : TE := fun σ H Q => te σ H fun x H1 => x = .ref a ∧ ∃ (fs : List (Str × V)) (v : V), H1 dx = some (.xd fs) ∧ fs.lookup f = some v ∧ Q v H1
theorem pe_xg {e : Expr} {te : TE} {pos : Pos} {n : Str} (T : XfC X.K D) (hno : PySem.W.findIn X.K (.ref D) n = some none) (hp : (a, oe) ∈ X.pn) (hz : Zc (.ref D) (some dx) oe) (hf : ∃ vs, oe.data = .fields vs) (he : PE X e te)
    (hb : attributeBase e n X.env (eval e X.env) = eval e X.env := by rfl) : PE X (.Attribute e n pos) (tXg a D dx n te) := by
  refine ⟨fun pins s σ H Q I h => attr_of hb (thn (he.run pins s σ H _ I h) fun u s1 hh => ?_)⟩
  obtain ⟨x, H1, I1, rx, ex, fs, v, ea, l, q⟩ := hh
  subst ex
  obtain rfl : u = Value.ref a := rx
  obtain ⟨ha, _⟩ := I1.pin (a, oe) (List.mem_append_left _ hp)
  obtain ⟨vs, hd⟩ := hf
  have hx : ObjOk X.prog X.w H1 s1.heap dx (.xd fs) := I1.hok dx _ ea
  obtain ⟨mA, hns, hr⟩ := hx
  obtain ⟨od, ho, hl⟩ := lookIn_ns hns
  obtain ⟨u, hu, ru⟩ := RelO.some_of (v := v) (o := mA n) (by rw [← l]; exact hr n)
  have J : PySem.W.InstAt s1.heap a oe D (some od) := ⟨ha, hz.1, by unfold PySem.W.notCls; rw [hd] <;> rfl, by rw [hz.2]; exact ho⟩
  exact HandSPX.exc_get I1.kIn J T.ga T.gg T.exC (PySem.W.findObj_own T.hdC hno rfl (by rw [hl, hu])) (handed_of ru) ⟨v, H1, I1.tok _, ru, q⟩
/-- xs.count(b), bools alone -/
def eqb (b : Bool) (v : Value) : Bool := match v with
  | .bool c => c == b
  | _ => false
theorem vals_bl : ∀ {bs : List Bool} {us : List Value}, Vals (bs.map V.bl) us → us = bs.map Value.bool
  | [], _, h => by cases h; rfl
  | b :: bs, _, h => by
    cases h with
    | cons a r =>
      have a : _ = Value.bool b := a
      rw [a, vals_bl r]; rfl
def rCntB (K : PySem.W.Frag) : V → List V → Hp → VK → Prop := fun x xs H Q => ∃ (p : Addr) (bs : List Bool) (b : Bool), x = .ref p ∧ xs = [.bl b] ∧ SqL K H p (bs.map V.bl) ∧ Q (.int (bs.count b : Nat)) H
theorem mt_bcount : MtR X "list.count" (rCntB X.K) := by
  intro pins s σ H x xs v us Q I rx rxs h
  obtain ⟨p, bs, b, rfl, rfl, hs, q⟩ := h
  cases rx
  obtain ⟨u, rfl, ru⟩ := rxs.one
  obtain rfl : u = Value.bool b := ru
  obtain ⟨its, rv, ⟨⟨cls, dd, data, sl⟩, n, ho, hc, hdn, hd⟩, hlen⟩ := I.list hs
  simp only at hc hd
  subst hc hd
  have ei := vals_bl rv
  subst ei
  refine call_meets PySem.F.slot_list_count ⟨_, ho, rfl⟩ PySem.F.entry_list_count (PySem.F.args_list_count_2 _ _)
    (SeqAt.list_countAt p (bs.map Value.bool).toArray n dd sl (.bool b) (eqb b)) ⟨ho, fun y hy => ?_, ?_⟩
  · obtain ⟨c, _, rfl⟩ : ∃ c ∈ bs, Value.bool c = y := by simpa using hy
    exact PySem.SeqAt.EqAt.bool_bool c b
  have ec : (bs.map Value.bool).toArray.toList.countP (eqb b) = bs.count b := by
    rw [List.toList_toArray, List.countP_map]
    rfl
  refine ⟨.int (bs.count b : Nat), H, I.tok _, ⟨s.toks, ?_⟩, q⟩
  show Value.int (((bs.map Value.bool).toArray.toList.countP (eqb b) : Nat) : Int) s.toks = Value.int ((bs.count b : Nat) : Int) s.toks
  rw [ec]
end
end Dt

set_option Elab.async false
set_option linter.all false
set_option autoImplicit false
set_option maxRecDepth 100000
set_option maxHeartbeats 1000000
namespace Dt
open PySem PySem.Spec PyProof.Rows L2
/-! ### a def called within an except suite, with the error that is held -/
structure FnR (P : Program) (w : World) (K : PySem.W.Frag) (mg : Str → Option Value) (base : Heap) (k : Nat) (f : Addr) (fd : FuncData) (ps : List Str) (sp : Addr × Obj → Sp) : Prop where
  len : ∀ p vs H Q E, sp p vs H Q E → vs.length = ps.length
  run : ∀ (A : Around) (outer : List Env) (s : Shared) (H : Hp) (args : Args) (us : List Value) (vs : List V) (Q : VK) (E : XK) (p : Addr × Obj), L2H.RoomH k A → L2H.PinOk outer H s p → Env0 P w K mg base A outer s H → BindsTo s fd args (ps.zip us) → Vals vs us → sp p vs H Q E →
    codeAny (model P w) A (.call (.ref f) args) (CR CX0 outer P w H s Q E) s
section
variable {P : Program} {w : World} {K : PySem.W.Frag} {mg : Str → Option Value} {base : Heap} {k : Nat} {f : Addr} {fd : FuncData} {N ps : List Str} {x qual : Str} {st : Stmt} {sp : Addr × Obj → Sp}
theorem fnR (F : Fun K x qual st f fd) (S : FnScope N ps (defScope st)) (len : ∀ p vs H Q E, sp p vs H Q E → vs.length = ps.length)
    (hbody : ∀ (cdv : Value) (A : Around) (outer : List Env) (s : Shared) (H : Hp) (vs : List V) (Q : VK) (E : XK) (p : Addr × Obj), L2H.RoomH k (A.deeper (envOfC qual (defScope st) s.heap.objs.size f cdv)) → sp p vs H Q E →
      ∃ t, PSs (L2H.cxH CX0 P w K mg base N qual (defScope st) f cdv A outer s H E p) (defBody st) t ∧ t ⟨fun _ H' => Q .non H', Q, fun _ _ => False, fun _ _ => False⟩ (start N vs) H) : FnR P w K mg base (k + 1) f fd ps sp := by
  obtain ⟨oc, od, kV, doc, pm, an, cdv, ct, osl, rfl, lk, hcd⟩ := F.ex
  refine ⟨len, fun A outer s H args us vs Q E p hr hpin e0 hb r hsp => ?_⟩
  have old : ∀ b o, base.get? b = some o → s.heap.get? b = some o := fun b o e => (e0.bs b o e).1
  have par : ∀ y ∈ ps.zip us, (defScope st).names.lookup y.1 = some .local ∨ ((defScope st).names.lookup y.1 = some .cell ∧ ((cellsFrom (s.heap.objs.size + 1) (defScope st).names []).lookup y.1).isSome = true) := by
    rintro ⟨n, v⟩ hy
    exact (S.par n (List.of_mem_zip hy).1).imp id fun q => ⟨q, PySem.W.cellsFrom_some _ _ _ (.inl q)⟩
  refine codeAny_call_function hr.depth (e0.mod.kin.keeps old _ _ lk) rfl S.co S.gen rfl (PySem.W.codeRec_of (e0.mod.kin.keeps old) hcd) (hb _ _ _ _ (wpAny_newFunctionEnv_cells S.kind par fun env he s1 x1 => ?_))
  subst he
  refine ⟨(e0.mod.nolimit.keeps old).keeps x1.toInCall.keep, codeAny_func ?_⟩
  obtain ⟨t, ht, hq⟩ := hbody cdv A outer s H vs Q E p (hr.deeper _) hsp
  refine wpAny_mono (ht.run [] s1 (start N vs) H _ (L2H.inv_startH S hpin e0 (len _ _ _ _ _ hsp) r x1) hq) ?_ fun e s' hs => hs
  intro fl s' hs
  cases fl with
  | next =>
    obtain ⟨σ', H', J, q⟩ := hs
    exact ⟨V.non, H', J.os, J.bare, J.base, J.hok, rfl, q⟩
  | ret u =>
    obtain ⟨v, σ', H', J, rv, q⟩ := hs
    exact ⟨v, H', J.os, J.bare, J.base, J.hok, rv, q⟩
  | brk =>
    obtain ⟨_, _, _, q⟩ := hs
    cases q
  | cont =>
    obtain ⟨_, _, _, q⟩ := hs
    cases q
end
section
variable {X : Cx} {k : Nat} {f a : Addr} {oe : Obj} {fd : FuncData} {ps : List Str} {sp : Addr × Obj → Sp} {x : Str} {p pos : Pos} {e : Expr} {es : List Expr} {t : TA}
/-- f(e, ..) in an except suite -/
theorem pe_callR (F : FnR X.prog X.w X.K X.mg X.base k f fd ps sp) (hs : X.stack = X.env :: X.outer) (hf : X.env.frame = some X.env.locals) (hp : (a, oe) ∈ X.pn) (hr : L2H.RoomH k X.A) (hg : Gl X x) (hm : X.mg x = some (.ref f)) (hk : PySem.W.keepIn X.K (.ref f) = true) (hb : Binds X.K fd ps [])
    (ha : PA X (e :: es) t) (hdb : (x == ("__debug__" : Str)) = false := by decide) (he : starEach (e :: es) X.env = (false, eval e X.env) :: starEach es X.env := by rfl) (hpl : (backTo pos (starEach es X.env)).any (·.1) = false := by rfl) :
    PE X (.Call (.Name x p) (e :: es) [] pos) (tCallS (sp (a, oe)) (fun _ => E0) t) := by
  refine ⟨fun pins s σ H Q I h => wpAny_Call_Name_kw (ld_glob I hg hm (PySem.W.callWith_K (h₀ := X.base) I.ok.mod.kin hk (thn (ha.run pos pins s σ H _ I h) ?_) he hpl) hdb)⟩
  rintro us s1 ⟨vs, H1, I1, r, q⟩
  refine ⟨I1.kIn, ?_⟩
  have b := hb s1 us I1.kIn (by rw [List.append_nil, ← r.length]; exact F.len _ _ _ _ _ q)
  rw [List.append_nil] at b
  obtain ⟨g1, g2, g3, g4, g5⟩ := I1.pin (a, oe) (List.mem_append_left _ hp)
  have pin : L2H.PinOk X.stack H1 s1 (a, oe) := ⟨g1, g2, fun z => by
    rcases List.mem_cons.mp (I1.stkSub _ z) with e | e
    · exact g3 e
    · exact g4 e, g5⟩
  refine wpAny_call (codeAny_mono (F.run X.A X.stack s1 H1 ⟨us, []⟩ us vs Q E0 (a, oe) hr pin I1.env0 b r q) fun r s' hq => ?_)
  match r, hq with
  | .error e, hq => exact False.elim hq
  | .ok (.ret u), hq => exact I1.after hq
  | .ok .next, hq => cases hq
  | .ok .brk, hq => cases hq
  | .ok .cont, hq => cases hq
end
end Dt

set_option Elab.async false
set_option linter.all false
set_option autoImplicit false
set_option maxRecDepth 100000
set_option maxHeartbeats 1000000
namespace L07
open PySem PySem.Spec Dt
open L2 hiding wT wNot
/-! ## _law_refusal -/
/-- where the families of errors stand, where the three that are raised -/
structure Fam (mg : Str → Option Value) (cPE cRE cWE cTE cNU cIP cIT : Addr) : Prop where
  mPE : mg "PaperError" = some (.ref cPE)
  mRE : mg "RowError" = some (.ref cRE)
  mWE : mg "WritingError" = some (.ref cWE)
  mTE : mg "TextError" = some (.ref cTE)
  mNU : mg "NotUsable" = some (.ref cNU)
  mIP : mg "InvalidPaper" = some (.ref cIP)
  mIT : mg "InvalidText" = some (.ref cIT)
/-- what a class of errors is, by the families and the three -/
structure FamD (K : PySem.W.Frag) (D cPE cRE cWE cTE cNU cIP cIT : Addr) (f1 f2 : Str) (kPE kRE kTE kNU kIP kIT : Bool) : Prop where
  ex : ExcC K D
  xf : XfC K D
  tPE : PySem.W.kitOne K (.ref D) (.ref cPE) = some kPE
  tRE : PySem.W.kitOne K (.ref D) (.ref cRE) = some kRE
  tWE : PySem.W.kitOne K (.ref D) (.ref cWE) = some false
  tTE : PySem.W.kitOne K (.ref D) (.ref cTE) = some kTE
  tVE : PySem.W.kitOne K (.ref D) (.type "ValueError") = some true
  tNU : PySem.W.kitOne K (.ref D) (.ref cNU) = some kNU
  tIP : PySem.W.kitOne K (.ref D) (.ref cIP) = some kIP
  tIT : PySem.W.kitOne K (.ref D) (.ref cIT) = some kIT
  n1 : PySem.W.findIn K (.ref D) f1 = some none
  n2 : PySem.W.findIn K (.ref D) f2 = some none
/-- told of an error: its name and its two values -/
def spRef (cNU cIP cIT : Addr) : Addr × Obj → Sp := fun p vs H Q _ => vs = [.ref p.1] ∧ ∃ (D dx : Addr) (fs : List (Str × V)) (nm : Str) (v1 v2 : V), Zc (.ref D) (some dx) p.2 ∧ (∃ us, p.2.data = .fields us) ∧ H dx = some (.xd fs) ∧
  ((D = cNU ∧ nm = "NotUsable" ∧ fs.lookup ("word" : Str) = some v1 ∧ fs.lookup ("at" : Str) = some v2) ∨ (D = cIP ∧ nm = "InvalidPaper" ∧ fs.lookup ("word" : Str) = some v1 ∧ fs.lookup ("at" : Str) = some v2) ∨ (D = cIT ∧ nm = "InvalidText" ∧ fs.lookup ("line" : Str) = some v1 ∧ fs.lookup ("field" : Str) = some v2)) ∧
  ∀ H' t, Same H H' → H t = none → H' t = some (.tup [.str nm, v1, v2]) → Q (.ref t) H'
section
variable {P : Program} {w : World} {K : PySem.W.Frag} {mg : Str → Option Value} {base : Heap} {cPE cRE cWE cTE cNU cIP cIT : Addr}
abbrev s_ref : Stmt := top 42
theorem sc_ref : FnScope ["_law_e", "_law_families"] ["_law_e"] (defScope s_ref) := ⟨rfl, rfl, rfl, by decide +kernel, rfl, by decide +kernel, by decide +kernel⟩
theorem ok_ref {f : Addr} {fd : FuncData} (Fu : Fun K "_law_refusal" "_law_refusal" s_ref f fd) (B : Bt mg) (mVE : mg "ValueError" = none) (Fa : Fam mg cPE cRE cWE cTE cNU cIP cIT) (dNU : FamD K cNU cPE cRE cWE cTE cNU cIP cIT "word" "at" false true false true false false)
    (dIP : FamD K cIP cPE cRE cWE cTE cNU cIP cIT "word" "at" true false false false true false) (dIT : FamD K cIT cPE cRE cWE cTE cNU cIP cIT "line" "field" false false true false false true) : FnR P w K mg base 1 f fd ["_law_e"] (spRef cNU cIP cIT) := by
  refine fnR Fu sc_ref (fun p vs H Q E h => by rw [h.1]; rfl) fun cdv A outer s H vs Q E p hr h => ?_
  obtain ⟨a, oe⟩ := p
  obtain ⟨rfl, D, dx, fs, nm, v1, v2, hz, hd, hx, hc, hq⟩ := h
  have mI : mg "isinstance" = none := B.no _ (by decide)
  rcases hc with ⟨rfl, rfl, h1, h2⟩ | ⟨rfl, rfl, h1, h2⟩ | ⟨rfl, rfl, h1, h2⟩
  · refine ⟨_, pss_cons (ps_set (i := 1) sc_ref.nd rfl (by first | exact .inl rfl | exact .inr rfl) (pe_lst (pa_cons (pe_callB (call_isF dNU.ex List.mem_cons_self hz hd) rfl mI (by decide +kernel) (pa_cons (pv 0) (pa_cons (pe_glob (v := .ref cPE) rfl Fa.mPE rfl) pa_nil))) (pa_cons (pe_callB (call_isF dNU.ex List.mem_cons_self hz hd) rfl mI (by decide +kernel) (pa_cons (pv 0) (pa_cons (pe_glob (v := .ref cRE) rfl Fa.mRE rfl) pa_nil))) (pa_cons (pe_callB (call_isF dNU.ex List.mem_cons_self hz hd) rfl mI (by decide +kernel) (pa_cons (pv 0) (pa_cons (pe_glob (v := .ref cWE) rfl Fa.mWE rfl) pa_nil))) pa_nil)))))
      (pss_cons (ps_expr (pe_bm PySem.F.plainAttrs_list PySem.F.slot_list_append PySem.F.type_list_append mt_append (pv 1) (pa_cons (pe_callB (call_isF dNU.ex List.mem_cons_self hz hd) rfl mI (by decide +kernel) (pa_cons (pv 0) (pa_cons (pe_glob (v := .ref cTE) rfl Fa.mTE rfl) pa_nil))) pa_nil)))
      (pss_cons (ps_if (PW.pt (pw_or (pt_cmpR op_ne (pe_bm PySem.F.plainAttrs_list PySem.F.slot_list_count PySem.F.type_list_count mt_bcount (pv 1) (pa_cons pe_bl pa_nil)) pe_int (nomark _)) (pw_or1 (pt_not (pt_val (pe_callB (call_isF dNU.ex List.mem_cons_self hz hd) rfl mI (by decide +kernel) (pa_cons (pv 0) (pa_cons (pe_bltn (v := .ty "ValueError") rfl mVE PyProof.Rows.Boot.«ValueError» rfl) pa_nil)))))))) pss_never pss_nil)
      (pss_cons (ps_if (PW.pt (pw_and (pt_val (pe_callB (call_isF dNU.ex List.mem_cons_self hz hd) rfl mI (by decide +kernel) (pa_cons (pv 0) (pa_cons (pe_glob (v := .ref D) rfl Fa.mNU rfl) pa_nil)))) (pw_and1 (pt_val (pe_ix ix_list (pv 1) pe_int (fun _ _ => rfl)))))) (pss_one (ps_ret (pe_tup (pa_cons pe_str (pa_cons (pe_xg dNU.xf dNU.n1 List.mem_cons_self hz hd (pv 0)) (pa_cons (pe_xg dNU.xf dNU.n2 List.mem_cons_self hz hd (pv 0)) pa_nil)))))) pss_nil)
      pss_never))), ?_⟩
    refine ⟨.ref a, rfl, .ref cPE, .ref cPE, false, fs, rfl, fun _ h => h, hx, dNU.tPE, .ref a, rfl, .ref cRE, .ref cRE, true, fs, rfl, fun _ h => h, hx, dNU.tRE, .ref a, rfl, .ref cWE, .ref cWE, false, fs, rfl, fun _ h => h, hx, dNU.tWE, (by show 3 ≤ sizeLine; rw [sizeLine_eq]; decide), fun l nl => ?_⟩
    have hx1 : (upd H l (.lst [.bl false, .bl true, .bl false])) dx = some (.xd fs) := by rw [upd_ne (ne_of_none hx nl)]; exact hx
    have el : (upd H l (.lst [.bl false, .bl true, .bl false])) l = some (.lst [.bl false, .bl true, .bl false]) := upd_same
    have s1 : Same H (upd H l (.lst [.bl false, .bl true, .bl false])) := same_upd nl
    generalize upd H l (.lst [.bl false, .bl true, .bl false]) = H1 at hx1 el s1 ⊢
    refine ⟨.ref l, rfl, .inl ⟨rfl, _, .inl (.inl el)⟩, .ref a, rfl, .ref cTE, .ref cTE, false, fs, rfl, fun _ h => h, hx1, dNU.tTE, l, _, _, rfl, rfl, el, (by show 3 < sizeLine; rw [sizeLine_eq]; decide), ?_⟩
    have ld : dx ≠ l := ne_of_none hx nl
    have hx2 : (upd H1 l (.lst ([.bl false, .bl true, .bl false] ++ [.bl false]))) dx = some (.xd fs) := by rw [upd_ne ld]; exact hx1
    have el2 : (upd H1 l (.lst ([.bl false, .bl true, .bl false] ++ [.bl false]))) l = some (.lst ([false, true, false, false].map V.bl)) := upd_same
    have s2 : Same H (upd H1 l (.lst ([.bl false, .bl true, .bl false] ++ [.bl false]))) := fun b o e => by rw [upd_ne (ne_of_none e nl)]; exact s1 b o e
    generalize upd H1 l (.lst ([.bl false, .bl true, .bl false] ++ [.bl false])) = H2 at hx2 el2 s2 ⊢
    refine ⟨.ref l, rfl, .inl ⟨rfl, _, .inl (.inl el2)⟩, l, [false, true, false, false], true, rfl, rfl, .inl (.inl el2), rfl, _, rfl, ?_⟩
    dsimp only
    rw [if_neg (by decide)]
    refine ⟨.ref a, rfl, .ty "ValueError", .type "ValueError", true, fs, rfl, fun _ h => h, hx2, dNU.tVE, true, rfl, ?_⟩
    dsimp only
    rw [if_neg (by decide)]
    refine ⟨.ref a, rfl, .ref D, .ref D, true, fs, rfl, fun _ h => h, hx2, dNU.tNU, true, rfl, ?_⟩
    dsimp only
    rw [if_pos rfl]
    refine ⟨.ref l, rfl, l, _, 1, .bl true, rfl, rfl, .inl (.inl el2), atI_nat (j := 1) rfl, true, rfl, ?_⟩
    dsimp only
    rw [if_pos rfl]
    refine ⟨.ref a, rfl, rfl, fs, v1, hx2, h1, .ref a, rfl, rfl, fs, v2, hx2, h2, (by show 3 ≤ sizeLine; rw [sizeLine_eq]; decide), fun t nt => ?_⟩
    refine hq _ t (s2.trans (same_upd nt)) ?_ upd_same
    cases z : H t with
    | none => rfl
    | some u => exact absurd (s2 t u z) (by rw [nt]; exact fun q => nomatch q)
  · refine ⟨_, pss_cons (ps_set (i := 1) sc_ref.nd rfl (by first | exact .inl rfl | exact .inr rfl) (pe_lst (pa_cons (pe_callB (call_isF dIP.ex List.mem_cons_self hz hd) rfl mI (by decide +kernel) (pa_cons (pv 0) (pa_cons (pe_glob (v := .ref cPE) rfl Fa.mPE rfl) pa_nil))) (pa_cons (pe_callB (call_isF dIP.ex List.mem_cons_self hz hd) rfl mI (by decide +kernel) (pa_cons (pv 0) (pa_cons (pe_glob (v := .ref cRE) rfl Fa.mRE rfl) pa_nil))) (pa_cons (pe_callB (call_isF dIP.ex List.mem_cons_self hz hd) rfl mI (by decide +kernel) (pa_cons (pv 0) (pa_cons (pe_glob (v := .ref cWE) rfl Fa.mWE rfl) pa_nil))) pa_nil)))))
      (pss_cons (ps_expr (pe_bm PySem.F.plainAttrs_list PySem.F.slot_list_append PySem.F.type_list_append mt_append (pv 1) (pa_cons (pe_callB (call_isF dIP.ex List.mem_cons_self hz hd) rfl mI (by decide +kernel) (pa_cons (pv 0) (pa_cons (pe_glob (v := .ref cTE) rfl Fa.mTE rfl) pa_nil))) pa_nil)))
      (pss_cons (ps_if (PW.pt (pw_or (pt_cmpR op_ne (pe_bm PySem.F.plainAttrs_list PySem.F.slot_list_count PySem.F.type_list_count mt_bcount (pv 1) (pa_cons pe_bl pa_nil)) pe_int (nomark _)) (pw_or1 (pt_not (pt_val (pe_callB (call_isF dIP.ex List.mem_cons_self hz hd) rfl mI (by decide +kernel) (pa_cons (pv 0) (pa_cons (pe_bltn (v := .ty "ValueError") rfl mVE PyProof.Rows.Boot.«ValueError» rfl) pa_nil)))))))) pss_never pss_nil)
      (pss_cons (ps_if (PW.pt (pw_and (pt_val (pe_callB (call_isF dIP.ex List.mem_cons_self hz hd) rfl mI (by decide +kernel) (pa_cons (pv 0) (pa_cons (pe_glob (v := .ref cNU) rfl Fa.mNU rfl) pa_nil)))) (pw_and1 (pt_val (pe_ix ix_list (pv 1) pe_int (fun _ _ => rfl)))))) pss_never pss_nil)
      (pss_cons (ps_if (PW.pt (pw_and (pt_val (pe_callB (call_isF dIP.ex List.mem_cons_self hz hd) rfl mI (by decide +kernel) (pa_cons (pv 0) (pa_cons (pe_glob (v := .ref D) rfl Fa.mIP rfl) pa_nil)))) (pw_and1 (pt_val (pe_ix ix_list (pv 1) pe_int (fun _ _ => rfl)))))) (pss_one (ps_ret (pe_tup (pa_cons pe_str (pa_cons (pe_xg dIP.xf dIP.n1 List.mem_cons_self hz hd (pv 0)) (pa_cons (pe_xg dIP.xf dIP.n2 List.mem_cons_self hz hd (pv 0)) pa_nil)))))) pss_nil)
      pss_never)))), ?_⟩
    refine ⟨.ref a, rfl, .ref cPE, .ref cPE, true, fs, rfl, fun _ h => h, hx, dIP.tPE, .ref a, rfl, .ref cRE, .ref cRE, false, fs, rfl, fun _ h => h, hx, dIP.tRE, .ref a, rfl, .ref cWE, .ref cWE, false, fs, rfl, fun _ h => h, hx, dIP.tWE, (by show 3 ≤ sizeLine; rw [sizeLine_eq]; decide), fun l nl => ?_⟩
    have hx1 : (upd H l (.lst [.bl true, .bl false, .bl false])) dx = some (.xd fs) := by rw [upd_ne (ne_of_none hx nl)]; exact hx
    have el : (upd H l (.lst [.bl true, .bl false, .bl false])) l = some (.lst [.bl true, .bl false, .bl false]) := upd_same
    have s1 : Same H (upd H l (.lst [.bl true, .bl false, .bl false])) := same_upd nl
    generalize upd H l (.lst [.bl true, .bl false, .bl false]) = H1 at hx1 el s1 ⊢
    refine ⟨.ref l, rfl, .inl ⟨rfl, _, .inl (.inl el)⟩, .ref a, rfl, .ref cTE, .ref cTE, false, fs, rfl, fun _ h => h, hx1, dIP.tTE, l, _, _, rfl, rfl, el, (by show 3 < sizeLine; rw [sizeLine_eq]; decide), ?_⟩
    have ld : dx ≠ l := ne_of_none hx nl
    have hx2 : (upd H1 l (.lst ([.bl true, .bl false, .bl false] ++ [.bl false]))) dx = some (.xd fs) := by rw [upd_ne ld]; exact hx1
    have el2 : (upd H1 l (.lst ([.bl true, .bl false, .bl false] ++ [.bl false]))) l = some (.lst ([true, false, false, false].map V.bl)) := upd_same
    have s2 : Same H (upd H1 l (.lst ([.bl true, .bl false, .bl false] ++ [.bl false]))) := fun b o e => by rw [upd_ne (ne_of_none e nl)]; exact s1 b o e
    generalize upd H1 l (.lst ([.bl true, .bl false, .bl false] ++ [.bl false])) = H2 at hx2 el2 s2 ⊢
    refine ⟨.ref l, rfl, .inl ⟨rfl, _, .inl (.inl el2)⟩, l, [true, false, false, false], true, rfl, rfl, .inl (.inl el2), rfl, _, rfl, ?_⟩
    dsimp only
    rw [if_neg (by decide)]
    refine ⟨.ref a, rfl, .ty "ValueError", .type "ValueError", true, fs, rfl, fun _ h => h, hx2, dIP.tVE, true, rfl, ?_⟩
    dsimp only
    rw [if_neg (by decide)]
    refine ⟨.ref a, rfl, .ref cNU, .ref cNU, false, fs, rfl, fun _ h => h, hx2, dIP.tNU, false, rfl, ?_⟩
    dsimp only
    rw [if_neg (by decide)]
    rw [if_neg (by decide)]
    refine ⟨.ref a, rfl, .ref D, .ref D, true, fs, rfl, fun _ h => h, hx2, dIP.tIP, true, rfl, ?_⟩
    dsimp only
    rw [if_pos rfl]
    refine ⟨.ref l, rfl, l, _, 0, .bl true, rfl, rfl, .inl (.inl el2), atI_nat (j := 0) rfl, true, rfl, ?_⟩
    dsimp only
    rw [if_pos rfl]
    refine ⟨.ref a, rfl, rfl, fs, v1, hx2, h1, .ref a, rfl, rfl, fs, v2, hx2, h2, (by show 3 ≤ sizeLine; rw [sizeLine_eq]; decide), fun t nt => ?_⟩
    refine hq _ t (s2.trans (same_upd nt)) ?_ upd_same
    cases z : H t with
    | none => rfl
    | some u => exact absurd (s2 t u z) (by rw [nt]; exact fun q => nomatch q)
  · refine ⟨_, pss_cons (ps_set (i := 1) sc_ref.nd rfl (by first | exact .inl rfl | exact .inr rfl) (pe_lst (pa_cons (pe_callB (call_isF dIT.ex List.mem_cons_self hz hd) rfl mI (by decide +kernel) (pa_cons (pv 0) (pa_cons (pe_glob (v := .ref cPE) rfl Fa.mPE rfl) pa_nil))) (pa_cons (pe_callB (call_isF dIT.ex List.mem_cons_self hz hd) rfl mI (by decide +kernel) (pa_cons (pv 0) (pa_cons (pe_glob (v := .ref cRE) rfl Fa.mRE rfl) pa_nil))) (pa_cons (pe_callB (call_isF dIT.ex List.mem_cons_self hz hd) rfl mI (by decide +kernel) (pa_cons (pv 0) (pa_cons (pe_glob (v := .ref cWE) rfl Fa.mWE rfl) pa_nil))) pa_nil)))))
      (pss_cons (ps_expr (pe_bm PySem.F.plainAttrs_list PySem.F.slot_list_append PySem.F.type_list_append mt_append (pv 1) (pa_cons (pe_callB (call_isF dIT.ex List.mem_cons_self hz hd) rfl mI (by decide +kernel) (pa_cons (pv 0) (pa_cons (pe_glob (v := .ref cTE) rfl Fa.mTE rfl) pa_nil))) pa_nil)))
      (pss_cons (ps_if (PW.pt (pw_or (pt_cmpR op_ne (pe_bm PySem.F.plainAttrs_list PySem.F.slot_list_count PySem.F.type_list_count mt_bcount (pv 1) (pa_cons pe_bl pa_nil)) pe_int (nomark _)) (pw_or1 (pt_not (pt_val (pe_callB (call_isF dIT.ex List.mem_cons_self hz hd) rfl mI (by decide +kernel) (pa_cons (pv 0) (pa_cons (pe_bltn (v := .ty "ValueError") rfl mVE PyProof.Rows.Boot.«ValueError» rfl) pa_nil)))))))) pss_never pss_nil)
      (pss_cons (ps_if (PW.pt (pw_and (pt_val (pe_callB (call_isF dIT.ex List.mem_cons_self hz hd) rfl mI (by decide +kernel) (pa_cons (pv 0) (pa_cons (pe_glob (v := .ref cNU) rfl Fa.mNU rfl) pa_nil)))) (pw_and1 (pt_val (pe_ix ix_list (pv 1) pe_int (fun _ _ => rfl)))))) pss_never pss_nil)
      (pss_cons (ps_if (PW.pt (pw_and (pt_val (pe_callB (call_isF dIT.ex List.mem_cons_self hz hd) rfl mI (by decide +kernel) (pa_cons (pv 0) (pa_cons (pe_glob (v := .ref cIP) rfl Fa.mIP rfl) pa_nil)))) (pw_and1 (pt_val (pe_ix ix_list (pv 1) pe_int (fun _ _ => rfl)))))) pss_never pss_nil)
      (pss_one (ps_ret (pe_ifExp (PW.pt (pw_and (pt_val (pe_callB (call_isF dIT.ex List.mem_cons_self hz hd) rfl mI (by decide +kernel) (pa_cons (pv 0) (pa_cons (pe_glob (v := .ref D) rfl Fa.mIT rfl) pa_nil)))) (pw_and1 (pt_val (pe_ix ix_list (pv 1) pe_int (fun _ _ => rfl)))))) (pe_tup (pa_cons pe_str (pa_cons (pe_xg dIT.xf dIT.n1 List.mem_cons_self hz hd (pv 0)) (pa_cons (pe_xg dIT.xf dIT.n2 List.mem_cons_self hz hd (pv 0)) pa_nil)))) (pe_tup (pa_cons pe_str pa_nil))))))))), ?_⟩
    refine ⟨.ref a, rfl, .ref cPE, .ref cPE, false, fs, rfl, fun _ h => h, hx, dIT.tPE, .ref a, rfl, .ref cRE, .ref cRE, false, fs, rfl, fun _ h => h, hx, dIT.tRE, .ref a, rfl, .ref cWE, .ref cWE, false, fs, rfl, fun _ h => h, hx, dIT.tWE, (by show 3 ≤ sizeLine; rw [sizeLine_eq]; decide), fun l nl => ?_⟩
    have hx1 : (upd H l (.lst [.bl false, .bl false, .bl false])) dx = some (.xd fs) := by rw [upd_ne (ne_of_none hx nl)]; exact hx
    have el : (upd H l (.lst [.bl false, .bl false, .bl false])) l = some (.lst [.bl false, .bl false, .bl false]) := upd_same
    have s1 : Same H (upd H l (.lst [.bl false, .bl false, .bl false])) := same_upd nl
    generalize upd H l (.lst [.bl false, .bl false, .bl false]) = H1 at hx1 el s1 ⊢
    refine ⟨.ref l, rfl, .inl ⟨rfl, _, .inl (.inl el)⟩, .ref a, rfl, .ref cTE, .ref cTE, true, fs, rfl, fun _ h => h, hx1, dIT.tTE, l, _, _, rfl, rfl, el, (by show 3 < sizeLine; rw [sizeLine_eq]; decide), ?_⟩
    have ld : dx ≠ l := ne_of_none hx nl
    have hx2 : (upd H1 l (.lst ([.bl false, .bl false, .bl false] ++ [.bl true]))) dx = some (.xd fs) := by rw [upd_ne ld]; exact hx1
    have el2 : (upd H1 l (.lst ([.bl false, .bl false, .bl false] ++ [.bl true]))) l = some (.lst ([false, false, false, true].map V.bl)) := upd_same
    have s2 : Same H (upd H1 l (.lst ([.bl false, .bl false, .bl false] ++ [.bl true]))) := fun b o e => by rw [upd_ne (ne_of_none e nl)]; exact s1 b o e
    generalize upd H1 l (.lst ([.bl false, .bl false, .bl false] ++ [.bl true])) = H2 at hx2 el2 s2 ⊢
    refine ⟨.ref l, rfl, .inl ⟨rfl, _, .inl (.inl el2)⟩, l, [false, false, false, true], true, rfl, rfl, .inl (.inl el2), rfl, _, rfl, ?_⟩
    dsimp only
    rw [if_neg (by decide)]
    refine ⟨.ref a, rfl, .ty "ValueError", .type "ValueError", true, fs, rfl, fun _ h => h, hx2, dIT.tVE, true, rfl, ?_⟩
    dsimp only
    rw [if_neg (by decide)]
    refine ⟨.ref a, rfl, .ref cNU, .ref cNU, false, fs, rfl, fun _ h => h, hx2, dIT.tNU, false, rfl, ?_⟩
    dsimp only
    rw [if_neg (by decide)]
    rw [if_neg (by decide)]
    refine ⟨.ref a, rfl, .ref cIP, .ref cIP, false, fs, rfl, fun _ h => h, hx2, dIT.tIP, false, rfl, ?_⟩
    dsimp only
    rw [if_neg (by decide)]
    rw [if_neg (by decide)]
    refine ⟨.ref a, rfl, .ref D, .ref D, true, fs, rfl, fun _ h => h, hx2, dIT.tIT, true, rfl, ?_⟩
    dsimp only
    rw [if_pos rfl]
    refine ⟨.ref l, rfl, l, _, 3, .bl true, rfl, rfl, .inl (.inl el2), atI_nat (j := 3) rfl, true, rfl, ?_⟩
    dsimp only
    rw [if_pos rfl]
    try rw [if_pos rfl]
    refine ⟨.ref a, rfl, rfl, fs, v1, hx2, h1, .ref a, rfl, rfl, fs, v2, hx2, h2, (by show 3 ≤ sizeLine; rw [sizeLine_eq]; decide), fun t nt => ?_⟩
    refine hq _ t (s2.trans (same_upd nt)) ?_ upd_same
    cases z : H t with
    | none => rfl
    | some u => exact absurd (s2 t u z) (by rw [nt]; exact fun q => nomatch q)
end
end L07

set_option Elab.async false
set_option linter.all false
set_option autoImplicit false
set_option maxRecDepth 100000
set_option maxHeartbeats 2000000
namespace Dt
open PySem PySem.Spec PyProof.Rows L2 LamX
/-! ### a lambda is made and handed to a def: nothing but the maker's table changes -/
def ButP (P : Addr) (H H' : Hp) : Prop := ∀ b o, b ≠ P → H b = some o → H' b = some o
section
variable {X : Cx} {pins : List (Addr × Obj)} {σ : L2.St} {H : Hp} {s : Shared}
theorem lam_mk {c P : Addr} {params : Arguments} {body : Expr} {scope : Scope} {pos : Pos} {E : Value → Shared → Prop} {Q : Value → Shared → Prop} (I : Inv X pins σ H s) (TB : TabB X.base X.mg c P) (hcode : X.env.code = .ref c) (hT : TabS H P (X.env.qual ++ "<lambda>"))
    (hdef : defaultsOf params X.env = ([], [])) (hfree : ∀ y ∈ scope.names, y.2 = .free → ∃ c, X.env.cells.lookup y.1 = some c)
    (h : ∀ (f c' : Addr) (pm ctv : Value) (H1 : Hp) (s' : Shared), Inv X pins σ H1 s' → ButP P H H1 → TabS H1 P (X.env.qual ++ "<lambda>") →
      s'.heap.get? f = some (PySem.W.kla_obj "<lambda>" (X.env.qual ++ "<lambda>") params body scope (cloFrom X.env.cells scope.names []) pm c' ctv) → H1 f = none → f ∉ frs X.stack → H1 c' = some (CodeO c' (X.env.qual ++ "<lambda>")) → Q (.ref f) s') :
    wpAny (model X.prog X.w) X.A (eval (.Lambda params body scope pos) X.env) Q E s := by
  obtain ⟨ps, hP, ht, ha⟩ := hT
  have hP' : s.heap.get? P = some { cls := .none, data := .fields ps } := I.hok P _ hP
  have bP := TB.bm.keeps I.bk
  have far : ∀ f, s.heap.objs.size ≤ f → f ∉ frs X.stack := fun f hf z => by
    rcases List.mem_cons.mp (I.stkSub _ z) with e | e
    · have q := I.lt
      rw [← e] at q
      exact absurd (Nat.lt_of_lt_of_le q hf) (Nat.lt_irrefl _)
    · exact I.nofs hf e
  have glob := I.mod.glob.keeps I.bk
  have code := TB.code.keeps I.bk
  refine PySem.W.kla_eval hdef ?_
  cases hc : codeAmong pos ps.toList with
  | some cv =>
    obtain ⟨c', rfl, hco⟩ := ha pos cv hc
    refine PySem.W.kla_makeFunctionHit (mg := X.mg) (c := c) (P := P) (ps := ps) (closure_ok hfree) I.ok.glob glob hcode code hP' ht hc bP fun ctv h' tk hx hsz => ?_
    exact h h'.objs.size c' ((X.mg "__name__").getD .none) ctv H _ (I.kept fun b o e => Heap.get?_push_of_some _ (hx b o e)) (fun _ _ _ e => e) ⟨ps, hP, ht, ha⟩ (Heap.get?_push_size _ rfl) (I.hok.fresh hsz) (far _ hsz) hco
  | none =>
    refine PySem.W.kla_makeFunction (mg := X.mg) (c := c) (P := P) (ps := ps) (closure_ok hfree) I.ok.glob glob hcode code hP' ht hc TB.gP bP fun c' ctv h' tk hx hge hlt hrec htb => ?_
    obtain ⟨c2, oc, vs, t, e2, hoc, hd, hv⟩ := hrec
    cases e2
    have nC : H c' = none := I.hok.fresh hge
    have sz : s.heap.objs.size ≤ h'.objs.size := Nat.le_trans hge (Nat.le_of_lt hlt)
    have J := inv_table (t' := tk) (more := #[rawInt pos.line, rawInt pos.col, .ref c']) (h' := h'.push (PySem.W.kla_obj "<lambda>" (X.env.qual ++ "<lambda>") params body scope (cloFrom X.env.cells scope.names []) ((X.mg "__name__").getD .none) c' ctv)) I hP
      (fun b o hb e => Heap.get?_push_of_some _ (hx b o hb e)) (Heap.get?_push_of_some _ htb) hge ⟨oc, vs, t, Heap.get?_push_of_some _ hoc, hd, hv⟩
    have but : ButP P H (upd (upd H P (.tbl (ps ++ #[rawInt pos.line, rawInt pos.col, .ref c']))) c' (CodeO c' (X.env.qual ++ "<lambda>"))) := fun b o nb e => by
      rw [upd_ne (ne_of_none e nC), upd_ne nb]; exact e
    refine h h'.objs.size c' ((X.mg "__name__").getD .none) ctv _ _ J but ⟨_, by rw [upd_ne (ne_of_none hP nC), upd_same], ?_, fun p' cv hcv => ?_⟩ (Heap.get?_push_size _ rfl) ?_ (far _ sz) upd_same
    · rw [show (ps ++ #[rawInt pos.line, rawInt pos.col, .ref c']).toList = ps.toList ++ [rawInt pos.line, rawInt pos.col, .ref c'] by simp]
      exact PySem.TriplesOk_snoc _ _ _ _ ht
    · rw [show (ps ++ #[rawInt pos.line, rawInt pos.col, .ref c']).toList = ps.toList ++ [rawInt pos.line, rawInt pos.col, .ref c'] by simp] at hcv
      rcases among_app _ ht hcv with z | z
      · obtain ⟨c0, e1, e2⟩ := ha p' cv z
        have n0 : c0 ≠ P := fun e => codeO_ne ps (Option.some.inj (e2.symm.trans (e ▸ hP)))
        exact ⟨c0, e1, but _ _ n0 e2⟩
      · exact ⟨c', z, upd_same⟩
    · rw [upd_ne (Nat.ne_of_gt hlt), upd_ne (Nat.ne_of_gt (Nat.lt_of_lt_of_le (Heap.lt_size hP') sz))]
      exact I.hok.fresh sz
end
def tLamP (P : Addr) (q : Str) (TT : (XK → Hp → VK → Prop) → Hp → VK → Prop) (t : XK → TE) : TE := fun σ H Q => TabS H P q ∧ ∀ H1, ButP P H H1 → TabS H1 P q → TT (fun E H' Q' => t E σ H' Q') H1 Q
section
variable {X : Cx}
/-- x(lambda: body) -/
theorem pe_lamP {TT : (XK → Hp → VK → Prop) → Hp → VK → Prop} {x a : Str} {g c P : Addr} {k : Nat} {st : Stmt} {fd : FuncData} {Ng : List Str} {params : Arguments} {body : Expr} {scope : Scope} {t : XK → TE} {p lpos pos : Pos} (Fu : Fun X.K x x st g fd) (hg : Gl X x) (hm : X.mg x = some (.ref g))
    (hb : L2.Binds X.K fd [a] []) (Sg : FnScope Ng [a] (defScope st)) (hNg : Ng[0]? = some a) (hva : Vis (defScope st) a)
    (hG : ∀ cdg, GivesTo X Ng x (defScope st) g cdg (defBody st) a (X.env.qual ++ "<lambda>") TT) (TB : TabB X.base X.mg c P) (hcode : X.env.code = .ref c) (hr : Room (k + 2) X.A) (L : LamS X.env.scope scope) (hdef : defaultsOf params X.env = ([], []))
    (hbind : ∀ (q : Str) (cl : List (Str × Addr)) (pm cv ctv : Value), bindArgs (PySem.W.kla_fn "<lambda>" q params body scope cl pm cv ctv) ⟨[], []⟩ = pure [])
    (hbody : ∀ (A : Around) (outer : List Env) (s : Shared) (H : Hp) (E : XK) (f c' : Addr), Room k (A.deeper (lamEnv X scope s.heap.objs.size f c')) → PE (lamCx X A outer s H E scope f c') body (t E))
    (hdb : (x == ("__debug__" : Str)) = false := by decide) (hd : (a == ("__debug__" : Str)) = false := by decide) (hcd : (a == ("__classdict__" : Str)) = false := by decide) :
    PE X (.Call (.Name x p) [.Lambda params body scope lpos] [] pos) (tLamP P (X.env.qual ++ "<lambda>") TT t) := by
  obtain ⟨oc, od, kV, doc, pm, an, cdv, ct, osl, rfl, lk, hcg⟩ := Fu.ex
  refine ⟨fun pins s σ H Q I h => ?_⟩
  obtain ⟨hT, h⟩ := h
  refine wpAny_Call_Name_kw (ld_glob I hg hm (PySem.W.callWith_K (h₀ := X.base) I.ok.mod.kin Fu.kp ?_ (by rfl) (by rfl)) hdb)
  show wpAny _ _ (spliced ((false, eval (.Lambda params body scope lpos) X.env) :: backTo pos (starEach [] X.env))) _ _ s
  refine Calls.spliced_cons (lam_mk I TB hcode hT hdef (L.has I.ok) fun f c' pm' ctv H1 s' I1 eN T1 hf hfn hfr hco => Calls.spliced_nil ⟨I1.kIn, ?_⟩)
  have rc : codeAny (model X.prog X.w) X.A (.call (.ref g) ⟨[.ref f], []⟩) (CR C8.CX0 X.stack X.prog X.w H1 s' Q C8.E0) s' := by
    refine run_ofS (N := Ng) (ps := [a]) (us := [.ref f]) (vs := [.ref f]) lk hcg Sg hr I1.env0 (hb s' [.ref f] I1.kIn rfl) (.cons rfl .nil) rfl fun hr' => ?_
    obtain ⟨t', ht', hq'⟩ := hG cdv f c' s' H1 Q (fun E H' Q' => t E σ H' Q') (fun W pn xe E p1 p2 tk hW => pe_act (i := 0) I1 L hf hfn hfr (hbind _ _ _ _ _) tk hW hr' (fun A outer s H hr2 => hbody A outer s H E f c' hr2) hNg hva hd hcd) hco (h H1 eN T1)
    exact ⟨t', ht'.nox, hq'⟩
  refine wpAny_call (codeAny_mono rc fun r s2 hq => ?_)
  match r, hq with
  | .error e, hq => exact False.elim hq
  | .ok (.ret u), hq => exact I1.after hq
  | .ok .next, hq => exact False.elim hq
  | .ok .brk, hq => exact False.elim hq
  | .ok .cont, hq => exact False.elim hq
end
end Dt

set_option Elab.async false
set_option linter.all false
set_option autoImplicit false
set_option maxRecDepth 100000
set_option maxHeartbeats 1000000
namespace L07
open PySem PySem.Spec Dt LamX
open L2 hiding wT wNot
/-! ## _law_said -/
/-- an error, and what is told of it: its name and two values -/
def Told (cNU cIP cIT : Addr) (H : Hp) (cls : Value) (dd : Option Addr) (nm : Str) (v1 v2 : V) : Prop := ∃ (D dx : Addr) (fs : List (Str × V)), cls = .ref D ∧ dd = some dx ∧ H dx = some (.xd fs) ∧
  ((D = cNU ∧ nm = "NotUsable" ∧ fs.lookup ("word" : Str) = some v1 ∧ fs.lookup ("at" : Str) = some v2) ∨ (D = cIP ∧ nm = "InvalidPaper" ∧ fs.lookup ("word" : Str) = some v1 ∧ fs.lookup ("at" : Str) = some v2) ∨ (D = cIT ∧ nm = "InvalidText" ∧ fs.lookup ("line" : Str) = some v1 ∧ fs.lookup ("field" : Str) = some v2))
def TSaid (cNU cIP cIT : Addr) : (XK → Hp → VK → Prop) → Hp → VK → Prop := fun tl H Q => ∀ H1, Same H H1 →
  tl (fun cls dd H' => ∃ nm v1 v2, Told cNU cIP cIT H' cls dd nm v1 v2 ∧ ∀ H'' t, Same H' H'' → H' t = none → H'' t = some (.tup [.str nm, v1, v2]) → Q (.ref t) H'') H1 fun v H' => ∀ t, H' t = none → Q (.ref t) (upd H' t (.tup [.str "told", v]))
section
variable {P : Program} {w : World} {K : PySem.W.Frag} {mg : Str → Option Value} {base : Heap} {cNU cIP cIT cSE : Addr}
abbrev s_said : Stmt := top 43
theorem sc_said : FnScope ["_law_ask", "_law_found", "_law_e"] ["_law_ask"] (defScope s_said) := ⟨rfl, rfl, rfl, by decide +kernel, rfl, by decide +kernel, by decide +kernel⟩
theorem takes_len {X : Cx} {W : WX} (tk : Takes X W) : Takes X (fun cls d σ H => σ.length = X.N.length → W cls d σ H) := fun u s' ⟨a, B, sI, pins, σ, H, cls, d, e, I, nb, up, sky, na, os, ag, q⟩ => tk u s' ⟨a, B, sI, pins, σ, H, cls, d, e, I, nb, up, sky, na, os, ag, q I.len⟩
theorem pe_weak {X : Cx} {e : Expr} {t : TE} (h : PE X e t) : PE X e (fun σ H Q => ∃ Q' : VK, t σ H Q' ∧ ∀ v H', Q' v H' → Q v H') :=
  ⟨fun pins s σ H Q I ⟨Q', q, k⟩ => wpAny_mono (h.run pins s σ H Q' I q) (fun u s' ⟨v, H', J, r, z⟩ => ⟨v, H', J, r, k _ _ z⟩) fun _ _ z => z⟩
theorem said_gives {X : Cx} {g fr : Addr} {cdg : Value} {fdr : FuncData} {q : Str} (hr : Room 2 X.A) (mSE : X.mg "SurelyError" = some (.ref cSE)) (eNU : PySem.W.exmOne X.K (.ref cNU) (.ref cSE) = some true) (eIP : PySem.W.exmOne X.K (.ref cIP) (.ref cSE) = some true) (eIT : PySem.W.exmOne X.K (.ref cIT) (.ref cSE) = some true)
    (FR : FnR X.prog X.w X.K X.mg X.base 1 fr fdr ["_law_e"] (spRef cNU cIP cIT)) (mR : X.mg "_law_refusal" = some (.ref fr)) (kR : PySem.W.keepIn X.K (.ref fr) = true) (bR : Binds X.K fdr ["_law_e"] []) :
    GivesTo X ["_law_ask", "_law_found", "_law_e"] "_law_said" (defScope s_said) g cdg (defBody s_said) "_law_ask" q (TSaid cNU cIP cIT) := by
  intro f c' s H Q tl act hc h
  refine ⟨_, pss_cons (ps_set (i := 1) sc_said.nd rfl (by first | exact .inl rfl | exact .inr rfl) (pe_tup (pa_cons pe_str pa_nil)))
    (pss_cons (ps_try_as (X := (cxOf C8.CX0 X.prog X.w X.K X.mg X.base ["_law_ask", "_law_found", "_law_e"] "_law_said" (defScope s_said) g cdg X.A X.stack s H C8.E0).nox) (c := .ref cSE) (i := 2)
      (tb := fun W D σ H => ∃ (Ech : XK) (Qt : VK), (∀ v H', Qt v H' → ∀ t, H' t = none → D.nx (σ.set 1 (some (.ref t))) (upd H' t (.tup [.str "told", v]))) ∧ (∀ cls d σ' H', Ech cls d H' → σ'.length = 3 → W cls d σ' H') ∧ σ[0]? = some (some (.ref f)) ∧ H c' = some (CodeO c' q) ∧ tl Ech H Qt)
      (ts := fun a cls d D σ H => σ[2]? = some (some (.ref a)) ∧ ∃ nm v1 v2, Told cNU cIP cIT H cls d nm v1 v2 ∧ ∀ H' t, Same H H' → H t = none → H' t = some (.tup [.str nm, v1, v2]) → D.nx (σ.set 1 (some (.ref t))) H')
      rfl rfl sc_said.nd rfl rfl ⟨rfl, by decide, .inl mSE⟩ LamX.takes0 (fun W pn xe tk _ => ?_) (fun a oe cls d pn hz hd => ?_))
    (pss_one (ps_ret (pv 1)))), ?_⟩
  · refine ⟨fun pins s' σ H' D I h' => ?_⟩
    obtain ⟨Ech, Qt, hQ, hW, h1, h2, h3⟩ := h'
    have hp := fun p1 p2 => pe_weak (act _ pn xe Ech p1 p2 (takes_len tk) hW)
    exact (pss_one (ps_set (i := 1) sc_said.nd rfl (by first | exact .inl rfl | exact .inr rfl) (pe_tup (pa_cons pe_str (pa_cons (hp _ _) pa_nil))))).run pins s' σ H' D I ⟨Qt, ⟨h1, h2, h3⟩, fun v H'' z => ⟨(by show 2 ≤ sizeLine; rw [sizeLine_eq]; decide), fun t nt => hQ v H'' z t nt⟩⟩
  · refine ⟨fun pins s' σ H' D I h' => ?_⟩
    obtain ⟨h1, nm, v1, v2, ⟨D0, dx, fs, rfl, rfl, hx, hc⟩, hq⟩ := h'
    exact (pss_one (ps_set (i := 1) sc_said.nd rfl (by first | exact .inl rfl | exact .inr rfl) (pe_callR (X := ((cxOf C8.CX0 X.prog X.w X.K X.mg X.base ["_law_ask", "_law_found", "_law_e"] "_law_said" (defScope s_said) g cdg X.A X.stack s H C8.E0).nox).suite a ((a, oe) :: pn)) (x := "_law_refusal") FR rfl rfl List.mem_cons_self ⟨(hr.deeper (PyProof.Rows.envOfC "_law_said" (defScope s_said) s.heap.objs.size g cdg)).dp, (hr.deeper (PyProof.Rows.envOfC "_law_said" (defScope s_said) s.heap.objs.size g cdg)).un⟩ (by rfl) mR kR bR (pa_cons (pv 2) pa_nil)))).run pins s' σ H' D I
      ⟨_, h1, rfl, D0, dx, fs, nm, v1, v2, hz, hd, hx, hc, fun H'' t sm nt et => hq H'' t sm nt et⟩
  · refine ⟨(by show 1 ≤ sizeLine; rw [sizeLine_eq]; decide), fun o no => ?_⟩
    refine ⟨_, _, fun v H' z t nt => ?_, fun cls d σ' H' hE hl => ?_, rfl, ?_, h _ (same_upd no)⟩
    · exact ⟨_, rfl, z t nt⟩
    · obtain ⟨nm, v1, v2, hT, hq⟩ := hE
      refine ⟨true, ?_, fun _ a na => ?_, fun z => nomatch z⟩
      · obtain ⟨D0, dx, fs, rfl, _, _, hc⟩ := hT
        rcases hc with ⟨rfl, _⟩ | ⟨rfl, _⟩ | ⟨rfl, _⟩
        · exact eNU
        · exact eIP
        · exact eIT
      · match σ', hl with
        | [x, y, z], _ => exact ⟨rfl, nm, v1, v2, hT, fun H'' t sm nt et => ⟨_, rfl, hq H'' t sm nt et⟩⟩
    · rw [upd_ne (ne_of_none hc no)]; exact hc
end
end L07

set_option Elab.async false
set_option linter.all false
set_option autoImplicit false
set_option maxRecDepth 100000
namespace Dt
open PySem PySem.Spec L2
/-! ### a feed: a dict with a list of cells and three ints -/
structure Fd (c s l t : Str) (H : Hp) (a L : Addr) (ns : List Int) (kvs : List (Key × V)) (sp lf tn : Int) : Prop where
  at' : H a = some (.dK kvs)
  few : kvs.length ≤ 8
  kc : valV kvs (.inr c) = some (.ref L)
  ks : valV kvs (.inr s) = some (.int sp)
  kl : valV kvs (.inr l) = some (.int lf)
  kt : valV kvs (.inr t) = some (.int tn)
  cells : H L = some (.lst (ns.map V.int))
theorem dget_of {H : Hp} {a : Addr} {kvs : List (Key × V)} {x : Str} {v : V} (h : H a = some (.dK kvs)) (e : valV kvs (.inr x) = some v) : DGet H a (.str x) (some v) := by
  have := DGet.k (k := .inr x) h
  rw [e] at this
  exact this
theorem putK_has {kvs : List (Key × V)} {k : Key} {v w : V} (h : valV kvs k = some w) : (putK kvs k v).length = kvs.length := by
  have q : (kvs.any fun kv => decide (kv.1 = k)) = true := by
    rw [valV_any, h]; rfl
  unfold putK
  rw [if_pos q, List.length_map]
section
variable {c s l t : Str} {H : Hp} {a L : Addr} {ns : List Int} {kvs : List (Key × V)} {sp lf tn : Int}
theorem Fd.ne (F : Fd c s l t H a L ns kvs sp lf tn) : L ≠ a := fun e => by
  have h1 := F.at'
  have h2 := F.cells
  rw [e, h1] at h2; cases h2
theorem Fd.putT (F : Fd c s l t H a L ns kvs sp lf tn) (h1 : c ≠ t) (h2 : s ≠ t) (h3 : l ≠ t) (x : Int) : Fd c s l t (upd H a (.dK (putK kvs (.inr t) (.int x)))) a L ns (putK kvs (.inr t) (.int x)) sp lf x where
  at' := upd_same
  few := by rw [putK_has F.kt]; exact F.few
  kc := by rw [valV_put, if_neg fun e => h1 (Sum.inr.inj e)]; exact F.kc
  ks := by rw [valV_put, if_neg fun e => h2 (Sum.inr.inj e)]; exact F.ks
  kl := by rw [valV_put, if_neg fun e => h3 (Sum.inr.inj e)]; exact F.kl
  kt := by rw [valV_put, if_pos rfl]
  cells := by rw [upd_ne F.ne]; exact F.cells
theorem Fd.putS (F : Fd c s l t H a L ns kvs sp lf tn) (h1 : c ≠ s) (h2 : l ≠ s) (h3 : t ≠ s) (x : Int) : Fd c s l t (upd H a (.dK (putK kvs (.inr s) (.int x)))) a L ns (putK kvs (.inr s) (.int x)) x lf tn where
  at' := upd_same
  few := by rw [putK_has F.ks]; exact F.few
  kc := by rw [valV_put, if_neg fun e => h1 (Sum.inr.inj e)]; exact F.kc
  ks := by rw [valV_put, if_pos rfl]
  kl := by rw [valV_put, if_neg fun e => h2 (Sum.inr.inj e)]; exact F.kl
  kt := by rw [valV_put, if_neg fun e => h3 (Sum.inr.inj e)]; exact F.kt
  cells := by rw [upd_ne F.ne]; exact F.cells
theorem Fd.putL (F : Fd c s l t H a L ns kvs sp lf tn) (h1 : c ≠ l) (h2 : s ≠ l) (h3 : t ≠ l) (x : Int) : Fd c s l t (upd H a (.dK (putK kvs (.inr l) (.int x)))) a L ns (putK kvs (.inr l) (.int x)) sp x tn where
  at' := upd_same
  few := by rw [putK_has F.kl]; exact F.few
  kc := by rw [valV_put, if_neg fun e => h1 (Sum.inr.inj e)]; exact F.kc
  ks := by rw [valV_put, if_neg fun e => h2 (Sum.inr.inj e)]; exact F.ks
  kl := by rw [valV_put, if_pos rfl]
  kt := by rw [valV_put, if_neg fun e => h3 (Sum.inr.inj e)]; exact F.kt
  cells := by rw [upd_ne F.ne]; exact F.cells
theorem Fd.dput (F : Fd c s l t H a L ns kvs sp lf tn) (x : Str) (v : V) : DPut H a (.str x) v (upd H a (.dK (putK kvs (.inr x) v))) := DPut.k (k := .inr x) F.at' (Nat.lt_of_le_of_lt F.few (by rw [sizeLine_eq]; decide))
theorem Fd.grow {H' : Hp} (F : Fd c s l t H a L ns kvs sp lf tn) (h1 : H' a = H a) (h2 : H' L = H L) : Fd c s l t H' a L ns kvs sp lf tn := ⟨h1.trans F.at', F.few, F.kc, F.ks, F.kl, F.kt, h2.trans F.cells⟩
/-- the world of a feed at i.1, its cells at i.2 -/
def fdW (c s l t : Str) (i : Addr × Addr) : Wd Unit where
  G := fun _ H => ∃ ns kvs sp lf tn, Fd c s l t H i.1 i.2 ns kvs sp lf tn
  wa := [i.1, i.2]
  tr := by
    rintro _ H ⟨ns, kvs, sp, lf, tn, F⟩ a ha
    rcases List.mem_cons.mp ha with rfl | ha
    · rw [F.at']; exact fun z => nomatch z
    · rw [List.mem_singleton.mp ha, F.cells]; exact fun z => nomatch z
  st := by
    rintro _ H H' ⟨ns, kvs, sp, lf, tn, F⟩ e _
    exact ⟨ns, kvs, sp, lf, tn, F.grow (e _ (by simp)) (e _ (by simp))⟩
end
theorem dp_ints {K : PySem.W.Frag} {H : Hp} : ∀ ns : List Int, DpAll K H (ns.map V.int) (ns.map PyData.int)
  | [] => .nil
  | n :: ns => .cons (.int n) (dp_ints ns)
theorem shaped_ints (ns : List Int) : SeqAt.shaped (.list (ns.map PyData.int)) = true := by
  have h1 : ∀ ns : List Int, PyData.canLayAll0 (ns.map PyData.int) = true := by
    intro ns
    induction ns with
    | nil => simp only [List.map_nil, PyData.canLayAll0]
    | cons n ns ih => simp only [List.map_cons, PyData.canLayAll0, PyData.canLay0, ih, Bool.and_true]
  have h2 : ∀ ns : List Int, PyData.depthAll (ns.map PyData.int) = 0 := by
    intro ns
    induction ns with
    | nil => simp only [List.map_nil, PyData.depthAll]
    | cons n ns ih => simp only [List.map_cons, PyData.depthAll, PyData.depth, ih]; rfl
  unfold SeqAt.shaped
  simp only [PyData.canLay0, PyData.depth, h1, h2]
  decide
theorem shaped_nil : SeqAt.shaped (.list []) = true := shaped_ints []
theorem atI_mod {ns : List Int} (h : ns ≠ []) (i : Int) : ∃ c, atI (ns.map V.int) (i % ((ns.map V.int).length : Int)) = some (.int c) := by
  have l0 : 0 < ns.length := List.length_pos_iff.mpr h
  rw [List.length_map]
  have h1 := Int.emod_nonneg i (show (ns.length : Int) ≠ 0 by omega)
  have h2 := Int.emod_lt_of_pos i (show (0 : Int) < ns.length by omega)
  have e : i % (ns.length : Int) = (((i % (ns.length : Int)).toNat : Nat) : Int) := by omega
  have hk : (i % (ns.length : Int)).toNat < ns.length := by omega
  rw [e]
  exact ⟨ns[(i % (ns.length : Int)).toNat], atI_nat (by rw [List.getElem?_map, List.getElem?_eq_getElem hk]; rfl)⟩
theorem mid (x : Int) {m : Int} (h : 0 < m) (h2 : m ≤ 9223372036854775808) : -(2 ^ 64) < x % m ∧ x % m < 2 ^ 64 := by
  have h1 := Int.emod_nonneg x (show m ≠ 0 by omega)
  have h3 := Int.emod_lt_of_pos x h
  omega
/-- a number drawn below n -/
def F_draw : Addr × Addr → List Ag → Unit → (PyData → Unit → Prop) → (Er → Unit → Prop) → Prop := fun i as _ Q _ => ∃ n : Int, as = [.raw (.ref i.1), .d (.int n)] ∧ 0 < n ∧ n < 1073741824 ∧ ∀ k : Int, 0 ≤ k → k < n → Q (.int k) ()
end Dt

set_option Elab.async false
set_option linter.all false
set_option autoImplicit false
set_option maxRecDepth 100000
set_option maxHeartbeats 1000000
namespace Dt
open PySem PySem.Spec PyProof.Rows L2 LamX
/-! ### the world of a feed and of tables of code -/
theorem TabS.but {H H' : Hp} {P b : Addr} {q : Str} {ps : Array Value} (hP : H P = some (.tbl ps)) (e : ButP P H H') (n : b ≠ P) (t : TabS H b q) : TabS H' b q := by
  obtain ⟨us, h1, h2, h3⟩ := t
  refine ⟨us, e _ _ n h1, h2, fun pos cv hc => ?_⟩
  obtain ⟨c, e1, e2⟩ := h3 pos cv hc
  exact ⟨c, e1, e _ _ (fun z => codeO_ne ps (Option.some.inj (e2.symm.trans (z ▸ hP)))) e2⟩
theorem TabS.keep {H H' : Hp} {b : Addr} {q : Str} (t : TabS H b q) (h1 : H' b = H b) (e : ∀ b o, H b = some o → (∀ xs, o ≠ .lst xs) → (∀ xs, o ≠ .dK xs) → (∀ xs, o ≠ .dT xs) → H' b = some o) : TabS H' b q := by
  obtain ⟨us, a1, a2, a3⟩ := t
  refine ⟨us, h1.trans a1, a2, fun pos cv hc => ?_⟩
  obtain ⟨c, e1, e2⟩ := a3 pos cv hc
  exact ⟨c, e1, e _ _ e2 (fun xs z => by unfold CodeO at z; cases z) (fun xs z => by unfold CodeO at z; cases z) fun xs z => by unfold CodeO at z; cases z⟩
/-- what is not the changed object stays: a table stays -/
theorem TabS.off {H H' : Hp} {a b : Addr} {q : Str} {kvs : List (Key × V)} (ha : H a = some (.dK kvs)) (t : TabS H b q) (e : ∀ b o, b ≠ a → H b = some o → H' b = some o) : TabS H' b q := by
  obtain ⟨us, h1, h2, h3⟩ := t
  have n0 : b ≠ a := fun z => by rw [z, ha] at h1; cases h1
  refine ⟨us, e _ _ n0 h1, h2, fun pos cv hc => ?_⟩
  obtain ⟨c, e1, e2⟩ := h3 pos cv hc
  have n1 : c ≠ a := fun z => by
    rw [z, ha] at e2
    have e3 : HO.dK kvs = CodeO a q := Option.some.inj e2
    unfold CodeO at e3
    cases e3
  exact ⟨c, e1, e _ _ n1 e2⟩
def ftW (c s l t : Str) (T : List (Addr × Str)) (i : Addr × Addr) : Wd Unit where
  G := fun _ H => (∃ ns kvs sp lf tn, Fd c s l t H i.1 i.2 ns kvs sp lf tn) ∧ ∀ p ∈ T, TabS H p.1 p.2
  wa := i.1 :: i.2 :: T.map (·.1)
  tr := by
    rintro _ H ⟨⟨ns, kvs, sp, lf, tn, F⟩, hT⟩ a ha
    rcases List.mem_cons.mp ha with rfl | ha
    · rw [F.at']; exact fun z => nomatch z
    · rcases List.mem_cons.mp ha with rfl | ha
      · rw [F.cells]; exact fun z => nomatch z
      · obtain ⟨p, hp, rfl⟩ := List.mem_map.mp ha
        obtain ⟨us, h1, _⟩ := hT p hp
        rw [h1]; exact fun z => nomatch z
  st := by
    rintro _ H H' ⟨⟨ns, kvs, sp, lf, tn, F⟩, hT⟩ e e2
    refine ⟨⟨ns, kvs, sp, lf, tn, F.grow (e _ (by simp)) (e _ (by simp))⟩, fun p hp => Dt.TabS.keep (hT p hp) (e _ ?_) e2⟩
    exact List.mem_cons_of_mem _ (List.mem_cons_of_mem _ (List.mem_map.mpr ⟨p, hp, rfl⟩))
end Dt

set_option Elab.async false
set_option linter.all false
set_option autoImplicit false
set_option maxRecDepth 100000
set_option maxHeartbeats 1000000
namespace L07
open PySem PySem.Spec Dt LamX
open L2 hiding wT wNot
/-- an error, told as data -/
def TellsEr (cNU cIP cIT : Addr) (e : Er) (d : PyData) : Prop := ∃ d1 d2, (e = ⟨cNU, [("at", d2), ("word", d1)]⟩ ∧ d = .tuple [.str "NotUsable", d1, d2]) ∨ (e = ⟨cIP, [("at", d2), ("word", d1)]⟩ ∧ d = .tuple [.str "InvalidPaper", d1, d2]) ∨ (e = ⟨cIT, [("field", d2), ("line", d1)]⟩ ∧ d = .tuple [.str "InvalidText", d1, d2])
def wSaid {S : Type} (cNU cIP cIT : Addr) (wb : DE S) : DE S := fun ρ s Q E => wb ρ s (fun d s1 => Q (.tuple [.str "told", d]) s1) fun e s1 => ∃ d, TellsEr cNU cIP cIT e d ∧ Q d s1
theorem fs_two {K : PySem.W.Frag} {H : Hp} {a b : Str} {d1 d2 : PyData} : ∀ {fs : List (Str × V)}, FsOk K H fs [(a, d1), (b, d2)] → ∃ v1 v2, fs = [(a, v1), (b, v2)] ∧ Dv K H v1 d1 ∧ Dv K H v2 d2
  | [(_, v1), (_, v2)], h => by
    obtain ⟨rfl, h1, rfl, h2, _⟩ := h
    exact ⟨v1, v2, rfl, h1, h2⟩
  | [], h => h.elim
  | [_], h => h.2.2.elim
  | _ :: _ :: _ :: _, h => h.2.2.2.2.elim
section
variable {cs cp cl ct : Str} {T : List (Addr × Str)} {i : Addr × Addr} {X : Cx} {W : WX} {cNU cIP cIT cSE g fr c P : Addr} {fd fdr : FuncData} {k : Nat} {params : Arguments} {body : Expr} {scope : Scope} {t : XK → TE} {p lpos pos : Pos} {wb : DE Unit}
theorem e_said (Fu : Fun X.K "_law_said" "_law_said" s_said g fd) (hm : X.mg "_law_said" = some (.ref g)) (hb : L2.Binds X.K fd ["_law_ask"] []) (hr : Room (k + 3) X.A) (mSE : X.mg "SurelyError" = some (.ref cSE)) (eNU : PySem.W.exmOne X.K (.ref cNU) (.ref cSE) = some true) (eIP : PySem.W.exmOne X.K (.ref cIP) (.ref cSE) = some true) (eIT : PySem.W.exmOne X.K (.ref cIT) (.ref cSE) = some true)
    (FR : FnR X.prog X.w X.K X.mg X.base 1 fr fdr ["_law_e"] (spRef cNU cIP cIT)) (mR : X.mg "_law_refusal" = some (.ref fr)) (kR : PySem.W.keepIn X.K (.ref fr) = true) (bR : Binds X.K fdr ["_law_e"] [])
    (TB : TabB X.base X.mg c P) (hcode : X.env.code = .ref c) (hT : (P, X.env.qual ++ "<lambda>") ∈ T) (hu : (T.map (·.1)).Nodup) (L : LamS X.env.scope scope)
    (hbody : ∀ (A : Around) (outer : List PySem.Env) (s : Shared) (H : Hp) (E : XK) (f c' : Addr), Room k (A.deeper (lamEnv X scope s.heap.objs.size f c')) → ED (ftW cs cp cl ct T i) (lamCx X A outer s H E scope f c') (WXE E) body (t E) wb)
    (hg : Gl X "_law_said" := by rfl) (hdef : defaultsOf params X.env = ([], []) := by rfl) (hbind : ∀ (q : Str) (cl : List (Str × Addr)) (pm cv ctv : Value), bindArgs (PySem.W.kla_fn "<lambda>" q params body scope cl pm cv ctv) ⟨[], []⟩ = pure [] := by intros; rfl) :
    ED (ftW cs cp cl ct T i) X W (.Call (.Name "_law_said" p) [.Lambda params body scope lpos] [] pos) (tLamP P (X.env.qual ++ "<lambda>") (TSaid cNU cIP cIT) t) (wSaid cNU cIP cIT wb) := by
  have hr2 : Room (k + 2) X.A := hr.mono (by omega)
  refine ⟨pe_lamP Fu hg hm hb sc_said rfl (by first | exact Or.inl rfl | exact Or.inr (Or.inl rfl) | exact Or.inr (Or.inr rfl)) (fun cdg => said_gives (hr.mono (by omega)) mSE eNU eIP eIT FR mR kR bR) TB hcode hr2 L hdef hbind (fun A outer s H E f c' h => (hbody A outer s H E f c' h).pe), fun c σ H ρ s Qd Ed Q E hw hv he => ?_⟩
  have tP : TabS H P (X.env.qual ++ "<lambda>") := E.g.2 _ hT
  refine ⟨tP, fun H1 bt t1 H2 sm => ?_⟩
  obtain ⟨ps, hP, _⟩ := id tP
  have Pwa : P ∈ c.W.wa := List.mem_cons_of_mem _ (List.mem_cons_of_mem _ (List.mem_map.mpr ⟨_, hT, rfl⟩))
  have off : ∀ b o, H b = some o → b ∉ c.W.wa → H1 b = some o := fun b o q n => bt b o (fun z => n (z ▸ Pwa)) q
  have g1 : c.W.G s H1 := by
    obtain ⟨⟨ns, kvs, sp, lf, tn, F⟩, hTs⟩ := E.g
    have na : i.1 ≠ P := fun z => by
      have := F.at'
      rw [z, hP] at this; cases this
    have nL : i.2 ≠ P := fun z => by
      have := F.cells
      rw [z, hP] at this; cases this
    refine ⟨⟨ns, kvs, sp, lf, tn, F.grow ((bt _ _ na F.at').trans F.at'.symm) ((bt _ _ nL F.cells).trans F.cells.symm)⟩, fun p hp => ?_⟩
    by_cases e : p.1 = P
    · have : p = (P, X.env.qual ++ "<lambda>") := by
        obtain ⟨j, hj⟩ := List.getElem?_of_mem hp
        obtain ⟨m, hm⟩ := List.getElem?_of_mem hT
        have e1 : (T.map (·.1))[j]? = some P := by rw [List.getElem?_map, hj]; exact congrArg some e
        have e2 : (T.map (·.1))[m]? = some P := by rw [List.getElem?_map, hm]; rfl
        have jl : j < (T.map (·.1)).length := (List.getElem?_eq_some_iff.mp e1).1
        have : j = m := (List.getElem?_inj jl hu).mp (e1.trans e2.symm)
        rw [this] at hj
        exact Option.some.inj (hj.symm.trans hm)
      rw [this]; exact t1
    · exact TabS.but hP bt e (hTs p hp)
  obtain ⟨E1, st1⟩ := E.step g1 off
  have E2 := E1.grow sm
  have st2 : Stp c ρ ρ H H2 := st1.trans (stp_grow sm)
  have room : Room k (((X.A.deeper X.env).deeper (lamEnv X scope X.s_0.heap.objs.size 0 0))) := ((hr2).deeper _).deeper _
  have B := hbody (X.A.deeper X.env) X.stack X.s_0 X.H_0 (fun cls dd H' => ∃ nm v1 v2, Told cNU cIP cIT H' cls dd nm v1 v2 ∧ ∀ H'' t, Same H' H'' → H' t = none → H'' t = some (.tup [.str nm, v1, v2]) → Q (.ref t) H'') 0 0 room
  have from2 : ∀ {H' : Hp} {s' : Unit}, EnvD X.K (c.base H2 ρ) σ H' ρ s' → EnvD X.K c σ H' ρ s' ∧ Stp c ρ ρ H H' := fun {H' s'} E' => by
    have E3 := E2.unbase E'
    refine ⟨E3, st2.trans ?_⟩
    intro b o hbo
    obtain ⟨nb, q⟩ := hd_some.mp hbo
    refine hd_some.mpr ⟨nb, E'.ext b o ?_ fun z => nb (List.mem_append_left _ (List.mem_append_left _ z))⟩
    show (if b ∈ owns ρ then none else H2 b) = some o
    rw [if_neg fun z => nb (List.mem_append_right _ z)]; exact q
  refine B.go (c.base H2 ρ) σ H2 ρ s _ _ _ E2.rebase hw (fun v H' d s' E' st' dv q t nt => ?_) fun e cls dd H' s' E' ei q => ?_
  · obtain ⟨E3, st3⟩ := from2 E'
    have sg := same_upd (o := .tup [.str "told", v]) nt
    refine hv (.ref t) _ _ s' (E3.grow sg) (st3.trans (stp_grow sg)) ?_ q
    exact Dv.newT E3.tr nt (.cons (.str ⟨by decide +kernel, by decide +kernel⟩) (.cons dv .nil)) (by show _ ≤ 4194304; simp)
  · obtain ⟨E3, stE⟩ := from2 E'
    obtain ⟨d, ht, qd⟩ := q
    obtain ⟨rfl, dx, fs, rfl, hx, hf⟩ := ei
    have hf : FsOk X.K (hd H' (c.hs ρ)) fs e.fs := hf
    have fin : ∀ (nm : Str) (v1 v2 : V) (d1 d2 : PyData), okS nm → Dv X.K (hd H' (c.hs ρ)) v1 d1 → Dv X.K (hd H' (c.hs ρ)) v2 d2 → Qd (.tuple [.str nm, d1, d2]) s' → ∀ H'' t, Same H' H'' → H' t = none → H'' t = some (.tup [.str nm, v1, v2]) → Q (.ref t) H'' := fun nm v1 v2 d1 d2 ok a1 a2 q H'' t sm nt et => by
      have tn : t ∉ c.hs ρ := fun z => E3.tr t z nt
      have s2 : Same (hd H' (c.hs ρ)) (hd H'' (c.hs ρ)) := stp_grow (c := c) (ρ := ρ) sm
      exact hv (.ref t) _ _ s' (E3.grow sm) (stE.trans (stp_grow sm)) (.tup (.inl (.inl (by rw [hd_out tn]; exact et))) (by show _ ≤ 4194304; simp) (.cons (.str ok) (.cons (Dv.same s2 _ _ a1) (.cons (Dv.same s2 _ _ a2) .nil)))) q
    obtain ⟨d1, d2, ⟨rfl, rfl⟩ | ⟨rfl, rfl⟩ | ⟨rfl, rfl⟩⟩ := ht
    · obtain ⟨v2, v1, rfl, b2, b1⟩ := fs_two hf
      exact ⟨"NotUsable", v1, v2, ⟨cNU, dx, _, rfl, rfl, hx, .inl ⟨rfl, rfl, rfl, rfl⟩⟩, fin _ _ _ _ _ ⟨by decide +kernel, by decide +kernel⟩ b1 b2 qd⟩
    · obtain ⟨v2, v1, rfl, b2, b1⟩ := fs_two hf
      exact ⟨"InvalidPaper", v1, v2, ⟨cIP, dx, _, rfl, rfl, hx, .inr (.inl ⟨rfl, rfl, rfl, rfl⟩)⟩, fin _ _ _ _ _ ⟨by decide +kernel, by decide +kernel⟩ b1 b2 qd⟩
    · obtain ⟨v2, v1, rfl, b2, b1⟩ := fs_two hf
      exact ⟨"InvalidText", v1, v2, ⟨cIT, dx, _, rfl, rfl, hx, .inr (.inr ⟨rfl, rfl, rfl, rfl⟩)⟩, fin _ _ _ _ _ ⟨by decide +kernel, by decide +kernel⟩ b1 b2 qd⟩
end
/-- _law_said, ready to be handed a lambda -/
structure SaidF (P : Program) (w : World) (K : PySem.W.Frag) (mg : Str → Option Value) (base : Heap) (cNU cIP cIT : Addr) : Prop where
  ex : ∃ (g fr cSE : Addr) (fd fdr : FuncData), Fun K "_law_said" "_law_said" s_said g fd ∧ mg "_law_said" = some (.ref g) ∧ L2.Binds K fd ["_law_ask"] [] ∧ mg "SurelyError" = some (.ref cSE) ∧ PySem.W.exmOne K (.ref cNU) (.ref cSE) = some true ∧ PySem.W.exmOne K (.ref cIP) (.ref cSE) = some true ∧ PySem.W.exmOne K (.ref cIT) (.ref cSE) = some true ∧
    FnR P w K mg base 1 fr fdr ["_law_e"] (spRef cNU cIP cIT) ∧ mg "_law_refusal" = some (.ref fr) ∧ PySem.W.keepIn K (.ref fr) = true ∧ L2.Binds K fdr ["_law_e"] []
section
variable {cs cp cl ct : Str} {T : List (Addr × Str)} {i : Addr × Addr} {X : Cx} {W : WX} {K : PySem.W.Frag} {cNU cIP cIT c P : Addr} {params : Arguments} {body : Expr} {scope : Scope} {t : XK → TE} {p lpos pos : Pos} {wb : DE Unit}
theorem e_saidF (k : Nat) (Sd : SaidF X.prog X.w K X.mg X.base cNU cIP cIT) (hr : Room (k + 3) X.A) (TB : TabB X.base X.mg c P) (hcode : X.env.code = .ref c) {q : Str} (hq : X.env.qual = q) (hT : (P, q ++ "<lambda>") ∈ T) (hu : (T.map (·.1)).Nodup) (L : LamS X.env.scope scope)
    (hbody : ∀ (A : Around) (outer : List PySem.Env) (s : Shared) (H : Hp) (E : XK) (f c' : Addr), Room k (A.deeper (lamEnv X scope s.heap.objs.size f c')) → ED (ftW cs cp cl ct T i) (lamCx X A outer s H E scope f c') (WXE E) body (t E) wb) (hK : X.K = K := by rfl)
    (hg : Gl X "_law_said" := by rfl) (hdef : defaultsOf params X.env = ([], []) := by rfl) (hbind : ∀ (q : Str) (cl : List (Str × Addr)) (pm cv ctv : Value), bindArgs (PySem.W.kla_fn "<lambda>" q params body scope cl pm cv ctv) ⟨[], []⟩ = pure [] := by intros; rfl) :
    ED (ftW cs cp cl ct T i) X W (.Call (.Name "_law_said" p) [.Lambda params body scope lpos] [] pos) (tLamP P (X.env.qual ++ "<lambda>") (TSaid cNU cIP cIT) t) (wSaid cNU cIP cIT wb) := by
  subst hK
  subst hq
  obtain ⟨g, fr, cSE, fd, fdr, h1, h2, h3, h4, h5, h6, h7, h8, h9, h10, h11⟩ := Sd.ex
  exact e_said h1 h2 h3 hr h4 h5 h6 h7 h8 h9 h10 h11 TB hcode hT hu L hbody hg hdef hbind
end
end L07

set_option Elab.async false
set_option linter.all false
set_option autoImplicit false
set_option maxRecDepth 100000
set_option maxHeartbeats 4000000
namespace L07
open PySem PySem.Spec Dt
open L2 hiding wT wNot
abbrev F1 (g : PyData → PyData) : List PyData → (PyData → Prop) → (Er → Prop) → Prop := fun ds Q _ => match ds with
  | [d] => Q (g d)
  | _ => False
theorem wChain_eq {S : Type} {f g : PyData → PyData → (PyData → Prop) → Prop} {wa wb wc : DE S} {ρ : List Sl} {s : S} {Q : PyData → S → Prop} {E : Er → S → Prop} : wChain f g wa wb wc ρ s Q E = wa ρ s (fun x s1 => wb ρ s1 (fun y s2 => f x y fun z => match z with
  | .bool b => if b = true then wc ρ s2 (fun u s3 => g y u fun z => Q z s3) E else Q (.bool false) s2
  | _ => False) E) E := by
  unfold wChain
  congr 1
  funext x s1
  congr 1
  funext y s2
  congr 1
  funext z
  cases z with
  | bool b => cases b <;> rfl
  | _ => rfl
theorem atI_0 {a : PyData} {r : List PyData} : atI (a :: r) 0 = some a := atI_nat (j := 0) rfl
theorem atI_1 {a b : PyData} {r : List PyData} : atI (a :: b :: r) 1 = some b := atI_nat (j := 1) rfl
theorem atI_2 {a b c : PyData} {r : List PyData} : atI (a :: b :: c :: r) 2 = some c := atI_nat (j := 2) rfl
theorem cut_tail {xs : List PyData} : cutD xs (some 1) none = xs.drop 1 := by
  unfold cutD
  rw [show (some (1 : Int)) = some (((1 : Nat) : Int)) from rfl, HT.sIx_nat, HT.sIx_none]
  cases xs with
  | nil => rfl
  | cons a r =>
    rw [show min 1 (a :: r).length = 1 by simp]
    exact List.take_of_length_le (by simp)
theorem limL_eq : limL = 4194304 := rfl
section
variable {P : Program} {w : World} {K : PySem.W.Frag} {mg : Str → Option Value} {base : Heap}
/-! ## is_name -/
abbrev s_is_name : Stmt := top 12
theorem sc_is_name : FnScope ["thing", "letter"] ["thing"] (defScope s_is_name) := ⟨rfl, rfl, rfl, by decide +kernel, rfl, by decide +kernel, by decide +kernel⟩
def isLet (x : Str) : Bool := strIn x "abcdefghijklmnopqrstuvwxyz"
def sgn : PyData → PyData
  | .str x => .bool (isLet x)
  | _ => .none
def isName : PyData → Bool
  | .str x => decide (1 ≤ x.length) && decide (x.length ≤ 8) && x.cps.toList.all fun c => isLet ⟨#[c]⟩
  | _ => false
abbrev F_is_name := F1 fun d => .bool (isName d)
def w_is_name : DS Unit :=
  (wRet (wAnd (wIsi "str" (wVar 0)) (wAnd (wChain dLe dLe (wC (.int 1)) (wCB fLen (wCons (wVar 0) wNil)) (wC (.int 8))) (wCB (fAll fun bs => bs.all id) (wCons (wL (wComp (wSeqI (wVar 0)) (gN 1) wYes (wOp dIn (wVar 1) (wC (.str "abcdefghijklmnopqrstuvwxyz"))) [1])) wNil)))))
theorem spec_is_name : ∀ ds Qd Ed, ds.length = 1 → F_is_name ds Qd Ed → w_is_name (argS 1 2 (ds.map Sl.d)) () (endP Qd Ed) := by
  intro ds Qd Ed hl h
  match ds, hl, h with
  | [d], _, h =>
    unfold w_is_name
    cases d with
    | str x =>
      simp [wRet, wRetN, wIfS, wSeq, wNext, wT, wTand, wTor, wTnot, wAnd_eq, wOr_eq, wNot, wIsi_int, wIsi_bool, wIsi_str, wIsi_tup, wIsi_lst, tyInt, tyBool, tyStr, tyTup, tyLst, wChain_eq, wOp, wUn, wC, wVar, wCB, wCallP, fLen, wL, wComp, wSeqI, wZip, zipS, wCons, wNil, wTup, allK, argS, endP, noOwn, wipeD, dLe, dLt, dGe, dGt, dCm, dEq, dNe, dIdx, atI_0, atI_1, atI_2, wAsg, gN, gT, gCs, gNs, List.set, dInG, flatD, F1, List.length, limL_eq, shp_i, shp_s, shp_b, shp_n, eqv_ii, eqv_ss, F_is_name]
      have h : Qd (.bool (isName (.str x))) := h
      by_cases c1 : 1 ≤ x.length
      · by_cases c2 : x.length ≤ 8
        · rw [if_pos (by exact_mod_cast c1), if_pos (by exact_mod_cast c2)]
          refine comp_map sgn _ _ _ (fun d hd s Y y => ?_) ?_
          · obtain ⟨c, hc, rfl⟩ := List.mem_map.mp hd
            exact ⟨rfl, y⟩
          · refine ⟨x.cps.toList.map fun c => isLet ⟨#[c]⟩, ?_, ?_⟩
            · simp [signs, sgn]
            · have e : isName (.str x) = (x.cps.toList.map fun c => isLet ⟨#[c]⟩).all id := by
                simp only [isName, c1, c2, decide_true, Bool.true_and, List.all_map]
                rfl
              rw [e] at h; exact h
        · rw [if_pos (by exact_mod_cast c1), if_neg (by exact_mod_cast c2)]
          have e : isName (.str x) = false := by simp [isName, c2]
          rw [← e]; exact h
      · rw [if_neg (by exact_mod_cast c1)]
        have e : isName (.str x) = false := by simp [isName, c1]
        rw [← e]; exact h
    | _ => simpa [wRet, wRetN, wIfS, wSeq, wNext, wT, wTand, wTor, wTnot, wAnd_eq, wOr_eq, wNot, wIsi_int, wIsi_bool, wIsi_str, wIsi_tup, wIsi_lst, tyInt, tyBool, tyStr, tyTup, tyLst, wChain_eq, wOp, wUn, wC, wVar, wCB, wCallP, fLen, wL, wComp, wSeqI, wZip, zipS, wCons, wNil, wTup, allK, argS, endP, noOwn, wipeD, dLe, dLt, dGe, dGt, dCm, dEq, dNe, dIdx, atI_0, atI_1, atI_2, wAsg, gN, gT, gCs, gNs, List.set, dInG, flatD, F1, List.length, limL_eq, shp_i, shp_s, shp_b, shp_n, eqv_ii, eqv_ss, F_is_name, isName] using h
theorem fo_is_name {f : Addr} {fd : FuncData} (Fu : Fun K "is_name" "is_name" s_is_name f fd) (B : Bt mg) (C_LETTERS : Gc K mg "LETTERS" (.str "abcdefghijklmnopqrstuvwxyz") (.str "abcdefghijklmnopqrstuvwxyz")) (C_LONGEST_NAME : Gc K mg "LONGEST_NAME" (.int 8) (.int 8)) : FnOk P w K mg base CX0 1 f fd ["thing"] (spP K 1 F_is_name) :=
  fnPO (wb := w_is_name) Fu sc_is_name rfl (fun cdv A outer s H E hr => ⟨_,
  (sd_one (sd_ret (ed_and (e_isi (T' := "str") B (ed_var 0) (by decide +kernel)) (ed_and (e_leLe ed_int (e_len B (ad_cons (ed_var 0) ad_nil)) (e_glob C_LONGEST_NAME)) (ed_one (e_all B rfl (ad_cons (ed_new (fd_lc rfl sc_is_name.nd (own := [("letter", 1)]) (i_seq (ed_var 0)) (blkOk_by (own := [("letter", 1)]) (N := ["thing", "letter"]) (sc := defScope s_is_name) (by decide +kernel))
    (fun _ _ _ _ _ => (gd_name 1 sc_is_name.nd rfl (by first | exact .inl rfl | exact .inr rfl))) (fun _ _ _ _ _ => ptd_nil) (fun _ _ _ _ _ => (e_in hr (ed_var 1) (e_glob C_LETTERS))) (by simp))) ad_nil)))))))⟩) (spec_is_name)
theorem ok_is_name {f : Addr} {fd : FuncData} (Fu : Fun K "is_name" "is_name" s_is_name f fd) (hm : mg "is_name" = some (.ref f)) (hb : Binds K fd ["thing"] []) (B : Bt mg) (C_LETTERS : Gc K mg "LETTERS" (.str "abcdefghijklmnopqrstuvwxyz") (.str "abcdefghijklmnopqrstuvwxyz")) (C_LONGEST_NAME : Gc K mg "LONGEST_NAME" (.int 8) (.int 8)) : Do P w K mg base CX0 1 "is_name" 1 (spP K 1 F_is_name) :=
  ⟨f, fd, ["thing"], rfl, hm, Fu.kp, hb, fo_is_name Fu B C_LETTERS C_LONGEST_NAME⟩
/-! ## is_nothing -/
abbrev s_is_nothing : Stmt := top 14
theorem sc_is_nothing : FnScope ["thing"] ["thing"] (defScope s_is_nothing) := ⟨rfl, rfl, rfl, by decide +kernel, rfl, by decide +kernel, by decide +kernel⟩
def isNothing : PyData → Bool
  | .str x => decide (x.length = 0)
  | _ => false
abbrev F_is_nothing := F1 fun d => .bool (isNothing d)
def w_is_nothing : DS Unit :=
  (wRet (wAnd (wIsi "str" (wVar 0)) (wOp dEq (wCB fLen (wCons (wVar 0) wNil)) (wC (.int 0)))))
theorem spec_is_nothing : ∀ ds Qd Ed, ds.length = 1 → F_is_nothing ds Qd Ed → w_is_nothing (argS 1 1 (ds.map Sl.d)) () (endP Qd Ed) := by
  intro ds Qd Ed hl h
  match ds, hl, h with
  | [d], _, h =>
    unfold w_is_nothing
    cases d <;> simpa [wRet, wRetN, wIfS, wSeq, wNext, wT, wTand, wTor, wTnot, wAnd_eq, wOr_eq, wNot, wIsi_int, wIsi_bool, wIsi_str, wIsi_tup, wIsi_lst, tyInt, tyBool, tyStr, tyTup, tyLst, wChain_eq, wOp, wUn, wC, wVar, wCB, wCallP, fLen, wL, wComp, wSeqI, wZip, zipS, wCons, wNil, wTup, allK, argS, endP, noOwn, wipeD, dLe, dLt, dGe, dGt, dCm, dEq, dNe, dIdx, atI_0, atI_1, atI_2, wAsg, gN, gT, gCs, gNs, List.set, dInG, flatD, F1, List.length, limL_eq, shp_i, shp_s, shp_b, shp_n, eqv_ii, eqv_ss, F_is_name, F_is_nothing, isNothing] using h
theorem fo_is_nothing {f : Addr} {fd : FuncData} (Fu : Fun K "is_nothing" "is_nothing" s_is_nothing f fd) (B : Bt mg) : FnOk P w K mg base CX0 1 f fd ["thing"] (spP K 1 F_is_nothing) :=
  fnPO (wb := w_is_nothing) Fu sc_is_nothing rfl (fun cdv A outer s H E hr => ⟨_,
  (sd_one (sd_ret (ed_and (e_isi (T' := "str") B (ed_var 0) (by decide +kernel)) (ed_one (e_eq hr (e_len B (ad_cons (ed_var 0) ad_nil)) ed_int)))))⟩) (spec_is_nothing)
theorem ok_is_nothing {f : Addr} {fd : FuncData} (Fu : Fun K "is_nothing" "is_nothing" s_is_nothing f fd) (hm : mg "is_nothing" = some (.ref f)) (hb : Binds K fd ["thing"] []) (B : Bt mg) : Do P w K mg base CX0 1 "is_nothing" 1 (spP K 1 F_is_nothing) :=
  ⟨f, fd, ["thing"], rfl, hm, Fu.kp, hb, fo_is_nothing Fu B⟩
/-! ## is_kind -/
abbrev s_is_kind : Stmt := top 13
theorem sc_is_kind : FnScope ["thing"] ["thing"] (defScope s_is_kind) := ⟨rfl, rfl, rfl, by decide +kernel, rfl, by decide +kernel, by decide +kernel⟩
def isKind (d : PyData) : Bool := isName d || isNothing d
abbrev F_is_kind := F1 fun d => .bool (isKind d)
def w_is_kind : DS Unit :=
  (wRet (wOr (wCallP (fun ds Q E => ds.length = 1 ∧ F_is_name ds Q E) (wCons (wVar 0) wNil)) (wCallP (fun ds Q E => ds.length = 1 ∧ F_is_nothing ds Q E) (wCons (wVar 0) wNil))))
theorem spec_is_kind : ∀ ds Qd Ed, ds.length = 1 → F_is_kind ds Qd Ed → w_is_kind (argS 1 1 (ds.map Sl.d)) () (endP Qd Ed) := by
  intro ds Qd Ed hl h
  match ds, hl, h with
  | [d], _, h =>
    unfold w_is_kind
    simp [wRet, wRetN, wIfS, wSeq, wNext, wT, wTand, wTor, wTnot, wAnd_eq, wOr_eq, wNot, wIsi_int, wIsi_bool, wIsi_str, wIsi_tup, wIsi_lst, tyInt, tyBool, tyStr, tyTup, tyLst, wChain_eq, wOp, wUn, wC, wVar, wCB, wCallP, fLen, wL, wComp, wSeqI, wZip, zipS, wCons, wNil, wTup, allK, argS, endP, noOwn, wipeD, dLe, dLt, dGe, dGt, dCm, dEq, dNe, dIdx, atI_0, atI_1, atI_2, wAsg, gN, gT, gCs, gNs, List.set, dInG, flatD, F1, List.length, limL_eq, shp_i, shp_s, shp_b, shp_n, eqv_ii, eqv_ss, F_is_name, F_is_nothing, F_is_kind]
    have h : Qd (.bool (isName d || isNothing d)) := h
    by_cases c : isName d = true <;> simpa [c] using h
theorem fo_is_kind {f : Addr} {fd : FuncData} (Fu : Fun K "is_kind" "is_kind" s_is_kind f fd) (B : Bt mg) (D_is_name : Do P w K mg base CX0 1 "is_name" 1 (spP K 1 F_is_name)) (D_is_nothing : Do P w K mg base CX0 1 "is_nothing" 1 (spP K 1 F_is_nothing)) : FnOk P w K mg base CX0 2 f fd ["thing"] (spP K 1 F_is_kind) :=
  fnPO (wb := w_is_kind) Fu sc_is_kind rfl (fun cdv A outer s H E hr => ⟨_,
  (sd_one (sd_ret (ed_or (e_callO D_is_name (hr.mono (by decide)) pass00 (ad_cons (ed_var 0) ad_nil)) (ed_one (e_callO D_is_nothing (hr.mono (by decide)) pass00 (ad_cons (ed_var 0) ad_nil))))))⟩) (spec_is_kind)
theorem ok_is_kind {f : Addr} {fd : FuncData} (Fu : Fun K "is_kind" "is_kind" s_is_kind f fd) (hm : mg "is_kind" = some (.ref f)) (hb : Binds K fd ["thing"] []) (B : Bt mg) (D_is_name : Do P w K mg base CX0 1 "is_name" 1 (spP K 1 F_is_name)) (D_is_nothing : Do P w K mg base CX0 1 "is_nothing" 1 (spP K 1 F_is_nothing)) : Do P w K mg base CX0 2 "is_kind" 1 (spP K 1 F_is_kind) :=
  ⟨f, fd, ["thing"], rfl, hm, Fu.kp, hb, fo_is_kind Fu B D_is_name D_is_nothing⟩
/-! ## is_one_of -/
abbrev s_is_one_of : Stmt := top 15
theorem sc_is_one_of : FnScope ["thing", "words"] ["thing", "words"] (defScope s_is_one_of) := ⟨rfl, rfl, rfl, by decide +kernel, rfl, by decide +kernel, by decide +kernel⟩
def isOneOf (d : PyData) (ys : List PyData) : Bool := match d with
  | .str x => ys.any fun y => PyData.eqv y (.str x)
  | _ => false
abbrev F_is_one_of : List PyData → (PyData → Prop) → (Er → Prop) → Prop := fun ds Q _ => match ds with
  | [d, .tuple ys] => ys.all flatD = true ∧ Q (.bool (isOneOf d ys))
  | _ => False
def w_is_one_of : DS Unit :=
  (wRet (wAnd (wIsi "str" (wVar 0)) (wOp dIn (wVar 0) (wVar 1))))
theorem spec_is_one_of : ∀ ds Qd Ed, ds.length = 2 → F_is_one_of ds Qd Ed → w_is_one_of (argS 2 2 (ds.map Sl.d)) () (endP Qd Ed) := by
  intro ds Qd Ed hl h
  match ds, hl, h with
  | [d, e], _, h =>
    unfold w_is_one_of
    cases e with
    | tuple ys => cases d <;> simp [wRet, wRetN, wIfS, wSeq, wNext, wT, wTand, wTor, wTnot, wAnd_eq, wOr_eq, wNot, wIsi_int, wIsi_bool, wIsi_str, wIsi_tup, wIsi_lst, tyInt, tyBool, tyStr, tyTup, tyLst, wChain_eq, wOp, wUn, wC, wVar, wCB, wCallP, fLen, wL, wComp, wSeqI, wZip, zipS, wCons, wNil, wTup, allK, argS, endP, noOwn, wipeD, dLe, dLt, dGe, dGt, dCm, dEq, dNe, dIdx, atI_0, atI_1, atI_2, wAsg, gN, gT, gCs, gNs, List.set, dInG, flatD, F1, List.length, limL_eq, shp_i, shp_s, shp_b, shp_n, eqv_ii, eqv_ss, isOneOf] <;> simp [F_is_one_of, isOneOf] at h <;> first | exact h | exact h.2
    | _ => exact h.elim
theorem fo_is_one_of {f : Addr} {fd : FuncData} (Fu : Fun K "is_one_of" "is_one_of" s_is_one_of f fd) (B : Bt mg) : FnOk P w K mg base CX0 1 f fd ["thing", "words"] (spP K 2 F_is_one_of) :=
  fnPO (wb := w_is_one_of) Fu sc_is_one_of rfl (fun cdv A outer s H E hr => ⟨_,
  (sd_one (sd_ret (ed_and (e_isi (T' := "str") B (ed_var 0) (by decide +kernel)) (ed_one (e_in hr (ed_var 0) (ed_var 1))))))⟩) (spec_is_one_of)
theorem ok_is_one_of {f : Addr} {fd : FuncData} (Fu : Fun K "is_one_of" "is_one_of" s_is_one_of f fd) (hm : mg "is_one_of" = some (.ref f)) (hb : Binds K fd ["thing", "words"] []) (B : Bt mg) : Do P w K mg base CX0 1 "is_one_of" 2 (spP K 2 F_is_one_of) :=
  ⟨f, fd, ["thing", "words"], rfl, hm, Fu.kp, hb, fo_is_one_of Fu B⟩
/-! ## is_pair -/
abbrev s_is_pair : Stmt := top 16
theorem sc_is_pair : FnScope ["thing"] ["thing"] (defScope s_is_pair) := ⟨rfl, rfl, rfl, by decide +kernel, rfl, by decide +kernel, by decide +kernel⟩
def isPair : PyData → Bool
  | .tuple [_, _] => true
  | _ => false
abbrev F_is_pair := F1 fun d => .bool (isPair d)
def w_is_pair : DS Unit :=
  (wRet (wAnd (wIsi "tuple" (wVar 0)) (wOp dEq (wCB fLen (wCons (wVar 0) wNil)) (wC (.int 2)))))
theorem spec_is_pair : ∀ ds Qd Ed, ds.length = 1 → F_is_pair ds Qd Ed → w_is_pair (argS 1 1 (ds.map Sl.d)) () (endP Qd Ed) := by
  intro ds Qd Ed hl h
  match ds, hl, h with
  | [d], _, h =>
    unfold w_is_pair
    cases d with
    | tuple xs =>
      match xs, h with
      | [], h => simpa [wRet, wRetN, wIfS, wSeq, wNext, wT, wTand, wTor, wTnot, wAnd_eq, wOr_eq, wNot, wIsi_int, wIsi_bool, wIsi_str, wIsi_tup, wIsi_lst, tyInt, tyBool, tyStr, tyTup, tyLst, wChain_eq, wOp, wUn, wC, wVar, wCB, wCallP, fLen, wL, wComp, wSeqI, wZip, zipS, wCons, wNil, wTup, allK, argS, endP, noOwn, wipeD, dLe, dLt, dGe, dGt, dCm, dEq, dNe, dIdx, atI_0, atI_1, atI_2, wAsg, gN, gT, gCs, gNs, List.set, dInG, flatD, F1, List.length, limL_eq, shp_i, shp_s, shp_b, shp_n, eqv_ii, eqv_ss, F_is_name, F_is_nothing, F_is_kind, F_is_pair, isPair] using h
      | [a], h => simpa [wRet, wRetN, wIfS, wSeq, wNext, wT, wTand, wTor, wTnot, wAnd_eq, wOr_eq, wNot, wIsi_int, wIsi_bool, wIsi_str, wIsi_tup, wIsi_lst, tyInt, tyBool, tyStr, tyTup, tyLst, wChain_eq, wOp, wUn, wC, wVar, wCB, wCallP, fLen, wL, wComp, wSeqI, wZip, zipS, wCons, wNil, wTup, allK, argS, endP, noOwn, wipeD, dLe, dLt, dGe, dGt, dCm, dEq, dNe, dIdx, atI_0, atI_1, atI_2, wAsg, gN, gT, gCs, gNs, List.set, dInG, flatD, F1, List.length, limL_eq, shp_i, shp_s, shp_b, shp_n, eqv_ii, eqv_ss, F_is_name, F_is_nothing, F_is_kind, F_is_pair, isPair] using h
      | [a, b], h => simpa [wRet, wRetN, wIfS, wSeq, wNext, wT, wTand, wTor, wTnot, wAnd_eq, wOr_eq, wNot, wIsi_int, wIsi_bool, wIsi_str, wIsi_tup, wIsi_lst, tyInt, tyBool, tyStr, tyTup, tyLst, wChain_eq, wOp, wUn, wC, wVar, wCB, wCallP, fLen, wL, wComp, wSeqI, wZip, zipS, wCons, wNil, wTup, allK, argS, endP, noOwn, wipeD, dLe, dLt, dGe, dGt, dCm, dEq, dNe, dIdx, atI_0, atI_1, atI_2, wAsg, gN, gT, gCs, gNs, List.set, dInG, flatD, F1, List.length, limL_eq, shp_i, shp_s, shp_b, shp_n, eqv_ii, eqv_ss, F_is_name, F_is_nothing, F_is_kind, F_is_pair, isPair] using h
      | a :: b :: c :: r, h =>
        have n : ¬ ((r.length : Int) + 1 + 1 + 1 = 2) := by omega
        simpa [wRet, wRetN, wIfS, wSeq, wNext, wT, wTand, wTor, wTnot, wAnd_eq, wOr_eq, wNot, wIsi_int, wIsi_bool, wIsi_str, wIsi_tup, wIsi_lst, tyInt, tyBool, tyStr, tyTup, tyLst, wChain_eq, wOp, wUn, wC, wVar, wCB, wCallP, fLen, wL, wComp, wSeqI, wZip, zipS, wCons, wNil, wTup, allK, argS, endP, noOwn, wipeD, dLe, dLt, dGe, dGt, dCm, dEq, dNe, dIdx, atI_0, atI_1, atI_2, wAsg, gN, gT, gCs, gNs, List.set, dInG, flatD, F1, List.length, limL_eq, shp_i, shp_s, shp_b, shp_n, eqv_ii, eqv_ss, F_is_name, F_is_nothing, F_is_kind, F_is_pair, isPair, n] using h
    | _ => simpa [wRet, wRetN, wIfS, wSeq, wNext, wT, wTand, wTor, wTnot, wAnd_eq, wOr_eq, wNot, wIsi_int, wIsi_bool, wIsi_str, wIsi_tup, wIsi_lst, tyInt, tyBool, tyStr, tyTup, tyLst, wChain_eq, wOp, wUn, wC, wVar, wCB, wCallP, fLen, wL, wComp, wSeqI, wZip, zipS, wCons, wNil, wTup, allK, argS, endP, noOwn, wipeD, dLe, dLt, dGe, dGt, dCm, dEq, dNe, dIdx, atI_0, atI_1, atI_2, wAsg, gN, gT, gCs, gNs, List.set, dInG, flatD, F1, List.length, limL_eq, shp_i, shp_s, shp_b, shp_n, eqv_ii, eqv_ss, F_is_name, F_is_nothing, F_is_kind, F_is_pair, isPair] using h
theorem fo_is_pair {f : Addr} {fd : FuncData} (Fu : Fun K "is_pair" "is_pair" s_is_pair f fd) (B : Bt mg) : FnOk P w K mg base CX0 1 f fd ["thing"] (spP K 1 F_is_pair) :=
  fnPO (wb := w_is_pair) Fu sc_is_pair rfl (fun cdv A outer s H E hr => ⟨_,
  (sd_one (sd_ret (ed_and (e_isi (T' := "tuple") B (ed_var 0) (by decide +kernel)) (ed_one (e_eq hr (e_len B (ad_cons (ed_var 0) ad_nil)) ed_int)))))⟩) (spec_is_pair)
theorem ok_is_pair {f : Addr} {fd : FuncData} (Fu : Fun K "is_pair" "is_pair" s_is_pair f fd) (hm : mg "is_pair" = some (.ref f)) (hb : Binds K fd ["thing"] []) (B : Bt mg) : Do P w K mg base CX0 1 "is_pair" 1 (spP K 1 F_is_pair) :=
  ⟨f, fd, ["thing"], rfl, hm, Fu.kp, hb, fo_is_pair Fu B⟩
/-! ## is_sort -/
abbrev s_is_sort : Stmt := top 17
theorem sc_is_sort : FnScope ["thing"] ["thing"] (defScope s_is_sort) := ⟨rfl, rfl, rfl, by decide +kernel, rfl, by decide +kernel, by decide +kernel⟩
def isSort : PyData → Bool
  | .tuple [a, b] => isOneOf a [.str "fun"] && isKind b
  | .str x => isOneOf (.str x) [.str "if", .str "loop"]
  | _ => false
abbrev F_is_sort := F1 fun d => .bool (isSort d)
def w_is_sort : DS Unit :=
  (wSeq (wIfS (wT (wCallP (fun ds Q E => ds.length = 1 ∧ F_is_pair ds Q E) (wCons (wVar 0) wNil))) (wRet (wAnd (wCallP (fun ds Q E => ds.length = 2 ∧ F_is_one_of ds Q E) (wCons (wOp dIdx (wVar 0) (wC (.int 0))) (wCons (wTup (wCons (wC (.str "fun")) wNil)) wNil))) (wCallP (fun ds Q E => ds.length = 1 ∧ F_is_kind ds Q E) (wCons (wOp dIdx (wVar 0) (wC (.int 1))) wNil)))) wNext)
  (wRet (wCallP (fun ds Q E => ds.length = 2 ∧ F_is_one_of ds Q E) (wCons (wVar 0) (wCons (wTup (wCons (wC (.str "if")) (wCons (wC (.str "loop")) wNil))) wNil)))))
theorem spec_is_sort : ∀ ds Qd Ed, ds.length = 1 → F_is_sort ds Qd Ed → w_is_sort (argS 1 1 (ds.map Sl.d)) () (endP Qd Ed) := by
  intro ds Qd Ed hl h
  match ds, hl, h with
  | [d], _, h =>
    unfold w_is_sort
    cases d with
    | tuple xs =>
      match xs, h with
      | [], h => simpa [wRet, wRetN, wIfS, wSeq, wNext, wT, wTand, wTor, wTnot, wAnd_eq, wOr_eq, wNot, wIsi_int, wIsi_bool, wIsi_str, wIsi_tup, wIsi_lst, tyInt, tyBool, tyStr, tyTup, tyLst, wChain_eq, wOp, wUn, wC, wVar, wCB, wCallP, fLen, wL, wComp, wSeqI, wZip, zipS, wCons, wNil, wTup, allK, argS, endP, noOwn, wipeD, dLe, dLt, dGe, dGt, dCm, dEq, dNe, dIdx, atI_0, atI_1, atI_2, wAsg, gN, gT, gCs, gNs, List.set, dInG, flatD, F1, List.length, limL_eq, shp_i, shp_s, shp_b, shp_n, eqv_ii, eqv_ss, F_is_name, F_is_nothing, F_is_kind, F_is_pair, F_is_sort, isPair, isSort, F_is_one_of, isOneOf] using h
      | [a], h => simpa [wRet, wRetN, wIfS, wSeq, wNext, wT, wTand, wTor, wTnot, wAnd_eq, wOr_eq, wNot, wIsi_int, wIsi_bool, wIsi_str, wIsi_tup, wIsi_lst, tyInt, tyBool, tyStr, tyTup, tyLst, wChain_eq, wOp, wUn, wC, wVar, wCB, wCallP, fLen, wL, wComp, wSeqI, wZip, zipS, wCons, wNil, wTup, allK, argS, endP, noOwn, wipeD, dLe, dLt, dGe, dGt, dCm, dEq, dNe, dIdx, atI_0, atI_1, atI_2, wAsg, gN, gT, gCs, gNs, List.set, dInG, flatD, F1, List.length, limL_eq, shp_i, shp_s, shp_b, shp_n, eqv_ii, eqv_ss, F_is_name, F_is_nothing, F_is_kind, F_is_pair, F_is_sort, isPair, isSort, F_is_one_of, isOneOf] using h
      | [a, b], h =>
        have h : Qd (.bool (isOneOf a [.str "fun"] && isKind b)) := h
        by_cases c : isOneOf a [.str "fun"] = true <;> simpa [wRet, wRetN, wIfS, wSeq, wNext, wT, wTand, wTor, wTnot, wAnd_eq, wOr_eq, wNot, wIsi_int, wIsi_bool, wIsi_str, wIsi_tup, wIsi_lst, tyInt, tyBool, tyStr, tyTup, tyLst, wChain_eq, wOp, wUn, wC, wVar, wCB, wCallP, fLen, wL, wComp, wSeqI, wZip, zipS, wCons, wNil, wTup, allK, argS, endP, noOwn, wipeD, dLe, dLt, dGe, dGt, dCm, dEq, dNe, dIdx, atI_0, atI_1, atI_2, wAsg, gN, gT, gCs, gNs, List.set, dInG, flatD, F1, List.length, limL_eq, shp_i, shp_s, shp_b, shp_n, eqv_ii, eqv_ss, F_is_name, F_is_nothing, F_is_kind, F_is_pair, F_is_sort, isPair, F_is_one_of, c] using h
      | a :: b :: c :: r, h => simpa [wRet, wRetN, wIfS, wSeq, wNext, wT, wTand, wTor, wTnot, wAnd_eq, wOr_eq, wNot, wIsi_int, wIsi_bool, wIsi_str, wIsi_tup, wIsi_lst, tyInt, tyBool, tyStr, tyTup, tyLst, wChain_eq, wOp, wUn, wC, wVar, wCB, wCallP, fLen, wL, wComp, wSeqI, wZip, zipS, wCons, wNil, wTup, allK, argS, endP, noOwn, wipeD, dLe, dLt, dGe, dGt, dCm, dEq, dNe, dIdx, atI_0, atI_1, atI_2, wAsg, gN, gT, gCs, gNs, List.set, dInG, flatD, F1, List.length, limL_eq, shp_i, shp_s, shp_b, shp_n, eqv_ii, eqv_ss, F_is_name, F_is_nothing, F_is_kind, F_is_pair, F_is_sort, isPair, isSort, F_is_one_of, isOneOf] using h
    | str x => simpa [wRet, wRetN, wIfS, wSeq, wNext, wT, wTand, wTor, wTnot, wAnd_eq, wOr_eq, wNot, wIsi_int, wIsi_bool, wIsi_str, wIsi_tup, wIsi_lst, tyInt, tyBool, tyStr, tyTup, tyLst, wChain_eq, wOp, wUn, wC, wVar, wCB, wCallP, fLen, wL, wComp, wSeqI, wZip, zipS, wCons, wNil, wTup, allK, argS, endP, noOwn, wipeD, dLe, dLt, dGe, dGt, dCm, dEq, dNe, dIdx, atI_0, atI_1, atI_2, wAsg, gN, gT, gCs, gNs, List.set, dInG, flatD, F1, List.length, limL_eq, shp_i, shp_s, shp_b, shp_n, eqv_ii, eqv_ss, F_is_name, F_is_nothing, F_is_kind, F_is_pair, F_is_sort, isPair, isSort, F_is_one_of] using h
    | _ => simpa [wRet, wRetN, wIfS, wSeq, wNext, wT, wTand, wTor, wTnot, wAnd_eq, wOr_eq, wNot, wIsi_int, wIsi_bool, wIsi_str, wIsi_tup, wIsi_lst, tyInt, tyBool, tyStr, tyTup, tyLst, wChain_eq, wOp, wUn, wC, wVar, wCB, wCallP, fLen, wL, wComp, wSeqI, wZip, zipS, wCons, wNil, wTup, allK, argS, endP, noOwn, wipeD, dLe, dLt, dGe, dGt, dCm, dEq, dNe, dIdx, atI_0, atI_1, atI_2, wAsg, gN, gT, gCs, gNs, List.set, dInG, flatD, F1, List.length, limL_eq, shp_i, shp_s, shp_b, shp_n, eqv_ii, eqv_ss, F_is_name, F_is_nothing, F_is_kind, F_is_pair, F_is_sort, isPair, isSort, F_is_one_of, isOneOf] using h
theorem fo_is_sort {f : Addr} {fd : FuncData} (Fu : Fun K "is_sort" "is_sort" s_is_sort f fd) (B : Bt mg) (D_is_kind : Do P w K mg base CX0 2 "is_kind" 1 (spP K 1 F_is_kind)) (D_is_one_of : Do P w K mg base CX0 1 "is_one_of" 2 (spP K 2 F_is_one_of)) (D_is_pair : Do P w K mg base CX0 1 "is_pair" 1 (spP K 1 F_is_pair)) : FnOk P w K mg base CX0 3 f fd ["thing"] (spP K 1 F_is_sort) :=
  fnPO (wb := w_is_sort) Fu sc_is_sort rfl (fun cdv A outer s H E hr => ⟨_,
  (sd_cons (sd_if (td_val (e_callO D_is_pair (hr.mono (by decide)) pass00 (ad_cons (ed_var 0) ad_nil))) (sd_one (sd_ret (ed_and (e_callO D_is_one_of (hr.mono (by decide)) pass00 (ad_cons (e_ix (ed_var 0) ed_int) (ad_cons (ed_tup (ad_cons ed_str ad_nil)) ad_nil))) (ed_one (e_callO D_is_kind (hr.mono (by decide)) pass00 (ad_cons (e_ix (ed_var 0) ed_int) ad_nil)))))) sd_nil)
  (sd_one (sd_ret (e_callO D_is_one_of (hr.mono (by decide)) pass00 (ad_cons (ed_var 0) (ad_cons (ed_tup (ad_cons ed_str (ad_cons ed_str ad_nil))) ad_nil))))))⟩) (spec_is_sort)
theorem ok_is_sort {f : Addr} {fd : FuncData} (Fu : Fun K "is_sort" "is_sort" s_is_sort f fd) (hm : mg "is_sort" = some (.ref f)) (hb : Binds K fd ["thing"] []) (B : Bt mg) (D_is_kind : Do P w K mg base CX0 2 "is_kind" 1 (spP K 1 F_is_kind)) (D_is_one_of : Do P w K mg base CX0 1 "is_one_of" 2 (spP K 2 F_is_one_of)) (D_is_pair : Do P w K mg base CX0 1 "is_pair" 1 (spP K 1 F_is_pair)) : Do P w K mg base CX0 3 "is_sort" 1 (spP K 1 F_is_sort) :=
  ⟨f, fd, ["thing"], rfl, hm, Fu.kp, hb, fo_is_sort Fu B D_is_kind D_is_one_of D_is_pair⟩
/-! ## is_row -/
abbrev s_is_row : Stmt := top 18
theorem sc_is_row : FnScope ["thing", "word"] ["thing"] (defScope s_is_row) := ⟨rfl, rfl, rfl, by decide +kernel, rfl, by decide +kernel, by decide +kernel⟩
def isRow2 (w : PyData) (r : List PyData) : Bool :=
  if isOneOf w [.str "end", .str "stop"] = true then decide (r.length = 0)
  else if isOneOf w [.str "let", .str "use"] = true then (match r with | [a, b] => isName a && isName b | _ => false)
  else if isOneOf w [.str "open"] = true then (match r with | [a] => isSort a | _ => false)
  else isOneOf w [.str "give"] && (match r with | [a] => isKind a | _ => false)
def isRow : PyData → Bool
  | .tuple (w :: r) => isRow2 w r
  | _ => false
abbrev F_is_row := F1 fun d => .bool (isRow d)
def w_is_row : DS Unit :=
  (wSeq (wIfS (wTor (wTnot (wT (wIsi "tuple" (wVar 0)))) (wT (wOp dEq (wCB fLen (wCons (wVar 0) wNil)) (wC (.int 0))))) (wRet (wC (.bool false))) wNext)
  (wSeq (wAsg (wOp dIdx (wVar 0) (wC (.int 0))) (gN 1))
  (wSeq (wIfS (wT (wCallP (fun ds Q E => ds.length = 2 ∧ F_is_one_of ds Q E) (wCons (wVar 1) (wCons (wTup (wCons (wC (.str "end")) (wCons (wC (.str "stop")) wNil))) wNil)))) (wRet (wOp dEq (wCB fLen (wCons (wVar 0) wNil)) (wC (.int 1)))) wNext)
  (wSeq (wIfS (wT (wCallP (fun ds Q E => ds.length = 2 ∧ F_is_one_of ds Q E) (wCons (wVar 1) (wCons (wTup (wCons (wC (.str "let")) (wCons (wC (.str "use")) wNil))) wNil)))) (wRet (wAnd (wOp dEq (wCB fLen (wCons (wVar 0) wNil)) (wC (.int 3))) (wAnd (wCallP (fun ds Q E => ds.length = 1 ∧ F_is_name ds Q E) (wCons (wOp dIdx (wVar 0) (wC (.int 1))) wNil)) (wCallP (fun ds Q E => ds.length = 1 ∧ F_is_name ds Q E) (wCons (wOp dIdx (wVar 0) (wC (.int 2))) wNil))))) wNext)
  (wSeq (wIfS (wT (wCallP (fun ds Q E => ds.length = 2 ∧ F_is_one_of ds Q E) (wCons (wVar 1) (wCons (wTup (wCons (wC (.str "open")) wNil)) wNil)))) (wRet (wAnd (wOp dEq (wCB fLen (wCons (wVar 0) wNil)) (wC (.int 2))) (wCallP (fun ds Q E => ds.length = 1 ∧ F_is_sort ds Q E) (wCons (wOp dIdx (wVar 0) (wC (.int 1))) wNil)))) wNext)
  (wRet (wAnd (wCallP (fun ds Q E => ds.length = 2 ∧ F_is_one_of ds Q E) (wCons (wVar 1) (wCons (wTup (wCons (wC (.str "give")) wNil)) wNil))) (wAnd (wOp dEq (wCB fLen (wCons (wVar 0) wNil)) (wC (.int 2))) (wCallP (fun ds Q E => ds.length = 1 ∧ F_is_kind ds Q E) (wCons (wOp dIdx (wVar 0) (wC (.int 1))) wNil))))))))))
theorem spec_is_row : ∀ ds Qd Ed, ds.length = 1 → F_is_row ds Qd Ed → w_is_row (argS 1 2 (ds.map Sl.d)) () (endP Qd Ed) := by
  intro ds Qd Ed hl h
  match ds, hl, h with
  | [d], _, h =>
    unfold w_is_row
    cases d with
    | tuple xs =>
      match xs, h with
      | [], h => simpa [wRet, wRetN, wIfS, wSeq, wNext, wT, wTand, wTor, wTnot, wAnd_eq, wOr_eq, wNot, wIsi_int, wIsi_bool, wIsi_str, wIsi_tup, wIsi_lst, tyInt, tyBool, tyStr, tyTup, tyLst, wChain_eq, wOp, wUn, wC, wVar, wCB, wCallP, fLen, wL, wComp, wSeqI, wZip, zipS, wCons, wNil, wTup, allK, argS, endP, noOwn, wipeD, dLe, dLt, dGe, dGt, dCm, dEq, dNe, dIdx, atI_0, atI_1, atI_2, wAsg, gN, gT, gCs, gNs, List.set, dInG, flatD, F1, List.length, limL_eq, shp_i, shp_s, shp_b, shp_n, eqv_ii, eqv_ss, F_is_name, F_is_nothing, F_is_kind, F_is_pair, F_is_sort, F_is_row, isRow] using h
      | k :: r, h =>
        have h : Qd (.bool (isRow2 k r)) := h
        have nz : ¬ ((r.length : Int) + 1 = 0) := by omega
        by_cases c1 : isOneOf k [.str "end", .str "stop"] = true
        · match r, h with
          | [], h => simpa [wRet, wRetN, wIfS, wSeq, wNext, wT, wTand, wTor, wTnot, wAnd_eq, wOr_eq, wNot, wIsi_int, wIsi_bool, wIsi_str, wIsi_tup, wIsi_lst, tyInt, tyBool, tyStr, tyTup, tyLst, wChain_eq, wOp, wUn, wC, wVar, wCB, wCallP, fLen, wL, wComp, wSeqI, wZip, zipS, wCons, wNil, wTup, allK, argS, endP, noOwn, wipeD, dLe, dLt, dGe, dGt, dCm, dEq, dNe, dIdx, atI_0, atI_1, atI_2, wAsg, gN, gT, gCs, gNs, List.set, dInG, flatD, F1, List.length, limL_eq, shp_i, shp_s, shp_b, shp_n, eqv_ii, eqv_ss, F_is_name, F_is_nothing, F_is_kind, F_is_pair, F_is_sort, F_is_row, F_is_one_of, isRow2, c1] using h
          | a :: r, h =>
            have n1 : ¬ ((r.length : Int) + 1 + 1 = 1) := by omega
            have n0 : ¬ ((r.length : Int) + 1 + 1 = 0) := by omega
            simpa [wRet, wRetN, wIfS, wSeq, wNext, wT, wTand, wTor, wTnot, wAnd_eq, wOr_eq, wNot, wIsi_int, wIsi_bool, wIsi_str, wIsi_tup, wIsi_lst, tyInt, tyBool, tyStr, tyTup, tyLst, wChain_eq, wOp, wUn, wC, wVar, wCB, wCallP, fLen, wL, wComp, wSeqI, wZip, zipS, wCons, wNil, wTup, allK, argS, endP, noOwn, wipeD, dLe, dLt, dGe, dGt, dCm, dEq, dNe, dIdx, atI_0, atI_1, atI_2, wAsg, gN, gT, gCs, gNs, List.set, dInG, flatD, F1, List.length, limL_eq, shp_i, shp_s, shp_b, shp_n, eqv_ii, eqv_ss, F_is_name, F_is_nothing, F_is_kind, F_is_pair, F_is_sort, F_is_row, F_is_one_of, isRow2, c1, n0, n1] using h
        · by_cases c2 : isOneOf k [.str "let", .str "use"] = true
          · match r, h with
            | [], h => simpa [wRet, wRetN, wIfS, wSeq, wNext, wT, wTand, wTor, wTnot, wAnd_eq, wOr_eq, wNot, wIsi_int, wIsi_bool, wIsi_str, wIsi_tup, wIsi_lst, tyInt, tyBool, tyStr, tyTup, tyLst, wChain_eq, wOp, wUn, wC, wVar, wCB, wCallP, fLen, wL, wComp, wSeqI, wZip, zipS, wCons, wNil, wTup, allK, argS, endP, noOwn, wipeD, dLe, dLt, dGe, dGt, dCm, dEq, dNe, dIdx, atI_0, atI_1, atI_2, wAsg, gN, gT, gCs, gNs, List.set, dInG, flatD, F1, List.length, limL_eq, shp_i, shp_s, shp_b, shp_n, eqv_ii, eqv_ss, F_is_name, F_is_nothing, F_is_kind, F_is_pair, F_is_sort, F_is_row, F_is_one_of, isRow2, c1, c2] using h
            | [a], h => simpa [wRet, wRetN, wIfS, wSeq, wNext, wT, wTand, wTor, wTnot, wAnd_eq, wOr_eq, wNot, wIsi_int, wIsi_bool, wIsi_str, wIsi_tup, wIsi_lst, tyInt, tyBool, tyStr, tyTup, tyLst, wChain_eq, wOp, wUn, wC, wVar, wCB, wCallP, fLen, wL, wComp, wSeqI, wZip, zipS, wCons, wNil, wTup, allK, argS, endP, noOwn, wipeD, dLe, dLt, dGe, dGt, dCm, dEq, dNe, dIdx, atI_0, atI_1, atI_2, wAsg, gN, gT, gCs, gNs, List.set, dInG, flatD, F1, List.length, limL_eq, shp_i, shp_s, shp_b, shp_n, eqv_ii, eqv_ss, F_is_name, F_is_nothing, F_is_kind, F_is_pair, F_is_sort, F_is_row, F_is_one_of, isRow2, c1, c2] using h
            | [a, b], h => by_cases c3 : isName a = true <;> simpa [wRet, wRetN, wIfS, wSeq, wNext, wT, wTand, wTor, wTnot, wAnd_eq, wOr_eq, wNot, wIsi_int, wIsi_bool, wIsi_str, wIsi_tup, wIsi_lst, tyInt, tyBool, tyStr, tyTup, tyLst, wChain_eq, wOp, wUn, wC, wVar, wCB, wCallP, fLen, wL, wComp, wSeqI, wZip, zipS, wCons, wNil, wTup, allK, argS, endP, noOwn, wipeD, dLe, dLt, dGe, dGt, dCm, dEq, dNe, dIdx, atI_0, atI_1, atI_2, wAsg, gN, gT, gCs, gNs, List.set, dInG, flatD, F1, List.length, limL_eq, shp_i, shp_s, shp_b, shp_n, eqv_ii, eqv_ss, F_is_name, F_is_nothing, F_is_kind, F_is_pair, F_is_sort, F_is_row, F_is_one_of, isRow2, c1, c2, c3] using h
            | a :: b :: c :: r, h =>
              have n1 : ¬ ((r.length : Int) + 1 + 1 + 1 + 1 = 3) := by omega
              have n0 : ¬ ((r.length : Int) + 1 + 1 + 1 + 1 = 0) := by omega
              simpa [wRet, wRetN, wIfS, wSeq, wNext, wT, wTand, wTor, wTnot, wAnd_eq, wOr_eq, wNot, wIsi_int, wIsi_bool, wIsi_str, wIsi_tup, wIsi_lst, tyInt, tyBool, tyStr, tyTup, tyLst, wChain_eq, wOp, wUn, wC, wVar, wCB, wCallP, fLen, wL, wComp, wSeqI, wZip, zipS, wCons, wNil, wTup, allK, argS, endP, noOwn, wipeD, dLe, dLt, dGe, dGt, dCm, dEq, dNe, dIdx, atI_0, atI_1, atI_2, wAsg, gN, gT, gCs, gNs, List.set, dInG, flatD, F1, List.length, limL_eq, shp_i, shp_s, shp_b, shp_n, eqv_ii, eqv_ss, F_is_name, F_is_nothing, F_is_kind, F_is_pair, F_is_sort, F_is_row, F_is_one_of, isRow2, c1, c2, n0, n1] using h
          · by_cases c3 : isOneOf k [.str "open"] = true
            · match r, h with
              | [], h => simpa [wRet, wRetN, wIfS, wSeq, wNext, wT, wTand, wTor, wTnot, wAnd_eq, wOr_eq, wNot, wIsi_int, wIsi_bool, wIsi_str, wIsi_tup, wIsi_lst, tyInt, tyBool, tyStr, tyTup, tyLst, wChain_eq, wOp, wUn, wC, wVar, wCB, wCallP, fLen, wL, wComp, wSeqI, wZip, zipS, wCons, wNil, wTup, allK, argS, endP, noOwn, wipeD, dLe, dLt, dGe, dGt, dCm, dEq, dNe, dIdx, atI_0, atI_1, atI_2, wAsg, gN, gT, gCs, gNs, List.set, dInG, flatD, F1, List.length, limL_eq, shp_i, shp_s, shp_b, shp_n, eqv_ii, eqv_ss, F_is_name, F_is_nothing, F_is_kind, F_is_pair, F_is_sort, F_is_row, F_is_one_of, isRow2, c1, c2, c3] using h
              | [a], h => simpa [wRet, wRetN, wIfS, wSeq, wNext, wT, wTand, wTor, wTnot, wAnd_eq, wOr_eq, wNot, wIsi_int, wIsi_bool, wIsi_str, wIsi_tup, wIsi_lst, tyInt, tyBool, tyStr, tyTup, tyLst, wChain_eq, wOp, wUn, wC, wVar, wCB, wCallP, fLen, wL, wComp, wSeqI, wZip, zipS, wCons, wNil, wTup, allK, argS, endP, noOwn, wipeD, dLe, dLt, dGe, dGt, dCm, dEq, dNe, dIdx, atI_0, atI_1, atI_2, wAsg, gN, gT, gCs, gNs, List.set, dInG, flatD, F1, List.length, limL_eq, shp_i, shp_s, shp_b, shp_n, eqv_ii, eqv_ss, F_is_name, F_is_nothing, F_is_kind, F_is_pair, F_is_sort, F_is_row, F_is_one_of, isRow2, c1, c2, c3] using h
              | a :: b :: r, h =>
                have n1 : ¬ ((r.length : Int) + 1 + 1 + 1 = 2) := by omega
                have n0 : ¬ ((r.length : Int) + 1 + 1 + 1 = 0) := by omega
                simpa [wRet, wRetN, wIfS, wSeq, wNext, wT, wTand, wTor, wTnot, wAnd_eq, wOr_eq, wNot, wIsi_int, wIsi_bool, wIsi_str, wIsi_tup, wIsi_lst, tyInt, tyBool, tyStr, tyTup, tyLst, wChain_eq, wOp, wUn, wC, wVar, wCB, wCallP, fLen, wL, wComp, wSeqI, wZip, zipS, wCons, wNil, wTup, allK, argS, endP, noOwn, wipeD, dLe, dLt, dGe, dGt, dCm, dEq, dNe, dIdx, atI_0, atI_1, atI_2, wAsg, gN, gT, gCs, gNs, List.set, dInG, flatD, F1, List.length, limL_eq, shp_i, shp_s, shp_b, shp_n, eqv_ii, eqv_ss, F_is_name, F_is_nothing, F_is_kind, F_is_pair, F_is_sort, F_is_row, F_is_one_of, isRow2, c1, c2, c3, n0, n1] using h
            · by_cases c4 : isOneOf k [.str "give"] = true
              · match r, h with
                | [], h => simpa [wRet, wRetN, wIfS, wSeq, wNext, wT, wTand, wTor, wTnot, wAnd_eq, wOr_eq, wNot, wIsi_int, wIsi_bool, wIsi_str, wIsi_tup, wIsi_lst, tyInt, tyBool, tyStr, tyTup, tyLst, wChain_eq, wOp, wUn, wC, wVar, wCB, wCallP, fLen, wL, wComp, wSeqI, wZip, zipS, wCons, wNil, wTup, allK, argS, endP, noOwn, wipeD, dLe, dLt, dGe, dGt, dCm, dEq, dNe, dIdx, atI_0, atI_1, atI_2, wAsg, gN, gT, gCs, gNs, List.set, dInG, flatD, F1, List.length, limL_eq, shp_i, shp_s, shp_b, shp_n, eqv_ii, eqv_ss, F_is_name, F_is_nothing, F_is_kind, F_is_pair, F_is_sort, F_is_row, F_is_one_of, isRow2, c1, c2, c3, c4] using h
                | [a], h => simpa [wRet, wRetN, wIfS, wSeq, wNext, wT, wTand, wTor, wTnot, wAnd_eq, wOr_eq, wNot, wIsi_int, wIsi_bool, wIsi_str, wIsi_tup, wIsi_lst, tyInt, tyBool, tyStr, tyTup, tyLst, wChain_eq, wOp, wUn, wC, wVar, wCB, wCallP, fLen, wL, wComp, wSeqI, wZip, zipS, wCons, wNil, wTup, allK, argS, endP, noOwn, wipeD, dLe, dLt, dGe, dGt, dCm, dEq, dNe, dIdx, atI_0, atI_1, atI_2, wAsg, gN, gT, gCs, gNs, List.set, dInG, flatD, F1, List.length, limL_eq, shp_i, shp_s, shp_b, shp_n, eqv_ii, eqv_ss, F_is_name, F_is_nothing, F_is_kind, F_is_pair, F_is_sort, F_is_row, F_is_one_of, isRow2, c1, c2, c3, c4] using h
                | a :: b :: r, h =>
                  have n1 : ¬ ((r.length : Int) + 1 + 1 + 1 = 2) := by omega
                  have n0 : ¬ ((r.length : Int) + 1 + 1 + 1 = 0) := by omega
                  simpa [wRet, wRetN, wIfS, wSeq, wNext, wT, wTand, wTor, wTnot, wAnd_eq, wOr_eq, wNot, wIsi_int, wIsi_bool, wIsi_str, wIsi_tup, wIsi_lst, tyInt, tyBool, tyStr, tyTup, tyLst, wChain_eq, wOp, wUn, wC, wVar, wCB, wCallP, fLen, wL, wComp, wSeqI, wZip, zipS, wCons, wNil, wTup, allK, argS, endP, noOwn, wipeD, dLe, dLt, dGe, dGt, dCm, dEq, dNe, dIdx, atI_0, atI_1, atI_2, wAsg, gN, gT, gCs, gNs, List.set, dInG, flatD, F1, List.length, limL_eq, shp_i, shp_s, shp_b, shp_n, eqv_ii, eqv_ss, F_is_name, F_is_nothing, F_is_kind, F_is_pair, F_is_sort, F_is_row, F_is_one_of, isRow2, c1, c2, c3, c4, n0, n1] using h
              · simpa [wRet, wRetN, wIfS, wSeq, wNext, wT, wTand, wTor, wTnot, wAnd_eq, wOr_eq, wNot, wIsi_int, wIsi_bool, wIsi_str, wIsi_tup, wIsi_lst, tyInt, tyBool, tyStr, tyTup, tyLst, wChain_eq, wOp, wUn, wC, wVar, wCB, wCallP, fLen, wL, wComp, wSeqI, wZip, zipS, wCons, wNil, wTup, allK, argS, endP, noOwn, wipeD, dLe, dLt, dGe, dGt, dCm, dEq, dNe, dIdx, atI_0, atI_1, atI_2, wAsg, gN, gT, gCs, gNs, List.set, dInG, flatD, F1, List.length, limL_eq, shp_i, shp_s, shp_b, shp_n, eqv_ii, eqv_ss, F_is_name, F_is_nothing, F_is_kind, F_is_pair, F_is_sort, F_is_row, F_is_one_of, isRow2, c1, c2, c3, c4, nz] using h
    | _ => simpa [wRet, wRetN, wIfS, wSeq, wNext, wT, wTand, wTor, wTnot, wAnd_eq, wOr_eq, wNot, wIsi_int, wIsi_bool, wIsi_str, wIsi_tup, wIsi_lst, tyInt, tyBool, tyStr, tyTup, tyLst, wChain_eq, wOp, wUn, wC, wVar, wCB, wCallP, fLen, wL, wComp, wSeqI, wZip, zipS, wCons, wNil, wTup, allK, argS, endP, noOwn, wipeD, dLe, dLt, dGe, dGt, dCm, dEq, dNe, dIdx, atI_0, atI_1, atI_2, wAsg, gN, gT, gCs, gNs, List.set, dInG, flatD, F1, List.length, limL_eq, shp_i, shp_s, shp_b, shp_n, eqv_ii, eqv_ss, F_is_name, F_is_nothing, F_is_kind, F_is_pair, F_is_sort, F_is_row, isRow] using h
theorem fo_is_row {f : Addr} {fd : FuncData} (Fu : Fun K "is_row" "is_row" s_is_row f fd) (B : Bt mg) (D_is_kind : Do P w K mg base CX0 2 "is_kind" 1 (spP K 1 F_is_kind)) (D_is_name : Do P w K mg base CX0 1 "is_name" 1 (spP K 1 F_is_name)) (D_is_one_of : Do P w K mg base CX0 1 "is_one_of" 2 (spP K 2 F_is_one_of)) (D_is_sort : Do P w K mg base CX0 3 "is_sort" 1 (spP K 1 F_is_sort)) : FnOk P w K mg base CX0 4 f fd ["thing"] (spP K 1 F_is_row) :=
  fnPO (wb := w_is_row) Fu sc_is_row rfl (fun cdv A outer s H E hr => ⟨_,
  (sd_cons (sd_if (td_bool (tw_or (td_not (td_val (e_isi (T' := "tuple") B (ed_var 0) (by decide +kernel)))) (tw_or1 (t_eq hr (e_len B (ad_cons (ed_var 0) ad_nil)) ed_int)))) (sd_one (sd_ret ed_bl)) sd_nil)
  (sd_cons (sd_set 1 sc_is_row.nd rfl (by first | exact .inl rfl | exact .inr rfl) (e_ix (ed_var 0) ed_int))
  (sd_cons (sd_if (td_val (e_callO D_is_one_of (hr.mono (by decide)) pass00 (ad_cons (ed_var 1) (ad_cons (ed_tup (ad_cons ed_str (ad_cons ed_str ad_nil))) ad_nil)))) (sd_one (sd_ret (e_eq hr (e_len B (ad_cons (ed_var 0) ad_nil)) ed_int))) sd_nil)
  (sd_cons (sd_if (td_val (e_callO D_is_one_of (hr.mono (by decide)) pass00 (ad_cons (ed_var 1) (ad_cons (ed_tup (ad_cons ed_str (ad_cons ed_str ad_nil))) ad_nil)))) (sd_one (sd_ret (ed_and (e_eq hr (e_len B (ad_cons (ed_var 0) ad_nil)) ed_int) (ed_and (e_callO D_is_name (hr.mono (by decide)) pass00 (ad_cons (e_ix (ed_var 0) ed_int) ad_nil)) (ed_one (e_callO D_is_name (hr.mono (by decide)) pass00 (ad_cons (e_ix (ed_var 0) ed_int) ad_nil))))))) sd_nil)
  (sd_cons (sd_if (td_val (e_callO D_is_one_of (hr.mono (by decide)) pass00 (ad_cons (ed_var 1) (ad_cons (ed_tup (ad_cons ed_str ad_nil)) ad_nil)))) (sd_one (sd_ret (ed_and (e_eq hr (e_len B (ad_cons (ed_var 0) ad_nil)) ed_int) (ed_one (e_callO D_is_sort (hr.mono (by decide)) pass00 (ad_cons (e_ix (ed_var 0) ed_int) ad_nil)))))) sd_nil)
  (sd_one (sd_ret (ed_and (e_callO D_is_one_of (hr.mono (by decide)) pass00 (ad_cons (ed_var 1) (ad_cons (ed_tup (ad_cons ed_str ad_nil)) ad_nil))) (ed_and (e_eq hr (e_len B (ad_cons (ed_var 0) ad_nil)) ed_int) (ed_one (e_callO D_is_kind (hr.mono (by decide)) pass00 (ad_cons (e_ix (ed_var 0) ed_int) ad_nil))))))))))))⟩) (spec_is_row)
theorem ok_is_row {f : Addr} {fd : FuncData} (Fu : Fun K "is_row" "is_row" s_is_row f fd) (hm : mg "is_row" = some (.ref f)) (hb : Binds K fd ["thing"] []) (B : Bt mg) (D_is_kind : Do P w K mg base CX0 2 "is_kind" 1 (spP K 1 F_is_kind)) (D_is_name : Do P w K mg base CX0 1 "is_name" 1 (spP K 1 F_is_name)) (D_is_one_of : Do P w K mg base CX0 1 "is_one_of" 2 (spP K 2 F_is_one_of)) (D_is_sort : Do P w K mg base CX0 3 "is_sort" 1 (spP K 1 F_is_sort)) : Do P w K mg base CX0 4 "is_row" 1 (spP K 1 F_is_row) :=
  ⟨f, fd, ["thing"], rfl, hm, Fu.kp, hb, fo_is_row Fu B D_is_kind D_is_name D_is_one_of D_is_sort⟩
end
end L07

set_option Elab.async false
set_option linter.all false
set_option autoImplicit false
set_option maxRecDepth 100000
set_option maxHeartbeats 1000000
/-! ### enumerate of a tuple -/
namespace PySem
open Sem (wp)
open AutoSeq1 (wpAny_loadPart')
theorem enum_newT (l : Addr) (items : Array Value) (o : Obj) (n : Nat) (hc : o.cls = .type "tuple") (hd : o.data = .seq items n) :
    Meets (Builtin.«enumerate.__new__» ⟨[.type "enumerate", .ref l], []⟩) (fun _ R s => s.heap.get? l = some o ∧
      R (.ok (.ret (.ref (s.heap.push { cls := .type "tuple_iterator", data := .fields #[.ref l, .int 0 0] }).objs.size)))
        { s with heap := (s.heap.push { cls := .type "tuple_iterator", data := .fields #[.ref l, .int 0 0] }).push { cls := .type "enumerate", data := .fields #[.none, .bool false, .ref s.heap.objs.size, rawInt 0, .none, .none] } }) :=
  .of_wp fun prog w A R s h => by
    obtain ⟨hp, g, d, tk, os⟩ := s; obtain ⟨hl, h⟩ := h
    have hsub := sub_enumerate
    have hL : Heap.IsTuple (Shared.heap ⟨hp, g, d, tk, os⟩) l items := ⟨_, hl, hc, n, hd⟩
    wp_walk using wpAny_loadPart' hl
    refine wpAny_stack_any fun st => wpAny_pure ?_
    split
    · rename_i c _ _ _ _ _
      cases (c == Value.type "enumerate")
      · wp_walk using wpAny_loadPart' hl, wpAny_pyIter_tuple hL
        exact ⟨_, rfl, h⟩
      · wp_walk using wpAny_loadPart' hl, wpAny_pyIter_tuple hL
        exact ⟨_, rfl, h⟩
    · wp_walk using wpAny_loadPart' hl, wpAny_pyIter_tuple hL
      exact ⟨_, rfl, h⟩
section
variable {prog : Program} {w : World} {A : Around} {E : Value → Shared → Prop} {s : Shared}
theorem call_enumT {l : Addr} {items : Array Value} {Q : Value → Shared → Prop} (hL : s.heap.IsTuple l items)
    (h : ∀ h', IsEnum h' (s.heap.objs.size + 1) s.heap.objs.size 0 .none → h'.IsTupleIter s.heap.objs.size l 0 → (∀ b o, s.heap.get? b = some o → h'.get? b = some o) → Q (.ref (s.heap.objs.size + 1)) { s with heap := h' }) :
    wpAny (model prog w) A (call (.type "enumerate") [.ref l]) Q E s := by
  obtain ⟨o, hl, hc, n, hd⟩ := hL
  refine callType_new F.called_enumerate (by decide) (F.typeCall_enumerate_1 _) (F.newCall_enumerate_1 _) (fun obj => F.args_object_init_2 obj _) F.entry_enumerate_new (enum_newT l items o n hc hd) ⟨hl, ?_⟩
  have hz : (s.heap.push { cls := .type "tuple_iterator", data := .fields #[.ref l, .int 0 0] }).objs.size = s.heap.objs.size + 1 := Heap.size_push ..
  show _ ∧ _
  rw [hz]
  have he : IsEnum ((s.heap.push { cls := .type "tuple_iterator", data := .fields #[.ref l, .int 0 0] }).push { cls := .type "enumerate", data := .fields #[.none, .bool false, .ref s.heap.objs.size, rawInt 0, .none, .none] }) (s.heap.objs.size + 1) s.heap.objs.size 0 .none := by
    have q := Heap.get?_push_size (s.heap.push { cls := .type "tuple_iterator", data := .fields #[.ref l, .int 0 0] }) (o := { cls := .type "enumerate", data := .fields #[.none, .bool false, .ref s.heap.objs.size, rawInt 0, .none, .none] }) rfl
    rw [hz] at q; exact q
  exact ⟨⟨_, he, rfl⟩, h _ he ⟨_, Heap.get?_push_of_some _ (Heap.get?_push_size _ rfl), rfl, rfl⟩ fun b o q => Heap.get?_push_of_some _ (Heap.get?_push_of_some _ q)⟩
theorem enum_endT {e it l : Addr} {i : Nat} {items : Array Value} {old : Value} {Q : Option Value → Shared → Prop} (hh : A.handled = none) (he : IsEnum s.heap e it i old) (hit : s.heap.IsTupleIter it l i) (hl : s.heap.IsTuple l items) (hx : items[i]? = none)
    (hQ : ∀ h', Heap.ExtBut it s.heap h' → Q none { s with heap := h' }) : wpAny (model prog w) A (pyNext (.ref e)) Q E s := by
  have hT : s.TypeIs (.ref e) "enumerate" := ⟨_, he, rfl⟩
  unfold pyNext
  refine wpAny_bind (wpAny_attempt (wpAny_callSpecial?_slot (name := Str.ofString "__next__") hT F.slot_enumerate_next (wpAny_call_entry F.slot_enumerate_next hT F.entry_enumerate_next ?_ (F.args_enumerate_next_1 _))))
  show wpAny _ _ (field (.ref e) 2 >>= _) _ _ _
  refine wpAny_bind (wpAny_field he rfl (x := .ref it) rfl (wpAny_bind (wpAny_nextOf_tuple_end hh hit hl hx fun h' x he' hx' => ?_)))
  obtain ⟨o, ho, hc⟩ := hx'
  exact wpAny_bind (wpAny_isInstance (T := "StopIteration") (b := true) ⟨o, ho, hc⟩ isSubtype_stop (wpAny_pure (hQ _ he')))
theorem apartT {h : Heap} {e it a : Addr} {i : Nat} {c : Int} {items : Array Value} {old : Value} (hit : h.IsTupleIter it a i) (tp : h.IsTuple a items) (he : IsEnum h e it c old) : a ≠ it ∧ e ≠ a := by
  obtain ⟨o1, h1, c1, _⟩ := hit
  obtain ⟨o2, h2, c2, _⟩ := tp
  refine ⟨fun z => ?_, fun z => ?_⟩
  · rw [z, h1] at h2
    cases h2
    rw [c1] at c2
    exact absurd c2 (by decide)
  · have he : h.get? e = _ := he
    rw [z, h2] at he
    cases he
    have c3 : Value.type "enumerate" = Value.type "tuple" := c2
    exact absurd c3 (by decide)
end
end PySem
namespace Dt
open PySem PySem.Spec PyProof.Rows L2
/-- the tuple at a, each item in a new pair behind its number -/
def IteT (K : PySem.W.Frag) (a : Addr) : It :=
  ⟨fun i H => ∃ (xs : List V) (x : V), SqT K H a xs ∧ xs[i]? = some x, fun i H v H' => ∃ T x, v = .ref T ∧ H T = none ∧ H' = upd H T (.tup [.int (i : Nat), x]) ∧ ∀ xs, SqT K H a xs → xs[i]? = some x, fun i H => ∃ xs : List V, SqT K H a xs ∧ xs.length ≤ i⟩
theorem turn_enumT {P : Program} {w : World} {K : PySem.W.Frag} {elts : List Expr} {kk : Nat} {tpos : Pos} (a e it : Addr) :
    Turn P w K (.Tuple elts kk tpos) (IteT K a) [e, it] e (fun i h => (∃ old, IsEnum h e it ((i : Nat) : Int) old) ∧ h.IsTupleIter it a i ∧ e ≠ it) where
  mem := by simp
  obj := fun i h st b hb => by
    obtain ⟨⟨old, he⟩, ⟨o, ho, hc, hd⟩, _⟩ := st
    have e' : b = e ∨ b = it := by simpa using hb
    rcases e' with z | z
    · rw [z]; exact ⟨_, he, fun v q => nomatch q⟩
    · rw [z]; exact ⟨o, ho, fun v q => by rw [hd] at q; cases q⟩
  keep := fun i h h' st k => let ⟨⟨old, he⟩, hi, hne⟩ := st; ⟨⟨old, k e (by simp) _ he⟩, hi.at fun o q => k it (by simp) o q, hne⟩
  item := by
    intro X hP hw hK hc i pins s σ H E I hf st hg
    subst hP hw hK
    obtain ⟨⟨old, he⟩, hit, hne⟩ := st
    obtain ⟨xs, x, hq, hx⟩ := hg
    obtain ⟨its, rv, p, hz⟩ := I.tuple hq
    obtain ⟨u, hu, ru⟩ := rv.get hx
    have hel : e < s.heap.objs.size := Heap.lt_size he
    have hil : it < s.heap.objs.size := by obtain ⟨_, q, _⟩ := hit; exact Heap.lt_size q
    have tp : s.heap.IsTuple a its.toArray := p
    obtain ⟨na, ne⟩ := apartT hit tp he
    refine wpAny_pyNext_enum_itemD (Draws.tuple (A := X.A.in1) (I.ok.hd hc) it a na its.toArray) he ⟨hit, tp⟩ (by rw [List.size_toArray, ← rv.length]; exact (List.getElem?_eq_some_iff.mp hx).1) hne (by simp [hne, ne]) fun v h' tk hv ho hst hT hsz hk => ?_
    obtain ⟨hit', _⟩ := hst
    have ev : v = u := by
      have q : its[i]? = some v := by simpa using hv
      exact Option.some.inj (q.symm.trans hu)
    subst ev
    refine ⟨_, rfl, wpAny_letOwnedTupleGo_enum (s := { s with heap := h', toks := tk + 1 }) ho fun h'' he' sb => ?_⟩
    have hT2 : h''.get? s.heap.objs.size = some { cls := .type "tuple", data := .seq #[.int i tk, v] } := (sb.2 _ (Nat.ne_of_gt hel)).trans hT
    have new : ObjOk X.prog X.w (upd H s.heap.objs.size (.tup [.int (i : Nat), x])) h'' s.heap.objs.size (.tup [.int (i : Nat), x]) :=
      ⟨by show 2 ≤ sizeLine; decide, [.int i tk, v], .cons ⟨_, rfl⟩ (.cons ru .nil), ⟨_, hT2, rfl, _, rfl⟩⟩
    have I1 : Inv X pins σ (upd H s.heap.objs.size (.tup [.int (i : Nat), x])) { s with heap := h'', toks := tk + 1 } :=
      I.turnedNew (ch := [e, it]) (fun b ob hb q => (sb.2 b (fun z => hb (by simp [z]))).trans (hk b ob (fun z => hb (by simp [z])) (fun z => hb (by simp [z])) q)) hf (Nat.le_refl _) new
    refine ⟨.ref s.heap.objs.size, _, I1, rfl, ⟨_, x, rfl, I.hok.fresh (Nat.le_refl _), rfl, fun ys hy => by rw [I.tuple_inj hy hq]; exact hx⟩, ⟨⟨v, ?_⟩, hit'.at fun o q => (sb.2 it (Ne.symm hne)).trans q, hne⟩, fun b hb => ?_⟩
    · have e1 : ((i + 1 : Nat) : Int) = (i : Int) + 1 := by omega
      rw [e1]; exact he'
    · have hb' : b < s.heap.objs.size := by
        have e' : b = e ∨ b = it := by simpa using hb
        rcases e' with z | z
        · rw [z]; exact hel
        · rw [z]; exact hil
      rw [upd_ne (Nat.ne_of_lt hb')]
      exact (hf b hb).1
  done := by
    intro X hP hw hK hc i pins s σ H E I hf st hg
    subst hP hw hK
    obtain ⟨⟨old, he⟩, hit, hne⟩ := st
    obtain ⟨xs, hq, hx⟩ := hg
    obtain ⟨its, rv, p, hz⟩ := I.tuple hq
    obtain ⟨f0, f1, f2, f3, f4, f5⟩ := hf it (by simp)
    have hl := rv.length
    have tp : s.heap.IsTuple a its.toArray := p
    obtain ⟨na, ne⟩ := apartT hit tp he
    have ie : its.toArray.size ≤ i := by rw [List.size_toArray, ← hl]; exact hx
    refine enum_endT (I.ok.hd hc) he hit tp (by simp; simpa using ie) fun h' eb => ⟨rfl, I.turned (t' := s.toks) (fun b o hb q => eb b o hb q) f0 f1 f3 f4 f5⟩
  self := fun A i s Q E st h => let ⟨⟨_, he⟩, _⟩ := st; wpAny_pyIter_enum he h
def iEnumT (K : PySem.W.Frag) (ta : TA) : TI := fun σ H R => ta σ H fun vs H1 => ∃ a xs, vs = [.ref a] ∧ SqT K H1 a xs ∧ R (IteT K a) H1
theorem pi_enumT {X : Cx} {e : Expr} {ta : TA} {p pos tpos : Pos} {elts : List Expr} {kk : Nat} (hg : Gl X "enumerate") (hm : X.mg "enumerate" = none) (ha : PA X [e] ta) (hs : starEach [e] X.env = [(false, eval e X.env)] := by rfl) :
    PI X (.Tuple elts kk tpos) (.Call (.Name "enumerate" p) [e] [] pos) (iEnumT X.K ta) := by
  refine ⟨fun pins s σ H R I h => Call_ (ld_blt I hg hm boot_enumerate (PyProof.Rows.callWith_type1 (thn (ha.run pos pins s σ H _ I h) fun us s1 ⟨vs, H1, I1, r1, a, xs, ex, hq, q⟩ => ?_) hs rfl))⟩
  subst ex
  cases r1 with
  | cons r rr =>
  cases rr
  cases r
  obtain ⟨its, rv, p', hz⟩ := I1.tuple hq
  refine call_enumT p' fun h' he hit hk => wpAny_pyIter_enum he ?_
  have I2 : Inv X pins σ H1 { s1 with heap := h' } := I1.kept (t' := s1.toks) hk
  refine ⟨s1.heap.objs.size + 1, [s1.heap.objs.size + 1, s1.heap.objs.size], _, _, H1, rfl, I2, turn_enumT a (s1.heap.objs.size + 1) s1.heap.objs.size, ⟨⟨.none, he⟩, hit, Nat.succ_ne_self _⟩, fun b hb => ?_, q⟩
  have e' : b = s1.heap.objs.size + 1 ∨ b = s1.heap.objs.size := by simpa using hb
  have hle : s1.heap.objs.size ≤ b := by
    rcases e' with z | z
    · rw [z]; exact Nat.le_add_right _ _
    · rw [z]; exact Nat.le_refl _
  exact I1.fpOk hle (I1.hok.fresh hle)
end Dt
namespace Dt
open PySem PySem.Spec L2
def enumD : Nat → List PyData → List PyData
  | _, [] => []
  | k, x :: r => .tuple [.int k, x] :: enumD (k + 1) r
theorem enumD_len : ∀ (k : Nat) (xs : List PyData), (enumD k xs).length = xs.length
  | _, [] => rfl
  | k, x :: r => by simp only [enumD, List.length_cons, enumD_len (k + 1) r]
theorem enumD_get : ∀ (k : Nat) (xs : List PyData) (i : Nat) (d : PyData), (enumD k xs)[i]? = some d → ∃ x, xs[i]? = some x ∧ d = .tuple [.int ((k + i : Nat) : Int), x]
  | _, [], i, d, h => by simp [enumD] at h
  | k, x :: r, 0, d, h => by simp [enumD] at h; exact ⟨x, rfl, h.symm⟩
  | k, x :: r, i + 1, d, h => by
    obtain ⟨y, h1, h2⟩ := enumD_get (k + 1) r i d (by simpa [enumD] using h)
    exact ⟨y, by simpa using h1, by rw [h2, show k + 1 + i = k + (i + 1) by omega]⟩
section
variable {S : Type} {Wo : Wd S} {X : Cx} {W : WX} {K : PySem.W.Frag} {tl : TA} {e a : Expr} {pos p q : Pos} {wl : DA S}
def wEnum {S : Type} (w : DA S) : DL S := fun ρ s Q E => w ρ s (fun as s1 => allK as fun ds => match ds with
  | [.tuple xs] => Q (enumD 0 xs) s1
  | _ => False) E
theorem i_enum {elts : List Expr} {kk : Nat} {tpos : Pos} (B : Bt X.mg) (h : AD Wo X W [e] tl wl) (hK : X.K = K := by rfl) (hg : Gl X "enumerate" := by rfl) (hs : starEach [e] X.env = [(false, eval e X.env)] := by rfl) :
    ID Wo X W (.Tuple elts kk tpos) (.Call (.Name "enumerate" p) [e] [] pos) (iEnumT K tl) (wEnum wl) := by
  subst hK
  refine ⟨pi_enumT hg (B.no _ (by decide)) h.pe hs, fun c σ H ρ s Qd Ed R E hw hq he => h.go c σ H ρ s _ Ed _ E hw (fun vs H1 as s1 E1 st1 a1 q1 => ?_) he⟩
  obtain ⟨ds, h1, h2⟩ := a1.all q1
  match ds, h1, h2 with
  | [.tuple xs], h1, h2 =>
    cases h1 with
    | cons a b =>
    cases b
    cases a with
    | @tup pa va _ ha na da =>
    have up : ∀ {l' : List Addr} {H : Hp}, Same (hd H1 (c.hs ρ)) (hd H l') → Same (hd H1 (c.hs ρ)) H := fun st => st.trans (hd_to _ _)
    refine ⟨pa, va, rfl, same_seqT (hd_to _ _) ha, hq _ H1 _ s1 E1 st1 ⟨fun l' H i st hi => ?_, fun l' H i st hi => ?_, fun l' H i x' H' d st tr yl hd' => ?_⟩ (by rw [enumD_len]; exact na) h2⟩
    · rw [enumD_len] at hi
      obtain ⟨u, hu, _⟩ := da.get' (List.getElem?_eq_getElem hi)
      exact ⟨va, u, same_seqT (up st) ha, hu⟩
    · rw [enumD_len] at hi
      exact ⟨va, same_seqT (up st) ha, by rw [da.length]; exact hi⟩
    · obtain ⟨T, u, rfl, hT, rfl, k1⟩ := yl
      obtain ⟨d1, g1, rfl⟩ := enumD_get _ _ _ _ hd'
      obtain ⟨e1, f1, f2⟩ := da.get (k1 va (same_seqT (up st) ha))
      rw [g1] at f1; cases f1
      rw [Nat.zero_add]
      have il : i < xs.length := (List.getElem?_eq_some_iff.mp g1).1
      exact dv_pair tr hT (.int (okI_small (by have : xs.length ≤ 4194304 := na; omega))) (Dv.same st _ _ f2)
/-! ### sum of ints, the smaller of two -/
def fSum : List PyData → (PyData → Prop) → Prop
  | [.list xs], Q => ∃ ns : List Int, xs = ns.map PyData.int ∧ okI ns.sum ∧ Q (.int ns.sum)
  | _, _ => False
theorem dv_ints {H : Hp} : ∀ {ns : List Int} {vs : List V}, DvAll K H vs (ns.map PyData.int) → vs = ns.map V.int
  | [], _, h => by cases h; rfl
  | n :: ns, _, h => by
    cases h with
    | cons a r => cases a; rw [dv_ints r]; rfl
theorem cd_sum : CallD K (rSum K) fSum := by
  intro H l vs ds Qd Q ht ha hf hq
  match ds, ha, hf with
  | [.list xs], ha, hf =>
    obtain ⟨ns, rfl, ok, q⟩ := hf
    cases ha with
    | cons a b =>
    cases b
    cases a with
    | @lst p va _ h n dv =>
    have e := dv_ints dv
    subst e
    exact ⟨p, ns, rfl, SqL.of (hd_to _ _ _ _ h), hq _ H _ (Same.refl _) (.int ok) q⟩
theorem e_sum (B : Bt X.mg) (hc : X.calm = true) (ha : AD Wo X W [a] tl wl) (hK : X.K = K := by rfl) (hg : Gl X "sum" := by rfl) (he : starEach [a] X.env = (false, eval a X.env) :: starEach [] X.env := by rfl) (hpl : (backTo pos (starEach [] X.env)).any (·.1) = false := by rfl) :
    ED Wo X W (.Call (.Name "sum" p) [a] [] pos) (tCB (rSum K) tl) (wCB fSum wl) := by subst hK; exact ed_callB (cr_sum hc) cd_sum hg (B.no _ (by decide)) (by decide +kernel) ha (by decide) (by decide) he hpl
def fMin2 : List PyData → (PyData → Prop) → Prop
  | [.int i, .int j], Q => Q (.int (if j < i then j else i))
  | _, _ => False
theorem cd_min2 : CallD K (fun xs H Q => ∃ i j, xs = [.int i, .int j] ∧ Q (.int (if j < i then j else i)) H) fMin2 := by
  intro H l vs ds Qd Q ht ha hf hq
  match ds, ha, hf with
  | [.int i, .int j], ha, hf =>
    cases ha with
    | cons a b =>
    cases b with
    | cons b c =>
    cases c
    cases a with
    | int oi =>
    cases b with
    | int oj =>
    refine ⟨i, j, rfl, hq _ H _ (Same.refl _) (.int ?_) hf⟩
    split
    · exact oj
    · exact oi
theorem e_min2 {b : Expr} (B : Bt X.mg) (hc : X.calm = true) (ha : AD Wo X W [a, b] tl wl) (hg : Gl X "min" := by rfl) (he : starEach [a, b] X.env = (false, eval a X.env) :: starEach [b] X.env := by rfl) (hpl : (backTo pos (starEach [b] X.env)).any (·.1) = false := by rfl) :
    ED Wo X W (.Call (.Name "min" p) [a, b] [] pos) (tCB (fun xs H Q => ∃ i j, xs = [.int i, .int j] ∧ Q (.int (if j < i then j else i)) H) tl) (wCB fMin2 wl) := ed_callB (call_min2 hc) cd_min2 hg (B.no _ (by decide)) (by decide +kernel) ha (by decide) (by decide) he hpl
end
end Dt

set_option Elab.async false
set_option linter.all false
set_option autoImplicit false
set_option maxRecDepth 100000
set_option maxHeartbeats 1000000
namespace Dt
open PySem PySem.Spec L2
section
variable {S : Type} {Wo : Wd S} {X : Cx} {W : WX} {K : PySem.W.Frag} {ta : TE} {e a : Expr} {pos p q pos2 : Pos} {wa : DE S}
/-- tuple(range(n)) -/
def wTupRg {S : Type} (w : DE S) : DE S := fun ρ s Q E => w ρ s (fun d s1 => match d with
  | .int j => 0 ≤ j ∧ j ≤ 4194304 ∧ Q (.tuple (rngD 0 j.toNat)) s1
  | _ => False) E
theorem dv_rng {H : Hp} (n : Nat) (h : n ≤ 4194304) : DvAll K H (rgV 0 (n : Int)) (rngD 0 n) := by
  unfold rgV rngD
  rw [show ((n : Int) - 0).toNat = n by omega]
  have go : ∀ l : List Nat, (∀ i ∈ l, i < n) → DvAll K H (l.map fun i : Nat => V.int ((0 : Int) + (i : Nat))) (l.map fun i : Nat => PyData.int ((0 : Int) + (i : Nat))) := by
    intro l
    induction l with
    | nil => intro _; exact .nil
    | cons i l ih =>
      intro h2
      have hi := h2 i List.mem_cons_self
      exact .cons (.int (okI_small (by omega))) (ih fun j hj => h2 j (List.mem_cons_of_mem _ hj))
  exact go _ fun i hi => List.mem_range.mp hi
theorem e_tupRg (B : Bt X.mg) (hc : X.calm = true) (ha : ED Wo X W a ta wa) (hg : Gl X "tuple" := by rfl) (hg2 : Gl X "range" := by rfl)
    (na : starEach [a] X.env = (false, eval a X.env) :: starEach [] X.env := by rfl) (nb : starEach [.Call (.Name "range" p) [a] [] pos] X.env = (false, eval (.Call (.Name "range" p) [a] [] pos) X.env) :: starEach [] X.env := by rfl) :
    ED Wo X W (.Call (.Name "tuple" q) [.Call (.Name "range" p) [a] [] pos] [] pos2) (tTupRg (tRg1 ta)) (wTupRg wa) :=
  ⟨pe_tupRg hc hg (B.no _ (by decide)) (prg_1 hg2 (B.no _ (by decide)) ha.pe na) nb, fun c σ H ρ s Qd Ed Q E hw hv he => ha.go c σ H ρ s _ Ed _ E hw (fun v H1 d s1 E1 st1 dv q1 => by
    match d, dv, q1 with
    | .int j, dv, q1 =>
      obtain ⟨j0, j1, q2⟩ := q1
      cases dv
      refine ⟨j, rfl, RgOk.of_le (by omega) (by omega) (by omega) j0, fun t nt => hv _ _ _ s1 (E1.grow (same_upd nt)) (st1.trans (stp_grow (same_upd nt))) ?_ q2⟩
      have ej : j = ((j.toNat : Nat) : Int) := by omega
      rw [ej]
      exact Dv.newT E1.tr nt (dv_rng _ (by omega)) (by unfold rngD limL; simp; omega)) he⟩
end
end Dt

set_option Elab.async false
set_option linter.all false
set_option autoImplicit false
set_option maxRecDepth 100000
set_option maxHeartbeats 1000000
namespace Dt
open PySem PySem.Spec PyProof.Rows L2
/-! ### defs whose code object is known -/
section
variable {P : Program} {w : World} {K : PySem.W.Frag} {mg : Str → Option Value} {base : Heap} {CX : CXT} {k n : Nat} {f cc : Addr} {fd : FuncData} {N ps : List Str} {x qual : Str} {st : Stmt} {sp : Sp}
theorem fnGC (F : Fun K x qual st f fd) (hc : fd.code = .ref cc) (S : FnScope N ps (defScope st)) (len : ∀ vs H Q E, sp vs H Q E → vs.length = ps.length)
    (hbody : ∀ (A : Around) (outer : List Env) (s : Shared) (H : Hp) (vs : List V) (Q : VK) (E : XK), A.guards = some [] → Room k (A.deeper (envOfC qual (defScope st) s.heap.objs.size f (.ref cc))) → sp vs H Q E →
      ∃ t, PSs (cxOf CX P w K mg base N qual (defScope st) f (.ref cc) A outer s H E) (defBody st) t ∧ t ⟨fun _ H' => Q .non H', Q, fun _ _ => False, fun _ _ => False⟩ (start N vs) H) : FnG P w K mg base CX (k + 1) f fd ps sp := by
  obtain ⟨oc, od, kV, doc, pm, an, cdv, ct, osl, rfl, lk, hcd⟩ := F.ex
  have hc : cdv = .ref cc := hc
  subst hc
  constructor
  · exact len
  intro A hgd outer s H args us vs Q E hr e0 hb r hsp
  have old : ∀ b o, base.get? b = some o → s.heap.get? b = some o := fun b o e => (e0.bs b o e).1
  have par : ∀ y ∈ ps.zip us, (defScope st).names.lookup y.1 = some .local ∨ ((defScope st).names.lookup y.1 = some .cell ∧ ((cellsFrom (s.heap.objs.size + 1) (defScope st).names []).lookup y.1).isSome = true) := by
    rintro ⟨n, v⟩ hy
    exact (S.par n (List.of_mem_zip hy).1).imp id fun q => ⟨q, PySem.W.cellsFrom_some _ _ _ (.inl q)⟩
  refine codeAny_call_function hr.depth (e0.mod.kin.keeps old _ _ lk) rfl S.co S.gen rfl (PySem.W.codeRec_of (e0.mod.kin.keeps old) hcd) (hb _ _ _ _ (wpAny_newFunctionEnv_cells S.kind par fun env he s1 x1 => ?_))
  subst he
  refine ⟨(e0.mod.nolimit.keeps old).keeps x1.toInCall.keep, codeAny_func ?_⟩
  have hR := hr.deeper (envOfC qual (defScope st) s.heap.objs.size f (.ref cc))
  obtain ⟨t, ht, hq⟩ := hbody A outer s H vs Q E hgd hR hsp
  refine wpAny_mono (ht.run [] s1 (start N vs) H _ (inv_start (CX := CX) (E := E) S hr.hd e0 (len _ _ _ _ hsp) r x1) hq) ?_ fun e s' hs => hs
  intro fl s' hs
  cases fl with
  | next =>
    obtain ⟨σ', H', J, q⟩ := hs
    exact ⟨V.non, H', J.os, J.bare, J.base, J.hok, rfl, q⟩
  | ret u =>
    obtain ⟨v, σ', H', J, rv, q⟩ := hs
    exact ⟨v, H', J.os, J.bare, J.base, J.hok, rv, q⟩
  | brk =>
    obtain ⟨_, _, _, q⟩ := hs
    cases q
  | cont =>
    obtain ⟨_, _, _, q⟩ := hs
    cases q
theorem fnIC {ι S : Type} {Wf : ι → Wd S} {F : ι → List Ag → S → (PyData → S → Prop) → (Er → S → Prop) → Prop} {wb : ι → DS S} (Fu : Fun K x qual st f fd) (hc : fd.code = .ref cc) (Sc : FnScope N ps (defScope st)) (hn : ps.length = n)
    (hbody : ∀ (i : ι) (A : Around) (outer : List PySem.Env) (s : Shared) (H : Hp) (E : XK), A.guards = some [] → Room k (A.deeper (PyProof.Rows.envOfC qual (defScope st) s.heap.objs.size f (.ref cc))) →
      ∃ t, SSD (Wf i) (cxOf CX P w K mg base N qual (defScope st) f (.ref cc) A outer s H E) (WXE E) (defBody st) t (wb i))
    (spec : ∀ i as s Qd Ed, as.length = n → F i as s Qd Ed → wb i (argS n N.length (as.map toSl)) s (endW Qd Ed)) : FnG P w K mg base CX (k + 1) f fd ps (spI K Wf n F) := by
  refine fnGC Fu hc Sc (fun vs H Q E h => by obtain ⟨i, h⟩ := h; rw [h.1, hn]) fun A outer s H vs Q E hG hr h => ?_
  obtain ⟨i, hl, R, as, s1, Qd, Ed, nd, tr, g, ag, hf, hq, he⟩ := h
  obtain ⟨t, B⟩ := hbody i A outer s H E hG hr
  refine ⟨t, B.pe, ?_⟩
  have E0 := env_start (Wo := Wf i) (N := N) (R := R) (s := s1) nd tr g ag
  rw [hl] at E0
  refine B.go _ _ H _ s1 (endW Qd Ed) _ E0 (spec i as s1 Qd Ed (ag.length.symm.trans hl) hf) ⟨fun σ' H' ρ' s' E' st' q => hq .non H' .none s' E'.g E'.ext .non q, fun _ _ _ _ _ _ z => z.elim, fun _ _ _ _ _ _ z => z.elim, fun v H' d s' g ex dv q => hq v H' d s' g ex dv q, fun e cls dd σ' H' ρ' s' E' ei q => ?_⟩
  obtain ⟨c1, d, fs, c2, c3, c4⟩ := ei
  exact he e cls dd H' s' E'.g E'.ext ⟨c1, d, fs, c2, c3, FsOk.same (hd_sub fun a ha => List.mem_append_left _ ha) _ _ c4⟩ q
end
end Dt
namespace Dt
open PySem PySem.Spec L2
/-! ### an item of a list that the body owns -/
def wOwnIx {S : Type} (i : Nat) (w : DE S) : DE S := fun ρ s Q E => match ρ[i]? with
  | some (.own _ xs) => w ρ s (fun d s1 => match d with
    | .int j => ∃ z, atI xs j = some z ∧ Q z s1
    | _ => False) E
  | _ => False
section
variable {S : Type} {Wo : Wd S} {X : Cx} {W : WX} {tb : TE} {b : Expr} {pos : Pos} {wb : DE S}
theorem e_ixO (i : Nat) {x : Str} {px : Pos} (hb : ED Wo X W b tb wb) (hN : X.N[i]? = some x := by rfl) (hv : Vis X.env.scope x := by first | exact Or.inl rfl | exact Or.inr (Or.inl rfl) | exact Or.inr (Or.inr rfl)) (hdb : (x == ("__debug__" : Str)) = false := by decide) (hcd : (x == ("__classdict__" : Str)) = false := by decide)
    (hs : PlainIx b := by exact fun _ _ => rfl) : ED Wo X W (.Subscript (.Name x px) b pos) (tOp (rIxL X.K) (tVar i) tb) (wOwnIx i wb) := by
  refine ⟨pe_ix ix_list (pe_var hN hv hdb hcd) hb.pe hs, fun c σ H ρ s Qd Ed Q E hw hvt he => ?_⟩
  unfold wOwnIx at hw
  split at hw
  · rename_i p xs hi
    obtain ⟨o, h1, h2, n, vs, h3, h4⟩ := E.slot i _ hi
    subst h2
    refine ⟨.ref p, h1, hb.go c σ H ρ s _ Ed _ E hw (fun v H1 d s1 E1 st1 dv q => ?_) he⟩
    match d, dv, q with
    | .int j, dv, q =>
      cases dv
      obtain ⟨z, hz, q2⟩ := q
      obtain ⟨o2, g1, g2, _, vs2, g3, g4⟩ := E1.slot i _ hi
      obtain ⟨v2, hv2, dv2⟩ := g4.at hz
      exact ⟨p, vs2, j, v2, rfl, rfl, SqL.of g3, hv2, hvt v2 H1 z s1 E1 st1 dv2 q2⟩
  · exact hw.elim
end
end Dt

set_option Elab.async false
set_option linter.all false
set_option autoImplicit false
set_option maxRecDepth 100000
set_option maxHeartbeats 2000000
namespace Dt
open PySem PySem.Spec PyProof.Rows L2
/-! ### a law whose defs make lambdas: tables of code objects, empty ahead of the call -/
abbrev noRows : Obj := { cls := .none, data := .fields #[] }
theorem lawT {P : Program} {w : World} {K : PySem.W.Frag} {mg mb : Str → Option Value} {k : Nat} {fa a : Addr} {cs : List (Addr × Addr)} {fd : FuncData} {x : Str} {sp : Sp} {s : Shared} {vs : List Value} {ns : List Int}
    (KX : K.In s.heap) (gl : s.heap.Ns mainGlobals mg) (bl : s.heap.Ns builtinsNs mb) (bb : ∀ y : Str, y ≠ "__name__" → mb y = bootBuiltins y) (nl : s.heap.NoLimit) (hg : s.gens = #[])
    (bmo : ∃ (m : Addr) (om : Obj), mg "__builtins__" = some (.ref m) ∧ m ≠ builtinsNs ∧ s.heap.get? m = some om ∧ om.cls = .type "module" ∧ om.dict = some builtinsNs ∧ om.data = .plain)
    (t0 : ∀ q ∈ cs, s.heap.get? q.2 = some noRows) (t1 : ∀ q ∈ cs, K.lookup q.2 = none) (t2 : ∀ q ∈ cs, PySem.W.codeHdIn K q.1 q.2 = true)
    (ha : s.heap.get? a = some { cls := .type "list", data := .seq vs.toArray }) (hi : IntsAre vs ns) (hl : ns.length ≤ sizeLine) (hr : Room k callerA)
    (F : ∀ base : Heap, K.In base → base.Ns mainGlobals mg → (∀ q ∈ cs, LamX.TabB base mg q.1 q.2) → FnG P w K mg base CX0 k fa fd [x] sp) (bd : ∀ (t : Shared) (u : Value), BindsTo t fd ⟨[u], []⟩ [(x, u)])
    (hsp : ∀ H : Hp, (∀ q ∈ cs, H q.2 = some (.tbl #[])) → SqL K H a (ns.map V.int) → sp [.ref a] H (fun v _ => v = .bl true) fun _ _ _ => False) :
    codeAny (model P w) callerA (.call (.ref fa) ⟨[.ref a], []⟩) (fun r t => r = .ok (.ret (.bool true)) ∧ OldK s.heap t.heap ∧ t.os = s.os ∧ AllBare t.gens) s := by
  have rv := vals_ints hi
  have lv : ns.length = vs.length := hi.length.symm
  obtain ⟨H1, hH, hS1⟩ := ahead KX ha rv (lv ▸ hl)
  have tk : ∀ b ∈ cs.map (·.2), s.heap.get? b = some noRows ∧ K.lookup b = none := fun b hb => by
    obtain ⟨q, hq, rfl⟩ := List.mem_map.mp hb
    exact ⟨t0 q hq, t1 q hq⟩
  have na : a ∉ cs.map (·.2) := fun z => by
    have q := (tk a z).1
    rw [ha] at q
    exact nomatch (congrArg Obj.data (Option.some.inj q))
  generalize hts : cs.map (·.2) = ts at tk na
  have mts : ∀ q ∈ cs, q.2 ∈ ts := fun q hq => by rw [← hts]; exact List.mem_map.mpr ⟨q, hq, rfl⟩
  let H : Hp := fun b => if b ∈ ts then some (.tbl #[]) else H1 b
  have in1 : ∀ b, b ∈ ts → H b = some (.tbl #[]) := fun b h => if_pos h
  have out1 : ∀ b, b ∉ ts → H b = H1 b := fun b h => if_neg h
  have sm : Same H1 H := fun b o e => by
    obtain ⟨rfl, _⟩ := hH b o e
    rw [out1 _ na]; exact e
  have hS := sm.seq hS1
  have cls : ∀ b u, H b = some u → (b = a ∧ u = .frz { cls := .type "list", data := .seq vs.toArray } (.lst (ns.map V.int)) ∧ K.lookup b = none) ∨ (b ∈ ts ∧ u = .tbl #[]) := fun b u e => by
    by_cases h : b ∈ ts
    · rw [in1 b h] at e
      exact .inr ⟨h, (Option.some.inj e).symm⟩
    · rw [out1 b h] at e
      exact .inl (hH b u e)
  have off : ∀ {b : Addr} {o : Obj}, s.heap.get? b = some o → (∀ i n, o.data ≠ .seq i n) → o.data ≠ .fields #[] → H b = none := fun {b o} q d d2 => by
    cases e : H b with
    | none => rfl
    | some u =>
      rcases cls b u e with ⟨rfl, _⟩ | ⟨h, _⟩
      · rw [ha] at q
        exact absurd (congrArg Obj.data (Option.some.inj q)).symm (d _ _)
      · rw [(tk b h).1] at q
        exact absurd (congrArg Obj.data (Option.some.inj q)).symm d2
  have nsT : ∀ {b : Addr} {m : Str → Option Value}, s.heap.Ns b m → (hidT s.heap H).Ns b m := by
    rintro b m ⟨o, es, ep, q, d, r⟩
    exact ⟨o, es, ep, hidT_get q (off q (fun i n z => by rw [d] at z; cases z) fun z => by rw [d] at z; cases z), d, r⟩
  have kin : K.In (hidT s.heap H) := fun b o q => hidT_get (KX b o q) (by
    cases e : H b with
    | none => rfl
    | some u =>
      rcases cls b u e with ⟨_, _, z⟩ | ⟨h, _⟩
      · rw [q] at z; cases z
      · rw [(tk b h).2] at q; cases q)
  obtain ⟨ml, nl1, nl2⟩ := nl
  have md : Mod K mg (hidT s.heap H) := ⟨kin, nsT gl, ⟨mb, nsT bl, bb⟩, ml, nsT nl1, nl2⟩
  have gd : ∀ {m : Str → Option Value} {b : Addr}, s.heap.Ns b m → b ∉ ts := fun {m b} h z => by
    obtain ⟨o, es, ep, q, d, _⟩ := h
    rw [(tk b z).1] at q
    cases q
    cases d
  have ok : HOk P w H s.heap := fun b u e => by
    rcases cls b u e with ⟨rfl, rfl, _⟩ | ⟨h, rfl⟩
    · exact ⟨ha, by rw [List.length_map]; exact hl, vs, _, rv, ha⟩
    · exact (tk b h).1
  have TB : ∀ q ∈ cs, LamX.TabB (hidT s.heap H) mg q.1 q.2 := fun q hq => by
    refine ⟨PySem.W.codeHd_of_K kin (t2 q hq), ?_, fun z => gd gl (z ▸ mts q hq)⟩
    obtain ⟨m, om, m1, m2, m3, m4, m5, m6⟩ := bmo
    have n1 : m ≠ mainGlobals := fun z => by
      obtain ⟨o, es, ep, q1, d, _⟩ := gl
      rw [z, q1] at m3
      cases m3
      rw [m6] at d; cases d
    have n2 : m ≠ q.2 := fun z => by
      rw [z, t0 q hq] at m3
      cases m3
      cases m6
    exact ⟨m, om, m1, m2, n1, n2, hidT_get m3 (off m3 (fun i n z => by rw [m6] at z; cases z) fun z => by rw [m6] at z; cases z), m4, m5, m6⟩
  have e0 : Env0 P w K mg (hidT s.heap H) callerA [] s H := {
    frames := rfl
    mod := md
    bs := fun b o q => of_hidT q
    bsz := Nat.le_of_eq (hidT_size _ _)
    funs := trivial
    frf := fun b q => by simp [frs] at q
    hok := ok
    bare := AllBare.of_eq hg }
  refine codeAny_mono ((F _ kin (nsT gl) TB).go callerA rfl [] s H ⟨[.ref a], []⟩ [.ref a] [.ref a] _ _ hr e0 (bd s (.ref a)) (.cons rfl .nil) (hsp H (fun q hq => in1 _ (mts q hq)) hS)) ?_
  intro r t h
  match r, h with
  | .error _, h => exact False.elim h
  | .ok .next, h => exact False.elim h
  | .ok .brk, h => exact False.elim h
  | .ok .cont, h => exact False.elim h
  | .ok (.ret u), h =>
    obtain ⟨v, H', os, bare, un, hok', rel, q⟩ := h
    have q : v = .bl true := q
    subst q
    have rel : u = Value.bool true := rel
    subst rel
    have kp : ∀ b o, b ∉ ts → s.heap.get? b = some o → t.heap.get? b = some o := fun b o n q => by
      cases e : H b with
      | none => exact un.keep b o q e (by simp [frs]) (by simp)
      | some z =>
        rcases cls b z e with ⟨rfl, rfl, _⟩ | ⟨h, _⟩
        · rw [ha] at q
          cases q
          exact (hok' _ _ (un.frzs _ _ _ e)).1
        · exact absurd h n
    have gw : ∀ b ∈ ts, ∃ more : Array Value, t.heap.get? b = some { cls := .none, data := .fields more } := fun b h => by
      obtain ⟨more, z⟩ := un.tbls b #[] (in1 b h)
      exact ⟨_, hok' b _ z⟩
    refine ⟨rfl, ⟨fun b o q => ?_, fun b o q => ?_⟩, os, bare⟩
    · by_cases h : b ∈ ts
      · obtain ⟨more, z⟩ := gw b h
        have ct : isCodeTable s.heap b := by
          rw [← hts] at h
          obtain ⟨q2, hq, rfl⟩ := List.mem_map.mp h
          exact ((PySem.W.codeHd_of_K KX (t2 q2 hq)).tab (t0 q2 hq)).isCodeTable
        rw [(tk b h).1] at q
        cases q
        exact .inr (.inl ⟨ct, rfl, #[], more, rfl, by rw [Array.empty_append]; exact z⟩)
      · exact .inl (kp b o h q)
    · by_cases h : b ∈ ts
      · obtain ⟨more, z⟩ := gw b h
        exact ⟨_, z⟩
      · exact ⟨o, kp b o h q⟩
theorem walkT {l : PySem.W.OpenLaw} {n k : Nat} {q : Program} {loose : List Str} {XP : (Str → Option Value) → Heap → Prop} {YP : World → Heap → Prop} {d : DefRec} {K : Params → PySem.W.Frag} {x : Str}
    (hn : l.most = some n) (hn2 : n ≤ sizeLine) (hdf : d.params.defaults = []) (hr : Room k callerA) (hY : ∀ (w : World) (h : Heap), YP w h → (K w.params).In h)
    (F : ∀ (w : World) (mg : Str → Option Value) (fa : Addr) (h : Heap), YP w h → (K w.params).In h → h.Ns mainGlobals mg → mg d.name = some (.ref fa) →
      ∃ (cs : List (Addr × Addr)) (fd : FuncData) (sp : Sp), (∀ q ∈ cs, h.get? q.2 = some noRows) ∧ (∀ q ∈ cs, (K w.params).lookup q.2 = none) ∧ (∀ q ∈ cs, PySem.W.codeHdIn (K w.params) q.1 q.2 = true) ∧ (∀ (s : Shared) (u : Value), BindsTo s fd ⟨[u], []⟩ [(x, u)]) ∧
        (∀ (H : Hp) (a : Addr) (ns : List Int), ns.length ≤ n → (∀ q ∈ cs, H q.2 = some (.tbl #[])) → SqL (K w.params) H a (ns.map V.int) → sp [.ref a] H (fun v _ => v = .bl true) fun _ _ _ => False) ∧
        ∀ base : Heap, (K w.params).In base → base.Ns mainGlobals mg → (∀ q ∈ cs, LamX.TabB base mg q.1 q.2) → FnG l.prog w (K w.params) mg base CX0 k fa fd [x] sp) :
    PySem.W.WalkO q loose XP YP l.row.toRowW d [] (fun f vs => PySem.call f vs) := by
  refine Att.attach_call hn hdf ?_
  intro w s0 s1 mg mb fa o pm cd doc a vs ns G Y _ _ _ hm hob hin hle hge
  obtain ⟨cs, fd, sp, t0, t1, t2, bd, hsp, hF⟩ := F w mg fa _ Y (hY w _ Y) G.T.g hm
  exact lawT (hY w _ Y) G.T.g G.T.b G.T.builtins G.T.nolimit hge G.T.bmain t0 t1 t2 hob hin (Nat.le_trans hle hn2) hr hF bd fun H hH hS => hsp H a ns hle hH hS
end Dt

set_option Elab.async false
set_option linter.all false
set_option autoImplicit false
set_option maxRecDepth 100000
set_option maxHeartbeats 1000000
namespace Dt
open PySem PySem.Spec L2
/-! ### *e in a display, x[i] = e of a list of its own, calls that raise nothing -/
theorem AgOk.append {K : PySem.W.Frag} {H : Hp} : ∀ {vs ws : List V} {as bs : List Ag}, AgOk K H vs as → AgOk K H ws bs → AgOk K H (vs ++ ws) (as ++ bs)
  | [], _, [], _, _, h => h
  | _ :: r, _, .d _ :: t, _, h, g => ⟨h.1, AgOk.append h.2 g⟩
  | _ :: r, _, .raw _ :: t, _, h, g => ⟨h.1, AgOk.append h.2 g⟩
  | [], _, .d _ :: _, _, h, _ => h.elim
  | [], _, .raw _ :: _, _, h, _ => h.elim
  | _ :: _, _, [], _, h, _ => h.elim
theorem DvAll.ag {K : PySem.W.Frag} {H : Hp} : ∀ {ds : List PyData} {vs : List V}, DvAll K H vs ds → AgOk K H vs (ds.map Ag.d)
  | [], _, h => by cases h; trivial
  | d :: ds, _, h => by cases h with | cons a b => exact ⟨a, DvAll.ag b⟩
def wStar {S : Type} (w : DE S) (r : DA S) : DA S := fun ρ s Q E => w ρ s (fun d s1 => match d with
  | .tuple ds => r ρ s1 (fun as s2 => Q (ds.map Ag.d ++ as) s2) E
  | .list ds => r ρ s1 (fun as s2 => Q (ds.map Ag.d ++ as) s2) E
  | _ => False) E
section
variable {S : Type} {Wo : Wd S} {X : Cx} {W : WX} {K : PySem.W.Frag} {ta ti te : TE} {tl : TA} {e ix : Expr} {es : List Expr} {pos pos' p : Pos} {we wi : DE S} {wl : DA S} {n : Nat}
theorem ad_star (he : ED Wo X W e te we) (hr : AD Wo X W es tl wl) (hs : starEach (.Starred e p :: es) X.env = (true, eval e X.env) :: starEach es X.env := by rfl) : AD Wo X W (.Starred e p :: es) (StX.tStar X.K te tl) (wStar we wl) :=
  ⟨StX.pa_star he.pe hr.pe hs, fun c σ H ρ s Qd Ed Q E hw hv her => he.go c σ H ρ s _ Ed _ E hw (fun v H1 d s1 E1 st1 dv q1 => by
    match d, dv, q1 with
    | .tuple ds, dv, q1 =>
      cases dv with
      | @tup a xs _ h n1 a1 =>
        refine ⟨a, xs, rfl, .inl (same_seqT (hd_to _ _) h), hr.go c σ H1 ρ s1 _ Ed _ E1 q1 (fun vs H2 as s2 E2 st2 a2 q2 => ?_) her⟩
        exact hv _ H2 _ s2 E2 (st1.trans st2) (AgOk.append (DvAll.ag (DvAll.same st2 _ _ a1)) a2) q2
    | .list ds, dv, q1 =>
      cases dv with
      | @lst a xs _ h n1 a1 =>
        refine ⟨a, xs, rfl, .inr (SqL.of (hd_to _ _ _ _ h)), hr.go c σ H1 ρ s1 _ Ed _ E1 q1 (fun vs H2 as s2 E2 st2 a2 q2 => ?_) her⟩
        exact hv _ H2 _ s2 E2 (st1.trans st2) (AgOk.append (DvAll.ag (DvAll.same st2 _ _ a1)) a2) q2) her⟩
def wSto {S : Type} (i : Nat) (w wi : DE S) : DS S := fun ρ s D => match ρ[i]? with
  | some (.own p xs) => w ρ s (fun d s1 => wi ρ s1 (fun k s2 => match k with
    | .int j => ∃ n, ixN xs.length j = some n ∧ D.nx (ρ.set i (.own p (xs.set n d))) s2
    | _ => False) fun e s' => D.er e ρ s') fun e s' => D.er e ρ s'
  | _ => False
theorem DvAll.set {K : PySem.W.Frag} {H : Hp} : ∀ {vs : List V} {ds : List PyData} {n : Nat} {v : V} {d : PyData}, DvAll K H vs ds → Dv K H v d → DvAll K H (vs.set n v) (ds.set n d)
  | _, [], _, _, _, h, _ => by cases h; exact .nil
  | _, d :: ds, 0, _, _, h, g => by cases h with | cons a b => exact .cons g b
  | _, d :: ds, n + 1, _, _, h, g => by cases h with | cons a b => exact .cons a (DvAll.set b g)
theorem sd_store (i : Nat) {x : Str} {px : Pos} (h : ED Wo X W e ta we) (hi : ED Wo X W ix ti wi) (hN : X.N[i]? = some x := by rfl) (hv : Vis X.env.scope x := by first | exact Or.inl rfl | exact Or.inr (Or.inl rfl) | exact Or.inr (Or.inr rfl)) (hdb : (x == ("__debug__" : Str)) = false := by decide) (hcd : (x == ("__classdict__" : Str)) = false := by decide)
    (ha : ∀ v, assign (.Subscript (.Name x px) ix pos') X.env v = (do
      let ov ← holding [v] (eval (.Name x px) X.env)
      let iv ← holding [v, ov] (eval ix X.env)
      standAt pos'
      holding [v, ov, iv] (setItem ov iv v)
      release [v, ov, iv] []) := by intro _; rfl)
    (hs : swapsWithSole [.Subscript (.Name x px) ix pos'] e pos.line X.env = pure false := by rfl) (hw : swappedStores [.Subscript (.Name x px) ix pos'] e X.env = pure none := by rfl) (h1 : (assignEach [.Subscript (.Name x px) ix pos'] X.env).map (·.2) = [assign (.Subscript (.Name x px) ix pos') X.env] := by rfl) :
    SD Wo X W (.Assign [.Subscript (.Name x px) ix pos'] e pos) (tAsg ta (gSub (tVar i) ti rSetL)) (wSto i we wi) :=
  ⟨ps_asg h.pe (pg_sub (pe_var hN hv hdb hcd) hi.pe set_list ha) hs hw h1, fun c σ H ρ s Dd D E hw to => by
    unfold wSto at hw
    split at hw
    · rename_i q xs hq
      refine h.go c σ H ρ s _ _ _ E hw (fun v H1 d s1 E1 st1 dv q1 => ?_) (to.err σ ρ)
      obtain ⟨o, g1, rfl, n1, vs, hH, hA⟩ := E1.slot i _ hq
      refine ⟨_, g1, hi.go c σ H1 ρ s1 _ _ _ E1 q1 (fun u H2 k s2 E2 st2 du q2 => ?_) (to.err σ ρ)⟩
      match k, du, q2 with
      | .int j, du, q2 =>
        obtain ⟨m, hm, q3⟩ := q2
        cases du
        obtain ⟨o, f1, f2, n2, vs2, hH2, hA2⟩ := E2.slot i _ hq
        refine ⟨q, vs2, j, m, rfl, rfl, hH2, by rw [hA2.length]; exact hm, ?_⟩
        obtain ⟨E3, st3⟩ := E2.updOwn (ys := xs.set m d) hq (hA2.set (Dv.same st2 _ _ dv)) (by rw [List.length_set]; exact n2)
        exact to.nx σ _ _ s2 E3 (st1.trans (st2.trans st3)) q3
    · exact hw.elim⟩
theorem pass_no (X : Cx) (σ : L2.St) : PassesAt (L2.CX X.prog X.w) X σ (fun _ _ _ => False) := fun pins H s e s' I c => by
  obtain ⟨_, _, _, _, _, _, _, _, _, _, _, _, z⟩ := c
  exact z.elim
/-- a def that may raise, called where it raises nothing -/
theorem e_callN {j : Nat} {x : Str} {F : List PyData → (PyData → Prop) → (Er → Prop) → Prop} (D : Do X.prog X.w K X.mg X.base (L2.CX X.prog X.w) j x n (spP K n F)) (hr : Room j X.A) (ha : AD Wo X W (e :: es) tl wl) (hK : X.K = K := by rfl)
    (hg : Gl X x := by rfl) (hdb : (x == ("__debug__" : Str)) = false := by decide) (he : starEach (e :: es) X.env = (false, eval e X.env) :: starEach es X.env := by rfl) (hpl : (backTo pos (starEach es X.env)).any (·.1) = false := by rfl) :
    ED Wo X W (.Call (.Name x p) (e :: es) [] pos) (tCallS (spP K n F) (fun _ _ _ _ => False) tl) (wCallP (fun ds Q _ => ds.length = n ∧ F ds Q fun _ => False) wl) := by
  subst hK
  obtain ⟨f, fd, ps, h1, h2, h3, h4, h5⟩ := D.ex
  exact ⟨pe_callO h5 hr hg h2 h3 h4 (pass_no X) ha.pe hdb he hpl, fun c σ H ρ s Qd Ed Q E hw hv he => ha.go c σ H ρ s _ Ed _ E hw (fun vs H1 as s1 E1 st1 a1 q1 => by
    obtain ⟨ds, g1, g2, g3⟩ := a1.all q1
    exact ⟨by rw [g1.length]; exact g2, c.hs ρ, ds, _, _, E1.nd, E1.tr, g1, g3, fun v H' d sm dv q => hv v H' d s1 (E1.grow sm) (st1.trans (stp_grow sm)) dv q,
      fun e cls dd H' sm ei q => q.elim⟩) he⟩
end
end Dt

set_option Elab.async false
set_option linter.all false
set_option autoImplicit false
set_option maxRecDepth 100000
set_option maxHeartbeats 1000000
namespace Dt
open PySem PySem.Spec L2
/-! ### a, b = e, [..]; x[1], x[2] = a, b -/
section
variable {S : Type} {Wo : Wd S} {X : Cx} {W : WX} {K : PySem.W.Frag} {ta tb : TE} {tl : TA} {a b : Expr} {pos p : Pos} {wa : DE S} {wl : DA S}
def wParG {S : Type} (i j : Nat) (w : DE S) (v : DL S) : DS S := fun ρ s D => w ρ s (fun d s1 => v ρ s1 (fun ds s2 => ∀ p, D.nx ((ρ.set j (.own p ds)).set i (.d d)) s2) fun e s' => D.er e ρ s') fun e s' => D.er e ρ s'
theorem sd_parG (i j : Nat) {x y : Str} {px py pt : Pos} {kt k2 : Nat} {pt2 : Pos} {w : DL S} (hN : X.N.Nodup) (hi : X.N[i]? = some x) (hj : X.N[j]? = some y) (hij : i ≠ j) (ha : ED Wo X W a ta wa) (h : FD Wo X W b tb w) (hx : X.env.scope.names.lookup x = some .local := by rfl) (hy : X.env.scope.names.lookup y = some .local := by rfl) (hc : X.calm = true := by rfl)
    (hs1 : starEach [a, b] X.env = (false, eval a X.env) :: starEach [b] X.env := by rfl) (hs2 : starEach [b] X.env = (false, eval b X.env) :: starEach [] X.env := by rfl)
    (hw : swappedStores [.Tuple [.Name x px, .Name y py] kt pt] (.Tuple [a, b] k2 pt2) X.env = pure (some [x, y]) := by rfl)
    (hs : swapsWithSole [.Tuple [.Name x px, .Name y py] kt pt] (.Tuple [a, b] k2 pt2) pos.line X.env = pure false := by rfl) :
    SD Wo X W (.Assign [.Tuple [.Name x px, .Name y py] kt pt] (.Tuple [a, b] k2 pt2) pos) (tPar i j (tCons ta (tCons tb tNil))) (wParG i j wa w) :=
  ⟨ps_par hc hN hi hj hij hx hy (pa_cons ha.pe (pa_cons h.pe pa_nil hs2) hs1) hw hs, fun c σ H ρ s Dd D E hw to => ha.go c σ H ρ s _ _ _ E hw (fun v H1 d s1 E1 st1 dv q1 => h.go c σ H1 ρ s1 _ _ _ E1 q1 (fun q vs H' ds s' E' sm hq da n hn qd => by
    have h0 : c.H0 q = none := by
      cases z : c.H0 q with
      | none => rfl
      | some o =>
        by_cases hw : q ∈ c.W.wa
        · exact absurd hn (E1.tr q (List.mem_append_left _ (List.mem_append_left _ hw)))
        · have := E1.ext q o z hw
          rw [hn] at this; cases this
    obtain ⟨E2, st⟩ := E'.setOwn (i := j) hq da n h0
    obtain ⟨E3, st2⟩ := E2.setD (i := i) (x := .d d) (v := v) rfl ⟨_, rfl, Dv.same (sm.trans st) _ _ dv⟩
    rw [List.set_comm _ _ (Ne.symm hij)] at E3
    exact ⟨_, _, rfl, to.nx _ H' _ s' E3 (st1.trans (sm.trans (st.trans st2))) (qd q)⟩) (to.err σ ρ)) (to.err σ ρ)⟩
def wSto2 {S : Type} (i : Nat) (j1 j2 : Int) (wl : DA S) : DS S := fun ρ s D => match ρ[i]? with
  | some (.own p xs) => wl ρ s (fun as s1 => allK as fun ds => match ds with
    | [d1, d2] => ∃ n m, ixN xs.length j1 = some n ∧ ixN xs.length j2 = some m ∧ D.nx (ρ.set i (.own p ((xs.set n d1).set m d2))) s1
    | _ => False) fun e s' => D.er e ρ s'
  | _ => False
theorem sd_sto2 (i : Nat) {j1 j2 : Int} {x : Str} {e1 e2 : Expr} {px py p1 p2 pt pt2 : Pos} {kt k2 : Nat} (hc : X.calm = true) (ha : AD Wo X W [a, b] tl wl) (i1 : PE X e1 (tC (.int j1))) (i2 : PE X e2 (tC (.int j2))) (hN : X.N[i]? = some x := by rfl) (hv : Vis X.env.scope x := by first | exact Or.inl rfl | exact Or.inr (Or.inl rfl) | exact Or.inr (Or.inr rfl)) (hdb : (x == ("__debug__" : Str)) = false := by decide) (hcd : (x == ("__classdict__" : Str)) = false := by decide)
    (ha1 : ∀ v, assign (.Subscript (.Name x px) e1 p1) X.env v = (do
      let ov ← holding [v] (eval (.Name x px) X.env)
      let iv ← holding [v, ov] (eval e1 X.env)
      standAt p1
      holding [v, ov, iv] (setItem ov iv v)
      release [v, ov, iv] []) := by intro _; rfl)
    (ha2 : ∀ v, assign (.Subscript (.Name x py) e2 p2) X.env v = (do
      let ov ← holding [v] (eval (.Name x py) X.env)
      let iv ← holding [v, ov] (eval e2 X.env)
      standAt p2
      holding [v, ov, iv] (setItem ov iv v)
      release [v, ov, iv] []) := by intro _; rfl)
    (hn : (assignEach [.Subscript (.Name x px) e1 p1, .Subscript (.Name x py) e2 p2] X.env).length = 2 := by rfl) (hst : (assignEach [.Subscript (.Name x px) e1 p1, .Subscript (.Name x py) e2 p2] X.env).findIdx? (·.1) = none := by rfl)
    (hs2 : (assignEach (.Subscript (.Name x px) e1 p1 :: [.Subscript (.Name x py) e2 p2]) X.env).map (·.2) = assign (.Subscript (.Name x px) e1 p1) X.env :: (assignEach [.Subscript (.Name x py) e2 p2] X.env).map (·.2) := by rfl)
    (hs3 : (assignEach (.Subscript (.Name x py) e2 p2 :: []) X.env).map (·.2) = assign (.Subscript (.Name x py) e2 p2) X.env :: (assignEach [] X.env).map (·.2) := by rfl)
    (hs : swapsWithSole [.Tuple [.Subscript (.Name x px) e1 p1, .Subscript (.Name x py) e2 p2] kt pt] (.Tuple [a, b] k2 pt2) pos.line X.env = pure false := by rfl) (hw : swappedStores [.Tuple [.Subscript (.Name x px) e1 p1, .Subscript (.Name x py) e2 p2] kt pt] (.Tuple [a, b] k2 pt2) X.env = pure none := by rfl)
    (h1 : (assignEach [.Tuple [.Subscript (.Name x px) e1 p1, .Subscript (.Name x py) e2 p2] kt pt] X.env).map (·.2) = [assign (.Tuple [.Subscript (.Name x px) e1 p1, .Subscript (.Name x py) e2 p2] kt pt) X.env] := by rfl) :
    SD Wo X W (.Assign [.Tuple [.Subscript (.Name x px) e1 p1, .Subscript (.Name x py) e2 p2] kt pt] (.Tuple [a, b] k2 pt2) pos) (tAsg (tTup tl) (gTup X.K 2 (gCons (gSub (tVar i) (tC (.int j1)) rSetL) (gCons (gSub (tVar i) (tC (.int j2)) rSetL) gNil)))) (wSto2 i j1 j2 wl) :=
  ⟨ps_asg (pe_tup ha.pe) (pg_tup hc (pgs_cons (pg_sub (pe_var hN hv hdb hcd) i1 set_list ha1) (pgs_cons (pg_sub (pe_var hN hv hdb hcd) i2 set_list ha2) pgs_nil hs3) hs2) hn hst) hs hw h1, fun c σ H ρ s Dd D E hw to => by
    unfold wSto2 at hw
    split at hw
    · rename_i q xs hq
      refine ha.go c σ H ρ s _ _ _ E hw (fun vs H1 as s1 E1 st1 a1 q1 => ?_) (to.err σ ρ)
      obtain ⟨ds, g1, g2⟩ := a1.all q1
      match ds, g1, g2 with
      | [d1, d2], g1, g2 =>
        cases g1 with
        | @cons v1 _ _ _ b1 r1 =>
        cases r1 with
        | @cons v2 _ _ _ b2 r2 =>
        cases r2
        obtain ⟨n, m, hn, hm, q2⟩ := g2
        refine ⟨(by show 2 ≤ sizeLine; rw [sizeLine_eq]; decide), fun t ht => ⟨t, [v1, v2], rfl, .inl (.inl upd_same), rfl, ?_⟩⟩
        have E2 := E1.grow (same_upd (o := .tup [v1, v2]) ht)
        have st2 : Stp c ρ ρ H1 (upd H1 t (.tup [v1, v2])) := stp_grow (same_upd ht)
        generalize upd H1 t (.tup [v1, v2]) = H2 at E2 st2 ⊢
        obtain ⟨o, f1, rfl, n1, ws, hH, hA⟩ := E2.slot i _ hq
        obtain ⟨E3, st3⟩ := E2.updOwn (ys := xs.set n d1) hq (hA.set (n := n) (Dv.same st2 _ _ b1)) (by rw [List.length_set]; exact n1)
        have hq3 : (ρ.set i (.own q (xs.set n d1)))[i]? = some (.own q (xs.set n d1)) := List.getElem?_set_self (List.getElem?_eq_some_iff.mp hq).1
        obtain ⟨E4, st4⟩ := E3.updOwn (ys := (xs.set n d1).set m d2) hq3 ((hA.set (n := n) (Dv.same st2 _ _ b1) |> DvAll.same st3 _ _).set (n := m) (Dv.same (st2.trans st3) _ _ b2)) (by rw [List.length_set, List.length_set]; exact n1)
        rw [List.set_set] at E4 st4
        refine ⟨v1, [v2], rfl, .ref q, f1, q, ws, j1, n, rfl, rfl, hH, by rw [hA.length]; exact hn, ?_⟩
        refine ⟨v2, [], rfl, .ref q, f1, q, ws.set n v1, j2, m, rfl, rfl, upd_same, by rw [List.length_set, hA.length]; exact hm, rfl, ?_⟩
        exact to.nx σ _ _ s1 E4 (st1.trans (st2.trans (st3.trans st4))) q2
    · exact hw.elim⟩
end
end Dt

set_option Elab.async false
set_option linter.all false
set_option autoImplicit false
set_option maxRecDepth 100000
set_option maxHeartbeats 1000000
namespace Dt
open PySem PySem.Spec L2
/-! ### x or y of strings, f-strings of strings and ints, a new list of two new ones -/
section
variable {S : Type} {Wo : Wd S} {X : Cx} {W : WX} {K : PySem.W.Frag} {ta tb : TE} {tl : TA} {a b e : Expr} {pos p : Pos} {wa wb : DE S} {wl : DA S}
def wOrS {S : Type} (wa wb : DE S) : DE S := fun ρ s Q E => wa ρ s (fun x s1 => match x with | .str y => if y.length = 0 then wb ρ s1 Q E else Q (.str y) s1 | _ => False) E
theorem ed_orS {rest : List Expr} (ha : ED Wo X W a ta wa) (hb : ED Wo X W (.BoolOp .Or (b :: rest) pos) tb wb) (hK : X.K = K := by rfl) : ED Wo X W (.BoolOp .Or (a :: b :: rest) pos) (tOrT K ta tb) (wOrS wa wb) := by
  subst hK
  obtain ⟨pa, ha⟩ := ha
  obtain ⟨pb, hb⟩ := hb
  refine ⟨pe_orT pa pb, fun c σ H ρ s Qd Ed Q E hw hv he => ha c σ H ρ s _ Ed _ E hw (fun v H' d s' E' st' dv q => ?_) he⟩
  cases d with
  | str y =>
    cases dv with
    | str o =>
      refine ⟨((y.length : Int) != 0), ⟨Nat.le_trans o.1 limL_size, rfl⟩, ?_⟩
      have q : if y.length = 0 then wb ρ s' Qd Ed else Qd (.str y) s' := q
      by_cases z : y.length = 0
      · rw [if_pos z] at q
        have f : ((y.length : Int) != 0) = false := by rw [z]; rfl
        rw [f, if_neg Bool.false_ne_true]
        exact hb c σ H' ρ s' _ Ed _ E' q (fun v H2 d s2 E2 st2 => hv v H2 d s2 E2 (st'.trans st2)) he
      · rw [if_neg z] at q
        have f : ((y.length : Int) != 0) = true := by
          simp only [bne_iff_ne, ne_eq]
          omega
        rw [f, if_pos rfl]
        exact hv _ H' _ s' E' st' (.str o) q
  | _ => exact q.elim
def wFmt {S : Type} (wa : DE S) : DE S := fun ρ s Q E => wa ρ s (fun x s1 => match x with | .str y => Q (.str y) s1 | .int i => Q (.str (toString i : String)) s1 | _ => False) E
theorem ed_fmt (ha : ED Wo X W a ta wa) : ED Wo X W (.FormattedValue a (-1) none pos) (tFmt ta) (wFmt wa) := by
  obtain ⟨pa, ha⟩ := ha
  refine ⟨pe_fmt pa, fun c σ H ρ s Qd Ed Q E hw hv he => ha c σ H ρ s _ Ed _ E hw (fun v H' d s' E' st' dv q => ?_) he⟩
  cases d with
  | str y =>
    cases dv with
    | str o => exact .inl ⟨y, rfl, Nat.le_trans o.1 limL_size, hv _ H' _ s' E' st' (.str o) q⟩
  | int i =>
    cases dv with
    | int h =>
      have e := int_text_length_le10 (a := i) (k := 76) (by decide) (Nat.lt_of_lt_of_le h (by decide))
      refine .inr ⟨i, rfl, ?_, hv _ H' _ s' E' st' (.str ⟨by rw [ofString_length]; unfold limL; omega, strOk_lit _⟩) q⟩
      by_cases z : i.natAbs = 0
      · rw [z]; decide
      · exact (Nat.log2_lt z).mpr (Nat.lt_of_lt_of_le h (by exact Nat.pow_le_pow_right (by decide) (by decide)))
  | _ => exact q.elim
inductive JD {S : Type} (Wo : Wd S) (X : Cx) (W : WX) : List Expr → List TE → List (DE S) → Prop
  | nil : JD Wo X W [] [] []
  | cons {e : Expr} {t : TE} {w : DE S} {es : List Expr} {ts : List TE} {ws : List (DE S)} (h : ED Wo X W e t w) (r : JD Wo X W es ts ws) : JD Wo X W (e :: es) (t :: ts) (w :: ws)
def wJs {S : Type} : List (DE S) → Str → DE S
  | [], acc => fun ρ s Q E => Q (.str acc) s
  | w :: ws, acc => fun ρ s Q E => w ρ s (fun x s1 => match x with | .str y => (acc ++ y).length ≤ limL ∧ wJs ws (acc ++ y) ρ s1 Q E | _ => False) E
theorem JD.pj {es : List Expr} {ts : List TE} {ws : List (DE S)} (h : JD Wo X W es ts ws) : PJ X es ts := by
  induction h with
  | nil => exact .nil
  | cons h _ ih => exact .cons h.pe ih
theorem tJs_go {es : List Expr} {ts : List TE} {ws : List (DE S)} (h : JD Wo X W es ts ws) : ∀ (acc : Str) (_ : okS acc) (c : Cn Wo) σ H ρ s Qd Ed Q, EnvD X.K c σ H ρ s → wJs ws acc ρ s Qd Ed → VTo X.K c σ H ρ Qd Q → ErTo X.K c σ ρ Ed W → tJs ts acc σ H fun out H1 => Q (.str out) H1 := by
  induction h with
  | nil => intro acc ok c σ H ρ s Qd Ed Q E hw hv he; exact hv _ H _ s E (stp_grow (Same.refl _)) (.str ok) hw
  | cons h r ih =>
    intro acc ok c σ H ρ s Qd Ed Q E hw hv he
    refine h.go c σ H ρ s _ Ed _ E hw (fun v H' d s' E' st' dv q => ?_) he
    cases d with
    | str y =>
      cases dv with
      | str o => exact ⟨y, rfl, Nat.le_trans q.1 limL_size, ih (acc ++ y) ⟨q.1, strOk_app ok.2 o.2⟩ c σ H' ρ s' Qd Ed Q E' q.2 (fun v H2 d s2 E2 st2 => hv v H2 d s2 E2 (st'.trans st2)) he⟩
    | _ => exact q.elim
theorem ed_joined {v1 v2 : Expr} {rest : List Expr} {ts : List TE} {ws : List (DE S)} (h : JD Wo X W (v1 :: v2 :: rest) ts ws) : ED Wo X W (.JoinedStr (v1 :: v2 :: rest) pos) (fun σ H Q => tJs ts Str.empty σ H fun out H1 => Q (.str out) H1) (wJs ws Str.empty) :=
  ⟨pe_joined h.pj, fun c σ H ρ s Qd Ed Q E hw hv he => tJs_go h Str.empty ⟨Nat.zero_le _, by decide +kernel⟩ c σ H ρ s Qd Ed Q E hw hv he⟩
def wAddL {S : Type} (wa wb : DL S) : DL S := fun ρ s Q E => wa ρ s (fun xs s1 => wb ρ s1 (fun ys s2 => (xs ++ ys).length ≤ limL ∧ Q (xs ++ ys) s2) E) E
theorem fd_addL {wa wb : DL S} (ha : FD Wo X W a ta wa) (hb : FD Wo X W b tb wb) (hK : X.K = K := by rfl) : FD Wo X W (.BinOp a .Add b pos) (tOp (rAddD K) ta tb) (wAddL wa wb) := by
  subst hK
  refine ⟨(e_add (pos := pos) (ed_new ha) (ed_new hb)).pe, fun c σ H ρ s Qd Ed Q E hw hv he => ?_⟩
  refine (ed_new ha).go c σ H ρ s (fun d s1 => ∃ xs, d = .list xs ∧ wb ρ s1 (fun ys s2 => (xs ++ ys).length ≤ limL ∧ Qd (xs ++ ys) s2) Ed) Ed _ E ?_ (fun x H1 d s1 E1 st1 d1 q1 => ?_) he
  · show wa ρ s (fun ds s1 => ∃ xs, PyData.list ds = .list xs ∧ _) Ed
    have e : (fun ds s1 => ∃ xs, PyData.list ds = .list xs ∧ wb ρ s1 (fun ys s2 => (xs ++ ys).length ≤ limL ∧ Qd (xs ++ ys) s2) Ed) = (fun xs s1 => wb ρ s1 (fun ys s2 => (xs ++ ys).length ≤ limL ∧ Qd (xs ++ ys) s2) Ed) := by
      funext ds s1
      refine propext ⟨fun ⟨xs, e, h⟩ => ?_, fun h => ⟨ds, rfl, h⟩⟩
      cases e
      exact h
    rw [e]
    exact hw
  · obtain ⟨xs, rfl, q1⟩ := q1
    refine (ed_new hb).go c σ H1 ρ s1 (fun d s2 => ∃ ys, d = .list ys ∧ (xs ++ ys).length ≤ limL ∧ Qd (xs ++ ys) s2) Ed _ E1 ?_ (fun y H2 d s2 E2 st2 d2 q2 => ?_) he
    · show wb ρ s1 (fun ds s2 => ∃ ys, PyData.list ds = .list ys ∧ (xs ++ ys).length ≤ limL ∧ Qd (xs ++ ys) s2) Ed
      have e : (fun ds s2 => ∃ ys, PyData.list ds = .list ys ∧ (xs ++ ys).length ≤ limL ∧ Qd (xs ++ ys) s2) = (fun ys s2 => (xs ++ ys).length ≤ limL ∧ Qd (xs ++ ys) s2) := by
        funext ds s1
        refine propext ⟨fun ⟨xs, e, h⟩ => ?_, fun h => ⟨ds, rfl, h⟩⟩
        cases e
        exact h
      rw [e]
      exact q1
    · obtain ⟨ys, rfl, q2, q3⟩ := q2
      have d1 := Dv.same st2 _ _ d1
      cases d1 with
      | lst h1 n1 a1 =>
        cases d2 with
        | lst h2 n2 a2 =>
          rename_i p1 vs p2 ws
          refine .inr (.inr (.inr ⟨p1, p2, vs, ws, rfl, rfl, hd_to _ _ _ _ h1, hd_to _ _ _ _ h2, ?_, fun p hp => ?_⟩))
          · have := q2
            rw [List.length_append, ← a1.length, ← a2.length] at this
            exact Nat.le_trans this limL_size
          · obtain ⟨E3, sm⟩ := E2.hideNew (o := .lst (vs ++ ws)) hp
            have st := st1.trans st2
            refine hv p (vs ++ ws) _ (xs ++ ys) s2 E3 (st.trans sm) upd_same (DvAll.same sm _ _ (a1.append a2)) q2 ?_ q3
            cases q : H p with
            | none => rfl
            | some u =>
              by_cases z : p ∈ c.hs ρ
              · exact absurd hp (E2.tr p z)
              · have := hd_to _ _ _ _ (st p u (hd_some.mpr ⟨z, q⟩))
                rw [hp] at this; cases this
end
end Dt

set_option Elab.async false
set_option linter.all false
set_option autoImplicit false
set_option maxRecDepth 100000
set_option maxHeartbeats 1000000
namespace Dt
open PySem PySem.Spec
open L2 hiding wT wNot
/-! ### range(a, b), range(a, b, -1); x or y of tuples -/
section
variable {S : Type} {Wo : Wd S} {X : Cx} {W : WX} {K : PySem.W.Frag} {ta tb : TE} {tl : TA} {a b e tg : Expr} {pos p : Pos} {wa wb : DE S} {wl : DA S}
def wRng2 {S : Type} (w : DA S) : DL S := fun ρ s Q E => w ρ s (fun as s1 => allK as fun ds => match ds with
  | [.int i, .int j] => (-1000000 ≤ i ∧ i ≤ 1000000 ∧ -1000000 ≤ j ∧ j ≤ 1000000) ∧ Q (rngD i (j - i).toNat) s1
  | _ => False) E
theorem id_rng2 (hm : X.mg "range" = none) (h : AD Wo X W [a, b] tl wl) (hg : Gl X "range" := by rfl) (hs : starEach [a, b] X.env = [(false, eval a X.env), (false, eval b X.env)] := by rfl) (hs2 : starEach [b] X.env = [(false, eval b X.env)] := by rfl) : ID Wo X W tg (.Call (.Name "range" p) [a, b] [] pos) (iRng2 tl) (wRng2 wl) :=
  ⟨pi_range2 hg hm h.pe hs hs2, fun c σ H ρ s Qd Ed R E hw hq he => h.go c σ H ρ s _ Ed _ E hw (fun vs H1 as s1 E1 st1 a1 q1 => by
    obtain ⟨ds, h1, h2⟩ := a1.all q1
    split at h2
    · rename_i i j
      obtain ⟨⟨g1, g2, g3, g4⟩, g5⟩ := h2
      cases h1 with
      | cons a b =>
        cases b with
        | cons b c =>
          cases c
          cases a
          cases b
          exact ⟨i, j, rfl, ⟨by omega, by omega, by omega, by omega⟩, hq _ H1 _ s1 E1 st1 (itd_rng fun k hk => okI_small (by omega)) (by unfold rngD limL; simp; omega) g5⟩
    · exact h2.elim) he⟩
/-- downwards from lo -/
def dwnD (lo : Int) (n : Nat) : List PyData := (List.range n).map fun i => .int (lo - (i : Nat))
theorem itd_dwn {l : List Addr} {H1 : Hp} {lo : Int} {n : Nat} (h : ∀ i : Nat, i < n → okI (lo - (i : Nat))) : ItD K l H1 (Itc lo (-1) n) (dwnD lo n) where
  go := fun l' H i st hi => by
    show i < n
    simpa [dwnD] using hi
  stop := fun l' H i st hi => by
    show n ≤ i
    simpa [dwnD] using hi
  yld := fun l' H i x H' d st tr y hd' => by
    obtain ⟨rfl, rfl⟩ := y
    unfold dwnD at hd'
    rw [List.getElem?_map] at hd'
    by_cases hi : i < n
    · rw [List.getElem?_range hi] at hd'
      cases hd'
      have e : lo + (i : Nat) * (-1) = lo - (i : Nat) := by omega
      rw [e]
      exact ⟨Same.refl _, .int (h i hi)⟩
    · rw [List.getElem?_eq_none (by simpa using hi)] at hd'
      cases hd'
def wDwn {S : Type} (w : DA S) : DL S := fun ρ s Q E => w ρ s (fun as s1 => allK as fun ds => match ds with
  | [.int i, .int j, .int c] => c = -1 ∧ (-1000000 ≤ i ∧ i ≤ 1000000 ∧ -1000000 ≤ j ∧ j ≤ 1000000) ∧ Q (dwnD i (i - j).toNat) s1
  | _ => False) E
theorem id_dwn {d : Expr} (hm : X.mg "range" = none) (h : AD Wo X W [a, b, d] tl wl) (hg : Gl X "range" := by rfl) (hs : starEach [a, b, d] X.env = (false, eval a X.env) :: starEach [b, d] X.env := by rfl) (hpl : (backTo pos (starEach [b, d] X.env)).any (·.1) = false := by rfl) : ID Wo X W tg (.Call (.Name "range" p) [a, b, d] [] pos) (iRng3 tl) (wDwn wl) :=
  ⟨pi_range3 hg hm h.pe hs hpl, fun c σ H ρ s Qd Ed R E hw hq he => h.go c σ H ρ s _ Ed _ E hw (fun vs H1 as s1 E1 st1 a1 q1 => by
    obtain ⟨ds, h1, h2⟩ := a1.all q1
    split at h2
    · rename_i i j k
      obtain ⟨rfl, ⟨g1, g2, g3, g4⟩, g5⟩ := h2
      cases h1 with
      | cons a b =>
        cases b with
        | cons b c =>
          cases c with
          | cons c d =>
            cases d
            cases a
            cases b
            cases c
            exact ⟨i, j, -1, _, rfl, RgC.neg (by omega) (by omega) (by omega) (by omega), hq _ H1 _ s1 E1 st1 (itd_dwn fun k hk => okI_small (by omega)) (by unfold dwnD limL; simp; omega) g5⟩
    · exact h2.elim) he⟩
def wOrT {S : Type} (wa wb : DE S) : DE S := fun ρ s Q E => wa ρ s (fun x s1 => match x with | .tuple y => if y.isEmpty = true then wb ρ s1 Q E else Q (.tuple y) s1 | _ => False) E
theorem ed_orT {rest : List Expr} (ha : ED Wo X W a ta wa) (hb : ED Wo X W (.BoolOp .Or (b :: rest) pos) tb wb) (hK : X.K = K := by rfl) : ED Wo X W (.BoolOp .Or (a :: b :: rest) pos) (tOrT K ta tb) (wOrT wa wb) := by
  subst hK
  obtain ⟨pa, ha⟩ := ha
  obtain ⟨pb, hb⟩ := hb
  refine ⟨pe_orT pa pb, fun c σ H ρ s Qd Ed Q E hw hv he => ha c σ H ρ s _ Ed _ E hw (fun v H' d s' E' st' dv q => ?_) he⟩
  cases d with
  | tuple y =>
    have dv0 := dv
    cases dv with
    | tup h n g =>
      rename_i a vs
      have q : if y.isEmpty = true then wb ρ s' Qd Ed else Qd (.tuple y) s' := q
      refine ⟨!vs.isEmpty, .inr (.inl ⟨vs, same_seqT (hd_to _ _) h, rfl⟩), ?_⟩
      have e : vs.isEmpty = y.isEmpty := by
        cases g <;> rfl
      rw [e]
      cases z : y.isEmpty with
      | true =>
        rw [z, if_pos rfl] at q
        rw [if_neg (by decide)]
        exact hb c σ H' ρ s' _ Ed _ E' q (fun v H2 d s2 E2 st2 => hv v H2 d s2 E2 (st'.trans st2)) he
      | false =>
        rw [z, if_neg (by decide)] at q
        rw [if_pos (by decide)]
        exact hv _ H' _ s' E' st' dv0 q
  | _ => exact q.elim
theorem i_rng2 (B : Bt X.mg) (h : AD Wo X W [a, b] tl wl) (hg : Gl X "range" := by rfl) (hs : starEach [a, b] X.env = [(false, eval a X.env), (false, eval b X.env)] := by rfl) (hs2 : starEach [b] X.env = [(false, eval b X.env)] := by rfl) : ID Wo X W tg (.Call (.Name "range" p) [a, b] [] pos) (iRng2 tl) (wRng2 wl) := id_rng2 (B.no _ (by decide)) h hg hs hs2
theorem i_dwn {d : Expr} (B : Bt X.mg) (h : AD Wo X W [a, b, d] tl wl) (hg : Gl X "range" := by rfl) (hs : starEach [a, b, d] X.env = (false, eval a X.env) :: starEach [b, d] X.env := by rfl) (hpl : (backTo pos (starEach [b, d] X.env)).any (·.1) = false := by rfl) : ID Wo X W tg (.Call (.Name "range" p) [a, b, d] [] pos) (iRng3 tl) (wDwn wl) := id_dwn (B.no _ (by decide)) h hg hs hpl
/-- a list of few, some times -/
def dMulL : Dop
  | .list xs, .int k, Q => 0 ≤ k ∧ k ≤ 1000 ∧ xs.length ≤ 1000 ∧ Q (.list (List.replicate k.toNat xs).flatten)
  | _, _, _ => False
theorem len_rep {α : Type} (xs : List α) : ∀ n : Nat, (List.replicate n xs).flatten.length = n * xs.length
  | 0 => by simp
  | n + 1 => by rw [List.replicate_succ, List.flatten_cons, List.length_append, len_rep xs n, Nat.add_mul, Nat.one_mul]; omega
theorem od_mulL : OpD K rRep dMulL := by
  intro H l x y d e Qd Q ht hx hy hf hq
  cases d with
  | list xs =>
    cases e with
    | int k =>
      cases hx with
      | lst h1 n1 a1 =>
        rename_i a vs
        cases hy
        obtain ⟨k0, k1, xl, q⟩ := hf
        have vl : vs.length = xs.length := a1.length
        have b1 : vs.length * k.toNat ≤ 1000 * 1000 := Nat.mul_le_mul (by omega) (by omega)
        have b2 : (List.replicate k.toNat xs).flatten.length ≤ limL := by
          rw [len_rep, Nat.mul_comm]
          have : xs.length * k.toNat ≤ 1000 * 1000 := Nat.mul_le_mul xl (by omega)
          show _ ≤ 4194304
          omega
        refine ⟨a, k, vs, rfl, rfl, hd_to _ _ _ _ h1, by omega, by omega, by rw [sizeLine_eq]; omega, fun p hp => hq _ _ _ (same_upd hp) (Dv.newL ht hp (a1.rep k.toNat) b2) q⟩
    | _ => exact hf.elim
  | _ => exact hf.elim
theorem e_mulL (ha : ED Wo X W a ta wa) (hb : ED Wo X W b tb wb) : ED Wo X W (.BinOp a .Mult b pos) (tOp rRep ta tb) (wOp dMulL wa wb) := ed_op op_rep (od_mulL (K := X.K)) ha hb
end
end Dt

set_option Elab.async false
set_option linter.all false
set_option autoImplicit false
set_option maxRecDepth 100000
namespace Dt
open PySem PySem.Spec L2

/-! ### dicts -/
section
variable {κ : Type} [DecidableEq κ]
/-- what stands under a key -/
def lk (es : List (κ × PyData)) (k : κ) : Option PyData := (es.find? fun e => decide (e.1 = k)).map (·.2)
/-- put under a key: in its place, or at the end -/
def pt (es : List (κ × PyData)) (k : κ) (d : PyData) : List (κ × PyData) :=
  if (es.any fun e => decide (e.1 = k)) = true then es.map (fun e => if e.1 = k then (e.1, d) else e) else es ++ [(k, d)]
theorem lk_nil {k : κ} : lk ([] : List (κ × PyData)) k = none := rfl
theorem lk_pos {p : κ × PyData} {r : List (κ × PyData)} {k : κ} (e : p.1 = k) : lk (p :: r) k = some p.2 := by simp [lk, List.find?_cons, e]
theorem lk_neg {p : κ × PyData} {r : List (κ × PyData)} {k : κ} (e : ¬ p.1 = k) : lk (p :: r) k = lk r k := by simp [lk, List.find?_cons, e]
theorem lk_any (k : κ) : ∀ es : List (κ × PyData), (es.any fun e => decide (e.1 = k)) = (lk es k).isSome
  | [] => rfl
  | p :: r => by
    rw [List.any_cons]
    by_cases e : p.1 = k
    · rw [lk_pos e, decide_eq_true e, Bool.true_or]; rfl
    · rw [lk_neg e, decide_eq_false e, Bool.false_or, lk_any k r]
theorem lk_upd (k j : κ) (d : PyData) : ∀ es : List (κ × PyData), lk (es.map fun e => if e.1 = k then (e.1, d) else e) j = (lk es j).map fun x => if j = k then d else x
  | [] => rfl
  | p :: r => by
    rw [List.map_cons]
    by_cases e : p.1 = j
    · rw [lk_pos e]
      by_cases q : p.1 = k
      · rw [if_pos q, lk_pos (p := (p.1, d)) e, Option.map_some, if_pos (e.symm.trans q)]
      · rw [if_neg q, lk_pos e, Option.map_some, if_neg fun z => q (e.trans z)]
    · rw [lk_neg e]
      have : ¬ (if p.1 = k then (p.1, d) else p).1 = j := by
        by_cases q : p.1 = k
        · rw [if_pos q]; exact e
        · rw [if_neg q]; exact e
      rw [lk_neg this]
      exact lk_upd k j d r
theorem lk_end (k j : κ) (d : PyData) : ∀ es : List (κ × PyData), lk es k = none → lk (es ++ [(k, d)]) j = if j = k then some d else lk es j
  | [], _ => by
    by_cases e : k = j
    · rw [if_pos e.symm]; exact lk_pos (p := (k, d)) e
    · rw [if_neg fun z => e z.symm]; exact lk_neg (p := (k, d)) e
  | p :: r, h => by
    rw [List.cons_append]
    have nk : ¬ p.1 = k := fun e => by rw [lk_pos e] at h; cases h
    rw [lk_neg nk] at h
    by_cases e : p.1 = j
    · rw [lk_pos e, lk_pos e, if_neg fun z => nk (e.trans z)]
    · rw [lk_neg e, lk_neg e]
      exact lk_end k j d r h
theorem lk_pt (es : List (κ × PyData)) (k j : κ) (d : PyData) : lk (pt es k d) j = if j = k then some d else lk es j := by
  unfold pt
  split
  · rename_i h
    rw [lk_any] at h
    rw [lk_upd]
    by_cases e : j = k
    · subst e
      obtain ⟨x, hx⟩ := Option.isSome_iff_exists.mp h
      rw [hx, Option.map_some, if_pos rfl, if_pos rfl]
    · rw [if_neg e]
      cases lk es j with
      | none => rfl
      | some x => rw [Option.map_some, if_neg e]
  · rename_i h
    rw [lk_any] at h
    exact lk_end k j d es (by cases z : lk es k with | none => rfl | some x => rw [z] at h; exact absurd rfl h)
theorem pt_len (es : List (κ × PyData)) (k : κ) (d : PyData) : (pt es k d).length ≤ es.length + 1 := by
  unfold pt
  split
  · rw [List.length_map]; omega
  · rw [List.length_append]; exact Nat.le_refl _
/-- the entries of a dict, as they stand -/
def DvE (K : PySem.W.Frag) (H : Hp) : List (κ × V) → List (κ × PyData) → Prop
  | [], [] => True
  | (k, v) :: r, (l, d) :: t => k = l ∧ Dv K H v d ∧ DvE K H r t
  | _, _ => False
variable {K : PySem.W.Frag} {H : Hp}
theorem DvE.len : ∀ {r : List (κ × V)} {t : List (κ × PyData)}, DvE K H r t → r.length = t.length
  | [], [], _ => rfl
  | (_, _) :: r, (_, _) :: t, h => by rw [List.length_cons, List.length_cons, DvE.len h.2.2]
  | [], _ :: _, h => h.elim
  | _ :: _, [], h => h.elim
theorem DvE.look {k : κ} : ∀ {r : List (κ × V)} {t : List (κ × PyData)}, DvE K H r t → (valV r k = none ∧ lk t k = none) ∨ ∃ v d, valV r k = some v ∧ lk t k = some d ∧ Dv K H v d
  | [], [], _ => .inl ⟨rfl, rfl⟩
  | (a, v) :: r, (b, d) :: t, ⟨e, dv, h⟩ => by
    subst e
    by_cases q : a = k
    · exact .inr ⟨v, d, valV_pos (p := (a, v)) q, lk_pos (p := (a, d)) q, dv⟩
    · rw [valV_neg (p := (a, v)) q, lk_neg (p := (a, d)) q]
      exact DvE.look h
  | [], _ :: _, h => h.elim
  | _ :: _, [], h => h.elim
theorem DvE.any {k : κ} : ∀ {r : List (κ × V)} {t : List (κ × PyData)}, DvE K H r t → (r.any fun kv => decide (kv.1 = k)) = (t.any fun e => decide (e.1 = k))
  | [], [], _ => rfl
  | (a, v) :: r, (b, d) :: t, ⟨e, dv, h⟩ => by rw [List.any_cons, List.any_cons, DvE.any h, e]
  | [], _ :: _, h => h.elim
  | _ :: _, [], h => h.elim
theorem DvE.upd {k : κ} {v : V} {d : PyData} (dv : Dv K H v d) : ∀ {r : List (κ × V)} {t : List (κ × PyData)}, DvE K H r t → DvE K H (r.map fun kv => if kv.1 = k then (kv.1, v) else kv) (t.map fun e => if e.1 = k then (e.1, d) else e)
  | [], [], _ => trivial
  | (a, x) :: r, (b, y) :: t, ⟨e, dx, h⟩ => by
    subst e
    rw [List.map_cons, List.map_cons]
    by_cases q : a = k
    · rw [if_pos (show ((a, x) : κ × V).1 = k from q), if_pos (show ((a, y) : κ × PyData).1 = k from q)]
      exact ⟨rfl, dv, DvE.upd dv h⟩
    · rw [if_neg (show ¬ ((a, x) : κ × V).1 = k from q), if_neg (show ¬ ((a, y) : κ × PyData).1 = k from q)]
      exact ⟨rfl, dx, DvE.upd dv h⟩
  | [], _ :: _, h => h.elim
  | _ :: _, [], h => h.elim
theorem DvE.snoc {k : κ} {v : V} {d : PyData} (dv : Dv K H v d) : ∀ {r : List (κ × V)} {t : List (κ × PyData)}, DvE K H r t → DvE K H (r ++ [(k, v)]) (t ++ [(k, d)])
  | [], [], _ => ⟨rfl, dv, trivial⟩
  | (_, _) :: r, (_, _) :: t, h => ⟨h.1, h.2.1, DvE.snoc dv h.2.2⟩
  | [], _ :: _, h => h.elim
  | _ :: _, [], h => h.elim
theorem DvE.put {k : κ} {v : V} {d : PyData} {r : List (κ × V)} {t : List (κ × PyData)} (h : DvE K H r t) (dv : Dv K H v d) : DvE K H (putK r k v) (pt t k d) := by
  unfold putK pt
  rw [h.any]
  split
  · exact h.upd dv
  · exact h.snoc dv
end
theorem kD_inj : ∀ {a b : Key}, kD a = kD b → a = b
  | .inl _, .inl _, h => by injection h with h; rw [h]
  | .inr _, .inr _, h => by injection h with h; rw [h]
  | .inl _, .inr _, h => nomatch h
  | .inr _, .inl _, h => nomatch h
section
variable {K : PySem.W.Frag} {H : Hp}
theorem dvp_e : ∀ {kvs : List (Key × V)} {es : List (Key × PyData)}, DvP K H kvs (kvD es) → DvE K H kvs es ∧ ∀ e ∈ es, okK e.1
  | _, [], h => by cases h; exact ⟨trivial, fun _ z => nomatch z⟩
  | kvs, (k, d) :: es, h => by
    have h : DvP K H kvs ((kD k, d) :: kvD es) := h
    generalize e : kD k = kk at h
    cases h with
    | @cons k2 v r _ _ o dv t =>
      have := kD_inj e
      subst this
      obtain ⟨g1, g2⟩ := dvp_e t
      exact ⟨⟨rfl, dv, g1⟩, fun x hx => by
        rcases List.mem_cons.mp hx with z | z
        · rw [z]; exact o
        · exact g2 x z⟩
theorem e_dvp : ∀ {kvs : List (Key × V)} {es : List (Key × PyData)}, DvE K H kvs es → (∀ e ∈ es, okK e.1) → DvP K H kvs (kvD es)
  | [], [], _, _ => .nil
  | (_, _) :: r, (k, d) :: es, ⟨e, dv, h⟩, o => by
    subst e
    exact .cons (o _ List.mem_cons_self) dv (e_dvp h fun x hx => o x (List.mem_cons_of_mem _ hx))
  | [], _ :: _, h, _ => h.elim
  | _ :: _, [], h, _ => h.elim
theorem pt_ok {es : List (Key × PyData)} {k : Key} {d : PyData} (h : ∀ e ∈ es, okK e.1) (o : okK k) : ∀ e ∈ pt es k d, okK e.1 := fun e he => by
  unfold pt at he
  split at he
  · obtain ⟨x, hx, rfl⟩ := List.mem_map.mp he
    by_cases q : x.1 = k
    · rw [if_pos q]; exact h x hx
    · rw [if_neg q]; exact h x hx
  · rcases List.mem_append.mp he with z | z
    · exact h e z
    · rw [List.mem_singleton.mp z]; exact o
theorem dvt_e : ∀ {r : List (List Key × V)} {t : List (List Key × PyData)}, DvT K H r t → DvE K H r t
  | [], [], _ => trivial
  | (_, _) :: r, (_, _) :: t, h => ⟨h.1, h.2.1, dvt_e h.2.2⟩
  | [], _ :: _, h => h.elim
  | _ :: _, [], h => h.elim
theorem e_dvt : ∀ {r : List (List Key × V)} {t : List (List Key × PyData)}, DvE K H r t → DvT K H r t
  | [], [], _ => trivial
  | (_, _) :: r, (_, _) :: t, h => ⟨h.1, h.2.1, e_dvt h.2.2⟩
  | [], _ :: _, h => h.elim
  | _ :: _, [], h => h.elim
theorem Dv.key : ∀ {k : Key} {v : V}, Dv K H v (kD k) → v = kV k ∧ okK k
  | .inl _, _, h => by cases h with | int o => exact ⟨rfl, o⟩
  | .inr _, _, h => by cases h with | str o => exact ⟨rfl, o⟩
theorem DvAll.keys : ∀ {ks : List Key} {vs : List V}, DvAll K H vs (ks.map kD) → vs = ks.map kV
  | [], _, h => by cases h; rfl
  | k :: ks, _, h => by
    rw [List.map_cons] at h
    cases h with
    | cons a b => rw [List.map_cons, (Dv.key a).1, DvAll.keys b]
end
/-! own dicts: made, changed, read -/
section
variable {S : Type} {Wo : Wd S} {X : Cx} {W : WX} {K : PySem.W.Frag} {ta tb tc te ti : TE} {tl : TA} {t u : TS} {e e' a b ix f : Expr} {es : List Expr} {st : List Stmt} {pos p q pos' apos cpos : Pos} {wa wb we wi : DE S} {wl : DA S} {k n : Nat}
theorem hidden_new {c : Cn Wo} {σ : St} {H : Hp} {ρ : List Sl} {s : S} {q : Addr} (E : EnvD K c σ H ρ s) (hn : H q = none) : c.H0 q = none := by
  cases z : c.H0 q with
  | none => rfl
  | some o =>
    by_cases hw : q ∈ c.W.wa
    · exact absurd hn (E.tr q (List.mem_append_left _ (List.mem_append_left _ hw)))
    · have := E.ext q o z hw
      rw [hn] at this; cases this
/-- x = {}, its keys ints and texts -/
def wNewK {S : Type} (i : Nat) : DS S := fun ρ s D => ∀ p, D.nx (ρ.set i (.ownK p [])) s
theorem sd_newK (i : Nat) {x : Str} (hN : X.N.Nodup) (hi : X.N[i]? = some x) (hx : Loc X.env.scope x) (hs : swapsWith (.Dict [] [] p) (some (.Name x pos')) pos.line X.env = pure false := by rfl) (hf : X.fn x = true ∨ X.env.scope.names.lookup x = some .local := by first | exact .inl rfl | exact .inr rfl | assumption) :
    SD Wo X W (.Assign [.Name x pos'] (.Dict [] [] p) pos) (tAsg tDNewK (gName i)) (wNewK i) := ⟨ps_set hN hi hx pe_dnewK hs hf, fun c σ H ρ s D D' E hw to => by
  intro q hq
  obtain ⟨E1, sm⟩ := E.hideNew (o := .dK []) hq
  obtain ⟨E2, st⟩ := E1.setOwnG (i := i) (x := .ownK q []) rfl (fun Hh st => ⟨rfl, Nat.zero_le _, [], upd_same, .nil⟩) (hidden_new E hq)
  exact to.nx _ _ _ s E2 (sm.trans st) (hw q)⟩
/-- x = {}, its keys tuples -/
def wNewT {S : Type} (i : Nat) : DS S := fun ρ s D => ∀ p, D.nx (ρ.set i (.ownT p [])) s
theorem sd_newT (i : Nat) {x : Str} (hN : X.N.Nodup) (hi : X.N[i]? = some x) (hx : Loc X.env.scope x) (hs : swapsWith (.Dict [] [] p) (some (.Name x pos')) pos.line X.env = pure false := by rfl) (hf : X.fn x = true ∨ X.env.scope.names.lookup x = some .local := by first | exact .inl rfl | exact .inr rfl | assumption) :
    SD Wo X W (.Assign [.Name x pos'] (.Dict [] [] p) pos) (tAsg tDNewT (gName i)) (wNewT i) := ⟨ps_set hN hi hx pe_dnewT hs hf, fun c σ H ρ s D D' E hw to => by
  intro q hq
  obtain ⟨E1, sm⟩ := E.hideNew (o := .dT []) hq
  obtain ⟨E2, st⟩ := E1.setOwnG (i := i) (x := .ownT q []) rfl (fun Hh st => ⟨rfl, Nat.zero_le _, [], upd_same, trivial⟩) (hidden_new E hq)
  exact to.nx _ _ _ s E2 (sm.trans st) (hw q)⟩
/-- x[k] = e, x a dict of its own -/
def wPutK {S : Type} (i : Nat) (w wk : DE S) : DS S := fun ρ s D => match ρ[i]? with
  | some (.ownK p es) => w ρ s (fun d s1 => wk ρ s1 (fun y s2 => ∃ k, y = kD k ∧ es.length < limL ∧ D.nx (ρ.set i (.ownK p (pt es k d))) s2) fun e s' => D.er e ρ s') fun e s' => D.er e ρ s'
  | _ => False
theorem sd_putK (i : Nat) {x : Str} {px : Pos} (hr : Room k X.A) (h : ED Wo X W e te we) (hi : ED Wo X W ix ti wi) (hN : X.N[i]? = some x := by rfl) (hv : Vis X.env.scope x := by first | exact Or.inl rfl | exact Or.inr (Or.inl rfl) | exact Or.inr (Or.inr rfl)) (hdb : (x == ("__debug__" : Str)) = false := by decide) (hcd : (x == ("__classdict__" : Str)) = false := by decide)
    (hs : swapsWith e (some (.Subscript (.Name x px) ix pos')) pos.line X.env = pure false := by rfl) :
    SD Wo X W (.Assign [.Subscript (.Name x px) ix pos'] e pos) (sDPut (tVar i) ti te) (wPutK i we wi) :=
  ⟨ps_dput (hu_of hr) (pe_var hN hv hdb hcd) hi.pe h.pe hs, fun c σ H ρ s Dd D E hw to => by
    unfold wPutK at hw
    split at hw
    · rename_i q es hq
      refine h.go c σ H ρ s _ _ _ E hw (fun v H1 d s1 E1 st1 dv q1 => ?_) (to.err σ ρ)
      obtain ⟨o, g1, rfl, n1, kvs, hH, hA⟩ := E1.slot i _ hq
      refine ⟨_, g1, hi.go c σ H1 ρ s1 _ _ _ E1 q1 (fun u H2 y s2 E2 st2 du q2 => ?_) (to.err σ ρ)⟩
      obtain ⟨k, rfl, lt, q3⟩ := q2
      obtain ⟨ku, ok⟩ := Dv.key du
      subst ku
      obtain ⟨o, f1, f2, n2, kvs2, hH2, hA2⟩ := E2.slot i _ hq
      obtain ⟨ee, eo⟩ := dvp_e hA2
      refine ⟨q, _, rfl, DPut.k hH2 (by rw [ee.len]; exact Nat.lt_of_lt_of_le lt limL_size), ?_⟩
      obtain ⟨E3, st3⟩ := E2.updOwnG (o := .dK (putK kvs2 k v)) (y := .ownK q (pt es k d)) rfl rfl hq g1 ⟨_, hH2, .inr (.inl ⟨_, rfl⟩)⟩ ⟨rfl, Nat.le_trans (pt_len es k d) lt, _, upd_same, e_dvp (ee.put (Dv.same st2 _ _ dv)) (pt_ok eo ok)⟩
      exact to.nx σ _ _ s2 E3 (st1.trans (st2.trans st3)) q3
    · exact hw.elim⟩
/-- x[a, b] = e, x a dict of its own -/
def wPutT {S : Type} (i : Nat) (w : DE S) (wk : DA S) : DS S := fun ρ s D => match ρ[i]? with
  | some (.ownT p es) => w ρ s (fun d s1 => wk ρ s1 (fun as s2 => allK as fun ds => ∃ k : List Key, ds = k.map kD ∧ k.length ≤ limL ∧ es.length < limL ∧ D.nx (ρ.set i (.ownT p (pt es k d))) s2) fun e s' => D.er e ρ s') fun e s' => D.er e ρ s'
  | _ => False
theorem sd_putT (i : Nat) {x : Str} {px pt2 : Pos} {kt : Nat} (hr : Room k X.A) (h : ED Wo X W e te we) (hi : AD Wo X W es tl wl) (hN : X.N[i]? = some x := by rfl) (hv : Vis X.env.scope x := by first | exact Or.inl rfl | exact Or.inr (Or.inl rfl) | exact Or.inr (Or.inr rfl)) (hdb : (x == ("__debug__" : Str)) = false := by decide) (hcd : (x == ("__classdict__" : Str)) = false := by decide)
    (hs : swapsWith e (some (.Subscript (.Name x px) (.Tuple es kt pt2) pos')) pos.line X.env = pure false := by rfl) :
    SD Wo X W (.Assign [.Subscript (.Name x px) (.Tuple es kt pt2) pos'] e pos) (sDPut (tVar i) (tTup tl) te) (wPutT i we wl) :=
  ⟨ps_dput (hu_of hr) (pe_var hN hv hdb hcd) (pe_tup hi.pe) h.pe hs, fun c σ H ρ s Dd D E hw to => by
    unfold wPutT at hw
    split at hw
    · rename_i q es hq
      refine h.go c σ H ρ s _ _ _ E hw (fun v H1 d s1 E1 st1 dv q1 => ?_) (to.err σ ρ)
      obtain ⟨o, g1, rfl, n1, kvs, hH, hA⟩ := E1.slot i _ hq
      refine ⟨_, g1, hi.go c σ H1 ρ s1 _ _ _ E1 q1 (fun us H2 as s2 E2 st2 du q2 => ?_) (to.err σ ρ)⟩
      obtain ⟨ds, h1, q2⟩ := du.all q2
      obtain ⟨k, rfl, kl, lt, q3⟩ := q2
      have ku := DvAll.keys h1
      subst ku
      refine ⟨by rw [List.length_map]; exact Nat.le_trans kl limL_size, fun l hl => ?_⟩
      have E2' := E2.grow (same_upd (o := .tup (k.map kV)) hl)
      have st2' := st2.trans (stp_grow (c := c) (ρ := ρ) (same_upd (o := .tup (k.map kV)) hl))
      obtain ⟨o, f1, f2, n2, kvs2, hH2, hA2⟩ := E2'.slot i _ hq
      have ee := dvt_e hA2
      refine ⟨q, _, rfl, DPut.t hH2 upd_same (by rw [ee.len]; exact Nat.lt_of_lt_of_le lt limL_size), ?_⟩
      obtain ⟨E3, st3⟩ := E2'.updOwnG (o := .dT (putK kvs2 k v)) (y := .ownT q (pt es k d)) rfl rfl hq g1 ⟨_, hH2, .inr (.inr ⟨_, rfl⟩)⟩ ⟨rfl, Nat.le_trans (pt_len es k d) lt, _, upd_same, e_dvt (ee.put (Dv.same st2' _ _ dv))⟩
      exact to.nx σ _ _ s2 E3 (st1.trans (st2'.trans st3)) q3
    · exact hw.elim⟩
/-- what a lookup finds, as a value: the entry, or another one -/
theorem dv_look {κ : Type} [DecidableEq κ] {H : Hp} {r : List (κ × V)} {t : List (κ × PyData)} {k : κ} {z : V} {d : PyData} (h : DvE K H r t) (dz : Dv K H z d) : Dv K H ((valV r k).getD z) ((lk t k).getD d) := by
  rcases h.look (k := k) with ⟨a, b⟩ | ⟨v, x, a, b, c⟩
  · rw [a, b]; exact dz
  · rw [a, b]; exact c
theorem look_some {κ : Type} [DecidableEq κ] {H : Hp} {r : List (κ × V)} {t : List (κ × PyData)} {k : κ} (h : DvE K H r t) : (valV r k).isSome = (lk t k).isSome := by
  rcases h.look (k := k) with ⟨a, b⟩ | ⟨v, x, a, b, c⟩
  · rw [a, b]; rfl
  · rw [a, b]; rfl
/-- x.get(k), x a dict of its own -/
def wGetK {S : Type} (i : Nat) (wk : DE S) : DE S := fun ρ s Q E => match ρ[i]? with
  | some (.ownK _ es) => wk ρ s (fun y s1 => ∃ k, y = kD k ∧ Q ((lk es k).getD .none) s1) E
  | _ => False
theorem e_getK (i : Nat) {x : Str} {px : Pos} (hr : Room k X.A) (h : ED Wo X W e te we) (hN : X.N[i]? = some x := by rfl) (hv : Vis X.env.scope x := by first | exact Or.inl rfl | exact Or.inr (Or.inl rfl) | exact Or.inr (Or.inr rfl)) (hdb : (x == ("__debug__" : Str)) = false := by decide) (hcd : (x == ("__classdict__" : Str)) = false := by decide)
    (hbase : attributeBase (.Name x px) "get" X.env (eval (.Name x px) X.env) = eval (.Name x px) X.env := by rfl)
    (hfew : ((backTo cpos (starEach [e] X.env)).all (fun x => !x.1) && (backToKw cpos (keywordEach [] X.env)).all (fun x => x.1.isSome) && decide (([e] : List Expr).length + ([] : List Keyword).length + (if ([] : List Keyword).isEmpty then 0 else 1) < 30)) = true := by rfl)
    (hline : (apos.endLine == cpos.line) = true := by rfl) (htr : backTo cpos (starEach [e] X.env) = [(false, eval e X.env)] := by rfl) :
    ED Wo X W (.Call (.Attribute (.Name x px) "get" apos) [e] [] cpos) (tDGet1 (tVar i) te) (wGetK i we) :=
  ⟨pe_dget1 (hu_of hr) (pe_var hN hv hdb hcd) h.pe ⟨hbase, hfew, hline, htr⟩, fun c σ H ρ s Qd Ed Q E hw hv he => by
    unfold wGetK at hw
    split at hw
    · rename_i q es hq
      obtain ⟨o, g1, rfl, n1, kvs, hH, hA⟩ := E.slot i _ hq
      refine ⟨_, g1, q, rfl, .inl ⟨_, .inl hH⟩, h.go c σ H ρ s _ _ _ E hw (fun v H1 y s1 E1 st1 dv q1 => ?_) he⟩
      obtain ⟨k, rfl, q1⟩ := q1
      obtain ⟨ku, ok⟩ := Dv.key dv
      subst ku
      obtain ⟨o, f1, f2, n2, kvs2, hH2, hA2⟩ := E1.slot i _ hq
      obtain ⟨ee, eo⟩ := dvp_e hA2
      exact ⟨_, DGet.k hH2, hv _ _ _ s1 E1 st1 (dv_look ee .non) q1⟩
    · exact hw.elim⟩
/-- x.get((a, b)), x a dict of its own -/
def wGetT {S : Type} (i : Nat) (wk : DA S) : DE S := fun ρ s Q E => match ρ[i]? with
  | some (.ownT _ es) => wk ρ s (fun as s1 => allK as fun ds => ∃ k : List Key, ds = k.map kD ∧ k.length ≤ limL ∧ Q ((lk es k).getD .none) s1) E
  | _ => False
theorem e_getT (i : Nat) {x : Str} {px pt2 : Pos} {kt : Nat} (hr : Room k X.A) (h : AD Wo X W es tl wl) (hN : X.N[i]? = some x := by rfl) (hv : Vis X.env.scope x := by first | exact Or.inl rfl | exact Or.inr (Or.inl rfl) | exact Or.inr (Or.inr rfl)) (hdb : (x == ("__debug__" : Str)) = false := by decide) (hcd : (x == ("__classdict__" : Str)) = false := by decide)
    (hbase : attributeBase (.Name x px) "get" X.env (eval (.Name x px) X.env) = eval (.Name x px) X.env := by rfl)
    (hfew : ((backTo cpos (starEach [.Tuple es kt pt2] X.env)).all (fun x => !x.1) && (backToKw cpos (keywordEach [] X.env)).all (fun x => x.1.isSome) && decide (([.Tuple es kt pt2] : List Expr).length + ([] : List Keyword).length + (if ([] : List Keyword).isEmpty then 0 else 1) < 30)) = true := by rfl)
    (hline : (apos.endLine == cpos.line) = true := by rfl) (htr : backTo cpos (starEach [.Tuple es kt pt2] X.env) = [(false, eval (.Tuple es kt pt2) X.env)] := by rfl) :
    ED Wo X W (.Call (.Attribute (.Name x px) "get" apos) [.Tuple es kt pt2] [] cpos) (tDGet1 (tVar i) (tTup tl)) (wGetT i wl) :=
  ⟨pe_dget1 (hu_of hr) (pe_var hN hv hdb hcd) (pe_tup h.pe) ⟨hbase, hfew, hline, htr⟩, fun c σ H ρ s Qd Ed Q E hw hv he => by
    unfold wGetT at hw
    split at hw
    · rename_i q es hq
      obtain ⟨o, g1, rfl, n1, kvs, hH, hA⟩ := E.slot i _ hq
      refine ⟨_, g1, q, rfl, .inr ⟨_, .inl hH⟩, h.go c σ H ρ s _ _ _ E hw (fun us H1 as s1 E1 st1 du q1 => ?_) he⟩
      obtain ⟨ds, h1, q1⟩ := du.all q1
      obtain ⟨k, rfl, kl, q1⟩ := q1
      have ku := DvAll.keys h1
      subst ku
      refine ⟨by rw [List.length_map]; exact Nat.le_trans kl limL_size, fun l hl => ?_⟩
      have E2 := E1.grow (same_upd (o := .tup (k.map kV)) hl)
      have st2 := st1.trans (stp_grow (c := c) (ρ := ρ) (same_upd (o := .tup (k.map kV)) hl))
      obtain ⟨o, f1, f2, n2, kvs2, hH2, hA2⟩ := E2.slot i _ hq
      exact ⟨_, DGet.t hH2 upd_same, hv _ _ _ s1 E2 st2 (dv_look (dvt_e hA2) .non) q1⟩
    · exact hw.elim⟩
/-- x.get(k), x any dict of data -/
def wGet1 {S : Type} (wd wk : DE S) : DE S := fun ρ s Q E => wd ρ s (fun x s1 => ∃ es : List (Key × PyData), x = .dict (kvD es) ∧ wk ρ s1 (fun y s2 => ∃ k, y = kD k ∧ Q ((lk es k).getD .none) s2) E) E
theorem dct_at {H : Hp} {l : List Addr} {v : V} {es : List (Key × PyData)} (h : Dv K (hd H l) v (.dict (kvD es))) : ∃ a kvs, v = .ref a ∧ H a = some (.dK kvs) ∧ DvE K (hd H l) kvs es := by
  cases h with
  | dct a n b => exact ⟨_, _, rfl, hd_to _ _ _ _ a, (dvp_e b).1⟩
theorem e_get1 {o : Expr} (hr : Room k X.A) (ho : ED Wo X W o ta wa) (h : ED Wo X W e te we)
    (hbase : attributeBase o "get" X.env (eval o X.env) = eval o X.env := by rfl)
    (hfew : ((backTo cpos (starEach [e] X.env)).all (fun x => !x.1) && (backToKw cpos (keywordEach [] X.env)).all (fun x => x.1.isSome) && decide (([e] : List Expr).length + ([] : List Keyword).length + (if ([] : List Keyword).isEmpty then 0 else 1) < 30)) = true := by rfl)
    (hline : (apos.endLine == cpos.line) = true := by rfl) (htr : backTo cpos (starEach [e] X.env) = [(false, eval e X.env)] := by rfl) :
    ED Wo X W (.Call (.Attribute o "get" apos) [e] [] cpos) (tDGet1 ta te) (wGet1 wa we) :=
  ⟨pe_dget1 (hu_of hr) ho.pe h.pe ⟨hbase, hfew, hline, htr⟩, fun c σ H ρ s Qd Ed Q E hw hv he => ho.go c σ H ρ s _ _ _ E hw (fun v H1 x s1 E1 st1 dv q1 => by
    obtain ⟨es, rfl, q1⟩ := q1
    obtain ⟨a, kvs, rfl, ha, ee⟩ := dct_at dv
    refine ⟨a, rfl, .inl ⟨_, .inl ha⟩, h.go c σ H1 ρ s1 _ _ _ E1 q1 (fun u H2 y s2 E2 st2 du q2 => ?_) he⟩
    obtain ⟨k, rfl, q2⟩ := q2
    obtain ⟨ku, ok⟩ := Dv.key du
    subst ku
    obtain ⟨a2, kvs2, e2, ha2, ee2⟩ := dct_at (Dv.same st2 _ _ dv)
    cases e2
    exact ⟨_, DGet.k ha2, hv _ _ _ s2 E2 (st1.trans st2) (dv_look ee2 .non) q2⟩) he⟩
/-- x.get(k, z), x any dict of data -/
def wGet2 {S : Type} (wd wk wz : DE S) : DE S := fun ρ s Q E => wd ρ s (fun x s1 => ∃ es : List (Key × PyData), x = .dict (kvD es) ∧ wk ρ s1 (fun y s2 => ∃ k, y = kD k ∧ wz ρ s2 (fun z s3 => Q ((lk es k).getD z) s3) E) E) E
theorem e_get2 {o : Expr} (hr : Room k X.A) (ho : ED Wo X W o ta wa) (h : ED Wo X W e te we) (hz : ED Wo X W f tb wb)
    (hbase : attributeBase o "get" X.env (eval o X.env) = eval o X.env := by rfl)
    (hfew : ((backTo cpos (starEach [e, f] X.env)).all (fun x => !x.1) && (backToKw cpos (keywordEach [] X.env)).all (fun x => x.1.isSome) && decide (([e, f] : List Expr).length + ([] : List Keyword).length + (if ([] : List Keyword).isEmpty then 0 else 1) < 30)) = true := by rfl)
    (hline : (apos.endLine == cpos.line) = true := by rfl) (htr : backTo cpos (starEach [e, f] X.env) = [(false, eval e X.env), (false, eval f X.env)] := by rfl) :
    ED Wo X W (.Call (.Attribute o "get" apos) [e, f] [] cpos) (tDGet2 ta te tb) (wGet2 wa we wb) :=
  ⟨pe_dget2 (hu_of hr) ho.pe h.pe hz.pe ⟨hbase, hfew, hline, htr⟩, fun c σ H ρ s Qd Ed Q E hw hv he => ho.go c σ H ρ s _ _ _ E hw (fun v H1 x s1 E1 st1 dv q1 => by
    obtain ⟨es, rfl, q1⟩ := q1
    obtain ⟨a, kvs, rfl, ha, ee⟩ := dct_at dv
    refine ⟨a, rfl, .inl ⟨_, .inl ha⟩, h.go c σ H1 ρ s1 _ _ _ E1 q1 (fun u H2 y s2 E2 st2 du q2 => ?_) he⟩
    obtain ⟨k, rfl, q2⟩ := q2
    obtain ⟨ku, ok⟩ := Dv.key du
    subst ku
    refine hz.go c σ H2 ρ s2 _ _ _ E2 q2 (fun w H3 z s3 E3 st3 dz q3 => ?_) he
    obtain ⟨a2, kvs2, e2, ha2, ee2⟩ := dct_at (Dv.same (st2.trans st3) _ _ dv)
    cases e2
    exact ⟨_, DGet.k ha2, hv _ _ _ s3 E3 (st1.trans (st2.trans st3)) (dv_look ee2 dz) q3⟩) he⟩
/-- x[k], x any dict of data, its key not written as a slice -/
def wDIx {S : Type} (wd wk : DE S) : DE S := fun ρ s Q E => wd ρ s (fun x s1 => wk ρ s1 (fun y s2 => ∃ (es : List (Key × PyData)) (k : Key) (d : PyData), x = .dict (kvD es) ∧ y = kD k ∧ lk es k = some d ∧ Q d s2) E) E
theorem e_dix {o : Expr} (hr : Room k X.A) (ho : ED Wo X W o ta wa) (h : ED Wo X W e te we) (hs : NoSl e := by exact fun _ _ => rfl) : ED Wo X W (.Subscript o e pos) (tDGet ta te) (wDIx wa we) :=
  ⟨pe_dget (hu_of hr) ho.pe h.pe hs, fun c σ H ρ s Qd Ed Q E hw hv he => ho.go c σ H ρ s _ _ _ E hw (fun v H1 x s1 E1 st1 dv q1 => by
    refine h.go c σ H1 ρ s1 _ _ _ E1 q1 (fun u H2 y s2 E2 st2 du q2 => ?_) he
    obtain ⟨es, k, d, rfl, rfl, hl, q2⟩ := q2
    obtain ⟨ku, ok⟩ := Dv.key du
    subst ku
    obtain ⟨a2, kvs2, rfl, ha2, ee2⟩ := dct_at (Dv.same st2 _ _ dv)
    rcases ee2.look (k := k) with ⟨z, w⟩ | ⟨v, x, z, w, dx⟩
    · rw [hl] at w; cases w
    · rw [hl] at w; cases w
      exact ⟨_, v, rfl, by rw [← z]; exact DGet.k ha2, hv _ _ _ s2 E2 (st1.trans st2) dx q2⟩) he⟩
/-- x[k], x a dict of its own -/
def wOwnDIx {S : Type} (i : Nat) (wk : DE S) : DE S := fun ρ s Q E => match ρ[i]? with
  | some (.ownK _ es) => wk ρ s (fun y s1 => ∃ k d, y = kD k ∧ lk es k = some d ∧ Q d s1) E
  | _ => False
theorem e_dixO (i : Nat) {x : Str} {px : Pos} (hr : Room k X.A) (h : ED Wo X W e te we) (hN : X.N[i]? = some x := by rfl) (hv : Vis X.env.scope x := by first | exact Or.inl rfl | exact Or.inr (Or.inl rfl) | exact Or.inr (Or.inr rfl)) (hdb : (x == ("__debug__" : Str)) = false := by decide) (hcd : (x == ("__classdict__" : Str)) = false := by decide) (hs : NoSl e := by exact fun _ _ => rfl) : ED Wo X W (.Subscript (.Name x px) e pos) (tDGet (tVar i) te) (wOwnDIx i we) :=
  ⟨pe_dget (hu_of hr) (pe_var hN hv hdb hcd) h.pe hs, fun c σ H ρ s Qd Ed Q E hw hv he => by
    unfold wOwnDIx at hw
    split at hw
    · rename_i q es hq
      obtain ⟨o, g1, rfl, n1, kvs, hH, hA⟩ := E.slot i _ hq
      refine ⟨_, g1, h.go c σ H ρ s _ _ _ E hw (fun v H1 y s1 E1 st1 dv q1 => ?_) he⟩
      obtain ⟨k, d, rfl, hl, q1⟩ := q1
      obtain ⟨ku, ok⟩ := Dv.key dv
      subst ku
      obtain ⟨o, f1, f2, n2, kvs2, hH2, hA2⟩ := E1.slot i _ hq
      obtain ⟨ee, eo⟩ := dvp_e hA2
      rcases ee.look (k := k) with ⟨z, w⟩ | ⟨v, x, z, w, dx⟩
      · rw [hl] at w; cases w
      · rw [hl] at w; cases w
        exact ⟨_, v, rfl, by rw [← z]; exact DGet.k hH2, hv _ _ _ s1 E1 st1 dx q1⟩
    · exact hw.elim⟩
/-- k in x, x a dict of its own -/
def wInK {S : Type} (i : Nat) (wk : DE S) : DE S := fun ρ s Q E => match ρ[i]? with
  | some (.ownK _ es) => wk ρ s (fun y s1 => ∃ k, y = kD k ∧ Q (.bool (lk es k).isSome) s1) E
  | _ => False
theorem e_inK (i : Nat) {x : Str} {px : Pos} (hr : Room k X.A) (h : ED Wo X W e te we) (hN : X.N[i]? = some x := by rfl) (hv : Vis X.env.scope x := by first | exact Or.inl rfl | exact Or.inr (Or.inl rfl) | exact Or.inr (Or.inr rfl)) (hdb : (x == ("__debug__" : Str)) = false := by decide) (hcd : (x == ("__classdict__" : Str)) = false := by decide) : PC X .In e (.Name x px) (tDIn te (tVar i)) ∧
    (∀ (c : Cn Wo) σ H ρ s Qd Ed Q, EnvD X.K c σ H ρ s → wInK i we ρ s Qd Ed → VTo X.K c σ H ρ Qd Q → ErTo X.K c σ ρ Ed W → tDIn te (tVar i) σ H Q) :=
  ⟨pc_din (hu_of hr) h.pe (pe_var hN hv hdb hcd), fun c σ H ρ s Qd Ed Q E hw hv he => by
    unfold wInK at hw
    split at hw
    · rename_i q es hq
      refine h.go c σ H ρ s _ _ _ E hw (fun v H1 y s1 E1 st1 dv q1 => ?_) he
      obtain ⟨k, rfl, q1⟩ := q1
      obtain ⟨ku, ok⟩ := Dv.key dv
      subst ku
      obtain ⟨o, f1, rfl, n2, kvs2, hH2, hA2⟩ := E1.slot i _ hq
      obtain ⟨ee, eo⟩ := dvp_e hA2
      refine ⟨_, f1, q, _, rfl, DGet.k hH2, hv _ _ _ s1 E1 st1 ?_ q1⟩
      rw [look_some ee]
      exact .bl _
    · exact hw.elim⟩
/-- a dict of its own that is changed no more -/
def wFreezeK {S : Type} (i : Nat) (w : DS S) : DS S := fun ρ s D => match ρ[i]? with
  | some (.ownK _ es) => w (ρ.set i (.d (.dict (kvD es)))) s D
  | _ => False
theorem EnvD.freezeG {c : Cn Wo} {σ : St} {H : Hp} {ρ : List Sl} {s : S} {i : Nat} {r : Addr} {x : Sl} {d : PyData} (hx : own1 x = [r]) (E : EnvD K c σ H ρ s) (hi : ρ[i]? = some x) (dv : ∀ o Hh, SlotOk K (hd H (c.hs ρ)) H x o → Same (hd H (c.hs ρ)) Hh → (∀ u, H r = some u → Hh r = some u) → ∃ v, o = some v ∧ Dv K Hh v d) : EnvD K c σ H (ρ.set i (.d d)) s ∧ Stp c ρ (ρ.set i (.d d)) H H := by
  obtain ⟨o, h1, h2⟩ := E.slot i _ hi
  have rm : r ∈ owns ρ := own_memG hi hx
  have nr : r ∉ Wo.wa ++ c.R := fun z => (List.nodup_append.mp E.nd).2.2 r z r rm rfl
  have sb : (owns (ρ.set i (.d d))).Sublist (owns ρ) := owns_set_sub rfl
  -- r is no other variable's
  have gone : ∀ {ρ : List Sl} {i : Nat} {r : Addr} {x y : Sl}, own1 x = [r] → own1 y = [] → (owns ρ).Nodup → ρ[i]? = some x → r ∉ owns (ρ.set i y) := by
    intro ρ
    induction ρ with
    | nil => intro i r x y _ _ _ h; simp at h
    | cons z l ih =>
      intro i r x y ox oy nd h
      have nd : (own1 z ++ owns l).Nodup := nd
      cases i with
      | zero =>
        simp at h; subst h
        show r ∉ own1 y ++ owns l
        rw [oy, List.nil_append]
        exact fun q => (List.nodup_append.mp nd).2.2 r (by rw [ox]; simp) r q rfl
      | succ i =>
        show r ∉ own1 z ++ owns (l.set i y)
        intro q
        rcases List.mem_append.mp q with q | q
        · exact (List.nodup_append.mp nd).2.2 r q r (own_memG (i := i) (by simpa using h) ox) rfl
        · exact ih ox oy (List.nodup_append.mp nd).2.1 (by simpa using h) q
  have ro : r ∉ owns (ρ.set i (.d d)) := gone hx rfl (List.nodup_append.mp E.nd).2.1 hi
  have rh : r ∉ c.hs (ρ.set i (.d d)) := fun z => by
    rcases List.mem_append.mp z with z | z
    · exact nr z
    · exact ro z
  have sub : ∀ a ∈ c.hs (ρ.set i (.d d)), a ∈ c.hs ρ := fun a ha => by
    rcases List.mem_append.mp ha with z | z
    · exact List.mem_append_left _ z
    · exact List.mem_append_right _ (sb.subset z)
  have st : Stp c ρ (ρ.set i (.d d)) H H := hd_sub sub
  refine ⟨⟨by simp [E.len], fun j y hy => ?_, E.nd.sublist (List.Sublist.append (List.Sublist.refl _) sb), fun a ha => E.tr a (sub a ha), E.g, E.ext, fun b hb => E.new b (sb.subset hb)⟩, st⟩
  by_cases hj : i = j
  · subst hj
    rw [List.getElem?_set_self (List.getElem?_eq_some_iff.mp hi).1] at hy
    cases hy
    exact ⟨_, h1, dv o _ h2 st fun u hu => by rw [hd_out rh]; exact hu⟩
  · rw [List.getElem?_set_ne hj] at hy
    obtain ⟨o, g1, g2⟩ := E.slot j y hy
    exact ⟨o, g1, g2.same st fun _ _ _ => rfl⟩
theorem sd_freezeK (i : Nat) {w : DS S} (h : SSD Wo X W st t w) : SSD Wo X W st t (wFreezeK i w) :=
  ⟨h.pe, fun c σ H ρ s Dd D E hw to => by
    unfold wFreezeK at hw
    split at hw
    · rename_i r es hi
      obtain ⟨E1, st⟩ := E.freezeG (r := r) (d := .dict (kvD es)) rfl hi fun o Hh h2 st hu => by
        obtain ⟨rfl, n, kvs, hH, hA⟩ := h2
        exact ⟨_, rfl, .dct (hu _ hH) (by unfold kvD; rw [List.length_map]; exact n) (DvP.same st _ _ hA)⟩
      exact h.go c σ H _ s Dd D E1 hw (to.from st)
    · exact hw.elim⟩
/-- return x, x a dict of its own -/
def wRetK {S : Type} (i : Nat) : DS S := fun ρ s D => match ρ[i]? with
  | some (.ownK _ es) => D.rt (.dict (kvD es)) s
  | _ => False
theorem sd_retK (i : Nat) {x : Str} {px : Pos} (hN : X.N[i]? = some x := by rfl) (hv : Vis X.env.scope x := by first | exact Or.inl rfl | exact Or.inr (Or.inl rfl) | exact Or.inr (Or.inr rfl)) (hdb : (x == ("__debug__" : Str)) = false := by decide) (hcd : (x == ("__classdict__" : Str)) = false := by decide) :
    SD Wo X W (.Return (some (.Name x px)) pos) (tRet (tVar i)) (wRetK i) :=
  ⟨ps_ret (pe_var hN hv hdb hcd), fun c σ H ρ s Dd D E hw to => by
    unfold wRetK at hw
    split at hw
    · rename_i q es hq
      obtain ⟨o, h1, rfl, n, kvs, hH, hA⟩ := E.slot i _ hq
      have nw : q ∉ Wo.wa ++ c.R := fun z => (List.nodup_append.mp E.nd).2.2 q z q (own_memG hq rfl) rfl
      exact ⟨_, h1, to.rt _ H _ s E.g E.ext (.dct (by rw [hd_out nw]; exact hH) (by unfold kvD; rw [List.length_map]; exact n) (DvP.same (hd_sub fun a h => List.mem_append_left _ h) _ _ hA)) hw⟩
    · exact hw.elim⟩
end
end Dt

set_option Elab.async false
set_option linter.all false
set_option autoImplicit false
set_option maxRecDepth 100000
namespace HT
open PySem PySem.Spec PyProof.Rows
section
variable {prog : Program} {w : World} {A : Around} {E : Value → Shared → Prop} {s : Shared}
theorem tail_applied {sl : Addr} {vl vu vs : Value} {n : Nat} {Q : Int × Int × Nat → Shared → Prop} (hs : s.heap.IsSliceOf sl vl vu vs) (pl : IsPart vl none) (pu : IsPart vu (some 0)) (ps : IsPart vs (some (-1)))
    (h : Q ((n : Int) - 1, -1, n - 1) s) : wpAny (model prog w) A (Builtin.Slice.sliceApplied (.ref sl) (pure (n : Int))) Q E s := by
  obtain ⟨os, hos, hcs, hds⟩ := id hs
  unfold Builtin.Slice.sliceApplied Builtin.Slice.sliceFields
  apply wpAny_bind
  apply wpAny_bind
  apply wpAny_field hos hds (x := vl) rfl
  apply wpAny_bind
  apply wpAny_field hos hds (x := vu) rfl
  apply wpAny_bind
  apply wpAny_field hos hds (x := vs) rfl
  apply wpAny_pure
  apply wpAny_bind
  apply slicePart_ ps
  show wpAny _ _ (if ((-1 : Int) == 0) = true then _ else _) _ _ s
  rw [if_neg (by decide)]
  apply wpAny_bind
  apply slicePart_ pl
  apply wpAny_bind
  apply slicePart_ pu
  apply wpAny_bind
  apply wpAny_pure
  have e1 : Builtin.Slice.slicePlaces (Builtin.Slice.sliceAdjust none (some 0) (-1) (n : Int)).1 (Builtin.Slice.sliceAdjust none (some 0) (-1) (n : Int)).2 (-1) = n - 1 := by
    unfold Builtin.Slice.sliceAdjust Builtin.Slice.slicePlaces
    simp
    omega
  have e0 : (Builtin.Slice.sliceAdjust none (some 0) (-1) (n : Int)).1 = (n : Int) - 1 := by
    unfold Builtin.Slice.sliceAdjust
    simp
  show wpAny _ _ (match Builtin.Slice.sliceAdjust none (some 0) (-1) (n : Int) with | (lo, hi) => pure (lo, (-1 : Int), Builtin.Slice.slicePlaces lo hi (-1))) _ _ s
  generalize Builtin.Slice.sliceAdjust none (some 0) (-1) (n : Int) = p at e0 e1 ⊢
  obtain ⟨lo, hi⟩ := p
  dsimp only at e0 e1 ⊢
  subst e0
  rw [e1]
  exact wpAny_pure h
theorem tail_pick (xs : Array Value) : ((List.range (xs.size - 1)).filterMap fun (m : Nat) => xs[(((xs.size : Int) - 1) + (m : Int) * (-1)).toNat]?) = (xs.toList.drop 1).reverse := by
  obtain ⟨l⟩ := xs
  apply List.ext_getElem?
  have e : ((List.range ((⟨l⟩ : Array Value).size - 1)).filterMap fun (m : Nat) => (⟨l⟩ : Array Value)[((((⟨l⟩ : Array Value).size : Nat) : Int) - 1 + (m : Int) * (-1)).toNat]?) = (List.range (l.length - 1)).filterMap fun m => l[l.length - 1 - m]? := by
    apply congrFun
    apply congrArg
    funext m
    have : ((((⟨l⟩ : Array Value).size : Nat) : Int) - 1 + (m : Int) * (-1)).toNat = l.length - 1 - m := by
      show (((l.length : Nat) : Int) - 1 + (m : Int) * (-1)).toNat = _
      omega
    rw [this]
    simp
  rw [e]
  have go : ∀ n, n ≤ l.length - 1 → (List.range n).filterMap (fun m => l[l.length - 1 - m]?) = ((l.drop (l.length - n)).reverse) := by
    intro n
    induction n with
    | zero => intro _; simp
    | succ n ih =>
      intro h
      rw [List.range_succ, List.filterMap_append, ih (by omega)]
      have hk : l.length - 1 - n < l.length := by omega
      rw [List.filterMap_cons, List.getElem?_eq_getElem hk]
      have : l.length - (n + 1) = l.length - 1 - n := by omega
      rw [this, List.drop_eq_getElem_cons hk, List.reverse_cons]
      have : l.length - 1 - n + 1 = l.length - n := by omega
      rw [this]
      rfl
  intro i
  rw [go _ (Nat.le_refl _)]
  by_cases z : l.length = 0
  · have : l = [] := List.length_eq_zero_iff.mp z
    subst this
    rfl
  · have : l.length - (l.length - 1) = 1 := by omega
    rw [this]
/-- t[:0:-1] -/
theorem tail_tuple {t sl : Addr} {items : Array Value} {vl vu vs : Value} {Q : Value → Shared → Prop} (ht : IsTup s.heap t items) (hs : s.heap.IsSliceOf sl vl vu vs) (pl : IsPart vl none) (pu : IsPart vu (some 0)) (ps : IsPart vs (some (-1)))
    (h1 : Q (.ref s.heap.objs.size) { s with heap := s.heap.push { cls := .type "tuple", data := .seq (items.toList.drop 1).reverse.toArray } }) (hz : items.size ≤ sizeLine) : wpAny (model prog w) A (getItem (.ref t) (.ref sl)) Q E s := by
  obtain ⟨os, hos, hcs, hds⟩ := id hs
  have isSl : s.TypeIs (.ref sl) "slice" := ⟨os, hos, hcs⟩
  unfold getItem
  try with_reducible refine wpAny_holding ?_
  first | refine wpAny_bind (wpAny_pure ?_) | skip
  apply wpAny_bind
  apply wpAny_sequenceKey ht.typeIs (by decide)
  apply wpAny_bind
  refine wpAny_callSpecial?_slot (name := Str.ofString "__getitem__") ht.typeIs PyProof.Rows.slot_tuple_getitem (wpAny_call_entry PyProof.Rows.slot_tuple_getitem ht.typeIs entry_tuple_getitem ?_ (args_tuple_getitem _ _))
  show wpAny _ _ (Builtin.Tuple.tupleItemsOf (.ref t) >>= _) _ _ s
  apply wpAny_bind
  apply tupleItemsOf_ ht
  apply wpAny_bind
  apply wpAny_typeOf isSl
  rw [if_pos (by decide)]
  apply wpAny_bind
  apply tail_applied hs pl pu ps
  have no : ¬ (((((items.size : Int) - 1) == 0) && ((-1 : Int) == 1) && (items.size - 1 == items.size)) = true) := by simp
  show wpAny _ _ (if ((((items.size : Int) - 1) == 0) && ((-1 : Int) == 1) && (items.size - 1 == items.size)) = true then _ else _) _ _ s
  rw [if_neg no]
  have sz : sizeOk (.seq ((List.range (items.size - 1)).filterMap fun (m : Nat) => items[(((items.size : Int) - 1) + (m : Int) * (-1)).toNat]?).toArray) := by
    rw [tail_pick]
    show (items.toList.drop 1).reverse.toArray.size ≤ sizeLine
    simp
    omega
  rw [← tail_pick] at h1
  first
    | exact wpAny_bind (m := Builtin.Tuple.tupleExact _) (wpAny_newObj_type (wpAny_pure ⟨_, rfl, wpAny_pure h1⟩) sz)
    | exact wpAny_bind (m := Builtin.Tuple.tupleExact _) (wpAny_newObj_type (wpAny_bind (wpAny_pure (wpAny_pure ⟨_, rfl, wpAny_pure h1⟩))) sz)
    | exact wpAny_bind (wpAny_bind (m := Builtin.Tuple.tupleExact _) (wpAny_newObj_type (wpAny_pure (wpAny_pure ⟨_, rfl, wpAny_pure h1⟩)) sz))
end
end HT
namespace Dt
open PySem PySem.Spec L2
section
variable {X : Cx} {K : PySem.W.Frag}
/-- t[:0:-1], t a tuple -/
def tTailT (K : PySem.W.Frag) (te : TE) : TE := fun σ H Q => te σ H fun x H1 => ∃ a xs, x = .ref a ∧ SqT K H1 a xs ∧ ∀ p, H1 p = none → Q (.ref p) (upd H1 p (.tup (xs.drop 1).reverse))
open PyProof.Rows in
theorem pe_tailT {e : Expr} {te : TE} {k k0 : Nat} {p0 p1 p2 p3 pos : Pos} (he : PE X e te) : PE X (.Subscript e (.Slice none (some (.Constant (.int 0) k0 p0)) (some (.UnaryOp .USub (.Constant (.int 1) k p1) p2)) p3) pos) (tTailT X.K te) := by
  constructor
  intro pins s σ H Q I h
  apply PyProof.Rows.Subscript_
  apply thn (he.run pins s σ H _ I h)
  rintro v s1 ⟨x, H1, I1, r1, a, xs, rfl, hx, q⟩
  cases r1
  have step : PO X (some (.UnaryOp .USub (.Constant (.int 1) k p1) p2)) (tPart (tUn (rU fun i => .int (-i)) (tC (.int 1)))) := po_some (pe_un un_neg pe_int)
  have zero : PO X (some (.Constant (.int 0) k0 p0)) (tPart (tC (.int 0))) := po_some pe_int
  apply wpAny_Slice
  apply thn (po_none.run pins s1 σ H1 (fun o H2 => o = none ∧ H2 = H1) I1 ⟨rfl, rfl⟩)
  rintro vl s2 ⟨l, H2, I2, pl, rfl, rfl⟩
  apply thn (zero.run pins s2 σ H2 (fun o H3 => o = some 0 ∧ H3 = H2) I2 ⟨0, rfl, rfl, rfl⟩)
  rintro vu s3 ⟨u, H3, I3, pu, rfl, rfl⟩
  apply thn (step.run pins s3 σ H3 (fun o H4 => o = some (-1) ∧ H4 = H3) I3 ⟨1, rfl, -1, rfl, rfl, rfl⟩)
  rintro vs s4 ⟨o, H4, I4, ps, rfl, rfl⟩
  have I5 : Inv X pins σ H4 { s4 with heap := s4.heap.push { cls := .type "slice", data := .fields #[vl, vu, vs] } } := I4.kept (t' := s4.toks) fun b ob q => Heap.get?_push_of_some _ q
  obtain ⟨its, r, ht, hz⟩ := I5.tuple hx
  have hl := r.length
  show wpAny (model X.prog X.w) X.A (subscriptTail e _ (.ref a) (.ref s4.heap.objs.size)) (EP X pins σ Q) X.xe _
  refine tail_any (ops := [.ref a, .ref s4.heap.objs.size]) ht.typeIs PyProof.Rows.slot_tuple_getitem.lookup ?_ (by with_unfolding_all rfl)
  refine HT.tail_tuple ht (Heap.IsSliceOf.new _ vl vu vs) pl pu ps ?_ (by rw [List.size_toArray]; omega)
  refine ⟨.ref _, _, I5.laid (t' := s4.toks) (o := .tup (xs.drop 1).reverse) (fun b ob q => Heap.get?_push_of_some _ q) (Nat.le_refl _) ?_, rfl, q _ (I5.hok.fresh (Nat.le_refl _))⟩
  exact ⟨by rw [List.length_reverse, List.length_drop]; omega, _, (r.drop 1).reverse, IsTup.new _ _⟩
def dTail : PyData → (PyData → Prop) → Prop
  | .tuple xs, Q => Q (.tuple (xs.drop 1).reverse)
  | _, _ => False
end
section
variable {S : Type} {Wo : Wd S} {X : Cx} {W : WX} {K : PySem.W.Frag} {ta tb te : TE} {tl : TA} {e e' a b : Expr} {es : List Expr} {wa wb we : DE S} {wl : DA S} {pos p q pos' pos2 apos cpos : Pos} {k n : Nat}
theorem e_tail {k k0 : Nat} {p0 p1 p2 p3 : Pos} (ha : ED Wo X W e ta wa) (hK : X.K = K := by rfl) : ED Wo X W (.Subscript e (.Slice none (some (.Constant (.int 0) k0 p0)) (some (.UnaryOp .USub (.Constant (.int 1) k p1) p2)) p3) pos) (tTailT K ta) (wUn dTail wa) := by
  subst hK
  exact ⟨pe_tailT ha.pe, fun c σ H ρ s Qd Ed Q E hw hv he => ha.go c σ H ρ s _ Ed _ E hw (fun v H1 d s1 E1 st1 dv q1 => by
    cases d with
    | tuple xs =>
      cases dv with
      | tup h n a => exact ⟨_, _, rfl, same_seqT (hd_to _ _) h, fun p hp => hv _ _ _ s1 (E1.grow (same_upd hp)) (st1.trans (stp_grow (same_upd hp))) (Dv.newT E1.tr hp (a.drop 1).reverse (by rw [List.length_reverse, List.length_drop]; omega)) q1⟩
    | _ => exact q1.elim) he⟩
/-- x += [..], x a list of its own -/
def wAugL {S : Type} (i : Nat) (w : DL S) : DS S := wExt i w
theorem sd_augL (i : Nat) {x : Str} {w : DL S} (hN : X.N.Nodup) (hi : X.N[i]? = some x) (hx : Loc X.env.scope x) (h : FD Wo X W e ta w) (hf : X.fn x = true ∨ X.env.scope.names.lookup x = some .local := by first | exact .inl rfl | exact .inr rfl | assumption) :
    SD Wo X W (.AugAssign (.Name x pos') .Add e pos) (tAug i ta rExt2) (wAugL i w) :=
  ⟨ps_aug hN hi hx h.pe iop_ext hf, fun c σ H ρ s Dd D E hw to => by
    unfold wAugL wExt at hw
    split at hw
    · rename_i q xs hq
      obtain ⟨o, h1, rfl, n, vs, hH, hA⟩ := E.slot i _ hq
      refine ⟨_, h1, h.go c σ H ρ s _ _ _ E hw (fun b ws H1 ds s1 E1 sm hb a n' hn q1 => ?_) (to.err σ ρ)⟩
      obtain ⟨n1, q1⟩ := q1
      have st2 : Same (hd H1 ((c.hide b).hs ρ)) (hd H1 (c.hs ρ)) := hd_sub hs_hide_sub
      have E1' := E1.unhide
      obtain ⟨o, g1, g2, n2, vs1, hH1, hA1⟩ := E1'.slot i _ hq
      refine ⟨q, b, vs1, ws, rfl, rfl, hH1, hb, by rw [hA1.length, a.length, ← List.length_append]; exact Nat.le_trans n1 limL_size, ?_⟩
      obtain ⟨E2, st3⟩ := E1'.updOwn (ys := xs ++ ds) hq (hA1.append (DvAll.same st2 _ _ a)) n1
      have e2 : σ.set i (some (.ref q)) = σ := by
        apply List.ext_getElem?
        intro j
        by_cases hj : i = j
        · subst hj
          rw [List.getElem?_set_self (List.getElem?_eq_some_iff.mp h1).1, h1]
        · rw [List.getElem?_set_ne hj]
      rw [e2]
      exact to.nx σ _ _ s1 E2 (sm.trans (st2.trans st3)) q1
    · exact hw.elim⟩
/-- list(range(n)), a new list -/
def wLstRg {S : Type} (w : DE S) : DE S := fun ρ s Q E => w ρ s (fun d s1 => match d with
  | .int j => 0 ≤ j ∧ j ≤ 4194304 ∧ Q (.list (rngD 0 j.toNat)) s1
  | _ => False) E
theorem e_lstRg (B : Bt X.mg) (hc : X.calm = true) (ha : ED Wo X W a ta wa) (hg : Gl X "list" := by rfl) (hg2 : Gl X "range" := by rfl)
    (na : starEach [a] X.env = (false, eval a X.env) :: starEach [] X.env := by rfl) (nb : starEach [.Call (.Name "range" p) [a] [] pos] X.env = (false, eval (.Call (.Name "range" p) [a] [] pos) X.env) :: starEach [] X.env := by rfl) :
    ED Wo X W (.Call (.Name "list" q) [.Call (.Name "range" p) [a] [] pos] [] pos2) (tLstRg (tRg1 ta)) (wLstRg wa) :=
  ⟨pe_listRg hc hg (B.no _ (by decide)) (prg_1 hg2 (B.no _ (by decide)) ha.pe na) nb, fun c σ H ρ s Qd Ed Q E hw hv he => ha.go c σ H ρ s _ Ed _ E hw (fun v H1 d s1 E1 st1 dv q1 => by
    match d, dv, q1 with
    | .int j, dv, q1 =>
      obtain ⟨j0, j1, q2⟩ := q1
      cases dv
      refine ⟨j, rfl, RgOk.of_le (by omega) (by omega) (by omega) j0, fun t nt => hv _ _ _ s1 (E1.grow (same_upd nt)) (st1.trans (stp_grow (same_upd nt))) ?_ q2⟩
      have ej : j = ((j.toNat : Nat) : Int) := by omega
      rw [ej]
      have tn : t ∉ c.hs ρ := fun z => E1.tr t z nt
      have st2 := stp_grow (c := c) (ρ := ρ) (same_upd (o := .lst (rgV 0 ((j.toNat : Nat) : Int))) nt)
      exact .lst (by rw [hd_out tn]; exact upd_same) (by unfold rngD limL; simp; omega) (DvAll.same st2 _ _ (dv_rng _ (by omega)))) he⟩
/-- o.split(e) -/
def dSplit : Dop := fun x y Q => match x, y with
  | .str a, .str b => (b.length == 0) = false ∧ a.length + 2 ≤ limL ∧ (Txt.split a b).length ≤ limL ∧ (∀ z ∈ Txt.split a b, okS z) ∧ Q (.list ((Txt.split a b).map PyData.str))
  | _, _ => False
def tSplit (to te : TE) : TE := tM1 (fun x xs H Q => ∃ a b, x = .str a ∧ xs = [.str b] ∧ (b.length == 0) = false ∧ a.length + 2 ≤ sizeLine ∧ rNewStrs (Txt.split a b) H Q) to te
theorem dv_strs {H : Hp} : ∀ {xs : List Str}, (∀ z ∈ xs, okS z) → DvAll K H (xs.map V.str) (xs.map PyData.str)
  | [], _ => .nil
  | x :: xs, h => .cons (.str (h x List.mem_cons_self)) (dv_strs fun z hz => h z (List.mem_cons_of_mem _ hz))
def wSplit {S : Type} (wa wb : DE S) : DE S := fun ρ s Q E => wa ρ s (fun x s1 => (∃ a, x = .str a) ∧ wb ρ s1 (fun y s2 => dSplit x y fun z => Q z s2) E) E
theorem e_split {o : Expr} (ho : ED Wo X W o ta wa) (he' : ED Wo X W e te we) (hs : starEach [e] X.env = [(false, eval e X.env)] := by rfl) (hbase : attributeBase o "split" X.env (eval o X.env) = eval o X.env := by rfl) (hline : (apos.endLine == pos.line) = true := by rfl) :
    ED Wo X W (.Call (.Attribute o "split" apos) [e] [] pos) (tSplit ta te) (wSplit wa we) :=
  ⟨pe_split ho.pe he'.pe hs hbase hline, fun c σ H ρ s Qd Ed Q E hw hv he => ho.go c σ H ρ s _ _ _ E hw (fun v H1 x s1 E1 st1 dv q1 => by
    obtain ⟨⟨a, rfl⟩, q1⟩ := q1
    cases dv
    refine ⟨⟨a, rfl⟩, he'.go c σ H1 ρ s1 _ _ _ E1 q1 (fun u H2 y s2 E2 st2 du q2 => ?_) he⟩
    match y, du, q2 with
    | .str b, du, q2 =>
      cases du
      obtain ⟨h1, h2, h3, h4, q3⟩ := q2
      refine ⟨a, b, rfl, rfl, h1, Nat.le_trans h2 limL_size, fun t nt => hv _ _ _ s2 (E2.grow (same_upd nt)) (st1.trans (st2.trans (stp_grow (same_upd nt)))) ?_ q3⟩
      have tn : t ∉ c.hs ρ := fun z => E2.tr t z nt
      exact .lst (by rw [hd_out tn]; exact upd_same) (by rw [List.length_map]; exact h3) (dv_strs h4)) he⟩
end
end Dt

set_option Elab.async false
set_option linter.all false
set_option autoImplicit false
set_option maxRecDepth 100000
namespace Dt
open PySem PySem.Spec L2

/-! ### a def that a variable holds -/
/-- at v stands a def with this promise -/
structure AtF (P : Program) (w : World) (K : PySem.W.Frag) (mg : Str → Option Value) (base : Heap) (CX : CXT) (k n : Nat) (F : List PyData → (PyData → Prop) → (Er → Prop) → Prop) (v : V) : Prop where
  ex : ∃ (f : Addr) (fd : FuncData) (ps : List Str), v = .ref f ∧ ps.length = n ∧ PySem.W.keepIn K (.ref f) = true ∧ Binds K fd ps [] ∧ FnOk P w K mg base CX k f fd ps (spP K n F)
def tCallV (i : Nat) (A : V → Prop) (sp : Sp) (E : L2.St → XK) (t : TA) : TE := fun σ H Q => ∃ v, σ[i]? = some (some v) ∧ A v ∧ t σ H fun vs H1 => sp vs H1 Q (E σ)
def wCallV {S : Type} (i : Nat) (A : V → Prop) (n : Nat) (F : List PyData → (PyData → Prop) → (Er → Prop) → Prop) (wl : DA S) : DE S := fun ρ s Q E => match ρ[i]? with
  | some (.raw v) => A v ∧ wCallP (fun ds Q E => ds.length = n ∧ F ds Q E) wl ρ s Q E
  | _ => False
section
variable {S : Type} {Wo : Wd S} {X : Cx} {W : WX} {K : PySem.W.Frag} {ta tb te : TE} {tl : TA} {e e' a b : Expr} {es : List Expr} {kws : List Keyword} {wa wb we : DE S} {wl : DA S} {pos p q : Pos} {k n : Nat}
theorem e_callV (i : Nat) {x : Str} {CX : CXT} {A : V → Prop} {F : List PyData → (PyData → Prop) → (Er → Prop) → Prop} (hA : ∀ v, A v → AtF X.prog X.w K X.mg X.base CX k n F v) (hr : Room k X.A) (hx : ∀ σ, PassesAt CX X σ (WE W σ)) (ha : AD Wo X W (e :: es) tl wl) (hK : X.K = K := by rfl)
    (hN : X.N[i]? = some x := by rfl) (hv : Vis X.env.scope x := by first | exact Or.inl rfl | exact Or.inr (Or.inl rfl) | exact Or.inr (Or.inr rfl)) (hdb : (x == ("__debug__" : Str)) = false := by decide) (hcd : (x == ("__classdict__" : Str)) = false := by decide)
    (he : starEach (e :: es) X.env = (false, eval e X.env) :: starEach es X.env := by rfl) (hpl : (backTo pos (starEach es X.env)).any (·.1) = false := by rfl) :
    ED Wo X W (.Call (.Name x p) (e :: es) [] pos) (tCallV i A (spP K n F) (WE W) tl) (wCallV i A n F wl) := by
  subst hK
  refine ⟨⟨fun pins s σ H Q I h => ?_⟩, fun c σ H ρ s Qd Ed Q E hw hv' he' => ?_⟩
  · obtain ⟨v, hs, hAv, ht⟩ := h
    obtain ⟨f, fd, ps, rfl, hl, hk, hb, F'⟩ := (hA v hAv).ex
    refine wpAny_Call_Name_kw (thn ((pe_var (pos := p) hN hv hdb hcd).run pins s σ H (fun v H1 => v = .ref f ∧ H1 = H) I ⟨.ref f, hs, rfl, rfl⟩) fun u s1 ⟨v, H1, I1, r1, q1⟩ => ?_)
    obtain ⟨rfl, rfl⟩ := q1
    cases r1
    exact PySem.W.callWith_K (h₀ := X.base) I.ok.mod.kin hk (thn (ha.pe.run pos pins s1 σ _ _ I1 ht) fun us s2 ⟨vs, H2, I2, r, q⟩ => ⟨I2.kIn, run_fnO F' hr hb (hx σ) I2 r q⟩) he hpl
  · unfold wCallV at hw
    split at hw
    · rename_i v hy
      obtain ⟨hAv, hw⟩ := hw
      obtain ⟨o, h1, h2⟩ := E.slot i _ hy
      have h2 : o = some v := h2
      subst h2
      exact ⟨v, h1, hAv, ha.go c σ H ρ s _ Ed _ E hw (fun vs H1 as s1 E1 st1 a1 q1 => by
        obtain ⟨ds, g1, g2, g3⟩ := a1.all q1
        exact ⟨by rw [g1.length]; exact g2, c.hs ρ, ds, _, _, E1.nd, E1.tr, g1, g3, fun v H' d sm dv q => hv' v H' d s1 (E1.grow sm) (st1.trans (stp_grow sm)) dv q,
          fun e cls dd H' sm ei q => he' e cls dd H' s1 (E1.grow sm) ei q⟩) he'⟩
    · exact hw.elim
/-- a def of the text, handed on -/
def wFun {S : Type} (v : V) (w : DA S) : DA S := fun ρ s Q E => w ρ s (fun as s1 => Q (.raw v :: as) s1) E
theorem ad_fun {x : Str} {f : Addr} {r : DA S} (hm : X.mg x = some (.ref f)) (hr : AD Wo X W es tl r) (hg : Gl X x := by rfl) (hd : (x == ("__debug__" : Str)) = false := by decide)
    (hs : starEach (.Name x p :: es) X.env = (false, eval (.Name x p) X.env) :: starEach es X.env := by rfl) : AD Wo X W (.Name x p :: es) (tCons (tC (.ref f)) tl) (wFun (.ref f) r) :=
  ⟨pa_cons (pe_glob hg hm (show RelV (.ref f) (.ref f) from rfl) hd) hr.pe hs, fun c σ H ρ s Qd Ed Q E hw hv he => hr.go c σ H ρ s _ Ed _ E hw (fun vs H2 as s2 E2 st2 a2 q2 => hv (.ref f :: vs) H2 (.raw (.ref f) :: as) s2 E2 st2 ⟨rfl, a2⟩ q2) he⟩
/-! ### f(k = e, ..) of a def that may be called wherever there is room -/
structure DoK (P : Program) (w : World) (K : PySem.W.Frag) (mg : Str → Option Value) (base : Heap) (CX : CXT) (k : Nat) (x : Str) (n : Nat) (sp : Sp) (ks : List Str) (g : {α : Type} → List α → List α) : Prop where
  ex : ∃ (f : Addr) (fd : FuncData) (ps : List Str), ps.length = n ∧ ks.length = n ∧ mg x = some (.ref f) ∧ PySem.W.keepIn K (.ref f) = true ∧ FnOk P w K mg base CX k f fd ps sp ∧
    ∀ (s : Shared) (ws : List Value), K.In s.heap → ws.length = n → BindsTo s fd ⟨[], ks.zip ws⟩ (ps.zip (g ws))
theorem e_callKO {CX : CXT} {j : Nat} {x : Str} {ks : List Str} {g : {α : Type} → List α → List α} {F : List PyData → (PyData → Prop) → (Er → Prop) → Prop} (hrel : ∀ {α β : Type} {R : α → β → Prop} {l : List α} {m : List β}, l.length = n → Paired R l m → Paired R (g l) (g m)) (hlen : ∀ {α : Type} {l : List α}, l.length = n → (g l).length = n)
    (D : DoK X.prog X.w K X.mg X.base CX j x n (spP K n F) ks g) (hr : Room j X.A) (hx : ∀ σ, PassesAt CX X σ (WE W σ)) (ha : KD Wo X W kws tl wl) (hK : X.K = K := by rfl)
    (hall : (backToKw pos (keywordEach kws X.env)).all (·.1.isSome) = true := by rfl) (hks : (backToKw pos (keywordEach kws X.env)).filterMap (·.1) = ks := by rfl) (hno : (backToKw pos (keywordEach kws X.env)).any (·.1.isNone) = false := by rfl)
    (hg : Gl X x := by rfl) (hdb : (x == ("__debug__" : Str)) = false := by decide) : ED Wo X W (.Call (.Name x p) [] kws pos) (tCallKS n (spP K n F) g (WE W) tl) (wCallK n g F wl) := by
  subst hK
  obtain ⟨f, fd, ps, hn, hkn, hm, hk, G, hb⟩ := D.ex
  refine ⟨⟨fun pins s σ H Q I h => ?_⟩, fun c σ H ρ s Qd Ed Q E hw hv he => ha.go c σ H ρ s _ Ed _ E hw (fun vs H1 as s1 E1 st1 a1 q1 => ?_) he⟩
  · apply wpAny_Call_Name_kw
    apply ld_glob I hg hm _ hdb
    refine PySem.W.callWith_KW0 (h₀ := X.base) I.ok.mod.kin hk hall (thn (ha.pe.run pos pins s σ H _ I h) fun ws s1 hh => ?_) hno
    obtain ⟨zs, H1, I1, rz, l1, q1⟩ := hh
    refine ⟨I1.kIn, ?_⟩
    rw [hks]
    have lw : ws.length = n := rz.length.symm.trans l1
    apply wpAny_call
    refine codeAny_mono (G.run X.A X.stack s1 H1 ⟨[], ks.zip ws⟩ (g ws) (g zs) Q (WE W σ) hr I1.env0 (hb s1 ws I1.kIn lw) (hrel l1 rz) q1) ?_
    intro r s' hq
    cases r with
    | ok fl =>
      cases fl with
      | ret u => exact I1.after hq
      | next => cases hq
      | brk => cases hq
      | cont => cases hq
    | error e => exact hx σ pins H1 s1 e s' I1 hq
  · obtain ⟨ds, h1, h2, h3⟩ := a1.all q1
    have lv : vs.length = n := by rw [h1.length]; exact h2
    refine ⟨lv, by rw [hlen lv], c.hs ρ, g ds, _, _, E1.nd, E1.tr, ?_, h3, fun v H' d sm dv q => hv v H' d s1 (E1.grow sm) (st1.trans (stp_grow sm)) dv q, fun e cls dd H' sm ei q => he e cls dd H' s1 (E1.grow sm) ei q⟩
    have to : ∀ {vs : List V} {ds : List PyData}, DvAll X.K (hd H1 (c.hs ρ)) vs ds → Paired (Dv X.K (hd H1 (c.hs ρ))) vs ds := by
      intro vs ds h
      induction ds generalizing vs with
      | nil => cases h; exact .nil
      | cons d ds ih => cases h with | cons a b => exact .cons a (ih b)
    have fro : ∀ {vs : List V} {ds : List PyData}, Paired (Dv X.K (hd H1 (c.hs ρ))) vs ds → DvAll X.K (hd H1 (c.hs ρ)) vs ds := by
      intro vs ds h
      induction h with
      | nil => exact .nil
      | cons a _ ih => exact .cons a ih
    exact fro (hrel lv (to h1))
/-- f(k = e, ..) where nothing is raised -/
theorem e_callKN {j : Nat} {x : Str} {ks : List Str} {g : {α : Type} → List α → List α} {F : List PyData → (PyData → Prop) → (Er → Prop) → Prop} (hrel : ∀ {α β : Type} {R : α → β → Prop} {l : List α} {m : List β}, l.length = n → Paired R l m → Paired R (g l) (g m)) (hlen : ∀ {α : Type} {l : List α}, l.length = n → (g l).length = n)
    (D : DoK X.prog X.w K X.mg X.base (L2.CX X.prog X.w) j x n (spP K n F) ks g) (hr : Room j X.A) (ha : KD Wo X W kws tl wl) (hK : X.K = K := by rfl)
    (hall : (backToKw pos (keywordEach kws X.env)).all (·.1.isSome) = true := by rfl) (hks : (backToKw pos (keywordEach kws X.env)).filterMap (·.1) = ks := by rfl) (hno : (backToKw pos (keywordEach kws X.env)).any (·.1.isNone) = false := by rfl)
    (hg : Gl X x := by rfl) (hdb : (x == ("__debug__" : Str)) = false := by decide) : ED Wo X W (.Call (.Name x p) [] kws pos) (tCallKS n (spP K n F) g (fun _ _ _ _ => False) tl) (wCallK n g (fun ds Q _ => F ds Q fun _ => False) wl) := by
  subst hK
  obtain ⟨f, fd, ps, hn, hkn, hm, hk, G, hb⟩ := D.ex
  refine ⟨⟨fun pins s σ H Q I h => ?_⟩, fun c σ H ρ s Qd Ed Q E hw hv he => ha.go c σ H ρ s _ Ed _ E hw (fun vs H1 as s1 E1 st1 a1 q1 => ?_) he⟩
  · apply wpAny_Call_Name_kw
    apply ld_glob I hg hm _ hdb
    refine PySem.W.callWith_KW0 (h₀ := X.base) I.ok.mod.kin hk hall (thn (ha.pe.run pos pins s σ H _ I h) fun ws s1 hh => ?_) hno
    obtain ⟨zs, H1, I1, rz, l1, q1⟩ := hh
    refine ⟨I1.kIn, ?_⟩
    rw [hks]
    have lw : ws.length = n := rz.length.symm.trans l1
    apply wpAny_call
    refine codeAny_mono (G.run X.A X.stack s1 H1 ⟨[], ks.zip ws⟩ (g ws) (g zs) Q (fun _ _ _ => False) hr I1.env0 (hb s1 ws I1.kIn lw) (hrel l1 rz) q1) ?_
    intro r s' hq
    cases r with
    | ok fl =>
      cases fl with
      | ret u => exact I1.after hq
      | next => cases hq
      | brk => cases hq
      | cont => cases hq
    | error e => exact pass_no X σ pins H1 s1 e s' I1 hq
  · obtain ⟨ds, h1, h2, h3⟩ := a1.all q1
    have lv : vs.length = n := by rw [h1.length]; exact h2
    refine ⟨lv, by rw [hlen lv], c.hs ρ, g ds, _, fun _ => False, E1.nd, E1.tr, ?_, h3, fun v H' d sm dv q => hv v H' d s1 (E1.grow sm) (st1.trans (stp_grow sm)) dv q, fun e cls dd H' sm ei q => q.elim⟩
    have to : ∀ {vs : List V} {ds : List PyData}, DvAll X.K (hd H1 (c.hs ρ)) vs ds → Paired (Dv X.K (hd H1 (c.hs ρ))) vs ds := by
      intro vs ds h
      induction ds generalizing vs with
      | nil => cases h; exact .nil
      | cons d ds ih => cases h with | cons a b => exact .cons a (ih b)
    have fro : ∀ {vs : List V} {ds : List PyData}, Paired (Dv X.K (hd H1 (c.hs ρ))) vs ds → DvAll X.K (hd H1 (c.hs ρ)) vs ds := by
      intro vs ds h
      induction h with
      | nil => exact .nil
      | cons a _ ih => exact .cons a ih
    exact fro (hrel lv (to h1))
end
/-! ### truth of data -/
def truD : PyData → Option Bool
  | .none => some false
  | .bool b => some b
  | .int i => some (i != 0)
  | .str x => some ((x.length : Int) != 0)
  | .list xs => some !xs.isEmpty
  | .tuple xs => some !xs.isEmpty
  | .dict ps => some !ps.isEmpty
def wTru {S : Type} (w : DE S) : DT S := fun ρ s Q E => w ρ s (fun d s1 => ∃ b, truD d = some b ∧ Q b s1) E
section
variable {S : Type} {Wo : Wd S} {X : Cx} {W : WX} {ta : TE}
theorem td_tru {e : Expr} {w : DE S} (h : ED Wo X W e ta w) (he : ∀ whole, isTrue e X.env whole = (do let v ← whole; standAt e.pos; holding [v] (truthy v)) := by intro _; rfl) : TD Wo X W e (fun σ H Q => ta σ H fun x H' => ∃ k, TruV X.K x H' k ∧ Q k H') (wTru w) := by
  obtain ⟨pa, ha⟩ := h
  refine ⟨pt_truth pa he, fun c σ H ρ s Qd Ed Q E hw hv he => ha c σ H ρ s _ Ed _ E hw (fun v H' d s' E' st' dv q => ?_) he⟩
  obtain ⟨b, hb, q⟩ := q
  refine ⟨b, ?_, hv b H' s' E' st' q⟩
  cases d with
  | none => cases dv; cases hb; rfl
  | bool b' => cases dv; cases hb; rfl
  | int i => cases dv; cases hb; rfl
  | str x => cases dv with | str o => (cases hb; exact ⟨Nat.le_trans o.1 limL_size, rfl⟩)
  | list xs =>
    cases dv with
    | lst h n g =>
      cases hb
      refine .inl ⟨_, SqL.of (hd_to _ _ _ _ h), ?_⟩
      cases g <;> rfl
  | tuple xs =>
    cases dv with
    | tup h n g =>
      cases hb
      refine .inr (.inl ⟨_, same_seqT (hd_to _ _) h, ?_⟩)
      cases g <;> rfl
  | dict ps =>
    cases dv with
    | dct h n g =>
      cases hb
      refine .inr (.inr ⟨_, hd_to _ _ _ _ h, ?_⟩)
      cases g <;> rfl
end
/-! ### f(), int of digits -/
theorem passes0 {X : Cx} {E : XK} : Passes CX0 X E := fun _ _ _ _ _ _ _ h => False.elim h
section
variable {S : Type} {Wo : Wd S} {X : Cx} {W : WX} {K : PySem.W.Frag} {tl : TA} {a : Expr} {wl : DA S} {pos p : Pos}
theorem e_call0 {j : Nat} {x : Str} {F : List PyData → (PyData → Prop) → (Er → Prop) → Prop} (D : Do X.prog X.w K X.mg X.base CX0 j x 0 (spP K 0 F)) (hr : Room j X.A) (hK : X.K = K := by rfl) (hg : Gl X x := by rfl) (hdb : (x == ("__debug__" : Str)) = false := by decide) :
    ED Wo X W (.Call (.Name x p) [] [] pos) (tCall (spP K 0 F) [] (fun _ _ _ => False) tNil) (wCallP (fun ds Q E => ds.length = 0 ∧ F ds Q fun _ => False) wNil) := by
  subst hK
  obtain ⟨f, fd, ps, h1, h2, h3, h4, h5⟩ := D.ex
  refine ⟨pe_call0 h5 hr hg h2 h3 h4 .nil passes0 hdb, fun c σ H ρ s Qd Ed Q E hw hv he => ?_⟩
  obtain ⟨_, hw⟩ := hw
  exact ⟨rfl, c.hs ρ, [], _, fun _ => False, E.nd, E.tr, .nil, hw, fun v H' d sm dv q => hv v H' d s (E.grow sm) (stp_grow sm) dv q, fun e cls dd H' sm ei q => q.elim⟩
def rInt2 : List V → Hp → VK → Prop := fun xs H Q => ((∃ i, xs = [.int i] ∧ Q (.int i) H) ∨ ∃ k, xs = [.bl k] ∧ Q (.int (if k then 1 else 0)) H) ∨ ∃ a n, xs = [.str a] ∧ PySem.intText? a = some n ∧ a.length ≤ 640 ∧ Q (.int n) H
theorem cr_int2 : CallR X (.type "int") rInt2 := by
  intro pins s σ H xs us Q I r h
  rcases h with h | h
  · exact call_int1 pins s σ H xs us Q I r h
  · exact call_int_str pins s σ H xs us Q I r h
def fInt2 : List PyData → (PyData → Prop) → Prop
  | [.int i], Q => Q (.int i)
  | [.bool b], Q => Q (.int (if b then 1 else 0))
  | [.str x], Q => ∃ n, PySem.intText? x = some n ∧ x.length ≤ 640 ∧ okI n ∧ Q (.int n)
  | _, _ => False
theorem cd_int2 : CallD K rInt2 fInt2 := by
  intro H l vs ds Qd Q ht ha hf hq
  unfold fInt2 at hf
  split at hf
  · exact .inl (cd_int (K := K) H l vs _ Qd Q ht ha hf hq)
  · exact .inl (cd_int (K := K) H l vs _ Qd Q ht ha hf hq)
  · obtain ⟨n, h1, h2, h3, h4⟩ := hf
    cases ha with
    | cons a b =>
      cases b
      cases a
      exact .inr ⟨_, n, rfl, h1, h2, hq _ H _ (Same.refl _) (.int h3) h4⟩
  · exact hf.elim
theorem e_int2 (B : Bt X.mg) (ha : AD Wo X W [a] tl wl) (hg : Gl X "int" := by rfl) (he : starEach [a] X.env = (false, eval a X.env) :: starEach [] X.env := by rfl) (hpl : (backTo pos (starEach [] X.env)).any (·.1) = false := by rfl) :
    ED Wo X W (.Call (.Name "int" p) [a] [] pos) (tCB rInt2 tl) (wCB fInt2 wl) := ed_callTy cr_int2 cd_int2 hg (B.no _ (by decide)) (by decide +kernel) ha (by decide) (by decide) he hpl
end
/-! ### two keywords the other way round -/
def swap2 {α : Type} : List α → List α
  | [a, b] => [b, a]
  | l => l
theorem swap2_rel {α β : Type} {R : α → β → Prop} : ∀ {l : List α} {m : List β}, l.length = 2 → Paired R l m → Paired R (swap2 l) (swap2 m)
  | [_, _], [_, _], _, .cons a (.cons b .nil) => .cons b (.cons a .nil)
theorem swap2_len {α : Type} : ∀ {l : List α}, l.length = 2 → (swap2 l).length = 2
  | [_, _], _ => rfl
/-! ### x, y = [..], e: the first one is a list that the body owns -/
def wParH {S : Type} (i j : Nat) (wa : DL S) (wb : DE S) : DS S := fun ρ s D => wa ρ s (fun xs s1 => wb ρ s1 (fun d s2 => ∀ p, D.nx ((ρ.set i (.own p xs)).set j (.d d)) s2) fun e s' => D.er e ρ s') fun e s' => D.er e ρ s'
section
variable {S : Type} {Wo : Wd S} {X : Cx} {W : WX} {ta tb : TE} {a b : Expr} {pos : Pos}
theorem sd_parH (i j : Nat) {x y : Str} {px py pt : Pos} {kt k2 : Nat} {pt2 : Pos} {wa : DL S} {wb : DE S} (hN : X.N.Nodup) (hi : X.N[i]? = some x) (hj : X.N[j]? = some y) (hij : i ≠ j) (h : FD Wo X W a ta wa) (hb : ED Wo X W b tb wb) (hx : X.env.scope.names.lookup x = some .local := by rfl) (hy : X.env.scope.names.lookup y = some .local := by rfl) (hc : X.calm = true := by rfl)
    (hw : swappedStores [.Tuple [.Name x px, .Name y py] kt pt] (.Tuple [a, b] k2 pt2) X.env = pure (some [x, y]) := by rfl)
    (hs : swapsWithSole [.Tuple [.Name x px, .Name y py] kt pt] (.Tuple [a, b] k2 pt2) pos.line X.env = pure false := by rfl)
    (h1 : starEach [a, b] X.env = (false, eval a X.env) :: starEach [b] X.env := by rfl) (h2 : starEach [b] X.env = (false, eval b X.env) :: starEach [] X.env := by rfl) :
    SD Wo X W (.Assign [.Tuple [.Name x px, .Name y py] kt pt] (.Tuple [a, b] k2 pt2) pos) (tPar i j (tCons ta (tCons tb tNil))) (wParH i j wa wb) :=
  ⟨ps_par hc hN hi hj hij hx hy (pa_cons h.pe (pa_cons hb.pe pa_nil h2) h1) hw hs, fun c σ H ρ s Dd D E hw to => h.go c σ H ρ s _ _ _ E hw (fun p vs H1 xs s1 E1 sm hp av n hn q1 => by
    have np := (nodup_mid.mp E1.nd).1
    have po : p ∉ owns ρ := fun z => np (List.mem_append_right _ z)
    have pw : p ∉ Wo.wa := fun z => np (List.mem_append_left _ (List.mem_append_left _ z))
    refine hb.go ((c.hide p).base H1 ρ) σ H1 ρ s1 _ (fun e s' => Dd.er e ρ s') _ E1.rebase q1 (fun v H2 d s2 E2 st2 dv q2 => ?_) ?_
    · have hp2 : H2 p = some (.lst vs) := E2.ext p _ (by
        show (if p ∈ owns ρ then none else H1 p) = some (.lst vs)
        rw [if_neg po]; exact hp) pw
      have E3 := E1.unbase E2
      have st2' : Same (hd H1 ((c.hide p).hs ρ)) (hd H2 ((c.hide p).hs ρ)) := st2
      have dv' : Dv X.K (hd H2 ((c.hide p).hs ρ)) v d := dv
      obtain ⟨E4, st4⟩ := E3.setOwn (i := i) hp2 (DvAll.same st2' _ _ av) n (hidden_new E hn)
      obtain ⟨E5, st5⟩ := E4.setD (i := j) (x := .d d) (v := v) rfl ⟨v, rfl, Dv.same st4 _ _ dv'⟩
      exact ⟨_, _, rfl, to.nx _ H2 _ s2 E5 (sm.trans (st2'.trans (st4.trans st5))) (q2 p)⟩
    · intro e cls dd H' s' E' ei q
      have E3 := (E1.unbase E').unhide
      obtain ⟨c1, d0, fs, c2, c3, c4⟩ := ei
      have sub : Same (hd H' ((c.hide p).hs ρ)) (hd H' (c.hs ρ)) := hd_sub hs_hide_sub
      exact to.er e cls dd σ H' ρ s' E3 ⟨c1, d0, fs, c2, c3, FsOk.same sub _ _ c4⟩ q) (to.err σ ρ)⟩
end
end Dt

set_option Elab.async false
set_option linter.all false
set_option autoImplicit false
set_option maxRecDepth 100000
set_option maxHeartbeats 1000000
namespace Dt
open PySem PySem.Spec PyProof.Rows L2
/-! ### repr of any data -/
def rRepr3 (K : PySem.W.Frag) : List V → Hp → VK → Prop := fun xs H Q => ∃ v d, xs = [v] ∧ Dp K H v d ∧ d.showable = true ∧ d.depth ≤ 60 ∧ d.shown.length ≤ sizeLine ∧ Q (.str d.shown) H
theorem cr_repr3 {X : Cx} {k : Nat} (hr : Room k X.A) (hG : X.A.guards = some []) : CallR X (.builtin "repr") (rRepr3 X.K) := by
  intro pins s σ H xs us Q I r h
  obtain ⟨v, d, rfl, hd, hs, hdep, hz, q⟩ := h
  match d, hd, hs, hdep, hz, q with
  | .list ds, hd, hs, hdep, hz, q =>
    cases hd with
    | lst a b => exact cr_repr hr hG pins s σ H _ us Q I r ⟨_, .list ds, rfl, .lst a b, hs, hdep, hz, q⟩
  | .tuple ds, hd, hs, hdep, hz, q =>
    cases hd with
    | tup a b => exact cr_repr hr hG pins s σ H _ us Q I r ⟨_, .tuple ds, rfl, .tup a b, hs, hdep, hz, q⟩
  | .none, hd, hs, hdep, hz, q =>
    cases hd
    cases r with
    | cons r rr =>
    cases rr
    cases r
    rw [PyData.shown_none] at q
    exact P.repr_of_none ⟨.str "None", H, I.kept (t' := s.toks + 1) (fun _ _ e => e), ⟨_, rfl⟩, q⟩
  | .bool b, hd, hs, hdep, hz, q =>
    cases hd
    cases r with
    | cons r rr =>
    cases rr
    cases r
    rw [PyData.shown_bool] at q
    exact P.repr_of_bool ⟨.str (if b then "True" else "False"), H, I.kept (t' := s.toks + 1) (fun _ _ e => e), ⟨_, rfl⟩, q⟩
  | .int i, hd, hs, hdep, hz, q =>
    cases hd
    cases r with
    | cons r rr =>
    cases rr
    obtain ⟨t, rfl⟩ := r
    rw [PyData.shown_int] at q
    simp only [PyData.showable, decide_eq_true_eq] at hs
    exact P.repr_of_int hs ⟨.str (toString i), H, I.kept (t' := s.toks + 1) (fun _ _ e => e), ⟨_, rfl⟩, q⟩
  | .str x, hd, hs, hdep, hz, q =>
    cases hd
    cases r with
    | cons r rr =>
    cases rr
    obtain ⟨t, rfl⟩ := r
    rw [PyData.shown_str] at q hz
    exact P.repr_of_str ⟨.str (reprText x), H, I.kept (t' := s.toks + 1) (fun _ _ e => e), ⟨_, rfl⟩, q⟩ hz
def fRepr3 : List PyData → (PyData → Prop) → Prop
  | [d], Q => d.depth ≤ 60 ∧ wg d ≤ limL ∧ Q (.str d.shown)
  | _, _ => False
theorem cd_repr3 {K : PySem.W.Frag} : CallD K (rRepr3 K) fRepr3 := by
  intro H l vs ds Qd Q ht ha hf hq
  unfold fRepr3 at hf
  split at hf
  · rename_i d
    obtain ⟨h2, h3, h4⟩ := hf
    cases ha with
    | cons a b =>
      cases b
      have up := Dv.same (hd_to H l) _ _ a
      have h0 := noDict_wg d h3
      have w := Dv.shownOk d _ h0 a
      have ok : okS d.shown := ⟨Nat.le_trans w.1 h3, w.2⟩
      exact ⟨_, d, rfl, Dv.dp _ _ h0 up, Dv.showable _ _ h0 up, h2, Nat.le_trans ok.1 limL_size, hq _ H _ (Same.refl _) (.str ok) h4⟩
  · exact hf.elim
section
variable {S : Type} {Wo : Wd S} {X : Cx} {W : WX} {K : PySem.W.Frag} {tl : TA} {a : Expr} {pos p : Pos} {wl : DA S} {k : Nat}
theorem e_repr3 (B : Bt X.mg) (hr : Room k X.A) (hG : X.A.guards = some []) (ha : AD Wo X W [a] tl wl) (hK : X.K = K := by rfl) (hg : Gl X "repr" := by rfl) (he : starEach [a] X.env = (false, eval a X.env) :: starEach [] X.env := by rfl) (hpl : (backTo pos (starEach [] X.env)).any (·.1) = false := by rfl) :
    ED Wo X W (.Call (.Name "repr" p) [a] [] pos) (tCB (rRepr3 K) tl) (wCB fRepr3 wl) := by subst hK; exact ed_callB (cr_repr3 hr hG) cd_repr3 hg (B.no _ (by decide)) (by decide +kernel) ha (by decide) (by decide) he hpl
end
end Dt

set_option Elab.async false
set_option linter.all false
set_option autoImplicit false
set_option maxRecDepth 100000
set_option maxHeartbeats 1000000
namespace Dt
open PySem PySem.Spec
open L2 hiding wT wNot
/-! ### words, unfolded once -/
theorem limL_eq : limL = 4194304 := rfl
theorem few_lim {n : Nat} (h : n ≤ 1000) : n ≤ limL := by rw [limL_eq]; omega
theorem rng_mem {n : Nat} {d : PyData} (hd : d ∈ rngD 0 ((n : Int)).toNat) : ∃ k : Nat, d = .int (k : Int) ∧ k < n := by
  unfold rngD at hd
  obtain ⟨k, hk, rfl⟩ := List.mem_map.mp hd
  exact ⟨k, by rw [Int.zero_add], by simpa using hk⟩
theorem rng_filter {n : Nat} (p : Nat → Bool) : ((rngD 0 ((n : Int)).toNat).filter fun d => match d with | .int i => p i.toNat | _ => false).map (fun d => d) = ((List.range n).filter p).map fun k : Nat => PyData.int (k : Int) := by
  rw [List.map_id']
  unfold rngD
  rw [List.filter_map]
  have g : ((fun d : PyData => match d with | .int i => p i.toNat | _ => false) ∘ fun i : Nat => PyData.int ((0 : Int) + (i : Nat))) = p := by
    funext k
    show p ((0 : Int) + (k : Int)).toNat = _
    rw [Int.zero_add]; rfl
  rw [g]
  simp
theorem seq_of {S : Type} {a v : DS S} {ρ : List Sl} {s : S} {D : DEnds S} (h : a ρ s { D with nx := fun ρ' s' => v ρ' s' D }) : wSeq a v ρ s D := h
theorem asg_of {S : Type} {w : DE S} {g : DG} {ρ : List Sl} {s : S} {D : DEnds S} (h : w ρ s (fun d s1 => g d ρ fun ρ' => D.nx ρ' s1) fun e s' => D.er e ρ s') : wAsg w g ρ s D := h
theorem par_of {S : Type} {i j : Nat} {w : DA S} {ρ : List Sl} {s : S} {D : DEnds S} (h : w ρ s (fun as s1 => allK as fun ds => match ds with
  | [a, b] => D.nx ((ρ.set i (.d a)).set j (.d b)) s1
  | _ => False) fun e s' => D.er e ρ s') : wPar i j w ρ s D := h
theorem cons_of {S : Type} {w : DE S} {r : DA S} {ρ : List Sl} {s : S} {Q : List Ag → S → Prop} {E : Er → S → Prop} (h : w ρ s (fun x s1 => r ρ s1 (fun as s2 => Q (.d x :: as) s2) E) E) : wCons w r ρ s Q E := h
theorem rngD_len (lo : Int) (n : Nat) : (rngD lo n).length = n := by simp [rngD]
theorem ret_of {S : Type} {w : DE S} {ρ : List Sl} {s : S} {D : DEnds S} (h : w ρ s D.rt fun e s' => D.er e ρ s') : wRet w ρ s D := h
theorem cb1_of {S : Type} {f : List PyData → (PyData → Prop) → Prop} {w : DE S} {ρ : List Sl} {s : S} {Q : PyData → S → Prop} {E : Er → S → Prop} (h : w ρ s (fun d s1 => f [d] fun z => Q z s1) E) : wCB f (wCons w wNil) ρ s Q E := h
theorem l_of {S : Type} {w : DL S} {ρ : List Sl} {s : S} {Q : PyData → S → Prop} {E : Er → S → Prop} (h : w ρ s (fun ds s1 => Q (.list ds) s1) E) : wL w ρ s Q E := h
theorem comp_of {S : Type} {w : DL S} {g : DG} {wt : DT S} {we : DE S} {vs : List Nat} {ρ : List Sl} {s : S} {Q : List PyData → S → Prop} {E : Er → S → Prop} (h0 : noOwn ρ vs = true) (h : w ρ s (fun ds s1 => wCompL g wt we vs (wipeD ρ vs) ds s1 Q) E) : wComp w g wt we vs ρ s Q E := ⟨h0, h⟩
theorem rng1_of {S : Type} {w : DE S} {ρ : List Sl} {s : S} {Q : List PyData → S → Prop} {E : Er → S → Prop} (h : w ρ s (fun d s1 => match [d] with
  | [.int j] => j ≤ 4194304 ∧ -(2 ^ 62) ≤ j ∧ Q (rngD 0 j.toNat) s1
  | _ => False) E) : wRng1 (wCons w wNil) ρ s Q E := h
theorem op_of {S : Type} {f : PyData → PyData → (PyData → Prop) → Prop} {wa wb : DE S} {ρ : List Sl} {s : S} {Q : PyData → S → Prop} {E : Er → S → Prop} (h : wa ρ s (fun x s1 => wb ρ s1 (fun y s2 => f x y fun z => Q z s2) E) E) : wOp f wa wb ρ s Q E := h
theorem c_of {S : Type} {d : PyData} {ρ : List Sl} {s : S} {Q : PyData → S → Prop} {E : Er → S → Prop} (h : Q d s) : wC d ρ s Q E := h
theorem var_of {S : Type} {i : Nat} {x : PyData} {ρ : List Sl} {s : S} {Q : PyData → S → Prop} {E : Er → S → Prop} (h0 : ρ[i]? = some (.d x)) (h : Q x s) : wVar i ρ s Q E := by
  unfold wVar
  rw [h0]; exact h
theorem for_of {S : Type} {w : DL S} {g : DG} {b : DS S} {ρ : List Sl} {s : S} {D : DEnds S} (h : w ρ s (fun ds s1 => wLoop g b ds ρ s1 D) fun e s' => D.er e ρ s') : wFor w g b ρ s D := h
theorem app_of {S : Type} {i : Nat} {w : DE S} {ρ : List Sl} {s : S} {D : DEnds S} {p : Addr} {xs : List PyData} (h0 : ρ[i]? = some (.own p xs)) (h : w ρ s (fun d s1 => xs.length < limL ∧ D.nx (ρ.set i (.own p (xs ++ [d]))) s1) fun e s' => D.er e ρ s') : wApp i w ρ s D := by
  unfold wApp
  rw [h0]; exact h
theorem tup_of {S : Type} {w : DA S} {ρ : List Sl} {s : S} {Q : PyData → S → Prop} {E : Er → S → Prop} (h : w ρ s (fun as s1 => allK as fun ds => ds.length ≤ limL ∧ Q (.tuple ds) s1) E) : wTup w ρ s Q E := h
theorem freeze_of {S : Type} {i : Nat} {w : DS S} {ρ : List Sl} {s : S} {D : DEnds S} {p : Addr} {xs : List PyData} (h0 : ρ[i]? = some (.own p xs)) (h : w (ρ.set i (.d (.list xs))) s D) : wFreeze i w ρ s D := by
  unfold wFreeze
  rw [h0]; exact h
theorem rngD_at {n i : Nat} {d : PyData} (h : (rngD 0 n)[i]? = some d) : i < n ∧ d = .int i := by
  unfold rngD at h
  rw [List.getElem?_map] at h
  by_cases c : i < n
  · rw [List.getElem?_range c] at h
    simp at h
    exact ⟨c, h.symm⟩
  · rw [List.getElem?_eq_none (by simpa using c)] at h
    cases h
theorem ifS_any {t : DT Unit} {a b : DS Unit} {ρ : List Sl} {D : DEnds Unit} (h : ∀ (Q : Bool → Unit → Prop) (E : Er → Unit → Prop), (∀ c, Q c ()) → t ρ () Q E) (ka : a ρ () D) (kb : b ρ () D) : wIfS t a b ρ () D := h _ _ fun c => by
  cases c with
  | true => rw [if_pos rfl]; exact ka
  | false => rw [if_neg (by decide)]; exact kb
theorem t_of {S : Type} {w : DE S} {ρ : List Sl} {s : S} {Q : Bool → S → Prop} {E : Er → S → Prop} (h : w ρ s (fun x s1 => match x with | .bool b => Q b s1 | _ => False) E) : wT w ρ s Q E := h
theorem tand_of {S : Type} {wa wb : DT S} {ρ : List Sl} {s : S} {Q : Bool → S → Prop} {E : Er → S → Prop} (h : wa ρ s (fun b s1 => if b = true then wb ρ s1 Q E else Q false s1) E) : wTand wa wb ρ s Q E := h
theorem tor_of {S : Type} {wa wb : DT S} {ρ : List Sl} {s : S} {Q : Bool → S → Prop} {E : Er → S → Prop} (h : wa ρ s (fun b s1 => if b = true then Q true s1 else wb ρ s1 Q E) E) : wTor wa wb ρ s Q E := h
theorem eqI_of {i j : Int} {Q : PyData → Prop} (h : Q (.bool (decide (i = j)))) : dEq (.int i) (.int j) Q := ⟨shp_i _, shp_i _, by rw [eqv_ii]; exact h⟩
theorem ss_of {S : Type} {w : DE S} {ρ : List Sl} {s : S} {Q : List PyData → S → Prop} {E : Er → S → Prop} (h : w ρ s (fun d s1 => intsOf d fun ns => ns.length ≤ 4000 ∧ ∀ ms : List Int, ms.Pairwise (· < ·) → (∀ k, k ∈ ms ↔ k ∈ ns) → Q (ms.map PyData.int) s1) E) : wSortedSet w ρ s Q E := h
theorem setF_of {S : Type} {i : Nat} {w : DL S} {ρ : List Sl} {s : S} {D : DEnds S} (h : w ρ s (fun ds s1 => ∀ p, D.nx (ρ.set i (.own p ds)) s1) fun e s' => D.er e ρ s') : wSetF i w ρ s D := h
theorem lst_of {S : Type} {w : DA S} {ρ : List Sl} {s : S} {Q : List PyData → S → Prop} {E : Er → S → Prop} (h : w ρ s (fun as s1 => allK as fun ds => ds.length ≤ limL ∧ Q ds s1) E) : wLst w ρ s Q E := h
theorem repr3_ok {d : PyData} {Q : PyData → Prop} (h2 : d.depth ≤ 60) (h3 : wg d ≤ limL) (h : Q (.str d.shown)) : fRepr3 [d] Q := ⟨h2, h3, h⟩
theorem eq_self (x : Str) {Q : PyData → Prop} (h : Q (.bool true)) : dEq (.str x) (.str x) Q := ⟨rfl, rfl, by rw [eqv_ss, decide_eq_true rfl]; exact h⟩
theorem ne_self (x : Str) {Q : PyData → Prop} (h : Q (.bool false)) : dNe (.str x) (.str x) Q := ⟨rfl, rfl, by rw [eqv_ss, decide_eq_true rfl]; exact h⟩
theorem callP1 {S : Type} {f : List PyData → (PyData → Prop) → (Er → Prop) → Prop} {w : DE S} {ρ : List Sl} {s : S} {Q : PyData → S → Prop} {E : Er → S → Prop} (h : w ρ s (fun x s1 => f [x] (fun d => Q d s1) fun e => E e s1) E) : wCallP f (wCons w wNil) ρ s Q E := h
theorem un_of {S : Type} {f : PyData → (PyData → Prop) → Prop} {w : DE S} {ρ : List Sl} {s : S} {Q : PyData → S → Prop} {E : Er → S → Prop} (h : w ρ s (fun d s1 => f d fun z => Q z s1) E) : wUn f w ρ s Q E := h
theorem ext_of {S : Type} {i : Nat} {w : DL S} {ρ : List Sl} {s : S} {D : DEnds S} {p : Addr} {xs : List PyData} (h0 : ρ[i]? = some (.own p xs)) (h : w ρ s (fun ds s1 => (xs ++ ds).length ≤ limL ∧ D.nx (ρ.set i (.own p (xs ++ ds))) s1) fun e s' => D.er e ρ s') : wExt i w ρ s D := by
  unfold wExt
  rw [h0]; exact h
theorem seqI_of {S : Type} {w : DE S} {ρ : List Sl} {s : S} {Q : List PyData → S → Prop} {E : Er → S → Prop} (h : w ρ s (fun d s1 => seqOf d fun ds => Q ds s1) E) : wSeqI w ρ s Q E := h
theorem nil_of {S : Type} {ρ : List Sl} {s : S} {Q : List Ag → S → Prop} {E : Er → S → Prop} (h : Q [] s) : wNil ρ s Q E := h
theorem len_tup {xs : List PyData} {Q : PyData → Prop} (h : Q (.int xs.length)) : fLen [.tuple xs] Q := h
theorem tru_of {S : Type} {w : DE S} {ρ : List Sl} {s : S} {Q : Bool → S → Prop} {E : Er → S → Prop} (h : w ρ s (fun d s1 => ∃ b, truD d = some b ∧ Q b s1) E) : wTru w ρ s Q E := h
theorem osN_of {S : Type} {k : Int} {ρ : List Sl} {s : S} {Q : Option Int → S → Prop} {E : Er → S → Prop} (h : Q (some (-k)) s) : oSome (wUn dNeg (wC (.int k))) ρ s Q E := h
theorem osC_of {S : Type} {k : Int} {ρ : List Sl} {s : S} {Q : Option Int → S → Prop} {E : Er → S → Prop} (h : Q (some k) s) : oSome (wC (.int k)) ρ s Q E := h
theorem os_of {S : Type} {w : DE S} {ρ : List Sl} {s : S} {Q : Option Int → S → Prop} {E : Er → S → Prop} (h : w ρ s (fun d s1 => match d with | .int i => Q (some i) s1 | _ => False) E) : oSome w ρ s Q E := h
theorem dSl_lst {xs : List PyData} {lo hi : Option Int} {Q : PyData → Prop} (h : Q (.list (cutD xs lo hi))) : dSl (.list xs) lo hi Q := h
theorem dAdd_lst' {xs ys : List PyData} {Q : PyData → Prop} (h1 : (xs ++ ys).length ≤ limL) (h : Q (.list (xs ++ ys))) : dAdd (.list xs) (.list ys) Q := ⟨h1, h⟩
theorem len_lst {xs : List PyData} {Q : PyData → Prop} (h : Q (.int xs.length)) : fLen [.list xs] Q := h
theorem ownIx_of {S : Type} {i : Nat} {w : DE S} {ρ : List Sl} {s : S} {Q : PyData → S → Prop} {E : Er → S → Prop} {p : Addr} {xs : List PyData} (h0 : ρ[i]? = some (.own p xs)) (h : w ρ s (fun d s1 => match d with
    | .int j => ∃ z, atI xs j = some z ∧ Q z s1
    | _ => False) E) : wOwnIx i w ρ s Q E := by
  unfold wOwnIx
  rw [h0]; exact h
theorem tnot_of {S : Type} {wa : DT S} {ρ : List Sl} {s : S} {Q : Bool → S → Prop} {E : Er → S → Prop} (h : wa ρ s (fun b s1 => Q (!b) s1) E) : wTnot wa ρ s Q E := h
theorem if_of {S : Type} {wc : DT S} {wa wb : DE S} {ρ : List Sl} {s : S} {Q : PyData → S → Prop} {E : Er → S → Prop} (h : wc ρ s (fun b s1 => if b = true then wa ρ s1 Q E else wb ρ s1 Q E) E) : wIf wc wa wb ρ s Q E := h
theorem ifS_f {t : DT Unit} {a : DS Unit} {ρ : List Sl} {D : DEnds Unit} (h : ∀ (Q : Bool → Unit → Prop) (E : Er → Unit → Prop), Q false () → t ρ () Q E) (k : D.nx ρ ()) : wIfS t a wNext ρ () D := h _ _ (by rw [if_neg (by decide)]; exact k)
theorem last_of {xs : List PyData} (h : xs ≠ []) : ∃ z, atI xs (-1) = some z ∧ z ∈ xs := by
  obtain ⟨l, z, rfl⟩ : ∃ l z, xs = l ++ [z] := ⟨_, _, (List.dropLast_concat_getLast h).symm⟩
  exact ⟨z, atI_last _ _, by simp⟩
theorem callP4 {S : Type} {f : List PyData → (PyData → Prop) → (Er → Prop) → Prop} {w1 w2 w3 w4 : DE S} {ρ : List Sl} {s : S} {Q : PyData → S → Prop} {E : Er → S → Prop} (h : w1 ρ s (fun a s1 => w2 ρ s1 (fun b s2 => w3 ρ s2 (fun c s3 => w4 ρ s3 (fun d s4 => f [a, b, c, d] (fun z => Q z s4) fun e => E e s4) E) E) E) E) : wCallP f (wCons w1 (wCons w2 (wCons w3 (wCons w4 wNil)))) ρ s Q E := h
theorem callP3 {S : Type} {f : List PyData → (PyData → Prop) → (Er → Prop) → Prop} {w1 w2 w3 : DE S} {ρ : List Sl} {s : S} {Q : PyData → S → Prop} {E : Er → S → Prop} (h : w1 ρ s (fun a s1 => w2 ρ s1 (fun b s2 => w3 ρ s2 (fun c s3 => f [a, b, c] (fun z => Q z s3) fun e => E e s3) E) E) E) : wCallP f (wCons w1 (wCons w2 (wCons w3 wNil))) ρ s Q E := h
theorem callP2 {S : Type} {f : List PyData → (PyData → Prop) → (Er → Prop) → Prop} {w1 w2 : DE S} {ρ : List Sl} {s : S} {Q : PyData → S → Prop} {E : Er → S → Prop} (h : w1 ρ s (fun a s1 => w2 ρ s1 (fun b s2 => f [a, b] (fun z => Q z s2) fun e => E e s2) E) E) : wCallP f (wCons w1 (wCons w2 wNil)) ρ s Q E := h
theorem rng_map {n : Nat} (f : Nat → PyData) : (rngD 0 ((n : Int)).toNat).map (fun d => match d with | .int i => f i.toNat | _ => .none) = (List.range n).map f := by
  unfold rngD
  rw [List.map_map, Int.toNat_natCast]
  refine List.map_congr_left fun k _ => ?_
  show f ((0 : Int) + (k : Int)).toNat = f k
  rw [Int.zero_add, Int.toNat_natCast]
theorem rng2_of {S : Type} {w : DA S} {ρ : List Sl} {s : S} {Q : List PyData → S → Prop} {E : Er → S → Prop} (h : w ρ s (fun as s1 => allK as fun ds => match ds with
  | [.int i, .int j] => (-1000000 ≤ i ∧ i ≤ 1000000 ∧ -1000000 ≤ j ∧ j ≤ 1000000) ∧ Q (rngD i (j - i).toNat) s1
  | _ => False) E) : wRng2 w ρ s Q E := h
theorem ftup_of {xs : List PyData} {Q : PyData → Prop} (h : Q (.tuple xs)) : fTuple [.list xs] Q := h
theorem neg_of {i : Int} {Q : PyData → Prop} (h : Q (.int (-i))) : dNeg (.int i) Q := h
theorem dMul_of {xs : List PyData} {k : Int} {Q : PyData → Prop} (h0 : xs ≠ []) (h1 : 2 ≤ k) (h2 : k ≤ 1000) (h3 : xs.length ≤ 1000) (h : Q (.tuple (List.replicate k.toNat xs).flatten)) : dMul (.tuple xs) (.int k) Q := ⟨h0, h1, h2, h3, h⟩
theorem sl_low {i : Nat} {w : DE Unit} {k : Int} {ρ : List Sl} {s : Unit} {Q : PyData → Unit → Prop} {E : Er → Unit → Prop} (h0 : ρ[i]? = some (.d (.int k))) (h : w ρ s (fun d s1 => dSl d (some k) none fun z => Q z s1) E) : wSl w (oSome (wVar i)) oNo ρ s Q E := by
  simpa [wSl, oSome, oNo, wVar, h0] using h
theorem callW_of {S : Type} {f : List Ag → S → (PyData → S → Prop) → (Er → S → Prop) → Prop} {w : DA S} {ρ : List Sl} {s : S} {Q : PyData → S → Prop} {E : Er → S → Prop} (h : w ρ s (fun as s1 => f as s1 Q E) E) : wCallW f w ρ s Q E := h
theorem sto_of {S : Type} {i : Nat} {w wi : DE S} {ρ : List Sl} {s : S} {D : DEnds S} {p : Addr} {xs : List PyData} (h0 : ρ[i]? = some (.own p xs)) (h : w ρ s (fun d s1 => wi ρ s1 (fun k s2 => match k with
    | .int j => ∃ n, ixN xs.length j = some n ∧ D.nx (ρ.set i (.own p (xs.set n d))) s2
    | _ => False) fun e s' => D.er e ρ s') fun e s' => D.er e ρ s') : wSto i w wi ρ s D := by
  unfold wSto
  rw [h0]; exact h
theorem ifS_t {t : DT Unit} {a : DS Unit} {ρ : List Sl} {D : DEnds Unit} (h : ∀ (Q : Bool → Unit → Prop) (E : Er → Unit → Prop), Q true () → t ρ () Q E) (k : a ρ () D) : wIfS t a wNext ρ () D := h _ _ (by rw [if_pos rfl]; exact k)
theorem addL_of {S : Type} {wa wb : DL S} {ρ : List Sl} {s : S} {Q : List PyData → S → Prop} {E : Er → S → Prop} (h : wa ρ s (fun xs s1 => wb ρ s1 (fun ys s2 => (xs ++ ys).length ≤ limL ∧ Q (xs ++ ys) s2) E) E) : wAddL wa wb ρ s Q E := h
theorem listOf_of {S : Type} {w : DE S} {ρ : List Sl} {s : S} {Q : List PyData → S → Prop} {E : Er → S → Prop} (h : w ρ s (fun x s1 => match [x] with
  | [.list xs] => Q xs s1
  | [.tuple xs] => Q xs s1
  | _ => False) E) : wListOf (wCons w wNil) ρ s Q E := h
theorem dRev_tup {xs : List PyData} {Q : PyData → Prop} (h : Q (.tuple xs.reverse)) : dRev (.tuple xs) Q := h
theorem dAdd_tup {xs ys : List PyData} {Q : PyData → Prop} (h1 : (xs ++ ys).length ≤ limL) (h : Q (.tuple (xs ++ ys))) : dAdd (.tuple xs) (.tuple ys) Q := ⟨h1, h⟩
theorem dAdd_lst {xs ys : List PyData} {Q : PyData → Prop} (h1 : (xs ++ ys).length ≤ limL) (h : Q (.list (xs ++ ys))) : dAdd (.list xs) (.list ys) Q := ⟨h1, h⟩
theorem dSl_tup {xs : List PyData} {lo hi : Option Int} {Q : PyData → Prop} (h : Q (.tuple (cutD xs lo hi))) : dSl (.tuple xs) lo hi Q := h
theorem seqIf_t {S : Type} {t : DT S} {a b v : DS S} {ρ : List Sl} {s : S} {D : DEnds S} (h : ∀ (Q : Bool → S → Prop) (E : Er → S → Prop), Q true s → t ρ s Q E) (k : a ρ s { D with nx := fun ρ' s' => v ρ' s' D }) : wSeq (wIfS t a b) v ρ s D := h _ _ (by rw [if_pos rfl]; exact k)
theorem seqIf_f {S : Type} {t : DT S} {a v : DS S} {ρ : List Sl} {s : S} {D : DEnds S} (h : ∀ (Q : Bool → S → Prop) (E : Er → S → Prop), Q false s → t ρ s Q E) (k : v ρ s D) : wSeq (wIfS t a wNext) v ρ s D := h _ _ (by rw [if_neg (by decide)]; exact k)
theorem seqIf_e {S : Type} {t : DT S} {a b v : DS S} {ρ : List Sl} {s : S} {D : DEnds S} (h : ∀ (Q : Bool → S → Prop) (E : Er → S → Prop), Q false s → t ρ s Q E) (k : b ρ s { D with nx := fun ρ' s' => v ρ' s' D }) : wSeq (wIfS t a b) v ρ s D := h _ _ (by rw [if_neg (by decide)]; exact k)
theorem if2_t {t : DT Unit} {a b : DS Unit} {ρ : List Sl} {s : Unit} {D : DEnds Unit} (h : ∀ (Q : Bool → Unit → Prop) (E : Er → Unit → Prop), Q true s → t ρ s Q E) (k : a ρ s D) : wIfS t a b ρ s D := h _ _ (by rw [if_pos rfl]; exact k)
theorem if2_f {t : DT Unit} {a : DS Unit} {ρ : List Sl} {s : Unit} {D : DEnds Unit} (h : ∀ (Q : Bool → Unit → Prop) (E : Er → Unit → Prop), Q false s → t ρ s Q E) (k : D.nx ρ s) : wIfS t a wNext ρ s D := h _ _ (by rw [if_neg (by decide)]; exact k)
theorem if_t {t : DT Unit} {a b : DE Unit} {ρ : List Sl} {Q : PyData → Unit → Prop} {E : Er → Unit → Prop} (h : ∀ (R : Bool → Unit → Prop) (E : Er → Unit → Prop), R true () → t ρ () R E) (k : a ρ () Q E) : wIf t a b ρ () Q E := h _ _ (by rw [if_pos rfl]; exact k)
theorem if_f {t : DT Unit} {a b : DE Unit} {ρ : List Sl} {Q : PyData → Unit → Prop} {E : Er → Unit → Prop} (h : ∀ (R : Bool → Unit → Prop) (E : Er → Unit → Prop), R false () → t ρ () R E) (k : b ρ () Q E) : wIf t a b ρ () Q E := h _ _ (by rw [if_neg (by decide)]; exact k)
theorem seq_gen {S : Type} {a v : DS S} {ρ : List Sl} {s : S} {D : DEnds S} (h : ∀ D1 : DEnds S, (∀ ρ' s', v ρ' s' D → D1.nx ρ' s') → (D1.rt = D.rt) → (D1.er = D.er) → a ρ s D1) : wSeq a v ρ s D := h _ (fun _ _ q => q) rfl rfl
theorem dTail_tup {xs : List PyData} {Q : PyData → Prop} (h : Q (.tuple (xs.drop 1).reverse)) : dTail (.tuple xs) Q := h
theorem sl_of {S : Type} {w : DE S} {wl wh : DO S} {ρ : List Sl} {s : S} {Q : PyData → S → Prop} {E : Er → S → Prop} (h : w ρ s (fun d s1 => wl ρ s1 (fun lo s2 => wh ρ s2 (fun hi s3 => dSl d lo hi fun z => Q z s3) E) E) E) : wSl w wl wh ρ s Q E := h
theorem oNo_of {S : Type} {ρ : List Sl} {s : S} {Q : Option Int → S → Prop} {E : Er → S → Prop} (h : Q none s) : oNo ρ s Q E := h
theorem wAsg_l {S : Type} {w : DE S} {i : Nat} {ρ : List Sl} {s : S} {D : DEnds S} (h : w ρ s (fun d s1 => D.nx (ρ.set i (.d d)) s1) fun e s' => D.er e ρ s') : wAsg w (gN i) ρ s D := h
theorem lstRg_of {S : Type} {w : DE S} {ρ : List Sl} {s : S} {Q : PyData → S → Prop} {E : Er → S → Prop} (h : w ρ s (fun d s1 => match d with
  | .int j => 0 ≤ j ∧ j ≤ 4194304 ∧ Q (.list (rngD 0 j.toNat)) s1
  | _ => False) E) : wLstRg w ρ s Q E := h
theorem aug_of {S : Type} {i : Nat} {w : DL S} {ρ : List Sl} {s : S} {D : DEnds S} {p : Addr} {xs : List PyData} (h0 : ρ[i]? = some (.own p xs)) (h : w ρ s (fun ds s1 => (xs ++ ds).length ≤ limL ∧ D.nx (ρ.set i (.own p (xs ++ ds))) s1) fun e s' => D.er e ρ s') : wAugL i w ρ s D := by
  unfold wAugL wExt
  rw [h0]; exact h
end Dt

set_option Elab.async false
set_option linter.all false
set_option autoImplicit false
set_option maxRecDepth 100000
set_option maxHeartbeats 1000000
namespace Dt
open PySem PySem.Spec
open L2 hiding wT wNot
/-! ### min(xs), dict([(k, v)]), xs.index(None), x, y, z = [..], [..], e -/
section
variable {K : PySem.W.Frag}
def fMinL : List PyData → (PyData → Prop) → Prop
  | [.list xs], Q => ∃ ns : List Int, xs = ns.map PyData.int ∧ ns ≠ [] ∧ (∀ m ∈ ns, okI m) ∧ ∀ m ∈ ns, (∀ a ∈ ns, m ≤ a) → Q (.int m)
  | _, _ => False
theorem cd_minL : CallD K (rMin K) fMinL := by
  intro H l vs ds Qd Q ht ha hf hq
  match ds, ha, hf with
  | [.list xs], ha, hf =>
    obtain ⟨ns, rfl, ne, ok, q⟩ := hf
    cases ha with
    | cons a b =>
    cases b
    cases a with
    | @lst p va _ h n dv =>
    have e := dv_ints dv
    subst e
    exact ⟨p, ns, rfl, SqL.of (hd_to _ _ _ _ h), List.length_pos_iff.mpr ne, fun m hm hl => hq _ H _ (Same.refl _) (.int (ok m hm)) (q m hm hl)⟩
abbrev rDict1 (K : PySem.W.Frag) : List V → Hp → VK → Prop := fun xs H Q => ∃ (a : Addr) (ps : List Addr) (kvs : List (Key × V)), xs = [.ref a] ∧ SqL K H a (ps.map V.ref) ∧ Paired (fun p kv => SqT K H p [kV kv.1, kv.2]) ps kvs ∧
    ∀ p, H p = none → Q (.ref p) (upd H p (.dK (mergeK [] kvs)))
def fDict1 : List PyData → (PyData → Prop) → Prop
  | [.list [.tuple [k, d]]], Q => ∃ kk : Key, k = kD kk ∧ Q (.dict (kvD [(kk, d)]))
  | _, _ => False
theorem cd_dict1 : CallD K (rDict1 K) fDict1 := by
  intro H l vs ds Qd Q ht ha hf hq
  match ds, ha, hf with
  | [.list [.tuple [k, d]]], ha, hf =>
    obtain ⟨kk, rfl, q⟩ := hf
    cases ha with
    | cons a b =>
    cases b
    cases a with
    | @lst p va _ h n dv =>
    cases dv with
    | cons a b =>
    cases b
    cases a with
    | @tup p2 va2 _ h2 n2 dv2 =>
    cases dv2 with
    | @cons u _ us _ a b =>
    cases b with
    | @cons u2 _ us2 _ b c =>
    cases c
    obtain ⟨e, ok⟩ := Dv.key a
    subst e
    refine ⟨p, [p2], [(kk, u2)], rfl, SqL.of (hd_to _ _ _ _ h), .cons (same_seqT (hd_to _ _) h2) .nil, fun t nt => ?_⟩
    have tn : t ∉ l := fun z => ht t z nt
    refine hq _ _ _ (same_upd nt) (.dct (kvs := [(kk, u2)]) (by rw [hd_out tn]; exact upd_same) (by rw [limL_eq]; simp [kvD]) ?_) q
    refine e_dvp (es := [(kk, d)]) ⟨rfl, Dv.same ?_ _ _ b, trivial⟩ fun x hx => by rw [List.mem_singleton.mp hx]; exact ok
    intro b o hb
    by_cases z : b ∈ l
    · rw [hd_in z] at hb; cases hb
    · rw [hd_out z] at hb ⊢
      rw [upd_ne (fun e => by rw [e, nt] at hb; cases hb)]
      exact hb
end
section
variable {S : Type} {Wo : Wd S} {X : Cx} {W : WX} {K : PySem.W.Frag} {ta tb tc te : TE} {tl : TA} {e a b d : Expr} {pos p apos cpos : Pos} {wa wb we wc : DE S} {wl : DA S}
theorem e_minL (B : Bt X.mg) (hc : X.calm = true) (ha : AD Wo X W [a] tl wl) (hK : X.K = K := by rfl) (hg : Gl X "min" := by rfl) (he : starEach [a] X.env = (false, eval a X.env) :: starEach [] X.env := by rfl) (hpl : (backTo pos (starEach [] X.env)).any (·.1) = false := by rfl) :
    ED Wo X W (.Call (.Name "min" p) [a] [] pos) (tCB (rMin K) tl) (wCB fMinL wl) := by subst hK; exact ed_callB (cr_min hc) cd_minL hg (B.no _ (by decide)) (by decide +kernel) ha (by decide) (by decide) he hpl
theorem e_dict1 (B : Bt X.mg) (hc : X.calm = true) (ha : AD Wo X W [a] tl wl) (hK : X.K = K := by rfl) (hg : Gl X "dict" := by rfl) (he : starEach [a] X.env = (false, eval a X.env) :: starEach [] X.env := by rfl) (hpl : (backTo pos (starEach [] X.env)).any (·.1) = false := by rfl) :
    ED Wo X W (.Call (.Name "dict" p) [a] [] pos) (tCB (rDict1 K) tl) (wCB fDict1 wl) := by subst hK; exact ed_callTy (call_dictP hc) cd_dict1 hg (B.no _ (by decide)) (by decide +kernel) ha (by decide) (by decide) he hpl
/-- x.index(None), x a list of ints and None -/
def wIndexN {S : Type} (wa we : DE S) : DE S := fun ρ s Q E => wa ρ s (fun x s1 => ∃ xs : List PyData, x = .list xs ∧ we ρ s1 (fun y s2 => ∃ j : Nat, y = .none ∧ xs[j]? = some .none ∧ (∀ z ∈ xs, z = .none ∨ ∃ i, z = .int i) ∧ (∀ m, m < j → xs[m]? ≠ some .none) ∧ Q (.int (j : Int)) s2) E) E
theorem dvall_back {H : Hp} : ∀ {vs : List V} {ds : List PyData}, DvAll K H vs ds → ∀ {m : Nat} {z : V}, vs[m]? = some z → ∃ d, ds[m]? = some d ∧ Dv K H z d
  | _, _, .nil, m, z, h => by simp at h
  | _, _, .cons a b, 0, z, h => by simp at h; subst h; exact ⟨_, rfl, a⟩
  | _, _, .cons a b, m + 1, z, h => dvall_back b (m := m) (by simpa using h)
theorem dvall_to {H : Hp} : ∀ {vs : List V} {ds : List PyData}, DvAll K H vs ds → ∀ {m : Nat} {d : PyData}, ds[m]? = some d → ∃ z, vs[m]? = some z ∧ Dv K H z d
  | _, _, .nil, m, z, h => by simp at h
  | _, _, .cons a b, 0, z, h => by simp at h; subst h; exact ⟨_, rfl, a⟩
  | _, _, .cons a b, m + 1, z, h => dvall_to b (m := m) (by simpa using h)
theorem e_indexN {o : Expr} (ho : ED Wo X W o ta wa) (h : ED Wo X W e te we) (hlen : limL ≤ limL := Nat.le_refl _)
    (hbase : attributeBase o "index" X.env (eval o X.env) = eval o X.env := by rfl)
    (hfew : ((backTo cpos (starEach [e] X.env)).all (fun x => !x.1) && (backToKw cpos (keywordEach [] X.env)).all (fun x => x.1.isSome)
      && decide (([e] : List Expr).length + ([] : List Keyword).length + (if ([] : List Keyword).isEmpty then 0 else 1) < 30)) = true := by rfl)
    (hline : (apos.endLine == cpos.line) = true := by rfl) (hs : starEach [e] X.env = (false, eval e X.env) :: starEach [] X.env := by rfl) (hplain : (backTo cpos (starEach [] X.env)).any (·.1) = false := by rfl) :
    ED Wo X W (.Call (.Attribute o "index" apos) [e] [] cpos) (tBM X.K "list" (rIndex X.K) ta (tCons te tNil)) (wIndexN wa we) :=
  ⟨pe_bm F.plainAttrs_list F.slot_list_index F.type_list_index mt_index ho.pe (pa_cons h.pe pa_nil hs) hbase hfew hline hs hplain, fun c σ H ρ s Qd Ed Q E hw hv he => ho.go c σ H ρ s _ _ _ E hw (fun v H1 x s1 E1 st1 dv q1 => by
    obtain ⟨xs, rfl, q1⟩ := q1
    cases dv with
    | @lst p va _ hp n dv =>
    refine ⟨.inl ⟨rfl, va, SqL.of (hd_to _ _ _ _ hp)⟩, h.go c σ H1 ρ s1 _ _ _ E1 q1 (fun u H2 y s2 E2 st2 du q2 => ?_) he⟩
    obtain ⟨j, rfl, hj, hf, hn, q2⟩ := q2
    cases du
    have hp2 : hd H2 (c.hs ρ) p = some (.lst va) := st2 _ _ hp
    have dv2 := DvAll.same st2 _ _ dv
    obtain ⟨z, hz, dz⟩ := dvall_to dv2 hj
    cases dz
    refine ⟨p, va, .non, j, .non, rfl, rfl, SqL.of (hd_to _ _ _ _ hp2), rfl, ?_, hz, rfl, fun m z' hm hz' => ?_, ?_⟩
    · refine List.all_eq_true.mpr fun w hw => ?_
      obtain ⟨m, hm⟩ := List.getElem?_of_mem hw
      obtain ⟨d, hd', dd⟩ := dvall_back dv2 hm
      rcases hf d (List.mem_of_getElem? hd') with rfl | ⟨i, rfl⟩
      · cases dd; rfl
      · cases dd; rfl
    · obtain ⟨d, hd', dd⟩ := dvall_back dv2 hz'
      rcases hf d (List.mem_of_getElem? hd') with rfl | ⟨i, rfl⟩
      · exact absurd hd' (hn m hm)
      · cases dd; rfl
    · have jl : j < xs.length := (List.getElem?_eq_some_iff.mp hj).1
      exact hv _ _ _ s2 E2 (st1.trans st2) (.int (by rw [limL_eq] at n; unfold okI; omega)) q2) he⟩
end
theorem EnvD.unbaseH {S : Type} {Wo : Wd S} {K : PySem.W.Frag} {c c2 : Cn Wo} {σ σ' : St} {H H' : Hp} {ρ : List Sl} {s s' : S} (e : c2.H0 = c.H0) (E : EnvD K c σ H ρ s) (E' : EnvD K (c2.base H ρ) σ' H' ρ s') : EnvD K c2 σ' H' ρ s' :=
  ⟨E'.len, E'.slot, E'.nd, E'.tr, E'.g, fun b o h n => E'.ext b o (by
    have h : c.H0 b = some o := by rw [← e]; exact h
    show (if b ∈ owns ρ then none else H b) = some o
    rw [if_neg fun z => by have := E.new b z; rw [h] at this; cases this]
    exact E.ext b o h n) n, fun p hp => by rw [e]; exact E.new p hp⟩
/-! ### x, y, z = [..], [..], e: the first two are lists that the body owns -/
def wPar3 {S : Type} (i j l : Nat) (wa wb : DL S) (wc : DE S) : DS S := fun ρ s D => wa ρ s (fun xs s1 => wb ρ s1 (fun ys s2 => wc ρ s2 (fun d s3 => ∀ p p2, D.nx (((ρ.set i (.own p xs)).set j (.own p2 ys)).set l (.d d)) s3) fun e s' => D.er e ρ s') fun e s' => D.er e ρ s') fun e s' => D.er e ρ s'
section
variable {S : Type} {Wo : Wd S} {X : Cx} {W : WX} {ta tb tc : TE} {a b d : Expr} {pos : Pos}
theorem sd_par3 (i j l : Nat) {x y z : Str} {px py pz pt : Pos} {kt k2 : Nat} {pt2 : Pos} {wa wb : DL S} {wc : DE S} (hN : X.N.Nodup) (hi : X.N[i]? = some x) (hj : X.N[j]? = some y) (hl : X.N[l]? = some z) (hij : i ≠ j) (hil : i ≠ l) (hjl : j ≠ l) (ha : FD Wo X W a ta wa) (hb : FD Wo X W b tb wb) (hcc : ED Wo X W d tc wc)
    (hx : X.env.scope.names.lookup x = some .local := by rfl) (hy : X.env.scope.names.lookup y = some .local := by rfl) (hz : X.env.scope.names.lookup z = some .local := by rfl) (hc : X.calm = true := by rfl)
    (hw : swappedStores [.Tuple [.Name x px, .Name y py, .Name z pz] kt pt] (.Tuple [a, b, d] k2 pt2) X.env = pure (some [x, y, z]) := by rfl)
    (hs : swapsWithSole [.Tuple [.Name x px, .Name y py, .Name z pz] kt pt] (.Tuple [a, b, d] k2 pt2) pos.line X.env = pure false := by rfl)
    (h1 : starEach [a, b, d] X.env = (false, eval a X.env) :: starEach [b, d] X.env := by rfl) (h2 : starEach [b, d] X.env = (false, eval b X.env) :: starEach [d] X.env := by rfl) (h3 : starEach [d] X.env = (false, eval d X.env) :: starEach [] X.env := by rfl) :
    SD Wo X W (.Assign [.Tuple [.Name x px, .Name y py, .Name z pz] kt pt] (.Tuple [a, b, d] k2 pt2) pos) (tPar3 i j l (tCons ta (tCons tb (tCons tc tNil)))) (wPar3 i j l wa wb wc) :=
  ⟨ps_par3 hc hN hi hj hl hij hil hjl hx hy hz (pa_cons ha.pe (pa_cons hb.pe (pa_cons hcc.pe pa_nil h3) h2) h1) hw hs, fun c σ H ρ s Dd D E hw to => ha.go c σ H ρ s _ _ _ E hw (fun p vs H1 xs s1 E1 sm1 hp av n hn q1 => by
    have np := (nodup_mid.mp E1.nd).1
    have po : p ∉ owns ρ := fun z => np (List.mem_append_right _ z)
    have pw : p ∉ Wo.wa := fun z => np (List.mem_append_left _ (List.mem_append_left _ z))
    refine hb.go ((c.hide p).base H1 ρ) σ H1 ρ s1 _ (fun e s' => Dd.er e ρ s') _ E1.rebase q1 (fun p2 vs2 H2 ys s2 E2 sm2 hp2 av2 n2 hn2 q2 => ?_) ?_
    · have E2 : EnvD X.K (((c.hide p).hide p2).base H1 ρ) σ H2 ρ s2 := E2
      have E2u : EnvD X.K ((c.hide p).hide p2) σ H2 ρ s2 := EnvD.unbaseH (c := c.hide p) (c2 := (c.hide p).hide p2) rfl E1 E2
      have np2 := (nodup_mid.mp E2u.nd).1
      have po2 : p2 ∉ owns ρ := fun z => np2 (List.mem_append_right _ z)
      have pw2 : p2 ∉ Wo.wa := fun z => np2 (List.mem_append_left _ (List.mem_append_left _ z))
      have hpH2 : H2 p = some (.lst vs) := E2.ext p _ (by
        show (if p ∈ owns ρ then none else H1 p) = some (.lst vs)
        rw [if_neg po]; exact hp) pw
      refine hcc.go (((c.hide p).hide p2).base H2 ρ) σ H2 ρ s2 _ (fun e s' => Dd.er e ρ s') _ E2u.rebase q2 (fun v H3 d s3 E3 st3 dv q3 => ?_) ?_
      · have hpH3 : H3 p = some (.lst vs) := E3.ext p _ (by
          show (if p ∈ owns ρ then none else H2 p) = some (.lst vs)
          rw [if_neg po]; exact hpH2) pw
        have hp2H3 : H3 p2 = some (.lst vs2) := E3.ext p2 _ (by
          show (if p2 ∈ owns ρ then none else H2 p2) = some (.lst vs2)
          rw [if_neg po2]; exact hp2) pw2
        have E3u := E2u.unbase E3
        have sm2' : Same (hd H1 ((c.hide p).hs ρ)) (hd H2 (((c.hide p).hide p2).hs ρ)) := sm2
        have st3' : Same (hd H2 (((c.hide p).hide p2).hs ρ)) (hd H3 (((c.hide p).hide p2).hs ρ)) := st3
        have dv' : Dv X.K (hd H3 (((c.hide p).hide p2).hs ρ)) v d := dv
        have av2' : DvAll X.K (hd H2 (((c.hide p).hide p2).hs ρ)) vs2 ys := av2
        obtain ⟨E4, st4⟩ := E3u.setOwn (i := j) hp2H3 (DvAll.same st3' _ _ av2') n2 (hidden_new E1 hn2)
        obtain ⟨E5, st5⟩ := E4.setOwn (i := i) hpH3 (DvAll.same (sm2'.trans (st3'.trans st4)) _ _ av) n (hidden_new E hn)
        obtain ⟨E6, st6⟩ := E5.setD (i := l) (x := .d d) (v := v) rfl ⟨v, rfl, Dv.same (st4.trans st5) _ _ dv'⟩
        rw [List.set_comm _ _ (Ne.symm hij)] at E6
        refine ⟨_, _, _, rfl, to.nx _ H3 _ s3 E6 (sm1.trans (sm2'.trans (st3'.trans (st4.trans (st5.trans st6))))) ?_⟩
        rw [List.set_comm _ _ (Ne.symm hij)]
        exact q3 p p2
      · intro e cls dd H' s' E' ei q
        have E4 := (E2u.unbase E').unhide.unhide
        obtain ⟨c1, d0, fs, c2, c3, c4⟩ := ei
        have sub : Same (hd H' (((c.hide p).hide p2).hs ρ)) (hd H' (c.hs ρ)) := hd_sub fun a h => hs_hide_sub a (hs_hide_sub a h)
        exact to.er e cls dd σ H' ρ s' E4 ⟨c1, d0, fs, c2, c3, FsOk.same sub _ _ c4⟩ q
    · intro e cls dd H' s' E' ei q
      have E3 := (E1.unbase E').unhide
      obtain ⟨c1, d0, fs, c2, c3, c4⟩ := ei
      have sub : Same (hd H' ((c.hide p).hs ρ)) (hd H' (c.hs ρ)) := hd_sub hs_hide_sub
      exact to.er e cls dd σ H' ρ s' E3 ⟨c1, d0, fs, c2, c3, FsOk.same sub _ _ c4⟩ q) (to.err σ ρ)⟩
end
end Dt

set_option Elab.async false
set_option linter.all false
set_option autoImplicit false
set_option maxRecDepth 100000
set_option maxHeartbeats 1000000
namespace Dt
open PySem PySem.Spec
open L2 hiding wT wNot
/-! ### what is walked within a world -/
structure ItG (K : PySem.W.Frag) {S : Type} (Wo : Wd S) (l : List Addr) (H1 : Hp) (J : It) (ds : List PyData) : Prop where
  go : ∀ (s : S) (l' : List Addr) (H : Hp) (i : Nat), Wo.G s H → Same (hd H1 l) (hd H l') → i < ds.length → J.go i H
  stop : ∀ (s : S) (l' : List Addr) (H : Hp) (i : Nat), Wo.G s H → Same (hd H1 l) (hd H l') → ds.length ≤ i → J.stop i H
  yld : ∀ (s : S) (l' : List Addr) (H : Hp) (i : Nat) (x : V) (H' : Hp) (d : PyData), Wo.G s H → Same (hd H1 l) (hd H l') → (∀ a ∈ l', H a ≠ none) → J.yld i H x H' → ds[i]? = some d → Same H H' ∧ Dv K (hd H' l') x d
structure IG {S : Type} (Wo : Wd S) (X : Cx) (W : WX) (tg iter : Expr) (wi : TI) (w : DL S) : Prop where
  pe : PI X tg iter wi
  go : ∀ (c : Cn Wo) σ H ρ s Qd Ed R, EnvD X.K c σ H ρ s → w ρ s Qd Ed →
    (∀ J H1 ds s1, EnvD X.K c σ H1 ρ s1 → Stp c ρ ρ H H1 → ItG X.K Wo (c.hs ρ) H1 J ds → ds.length ≤ limL → Qd ds s1 → R J H1) → ErTo X.K c σ ρ Ed W → wi σ H R
theorem ID.g {S : Type} {Wo : Wd S} {X : Cx} {W : WX} {tg iter : Expr} {wi : TI} {w : DL S} (h : ID Wo X W tg iter wi w) : IG Wo X W tg iter wi w :=
  ⟨h.pe, fun c σ H ρ s Qd Ed R E hw hr he => h.go c σ H ρ s Qd Ed R E hw (fun J H1 ds s1 E1 st it n q => hr J H1 ds s1 E1 st ⟨fun s l' H i _ a b => it.go l' H i a b, fun s l' H i _ a b => it.stop l' H i a b, fun s l' H i x H' d _ a b c' e => it.yld l' H i x H' d a b c' e⟩ n q) he⟩
theorem dve_same {K : PySem.W.Frag} {H H' : Hp} {κ : Type} [DecidableEq κ] (e : Same H H') : ∀ {r : List (κ × V)} {t : List (κ × PyData)}, DvE K H r t → DvE K H' r t
  | [], [], _ => trivial
  | (_, _) :: r, (_, d) :: t, h => ⟨h.1, Dv.same e d _ h.2.1, dve_same e h.2.2⟩
  | [], _ :: _, h => h.elim
  | _ :: _, [], h => h.elim
/-! ### {k: e for tg in iter if ..} -/
def wDcL {S : Type} (g : DG) (wt : DT S) (wk we : DE S) (vs : List Nat) (ρ : List Sl) : List PyData → S → List (Key × PyData) → (List (Key × PyData) → S → Prop) → Prop
  | [], s, acc, Q => Q acc s
  | d :: ds, s, acc, Q => g d ρ fun ρ1 => noOwn ρ1 vs = true ∧ wt ρ1 s (fun b s1 => if b = true then wk ρ1 s1 (fun y s2 => we ρ1 s2 (fun z s3 => ∃ k, y = kD k ∧ wDcL g wt wk we vs ρ ds s3 (pt acc k z) Q) noE) noE else wDcL g wt wk we vs ρ ds s1 acc Q) noE
def wDc {S : Type} (w : DL S) (g : DG) (wt : DT S) (wk we : DE S) (vs : List Nat) : DE S := fun ρ s Q E => noOwn ρ vs = true ∧ w ρ s (fun ds s1 => wDcL g wt wk we vs (wipeD ρ vs) ds s1 [] fun es s2 => Q (.dict (kvD es)) s2) E
section
variable {S : Type} {Wo : Wd S} {X : Cx} {W : WX} {ta tb tc te : TE} {tt : TT} {t u : TS} {wi : TI} {tg iter e elt : Expr} {body : List Stmt} {pos : Pos}
theorem tLcG_go {w : DL S} {g : TG} {ns : List Nat} {gd : DG} {wt : DT S} {we : DE S} {vs : List Nat} {X' : Cx} (hK : X'.K = X.K) (hns : ∀ i ∈ ns, i ∈ vs)
    (hi : IG Wo X W tg iter wi w) (hg : ∀ (c : Cn Wo) σ H ρ s v d Qd Q, EnvD X.K c σ H ρ s → Dv X.K (hd H (c.hs ρ)) v d → gd d ρ Qd → (∀ σ' ρ', EnvD X.K c σ' H ρ' s → Stp c ρ ρ' H H → Only1 ns σ σ' ρ ρ' → Qd ρ' → Q σ' H) → g v σ H Q)
    (ht : ∀ (c : Cn Wo) σ H ρ s Qd Ed Q, EnvD X.K c σ H ρ s → wt ρ s Qd Ed → BTo X.K c σ H ρ Qd Q → ErTo X.K c σ ρ Ed WF → tt σ H Q)
    (he : ∀ (c : Cn Wo) σ H ρ s Qd Ed Q, EnvD X.K c σ H ρ s → we ρ s Qd Ed → VTo X.K c σ H ρ Qd Q → ErTo X.K c σ ρ Ed WF → te σ H Q)
    {c : Cn Wo} {σ : St} {H : Hp} {ρ : List Sl} {s : S} {Qd : List PyData → S → Prop} {Ed : Er → S → Prop} {Q : VK} (E : EnvD X.K c σ H ρ s) (hw : wComp w gd wt we vs ρ s Qd Ed)
    (hq : ∀ p ws H' ds s', EnvD X.K (c.hide p) σ H' ρ s' → Same (hd H (c.hs ρ)) (hd H' ((c.hide p).hs ρ)) → H' p = some (.lst ws) → DvAll X.K (hd H' ((c.hide p).hs ρ)) ws ds → ds.length ≤ limL → H p = none → Qd ds s' → Q (.ref p) H')
    (her : ErTo X.K c σ ρ Ed W) : tLc wi g tt te vs σ H Q := by
  obtain ⟨hno, hw⟩ := hw
  refine hi.go c σ H ρ s _ _ _ E hw (fun J H1 ds s1 E1 st1 it n1 q1 => fun D hD => ?_) her
  have hDH : H D = none := by
    cases q : H D with
    | none => rfl
    | some u =>
      by_cases z : D ∈ c.hs ρ
      · exact absurd hD (E1.tr D z)
      · have := hd_to _ _ _ _ (st1 D u (hd_some.mpr ⟨z, q⟩))
        rw [hD] at this; cases this
  have hD0 : c.H0 D = none := by
    cases q : c.H0 D with
    | none => rfl
    | some u =>
      by_cases z : D ∈ c.W.wa
      · exact absurd hD (E1.tr D (List.mem_append_left _ (List.mem_append_left _ z)))
      · have := E1.ext D u q z
        rw [hD] at this; cases this
  obtain ⟨E2, sm2⟩ := E1.hideNew (o := .lst []) hD
  have eo := owns_wipe hno
  have eh : (c.hide D).hs (wipeD ρ vs) = (c.hide D).hs ρ := by show _ ++ owns _ = _; rw [eo]
  have E3 := E2.wipe hno
  refine ⟨fun i m H' => m = ds.length - i ∧ i ≤ ds.length ∧ ∃ s' acc ws, EnvD X.K (c.hide D) (wipe σ vs) H' (wipeD ρ vs) s' ∧ Same (hd H1 (c.hs ρ)) (hd H' ((c.hide D).hs ρ)) ∧ H' D = some (.lst ws) ∧ DvAll X.K (hd H' ((c.hide D).hs ρ)) ws acc ∧ acc.length ≤ i ∧
    wCompL gd wt we vs (wipeD ρ vs) (ds.drop i) s' (fun ys s'' => Qd (acc ++ ys) s''), ⟨_, rfl, Nat.zero_le _, s1, [], [], E3, sm2, upd_same, .nil, Nat.zero_le _, q1⟩, ?_⟩
  rintro i m H' ⟨rfl, hi', s', acc, ws, E', sm', hDl, hacc, hlen, q'⟩
  by_cases hlt : i < ds.length
  · refine .inr ⟨it.go s' _ _ _ E'.g sm' hlt, fun H2 => ∃ s2 acc2 ws2, EnvD X.K (c.hide D) (wipe σ vs) H2 (wipeD ρ vs) s2 ∧ Same (hd H1 (c.hs ρ)) (hd H2 ((c.hide D).hs ρ)) ∧ H2 D = some (.lst ws2) ∧ DvAll X.K (hd H2 ((c.hide D).hs ρ)) ws2 acc2 ∧ acc2.length ≤ i + 1 ∧
      wCompL gd wt we vs (wipeD ρ vs) (ds.drop (i + 1)) s2 (fun ys s'' => Qd (acc2 ++ ys) s''), fun H2 ⟨s2, acc2, ws2, a, b, c', d, e, f⟩ => ⟨ds.length - (i + 1), by omega, rfl, hlt, s2, acc2, ws2, a, b, c', d, e, f⟩, fun x H2 y => ?_⟩
    have tr' : ∀ a ∈ (c.hide D).hs ρ, H' a ≠ none := fun a ha => E'.tr a (eh ▸ ha)
    obtain ⟨sm, dv⟩ := it.yld s' _ _ _ _ _ ds[i] E'.g sm' tr' y (List.getElem?_eq_getElem hlt)
    rw [drop_cons hlt] at q'
    have E4 := E'.grow sm
    have hDl2 : H2 D = some (.lst ws) := sm _ _ hDl
    have st4 : Same (hd H' ((c.hide D).hs ρ)) (hd H2 ((c.hide D).hs ρ)) := hd_same _ fun b u _ q => sm b u q
    refine hg (c.hide D) (wipe σ vs) H2 (wipeD ρ vs) s' x ds[i] _ _ E4 (by rw [eh]; exact dv) q' fun σ5 ρ5 E5 st5 o5 q5 => ?_
    obtain ⟨hno5, q5⟩ := q5
    obtain ⟨w5, d5⟩ := o5 vs hns
    have w5' : wipe σ5 vs = wipe σ vs := by
      rw [w5]
      have : ∀ us : List Nat, (∀ i ∈ us, i ∈ vs) → wipe (wipe σ us) vs = wipe σ vs := by
        intro us
        induction us with
        | nil => intro _; rfl
        | cons a us ih =>
          intro h
          show wipe ((wipe σ us).set a none) vs = _
          rw [wipe_set (h a List.mem_cons_self), ih fun i hi => h i (List.mem_cons_of_mem _ hi)]
      exact this vs fun _ h => h
    have d5' : wipeD ρ5 vs = wipeD ρ vs := by
      rw [d5]
      have : ∀ us : List Nat, (∀ i ∈ us, i ∈ vs) → wipeD (wipeD ρ us) vs = wipeD ρ vs := by
        intro us
        induction us with
        | nil => intro _; rfl
        | cons a us ih =>
          intro h
          show wipeD ((wipeD ρ us).set a .no) vs = _
          rw [wipeD_set (h a List.mem_cons_self), ih fun i hi => h i (List.mem_cons_of_mem _ hi)]
      exact this vs fun _ h => h
    refine ⟨by rw [w5'], ?_⟩
    have eo5 : owns ρ5 = owns ρ := by rw [← owns_wipe hno5, d5', eo]
    have eh5 : (c.hide D).hs ρ5 = (c.hide D).hs ρ := by show _ ++ owns _ = _; rw [eo5]
    have DR : D ∉ owns ρ5 := fun z => by
      rw [eo5] at z
      exact (nodup_mid.mp E2.nd).1 (List.mem_append_right _ z)
    have Dw : D ∉ Wo.wa := fun z => (nodup_mid.mp E2.nd).1 (List.mem_append_left _ (List.mem_append_left _ z))
    -- the heap behind an evaluation within the turn
    have back : ∀ {H6 : Hp} {s6 : S}, EnvD X.K ((c.hide D).base H2 ρ5) σ5 H6 ρ5 s6 → Stp ((c.hide D).base H2 ρ5) ρ5 ρ5 H2 H6 → H6 D = some (.lst ws) ∧ EnvD X.K (c.hide D) σ5 H6 ρ5 s6 ∧ Same (hd H2 ((c.hide D).hs ρ)) (hd H6 ((c.hide D).hs ρ)) := fun {H6 s6} E6 st6 => by
      refine ⟨E6.ext D _ ?_ Dw, E5.unbase E6, ?_⟩
      · show (if D ∈ owns ρ5 then none else H2 D) = some (.lst ws)
        rw [if_neg DR]; exact hDl2
      · have := st6
        unfold Stp at this
        rw [Cn.hs_base, eh5] at this
        exact this
    refine ht ((c.hide D).base H2 ρ5) σ5 H2 ρ5 s' _ _ _ E5.rebase q5 (fun b H6 s6 E6 st6 q6 => ?_) fun _ _ _ _ _ _ _ z => z.elim
    cases b with
    | true =>
      rw [if_pos rfl] at q6 ⊢
      refine he ((c.hide D).base H2 ρ5) σ5 H6 ρ5 s6 _ _ _ E6 q6 (fun v H7 d7 s7 E7 st7 dv7 q7 => ?_) fun _ _ _ _ _ _ _ z => z.elim
      obtain ⟨hD7, E7', sm7⟩ := back E7 (st6.trans st7)
      have n7 : acc.length < sizeLine := Nat.lt_of_le_of_lt hlen (Nat.lt_of_lt_of_le hlt (Nat.le_trans n1 limL_size))
      have dv7 : Dv X.K (hd H7 ((c.hide D).hs ρ)) v d7 := by
        rw [Cn.hs_base, eh5] at dv7
        exact dv7
      obtain ⟨E8, e8⟩ := E7'.updHid (o := .lst (ws ++ [v])) hD0 ⟨_, hD7⟩
      rw [eh5] at e8
      have E9 := E8.wipe hno5
      rw [w5', d5'] at E9
      refine ⟨ws, hD7, by rw [hacc.length]; exact n7, s7, acc ++ [d7], ws ++ [v], E9, ?_, upd_same, ?_, by rw [List.length_append, List.length_singleton]; omega, ?_⟩
      · rw [e8]; exact sm'.trans (st4.trans sm7)
      · rw [e8]; exact (DvAll.same (st4.trans sm7) _ _ hacc).append (.cons dv7 .nil)
      · have e : (fun (ys : List PyData) (s'' : S) => Qd ((acc ++ [d7]) ++ ys) s'') = fun ys s'' => Qd (acc ++ (d7 :: ys)) s'' := by
          funext ys s''
          rw [List.append_assoc]; rfl
        rw [e]
        exact q7
    | false =>
      rw [if_neg Bool.false_ne_true] at q6 ⊢
      obtain ⟨hD7, E7', sm7⟩ := back E6 st6
      have E9 := E7'.wipe hno5
      rw [w5', d5'] at E9
      exact ⟨s6, acc, ws, E9, sm'.trans (st4.trans sm7), hD7, DvAll.same (st4.trans sm7) _ _ hacc, Nat.le_succ_of_le hlen, q6⟩
  · have e : i = ds.length := by omega
    subst e
    rw [List.drop_length] at q'
    have q' : Qd (acc ++ []) s' := q'
    rw [List.append_nil] at q'
    refine .inl ⟨it.stop s' _ _ _ E'.g sm' (Nat.le_refl _), hq D ws H' acc s' (E1.unwipe hno E' sm') (st1.trans sm') hDl hacc (Nat.le_trans hlen n1) hDH q'⟩
theorem fd_lcG {ifs : List Expr} {scope : Scope} {own : List (Str × Nat)} {w : DL S} {g : TG} {ns : List Nat} {gd : DG} {wt : DT S} {we : DE S} (hc : X.calm = true) (hN : X.N.Nodup) (hi : IG Wo X W tg iter wi w) (ok : BlkOk X.N X.env.scope scope own)
    (hg : ∀ (s : Shared) (H : Hp) (C : Addr) (cl : List (Str × Addr)) (fp : List Addr), GD Wo (X.blk s H scope (compEnvC scope cl C X.env) fp) tg g ns gd)
    (ht : ∀ (s : Shared) (H : Hp) (C : Addr) (cl : List (Str × Addr)) (fp : List Addr), PTD Wo (X.blk s H scope (compEnvC scope cl C X.env) fp) WF ifs tt wt)
    (he : ∀ (s : Shared) (H : Hp) (C : Addr) (cl : List (Str × Addr)) (fp : List Addr), ED Wo (X.blk s H scope (compEnvC scope cl C X.env) fp) WF elt te we) (hns : ∀ i ∈ ns, i ∈ own.map (·.2)) (hs : ∀ x, foldedSetIterable iter X.env x = pure x := by intro _; rfl) :
    FD Wo X W (.ListComp elt [⟨tg, iter, ifs, 0⟩] scope pos) (tLc wi g tt te (own.map (·.2))) (wComp w gd wt we (own.map (·.2))) :=
  ⟨pe_lc hc hN hi.pe ok (fun s H C cl fp => (hg s H C cl fp).pe) (fun s H C cl fp => (ht s H C cl fp).pe) (fun s H C cl fp => (he s H C cl fp).pe) hs, fun c σ H ρ s Qd Ed Q E hw hq her =>
    tLcG_go (X' := X) rfl hns hi (hg X.s_0 (fun _ => none) 0 [] []).go (ht X.s_0 (fun _ => none) 0 [] []).go (he X.s_0 (fun _ => none) 0 [] []).go E hw hq her⟩
theorem tDcG_go {w : DL S} {g : TG} {ns : List Nat} {gd : DG} {wt : DT S} {wk we : DE S} {tk : TE} {vs : List Nat} {X' : Cx} (hK : X'.K = X.K) (hns : ∀ i ∈ ns, i ∈ vs)
    (hi : IG Wo X W tg iter wi w) (hg : ∀ (c : Cn Wo) σ H ρ s v d Qd Q, EnvD X.K c σ H ρ s → Dv X.K (hd H (c.hs ρ)) v d → gd d ρ Qd → (∀ σ' ρ', EnvD X.K c σ' H ρ' s → Stp c ρ ρ' H H → Only1 ns σ σ' ρ ρ' → Qd ρ' → Q σ' H) → g v σ H Q)
    (ht : ∀ (c : Cn Wo) σ H ρ s Qd Ed Q, EnvD X.K c σ H ρ s → wt ρ s Qd Ed → BTo X.K c σ H ρ Qd Q → ErTo X.K c σ ρ Ed WF → tt σ H Q)
    (hk : ∀ (c : Cn Wo) σ H ρ s Qd Ed Q, EnvD X.K c σ H ρ s → wk ρ s Qd Ed → VTo X.K c σ H ρ Qd Q → ErTo X.K c σ ρ Ed WF → tk σ H Q)
    (he : ∀ (c : Cn Wo) σ H ρ s Qd Ed Q, EnvD X.K c σ H ρ s → we ρ s Qd Ed → VTo X.K c σ H ρ Qd Q → ErTo X.K c σ ρ Ed WF → te σ H Q)
    {c : Cn Wo} {σ : St} {H : Hp} {ρ : List Sl} {s : S} {Qd : List (Key × PyData) → S → Prop} {Ed : Er → S → Prop} {Q : VK} (E : EnvD X.K c σ H ρ s) (hw : noOwn ρ vs = true ∧ w ρ s (fun ds s1 => wDcL gd wt wk we vs (wipeD ρ vs) ds s1 [] Qd) Ed)
    (hq : ∀ p ws H' ds s', EnvD X.K (c.hide p) σ H' ρ s' → Same (hd H (c.hs ρ)) (hd H' ((c.hide p).hs ρ)) → H' p = some (.dK ws) → DvE X.K (hd H' ((c.hide p).hs ρ)) ws ds → (∀ e ∈ ds, okK e.1) → ds.length ≤ limL → H p = none → Qd ds s' → Q (.ref p) H')
    (her : ErTo X.K c σ ρ Ed W) : tDc wi g tt tk te vs σ H Q := by
  obtain ⟨hno, hw⟩ := hw
  refine hi.go c σ H ρ s _ _ _ E hw (fun J H1 ds s1 E1 st1 it n1 q1 => fun D hD => ?_) her
  have hDH : H D = none := by
    cases q : H D with
    | none => rfl
    | some u =>
      by_cases z : D ∈ c.hs ρ
      · exact absurd hD (E1.tr D z)
      · have := hd_to _ _ _ _ (st1 D u (hd_some.mpr ⟨z, q⟩))
        rw [hD] at this; cases this
  have hD0 : c.H0 D = none := by
    cases q : c.H0 D with
    | none => rfl
    | some u =>
      by_cases z : D ∈ c.W.wa
      · exact absurd hD (E1.tr D (List.mem_append_left _ (List.mem_append_left _ z)))
      · have := E1.ext D u q z
        rw [hD] at this; cases this
  obtain ⟨E2, sm2⟩ := E1.hideNew (o := .dK []) hD
  have eo := owns_wipe hno
  have eh : (c.hide D).hs (wipeD ρ vs) = (c.hide D).hs ρ := by show _ ++ owns _ = _; rw [eo]
  have E3 := E2.wipe hno
  refine ⟨fun i m H' => m = ds.length - i ∧ i ≤ ds.length ∧ ∃ s' acc ws, EnvD X.K (c.hide D) (wipe σ vs) H' (wipeD ρ vs) s' ∧ Same (hd H1 (c.hs ρ)) (hd H' ((c.hide D).hs ρ)) ∧ H' D = some (.dK ws) ∧ (DvE X.K (hd H' ((c.hide D).hs ρ)) ws acc ∧ ∀ e ∈ acc, okK e.1) ∧ acc.length ≤ i ∧
    wDcL gd wt wk we vs (wipeD ρ vs) (ds.drop i) s' acc Qd, ⟨_, rfl, Nat.zero_le _, s1, [], [], E3, sm2, upd_same, ⟨trivial, fun _ z => nomatch z⟩, Nat.zero_le _, q1⟩, ?_⟩
  rintro i m H' ⟨rfl, hi', s', acc, ws, E', sm', hDl, hacc, hlen, q'⟩
  by_cases hlt : i < ds.length
  · refine .inr ⟨it.go s' _ _ _ E'.g sm' hlt, fun H2 => ∃ s2 acc2 ws2, EnvD X.K (c.hide D) (wipe σ vs) H2 (wipeD ρ vs) s2 ∧ Same (hd H1 (c.hs ρ)) (hd H2 ((c.hide D).hs ρ)) ∧ H2 D = some (.dK ws2) ∧ (DvE X.K (hd H2 ((c.hide D).hs ρ)) ws2 acc2 ∧ ∀ e ∈ acc2, okK e.1) ∧ acc2.length ≤ i + 1 ∧
      wDcL gd wt wk we vs (wipeD ρ vs) (ds.drop (i + 1)) s2 acc2 Qd, fun H2 ⟨s2, acc2, ws2, a, b, c', d, e, f⟩ => ⟨ds.length - (i + 1), by omega, rfl, hlt, s2, acc2, ws2, a, b, c', d, e, f⟩, fun x H2 y => ?_⟩
    have tr' : ∀ a ∈ (c.hide D).hs ρ, H' a ≠ none := fun a ha => E'.tr a (eh ▸ ha)
    obtain ⟨sm, dv⟩ := it.yld s' _ _ _ _ _ ds[i] E'.g sm' tr' y (List.getElem?_eq_getElem hlt)
    rw [drop_cons hlt] at q'
    have E4 := E'.grow sm
    have hDl2 : H2 D = some (.dK ws) := sm _ _ hDl
    have st4 : Same (hd H' ((c.hide D).hs ρ)) (hd H2 ((c.hide D).hs ρ)) := hd_same _ fun b u _ q => sm b u q
    refine hg (c.hide D) (wipe σ vs) H2 (wipeD ρ vs) s' x ds[i] _ _ E4 (by rw [eh]; exact dv) q' fun σ5 ρ5 E5 st5 o5 q5 => ?_
    obtain ⟨hno5, q5⟩ := q5
    obtain ⟨w5, d5⟩ := o5 vs hns
    have w5' : wipe σ5 vs = wipe σ vs := by
      rw [w5]
      have : ∀ us : List Nat, (∀ i ∈ us, i ∈ vs) → wipe (wipe σ us) vs = wipe σ vs := by
        intro us
        induction us with
        | nil => intro _; rfl
        | cons a us ih =>
          intro h
          show wipe ((wipe σ us).set a none) vs = _
          rw [wipe_set (h a List.mem_cons_self), ih fun i hi => h i (List.mem_cons_of_mem _ hi)]
      exact this vs fun _ h => h
    have d5' : wipeD ρ5 vs = wipeD ρ vs := by
      rw [d5]
      have : ∀ us : List Nat, (∀ i ∈ us, i ∈ vs) → wipeD (wipeD ρ us) vs = wipeD ρ vs := by
        intro us
        induction us with
        | nil => intro _; rfl
        | cons a us ih =>
          intro h
          show wipeD ((wipeD ρ us).set a .no) vs = _
          rw [wipeD_set (h a List.mem_cons_self), ih fun i hi => h i (List.mem_cons_of_mem _ hi)]
      exact this vs fun _ h => h
    refine ⟨by rw [w5'], ?_⟩
    have eo5 : owns ρ5 = owns ρ := by rw [← owns_wipe hno5, d5', eo]
    have eh5 : (c.hide D).hs ρ5 = (c.hide D).hs ρ := by show _ ++ owns _ = _; rw [eo5]
    have DR : D ∉ owns ρ5 := fun z => by
      rw [eo5] at z
      exact (nodup_mid.mp E2.nd).1 (List.mem_append_right _ z)
    have Dw : D ∉ Wo.wa := fun z => (nodup_mid.mp E2.nd).1 (List.mem_append_left _ (List.mem_append_left _ z))
    -- the heap behind an evaluation within the turn
    have back : ∀ {H6 : Hp} {s6 : S}, EnvD X.K ((c.hide D).base H2 ρ5) σ5 H6 ρ5 s6 → Stp ((c.hide D).base H2 ρ5) ρ5 ρ5 H2 H6 → H6 D = some (.dK ws) ∧ EnvD X.K (c.hide D) σ5 H6 ρ5 s6 ∧ Same (hd H2 ((c.hide D).hs ρ)) (hd H6 ((c.hide D).hs ρ)) := fun {H6 s6} E6 st6 => by
      refine ⟨E6.ext D _ ?_ Dw, E5.unbase E6, ?_⟩
      · show (if D ∈ owns ρ5 then none else H2 D) = some (.dK ws)
        rw [if_neg DR]; exact hDl2
      · have := st6
        unfold Stp at this
        rw [Cn.hs_base, eh5] at this
        exact this
    refine ht ((c.hide D).base H2 ρ5) σ5 H2 ρ5 s' _ _ _ E5.rebase q5 (fun b H6 s6 E6 st6 q6 => ?_) fun _ _ _ _ _ _ _ z => z.elim
    cases b with
    | true =>
      rw [if_pos rfl] at q6 ⊢
      refine hk ((c.hide D).base H2 ρ5) σ5 H6 ρ5 s6 _ _ _ E6 q6 (fun y7 H7 dk7 s7 E7 st7 dk q7 => ?_) fun _ _ _ _ _ _ _ z => z.elim
      refine he ((c.hide D).base H2 ρ5) σ5 H7 ρ5 s7 _ _ _ E7 q7 (fun v H8 d8 s8 E8 st8 dv8 q8 => ?_) fun _ _ _ _ _ _ _ z => z.elim
      obtain ⟨kk, rfl, q8⟩ := q8
      obtain ⟨ku, ok⟩ := Dv.key dk
      subst ku
      obtain ⟨hD8, E8', sm8⟩ := back E8 (st6.trans (st7.trans st8))
      have n8 : acc.length < sizeLine := Nat.lt_of_le_of_lt hlen (Nat.lt_of_lt_of_le hlt (Nat.le_trans n1 limL_size))
      have dv8 : Dv X.K (hd H8 ((c.hide D).hs ρ)) v d8 := by
        rw [Cn.hs_base, eh5] at dv8
        exact dv8
      obtain ⟨E9, e9⟩ := E8'.updHidG (o := .dK (putK ws kk v)) hD0 ⟨_, hD8, .inr (.inl ⟨_, rfl⟩)⟩
      rw [eh5] at e9
      have E10 := E9.wipe hno5
      rw [w5', d5'] at E10
      have hE := dve_same (st4.trans sm8) hacc.1
      refine ⟨ws, kk, rfl, hD8, by rw [hacc.1.len]; exact n8, s8, pt acc kk d8, putK ws kk v, E10, ?_, upd_same, ⟨?_, pt_ok hacc.2 ok⟩, Nat.le_trans (pt_len acc kk d8) (Nat.succ_le_succ hlen), q8⟩
      · rw [e9]; exact sm'.trans (st4.trans sm8)
      · rw [e9]; exact hE.put dv8
    | false =>
      rw [if_neg Bool.false_ne_true] at q6 ⊢
      obtain ⟨hD7, E7', sm7⟩ := back E6 st6
      have E9 := E7'.wipe hno5
      rw [w5', d5'] at E9
      exact ⟨s6, acc, ws, E9, sm'.trans (st4.trans sm7), hD7, ⟨dve_same (st4.trans sm7) hacc.1, hacc.2⟩, Nat.le_succ_of_le hlen, q6⟩
  · have e : i = ds.length := by omega
    subst e
    rw [List.drop_length] at q'
    have q' : Qd acc s' := q'
    refine .inl ⟨it.stop s' _ _ _ E'.g sm' (Nat.le_refl _), hq D ws H' acc s' (E1.unwipe hno E' sm') (st1.trans sm') hDl hacc.1 hacc.2 (Nat.le_trans hlen n1) hDH q'⟩
theorem e_dcG {kx : Expr} {ifs : List Expr} {scope : Scope} {own : List (Str × Nat)} {w : DL S} {g : TG} {ns : List Nat} {gd : DG} {wt : DT S} {wk we : DE S} {tk : TE} (hi : IG Wo X W tg iter wi w) (hN : X.N.Nodup) (ok : BlkOk X.N X.env.scope scope own)
    (hg : ∀ (s : Shared) (H : Hp) (C : Addr) (cl : List (Str × Addr)) (fp : List Addr), GD Wo (X.blk s H scope (compEnvC scope cl C X.env) fp) tg g ns gd)
    (ht : ∀ (s : Shared) (H : Hp) (C : Addr) (cl : List (Str × Addr)) (fp : List Addr), PTD Wo (X.blk s H scope (compEnvC scope cl C X.env) fp) WF ifs tt wt)
    (hk : ∀ (s : Shared) (H : Hp) (C : Addr) (cl : List (Str × Addr)) (fp : List Addr), ED Wo (X.blk s H scope (compEnvC scope cl C X.env) fp) WF kx tk wk)
    (he : ∀ (s : Shared) (H : Hp) (C : Addr) (cl : List (Str × Addr)) (fp : List Addr), ED Wo (X.blk s H scope (compEnvC scope cl C X.env) fp) WF elt te we) (hns : ∀ i ∈ ns, i ∈ own.map (·.2)) (hc : X.calm = true := by rfl) (hs : ∀ x, foldedSetIterable iter X.env x = pure x := by intro _; rfl) :
    ED Wo X W (.DictComp kx elt [⟨tg, iter, ifs, 0⟩] scope pos) (tDc wi g tt tk te (own.map (·.2))) (wDc w gd wt wk we (own.map (·.2))) :=
  ⟨pe_dc hc hN hi.pe ok (fun s H C cl fp => (hg s H C cl fp).pe) (fun s H C cl fp => (ht s H C cl fp).pe) (fun s H C cl fp => (hk s H C cl fp).pe) (fun s H C cl fp => (he s H C cl fp).pe) hs, fun c σ H ρ s Qd Ed Q E hw hv her =>
    tDcG_go (X' := X) rfl hns hi (hg X.s_0 (fun _ => none) 0 [] []).go (ht X.s_0 (fun _ => none) 0 [] []).go (hk X.s_0 (fun _ => none) 0 [] []).go (he X.s_0 (fun _ => none) 0 [] []).go E hw (fun p ws H' es s' E' sm hp a ok n _ q => by
      have np : p ∉ c.hs ρ := (nodup_mid.mp E'.nd).1
      have s2 : Same (hd H' ((c.hide p).hs ρ)) (hd H' (c.hs ρ)) := hd_sub hs_hide_sub
      exact hv _ H' _ s' E'.unhide (sm.trans s2) (.dct (by rw [hd_out np]; exact hp) (by unfold kvD; rw [List.length_map]; exact n) (e_dvp (dve_same s2 a) ok)) q) her⟩
end
end Dt

set_option Elab.async false
set_option linter.all false
set_option autoImplicit false
set_option maxRecDepth 100000
set_option maxHeartbeats 1000000
namespace Dt
open PySem PySem.Spec
open L2 hiding wT wNot
/-! ### a dict that is walked: locked meanwhile -/
section
variable {K : PySem.W.Frag} {H H' : Hp}
theorem sqt_hideK {a : Addr} {xs : List V} (e : ∀ b o, H b = some o → (∀ kvs, o ≠ .dK kvs) → H' b = some o) (h : SqT K H a xs) : SqT K H' a xs := by
  rcases h with (h | ⟨o, h⟩) | h
  · exact .inl (.inl (e _ _ h fun _ z => nomatch z))
  · exact .inl (.inr ⟨o, e _ _ h fun _ z => nomatch z⟩)
  · exact .inr h
mutual
theorem Dv.hideK (e : ∀ b o, H b = some o → (∀ kvs, o ≠ .dK kvs) → H' b = some o) : ∀ (d : PyData) (v : V), d.hasDict = false → Dv K H v d → Dv K H' v d
  | .none, _, _, h => by cases h; exact .non
  | .bool b, _, _, h => by cases h; exact .bl b
  | .int i, _, _, h => by cases h with | int q => exact .int q
  | .str x, _, _, h => by cases h with | str q => exact .str q
  | .list ds, _, z, h => by cases h with | lst a n b => exact .lst (e _ _ a fun _ z => nomatch z) n (DvAll.hideK e ds _ (by simpa only [PyData.hasDict] using z) b)
  | .tuple ds, _, z, h => by cases h with | tup a n b => exact .tup (sqt_hideK e a) n (DvAll.hideK e ds _ (by simpa only [PyData.hasDict] using z) b)
  | .dict _, _, z, h => by simp only [PyData.hasDict] at z; cases z
theorem DvAll.hideK (e : ∀ b o, H b = some o → (∀ kvs, o ≠ .dK kvs) → H' b = some o) : ∀ (ds : List PyData) (vs : List V), PyData.hasDictAll ds = false → DvAll K H vs ds → DvAll K H' vs ds
  | [], _, _, h => by cases h; exact .nil
  | d :: ds, _, z, h => by cases h with | cons a b => exact .cons (Dv.hideK e d _ (hd_cons z).1 a) (DvAll.hideK e ds _ (hd_cons z).2 b)
end
def fvV : PyData → V
  | .bool b => .bl b
  | .int i => .int i
  | .str x => .str x
  | _ => .non
def fvs (es : List (Key × PyData)) : List (Key × V) := es.map fun e => (e.1, fvV e.2)
/-- a value that is told without the heap -/
def FvOk (d : PyData) : Prop := ∀ (K : PySem.W.Frag) (H : Hp), Dv K H (fvV d) d
theorem dv_flat {v : V} {d : PyData} (h : Dv K H v d) (f : flatD d = true) : v = fvV d ∧ FvOk d := by
  cases d with
  | none => cases h; exact ⟨rfl, fun _ _ => .non⟩
  | bool b => cases h; exact ⟨rfl, fun _ _ => .bl b⟩
  | int i => cases h with | int q => exact ⟨rfl, fun _ _ => .int q⟩
  | str x => cases h with | str q => exact ⟨rfl, fun _ _ => .str q⟩
  | _ => cases f
theorem dve_flat : ∀ {kvs : List (Key × V)} {es : List (Key × PyData)}, DvE K H kvs es → (∀ e ∈ es, flatD e.2 = true) → kvs = fvs es ∧ ∀ e ∈ es, FvOk e.2
  | [], [], _, _ => ⟨rfl, fun _ z => nomatch z⟩
  | (k, v) :: r, (l, d) :: t, ⟨e, dv, h⟩, f => by
    obtain ⟨h1, h2⟩ := dv_flat dv (f _ List.mem_cons_self)
    obtain ⟨g1, g2⟩ := dve_flat h fun x hx => f x (List.mem_cons_of_mem _ hx)
    subst e; subst h1; subst g1
    exact ⟨rfl, fun x hx => by
      rcases List.mem_cons.mp hx with z | z
      · rw [z]; exact h2
      · exact g2 x z⟩
  | [], _ :: _, h, _ => h.elim
  | _ :: _, [], h, _ => h.elim
theorem valV_fvs (k : Key) : ∀ es : List (Key × PyData), valV (fvs es) k = (lk es k).map fvV
  | [] => rfl
  | (a, d) :: r => by
    by_cases q : a = k
    · rw [lk_pos (p := (a, d)) q]
      show valV ((a, fvV d) :: fvs r) k = _
      rw [valV_pos (p := (a, fvV d)) q]; rfl
    · rw [lk_neg (p := (a, d)) q]
      show valV ((a, fvV d) :: fvs r) k = _
      rw [valV_neg (p := (a, fvV d)) q]
      exact valV_fvs k r
theorem lk_mem {k : Key} {d : PyData} : ∀ {es : List (Key × PyData)}, lk es k = some d → ∃ e ∈ es, e.2 = d
  | [], h => by cases h
  | (a, x) :: r, h => by
    by_cases q : a = k
    · rw [lk_pos (p := (a, x)) q] at h
      exact ⟨(a, x), List.mem_cons_self, by injection h⟩
    · rw [lk_neg (p := (a, x)) q] at h
      obtain ⟨e, he, h⟩ := lk_mem h
      exact ⟨e, List.mem_cons_of_mem _ he, h⟩
theorem dv_key {k : Key} (o : okK k) : Dv K H (kV k) (kD k) := by
  cases k with
  | inl i => exact .int o
  | inr x => exact .str o
end
/-- the world in which the dict at a is locked -/
def LkW (a : Addr) (od : Obj) (es : List (Key × PyData)) : Wd Unit :=
  ⟨fun _ H => H a = some (.frz od (.dK (fvs es))) ∧ ∀ e ∈ es, okK e.1 ∧ FvOk e.2, [], (fun _ _ _ _ h => nomatch h), fun _ H H' h _ st => ⟨st a _ h.1 (fun _ e => nomatch e) (fun _ e => nomatch e) (fun _ e => nomatch e), h.2⟩⟩
def plainSl : Sl → Bool
  | .no => true
  | .d x => !x.hasDict
  | .own _ xs => !PyData.hasDictAll xs
  | .raw _ => true
  | _ => false
section
variable {X : Cx} {W : WX} {ta te : TE} {e : Expr} {tg : Expr} {pos p apos cpos : Pos} {wk : DE Unit} {a : Addr} {od : Obj} {es : List (Key × PyData)} {k : Nat}
def wKeysL (i : Nat) (a : Addr) (es : List (Key × PyData)) : DL Unit := fun ρ s Q _ => ρ[i]? = some (.raw (.ref a)) ∧ es.length ≤ limL ∧ Q (es.map fun e => kD e.1) s
theorem i_keysL (i : Nat) {x : Str} (hN : X.N[i]? = some x := by rfl) (hv : Vis X.env.scope x := by first | exact Or.inl rfl | exact Or.inr (Or.inl rfl) | exact Or.inr (Or.inr rfl)) (hdb : (x == ("__debug__" : Str)) = false := by decide) (hcd : (x == ("__classdict__" : Str)) = false := by decide) :
    IG (LkW a od es) X W tg (.Name x p) (iKeys (tVar i)) (wKeysL i a es) :=
  ⟨pi_keys (pe_var hN hv hdb hcd), fun c σ H ρ s Qd Ed R E hw hr he => by
    obtain ⟨hi, hn, q⟩ := hw
    obtain ⟨o, h1, h2⟩ := E.slot i _ hi
    have h2 : o = some (.ref a) := h2
    subst h2
    refine ⟨.ref a, h1, a, od, rfl, .inl ⟨fvs es, E.g.1, hr _ H _ s E (Same.refl _) ⟨fun s l' H' j g st hj => ⟨g.1, ?_⟩, fun s l' H' j g st hj => ⟨g.1, ?_⟩, fun s l' H' j x H2 d g st tr y hd => ?_⟩ (by rw [List.length_map]; exact hn) q⟩⟩
    · unfold fvs; rw [List.length_map] at hj ⊢; exact hj
    · unfold fvs; rw [List.length_map] at hj ⊢; exact hj
    · obtain ⟨rfl, k, v, h3, rfl⟩ := y
      unfold fvs at h3
      rw [List.getElem?_map] at h3 hd
      cases z : es[j]? with
      | none => rw [z] at h3; cases h3
      | some e =>
        rw [z] at h3 hd
        simp only [Option.map_some, Option.some.injEq, Prod.mk.injEq] at h3 hd
        obtain ⟨rfl, _⟩ := h3
        subst hd
        exact ⟨Same.refl _, dv_key (g.2 e (List.mem_of_getElem? z)).1⟩⟩
def wItemsL (i : Nat) (a : Addr) (es : List (Key × PyData)) : DL Unit := fun ρ s Q _ => ρ[i]? = some (.raw (.ref a)) ∧ es.length ≤ limL ∧ Q (es.map fun e => .tuple [kD e.1, e.2]) s
theorem i_itemsL (i : Nat) {x : Str} {elts : List Expr} {kk : Nat} {tpos : Pos} (hN : X.N[i]? = some x := by rfl) (hv : Vis X.env.scope x := by first | exact Or.inl rfl | exact Or.inr (Or.inl rfl) | exact Or.inr (Or.inr rfl)) (hdb : (x == ("__debug__" : Str)) = false := by decide) (hcd : (x == ("__classdict__" : Str)) = false := by decide)
    (hbase : attributeBase (.Name x p) "items" X.env (eval (.Name x p) X.env) = eval (.Name x p) X.env := by rfl) (hline : (apos.endLine == cpos.line) = true := by rfl) :
    IG (LkW a od es) X W (.Tuple elts kk tpos) (.Call (.Attribute (.Name x p) "items" apos) [] [] cpos) (iItems (tVar i)) (wItemsL i a es) :=
  ⟨pi_items (pe_var hN hv hdb hcd) hbase hline, fun c σ H ρ s Qd Ed R E hw hr he => by
    obtain ⟨hi, hn, q⟩ := hw
    obtain ⟨o, h1, h2⟩ := E.slot i _ hi
    have h2 : o = some (.ref a) := h2
    subst h2
    refine ⟨.ref a, h1, a, od, fvs es, rfl, E.g.1, hr _ H _ s E (Same.refl _) ⟨fun s l' H' j g st hj => ⟨g.1, ?_⟩, fun s l' H' j g st hj => ⟨g.1, ?_⟩, fun s l' H' j x H2 d g st tr y hd => ?_⟩ (by rw [List.length_map]; exact hn) q⟩
    · unfold fvs; rw [List.length_map] at hj ⊢; exact hj
    · unfold fvs; rw [List.length_map] at hj ⊢; exact hj
    · obtain ⟨T, k, v, h3, rfl, nT, rfl⟩ := y
      unfold fvs at h3
      rw [List.getElem?_map] at h3 hd
      cases z : es[j]? with
      | none => rw [z] at h3; cases h3
      | some e =>
        rw [z] at h3 hd
        simp only [Option.map_some, Option.some.injEq, Prod.mk.injEq] at h3 hd
        obtain ⟨rfl, rfl⟩ := h3
        subst hd
        have tn : T ∉ l' := fun z => tr T z nT
        obtain ⟨o1, o2⟩ := g.2 e (List.mem_of_getElem? z)
        exact ⟨same_upd nT, .tup (.inl (.inl (by rw [hd_out tn]; exact upd_same))) (by rw [limL_eq]; simp) (.cons (dv_key o1) (.cons (o2 _ _) .nil))⟩⟩
def wDixL (i : Nat) (a : Addr) (es : List (Key × PyData)) (wk : DE Unit) : DE Unit := fun ρ s Q E => ρ[i]? = some (.raw (.ref a)) ∧ wk ρ s (fun y s1 => ∃ k d, y = kD k ∧ lk es k = some d ∧ Q d s1) E
theorem e_dixL (i : Nat) {x : Str} {px : Pos} (hr : Room k X.A) (h : ED (LkW a od es) X W e te wk) (hN : X.N[i]? = some x := by rfl) (hv : Vis X.env.scope x := by first | exact Or.inl rfl | exact Or.inr (Or.inl rfl) | exact Or.inr (Or.inr rfl)) (hdb : (x == ("__debug__" : Str)) = false := by decide) (hcd : (x == ("__classdict__" : Str)) = false := by decide) (hs : NoSl e := by exact fun _ _ => rfl) :
    ED (LkW a od es) X W (.Subscript (.Name x px) e pos) (tDGet (tVar i) te) (wDixL i a es wk) :=
  ⟨pe_dget (hu_of hr) (pe_var hN hv hdb hcd) h.pe hs, fun c σ H ρ s Qd Ed Q E hw hv he => by
    obtain ⟨hi, hw⟩ := hw
    obtain ⟨o, h1, h2⟩ := E.slot i _ hi
    have h2 : o = some (.ref a) := h2
    subst h2
    refine ⟨.ref a, h1, h.go c σ H ρ s _ _ _ E hw (fun v H1 y s1 E1 st1 dv q1 => ?_) he⟩
    obtain ⟨k, d, rfl, hl, q1⟩ := q1
    obtain ⟨ku, ok⟩ := Dv.key dv
    subst ku
    obtain ⟨e, hm, rfl⟩ := lk_mem hl
    have g : H1 a = some (.frz od (.dK (fvs es))) ∧ ∀ e ∈ es, okK e.1 ∧ FvOk e.2 := E1.g
    refine ⟨a, fvV e.2, rfl, .inl ⟨fvs es, k, .inr ⟨od, g.1⟩, rfl, by rw [valV_fvs, hl]; rfl⟩, hv _ _ _ s1 E1 st1 ((g.2 e hm).2 _ _) q1⟩⟩
end
/-- an expression within which x's dict is walked -/
def wLock (i : Nat) (w : Addr → List (Key × PyData) → DE Unit) : DE Unit := fun ρ s Q _ => ∃ es : List (Key × PyData), ρ[i]? = some (.d (.dict (kvD es))) ∧ (∀ e ∈ es, flatD e.2 = true) ∧ (∀ j x, j ≠ i → ρ[j]? = some x → plainSl x = true) ∧ ∀ a, w a es (ρ.set i (.raw (.ref a))) s Q noE
theorem slot_hide {K : PySem.W.Frag} {H : Hp} {l : List Addr} {a : Addr} {kvs : List (Key × V)} {u : HO} {x : Sl} {o : Option V} (ha : H a = some (.dK kvs)) (hp : plainSl x = true) (h : SlotOk K (hd H l) H x o) : SlotOk K (hd (upd H a u) (a :: l)) (upd H a u) x o := by
  have nd : ∀ b o, (hd H l) b = some o → (∀ kvs, o ≠ .dK kvs) → (hd (upd H a u) (a :: l)) b = some o := fun b o hb no => by
    obtain ⟨n, q⟩ := hd_some.mp hb
    have ne : b ≠ a := fun z => by rw [z, ha] at q; cases q; exact no _ rfl
    refine hd_some.mpr ⟨fun z => ?_, by rw [upd_ne ne]; exact q⟩
    rcases List.mem_cons.mp z with z | z
    · exact ne z
    · exact n z
  cases x with
  | no => trivial
  | d x =>
    obtain ⟨v, rfl, dv⟩ := h
    exact ⟨v, rfl, Dv.hideK nd x v (by simpa [plainSl] using hp) dv⟩
  | own p xs =>
    obtain ⟨rfl, n, vs, hl, dv⟩ := h
    have ne : p ≠ a := fun z => by rw [z, ha] at hl; cases hl
    exact ⟨rfl, n, vs, by rw [upd_ne ne]; exact hl, DvAll.hideK nd xs vs (by simpa [plainSl] using hp) dv⟩
  | raw v => exact h
  | ownK _ _ => cases hp
  | ownT _ _ => cases hp
theorem e_lock (i : Nat) {X : Cx} {W : WX} {e : Expr} {t : TE} {w : Addr → List (Key × PyData) → DE Unit} (h : ∀ (a : Addr) (od : Obj) (es : List (Key × PyData)), ED (LkW a od es) X W e t (w a es)) : ED W0 X W e (tLockE t) (wLock i w) :=
  ⟨pe_lock (h 0 ⟨.none, none, .fields #[], #[]⟩ []).pe, fun c σ H ρ s Qd Ed Q E hw hv he => by
    obtain ⟨es, hi, hf, hp, hw⟩ := hw
    obtain ⟨o, h1, v, rfl, dv⟩ := E.slot i _ hi
    generalize hes : kvD es = ps at dv
    cases dv with
    | @dct a kvs _ ha n dvp =>
    subst hes
    obtain ⟨dve, ok⟩ := dvp_e dvp
    obtain ⟨ek, fok⟩ := dve_flat dve hf
    subst ek
    obtain ⟨hna, hHa⟩ := hd_some.mp ha
    refine ⟨a, .dK (fvs es), hHa, trivial, fun od => ?_⟩
    have own' : owns (ρ.set i (.raw (.ref a))) = owns ρ := owns_set (fun y e => by rw [hi] at e; cases e; rfl) rfl
    have c0 : ∃ c' : Cn (LkW a od es), c' = ⟨a :: c.R, fun b => if b = a then none else c.H0 b⟩ := ⟨_, rfl⟩
    obtain ⟨c', hc'⟩ := c0
    have hs' : c'.hs (ρ.set i (.raw (.ref a))) = a :: c.hs ρ := by
      rw [hc']
      show [] ++ (a :: c.R) ++ owns (ρ.set i (.raw (.ref a))) = a :: ([] ++ c.R ++ owns ρ)
      rw [own']; rfl
    have E' : EnvD X.K c' σ (upd H a (.frz od (.dK (fvs es)))) (ρ.set i (.raw (.ref a))) s := by
      refine ⟨by rw [List.length_set]; exact E.len, fun j x hx => ?_, ?_, fun b hb => ?_, ⟨upd_same, fun e he => ⟨ok e he, fok e he⟩⟩, fun b o hb _ => ?_, fun p hp => ?_⟩
      · by_cases hj : i = j
        · subst hj
          rw [List.getElem?_set_self (List.getElem?_eq_some_iff.mp hi).1] at hx
          cases hx
          exact ⟨_, h1, rfl⟩
        · rw [List.getElem?_set_ne hj] at hx
          obtain ⟨o, g1, g2⟩ := E.slot j x hx
          refine ⟨o, g1, ?_⟩
          rw [hs']
          exact slot_hide hHa (hp j x (Ne.symm hj) hx) g2
      · rw [hs']; exact List.nodup_cons.mpr ⟨hna, E.nd⟩
      · rw [hs'] at hb
        rcases List.mem_cons.mp hb with z | z
        · rw [z, upd_same]; exact fun z => nomatch z
        · rw [upd_ne (fun e => hna (by rw [← e]; exact z))]; exact E.tr b z
      · rw [hc'] at hb
        have hb : (if b = a then none else c.H0 b) = some o := hb
        split at hb
        · cases hb
        · rename_i ne
          rw [upd_ne ne]
          exact E.ext b o hb fun z => nomatch z
      · rw [own'] at hp
        rw [hc']
        show (if p = a then none else c.H0 p) = none
        split
        · rfl
        · exact E.new p hp
    refine (h a od es).go c' σ _ _ s Qd noE _ E' (hw a) (fun v H3 d s3 E3 st3 dv3 q => ?_) fun _ _ _ _ _ _ _ z => z.elim
    have g3 : H3 a = some (.frz od (.dK (fvs es))) := E3.g.1
    rw [hs'] at dv3
    have st3 : Same (hd (upd H a (.frz od (.dK (fvs es)))) (a :: c.hs ρ)) (hd H3 (a :: c.hs ρ)) := by
      have := st3
      unfold Stp at this
      rw [hs'] at this
      exact this
    have sub : Same (hd H3 (a :: c.hs ρ)) (hd (upd H3 a (.dK (fvs es))) (c.hs ρ)) := fun b o hb => by
      obtain ⟨n, q⟩ := hd_some.mp hb
      have n1 : b ≠ a := fun z => n (z ▸ List.mem_cons_self)
      exact hd_some.mpr ⟨fun z => n (List.mem_cons_of_mem _ z), by rw [upd_ne n1]; exact q⟩
    have st4 : Same (hd H (c.hs ρ)) (hd (upd H3 a (.dK (fvs es))) (c.hs ρ)) := fun b o hb => by
      obtain ⟨n, q⟩ := hd_some.mp hb
      by_cases z : b = a
      · subst z
        rw [hHa] at q
        cases q
        exact hd_some.mpr ⟨n, upd_same⟩
      · refine sub b o (st3 b o (hd_some.mpr ⟨fun y => ?_, by rw [upd_ne z]; exact q⟩))
        rcases List.mem_cons.mp y with y | y
        · exact z y
        · exact n y
    have E4 : EnvD X.K c σ (upd H3 a (.dK (fvs es))) ρ s3 := by
      refine ⟨E.len, fun j x hx => ?_, E.nd, fun b hb => ?_, trivial, fun b o hb _ => ?_, E.new⟩
      · by_cases hj : i = j
        · subst hj
          obtain ⟨o, g1, g2⟩ := E.slot i x hx
          rw [hi] at hx
          cases hx
          obtain ⟨v, rfl, dv⟩ := g2
          exact ⟨_, g1, v, rfl, Dv.same st4 _ _ dv⟩
        · obtain ⟨o, g1, g2⟩ := E3.slot j x (by rw [List.getElem?_set_ne hj]; exact hx)
          refine ⟨o, g1, ?_⟩
          rw [hs'] at g2
          have pl := hp j x (Ne.symm hj) hx
          cases x with
          | no => trivial
          | d x =>
            obtain ⟨v, rfl, dv⟩ := g2
            exact ⟨v, rfl, Dv.same sub _ _ dv⟩
          | own p xs =>
            obtain ⟨rfl, n, vs, hl, dv⟩ := g2
            have ne : p ≠ a := fun z => by rw [z, g3] at hl; cases hl
            exact ⟨rfl, n, vs, by rw [upd_ne ne]; exact hl, DvAll.same sub _ _ dv⟩
          | raw v => exact g2
          | ownK _ _ => cases pl
          | ownT _ _ => cases pl
      · rw [upd_ne (fun e => hna (by rw [← e]; exact hb))]
        exact E3.tr b (by rw [hs']; exact List.mem_cons_of_mem _ hb)
      · by_cases z : b = a
        · subst z
          have := E.ext b o hb fun z => nomatch z
          rw [hHa] at this
          cases this
          exact upd_same
        · rw [upd_ne z]
          refine E3.ext b o ?_ fun z => nomatch z
          rw [hc']
          show (if b = a then none else c.H0 b) = some o
          rw [if_neg z]; exact hb
    exact ⟨g3, hv v _ d s3 E4 st4 (Dv.same sub _ _ dv3) q⟩⟩
end Dt
namespace Dt
open PySem PySem.Spec
open L2 hiding wT wNot
theorem dc_inv {S : Type} {g : DG} {wt : DT S} {wk we : DE S} {vs : List Nat} {ρ : List Sl} (I : Nat → List (Key × PyData) → Prop) : ∀ (ds : List PyData) (k : Nat) (s : S) (acc : List (Key × PyData)) (Q : List (Key × PyData) → S → Prop),
    (∀ (i : Nat) (d : PyData), ds[i]? = some d → ∀ (acc : List (Key × PyData)) (s : S) (Y : List (Key × PyData) → S → Prop), I (k + i) acc → (∀ acc' s', I (k + i + 1) acc' → Y acc' s') →
      g d ρ fun ρ1 => noOwn ρ1 vs = true ∧ wt ρ1 s (fun b s1 => if b = true then wk ρ1 s1 (fun y s2 => we ρ1 s2 (fun z s3 => ∃ kk, y = kD kk ∧ Y (pt acc kk z) s3) noE) noE else Y acc s1) noE) →
    I k acc → (∀ acc' s', I (k + ds.length) acc' → Q acc' s') → wDcL g wt wk we vs ρ ds s acc Q
  | [], k, s, acc, Q, _, i0, h => h _ _ i0
  | d :: ds, k, s, acc, Q, hb, i0, h => by
    have go : ∀ acc' s', I (k + 0 + 1) acc' → wDcL g wt wk we vs ρ ds s' acc' Q := fun acc' s' i1 =>
      dc_inv I ds (k + 1) s' acc' Q (fun i d hd acc s Y a b => hb (i + 1) d (by simpa using hd) acc s Y (by rw [show k + (i + 1) = k + 1 + i by omega]; exact a) fun acc' s' c => b _ _ (by rw [show k + 1 + i + 1 = k + (i + 1) + 1 by omega]; exact c)) i1 fun acc' s' c => h _ _ (by rw [List.length_cons, show k + (ds.length + 1) = k + 1 + ds.length by omega]; exact c)
    exact hb 0 d rfl acc s (fun acc' s' => wDcL g wt wk we vs ρ ds s' acc' Q) i0 go
theorem dc_of {S : Type} {w : DL S} {g : DG} {wt : DT S} {wk we : DE S} {vs : List Nat} {ρ : List Sl} {s : S} {Q : PyData → S → Prop} {E : Er → S → Prop} (h0 : noOwn ρ vs = true) (h : w ρ s (fun ds s1 => wDcL g wt wk we vs (wipeD ρ vs) ds s1 [] fun es s2 => Q (.dict (kvD es)) s2) E) : wDc w g wt wk we vs ρ s Q E := ⟨h0, h⟩
end Dt

set_option Elab.async false
set_option linter.all false
set_option autoImplicit false
set_option maxRecDepth 100000
set_option maxHeartbeats 1000000
namespace Dt
open PySem PySem.Spec PyProof.Rows
open L2 hiding wT wNot
/-! ### defs with a star parameter behind n others -/
/-- the promise of such a def by data: what is left over comes as a tuple -/
def starF (n : Nat) (F : List PyData → (PyData → Prop) → (Er → Prop) → Prop) : List PyData → (PyData → Prop) → (Er → Prop) → Prop := fun ds Q E => n ≤ ds.length ∧ ds.length ≤ limL ∧ F (ds.take n ++ [.tuple (ds.drop n)]) Q E
def spS (K : PySem.W.Frag) (n : Nat) (F : List PyData → (PyData → Prop) → (Er → Prop) → Prop) : Sp := fun vs H Q E =>
  ∃ (l : List Addr) (ds : List PyData) (Qd : PyData → Prop) (Ed : Er → Prop), l.Nodup ∧ (∀ a ∈ l, H a ≠ none) ∧ DvAll K (hd H l) vs ds ∧ starF n F ds Qd Ed ∧
    (∀ v H' d, Same H H' → Dv K (hd H' l) v d → Qd d → Q v H') ∧ ∀ e cls dd H', Same H H' → ErIs K (hd H' l) H' e cls dd → Ed e → E cls dd H'
structure DoS (P : Program) (w : World) (K : PySem.W.Frag) (mg : Str → Option Value) (base : Heap) (CX : CXT) (k : Nat) (x : Str) (n : Nat) (F : List PyData → (PyData → Prop) → (Er → Prop) → Prop) : Prop where
  ex : ∃ f : Addr, mg x = some (.ref f) ∧ PySem.W.keepIn K (.ref f) = true ∧ L2.FnR P w K mg base CX k f (spS K n F)
section
variable {P : Program} {w : World} {K : PySem.W.Frag} {mg : Str → Option Value} {base : Heap} {CX : CXT} {k n : Nat} {f : Addr} {fd : FuncData} {N ps : List Str} {x qual : Str} {st : Stmt}
theorem body_p {F : List PyData → (PyData → Prop) → (Er → Prop) → Prop} {wb : DS Unit} {cdv : Value} {A : Around} {outer : List Env} {s : Shared} {H : Hp} {vs : List V} {Q : VK} {E : XK} {t : TS}
    (B : SSD W0 (cxOf CX P w K mg base N qual (defScope st) f cdv A outer s H E) (WXE E) (defBody st) t wb) (spec : ∀ ds Qd Ed, ds.length = n → F ds Qd Ed → wb (argS n N.length (ds.map Sl.d)) () (endP Qd Ed)) (h : spP K n F vs H Q E) :
    t ⟨fun _ H' => Q .non H', Q, fun _ _ => False, fun _ _ => False⟩ (start N vs) H := by
  obtain ⟨hl, l, ds, Qd, Ed, nd, tr, da, hf, hq, he⟩ := h
  have hdl : ds.length = n := by rw [← da.length]; exact hl
  have e1 : (ds.map Ag.d).map toSl = ds.map Sl.d := by rw [List.map_map]; rfl
  have E0 := env_start (Wo := W0) (N := N) (R := l) (s := ()) (by simpa [W0] using nd) (by simpa [W0] using tr) trivial (by simpa [W0] using dvs_ag da)
  rw [e1, hl] at E0
  refine B.go _ _ H _ () (endP Qd Ed) _ E0 (spec ds Qd Ed hdl hf) ⟨fun σ' H' ρ' s' E' st' q => ?_, fun _ _ _ _ _ _ z => z.elim, fun _ _ _ _ _ _ z => z.elim, fun v H' d s' g ex dv q => ?_, fun e cls dd σ' H' ρ' s' E' ei q => ?_⟩
  · exact hq .non H' .none (fun b o h => E'.ext b o h (by simp [W0, Cn.W])) .non q
  · exact hq v H' d (fun b o h => ex b o h (by simp [W0, Cn.W])) (by have dv2 : Dv K (hd H' (([] : List Addr) ++ l)) v d := dv; simpa using dv2) q
  · refine he e cls dd H' (fun b o h => E'.ext b o h (by simp [W0, Cn.W])) ?_ q
    have sub : Same (hd H' ((⟨l, H⟩ : Cn W0).hs ρ')) (hd H' l) := hd_sub fun a ha => List.mem_append_left _ (by simpa [W0, Cn.W] using ha)
    obtain ⟨c1, d, fs, c2, c3, c4⟩ := ei
    exact ⟨c1, d, fs, c2, c3, FsOk.same sub _ _ c4⟩
/-- def f(a, *v) by its body -/
theorem fnS1 {p1 pv : Str} {F : List PyData → (PyData → Prop) → (Er → Prop) → Prop} {wb : DS Unit} (Fu : Fun K x qual st f fd) (Sc : FnScope N ([p1] ++ [pv]) (defScope st)) (hCX : StX.CXUp CX)
    (h0 : ∀ (kV doc pm : Value) (an : Option Addr) (cdv ct a : Value), bindArgs (PySem.W.fnOf x qual (defArgs st) (defBody st) (defScope st) .none kV doc pm an cdv ct) ⟨[a], []⟩ = (newTuple [] >>= fun t => pure [(p1, a), (pv, t)]))
    (h1 : ∀ (kV doc pm : Value) (an : Option Addr) (cdv ct a r : Value) (rs : List Value), bindArgs (PySem.W.fnOf x qual (defArgs st) (defBody st) (defScope st) .none kV doc pm an cdv ct) ⟨a :: r :: rs, []⟩ = (newTuple (r :: rs) >>= fun t => pure [(p1, a), (pv, t)]))
    (hbody : ∀ (cdv : Value) (A : Around) (outer : List Env) (s : Shared) (H : Hp) (E : XK), Room k (A.deeper (PyProof.Rows.envOfC qual (defScope st) s.heap.objs.size f cdv)) →
      ∃ t, SSD W0 (cxOf CX P w K mg base N qual (defScope st) f cdv A outer s H E) (WXE E) (defBody st) t wb)
    (spec : ∀ ds Qd Ed, ds.length = 2 → F ds Qd Ed → wb (argS 2 N.length (ds.map Sl.d)) () (endP Qd Ed)) : L2.FnR P w K mg base CX (k + 1) f (spS K 1 F) := by
  obtain ⟨oc, od, kV, doc, pm, an, cdv, ct, osl, rfl, lk, hcd⟩ := Fu.ex
  refine (StX.fn_star (sp := spP K 2 F) lk hcd Sc hCX (StX.bind_star1 (B := fun us => bindArgs (PySem.W.fnOf x qual (defArgs st) (defBody st) (defScope st) .none kV doc pm an cdv ct) ⟨us, []⟩) (h0 kV doc pm an cdv ct) (h1 kV doc pm an cdv ct)) fun A outer s H vs Q E hr h => ?_).imp fun vs H Q E h => ?_
  · obtain ⟨t, B⟩ := hbody cdv A outer s H E hr
    exact ⟨t, B.pe, body_p B spec h⟩
  · obtain ⟨l, ds, Qd, Ed, nd, tr, da, ⟨hn, hm, hf⟩, hq, he⟩ := h
    have hl := da.length
    match vs, ds, da, hn, hm, hf, hl with
    | v :: vs, d :: ds, .cons dv da, hn, hm, hf, hl =>
      refine ⟨[v], vs, rfl, rfl, ?_, fun p hp => ?_⟩
      · have : (v :: vs).length ≤ limL := by rw [hl]; exact hm
        exact Nat.le_trans (Nat.le_trans (Nat.le_succ _) this) limL_size
      have up : Same H (upd H p (.tup vs)) := same_upd hp
      have hm' : ds.length ≤ limL := Nat.le_trans (Nat.le_succ _) hm
      refine ⟨rfl, l, [d, .tuple ds], Qd, Ed, nd, fun a ha z => ?_, .cons (Dv.same (hd_same l fun b o _ q => up b o q) _ _ dv) (.cons (Dv.newT tr hp da hm') .nil), hf, fun v' H' d' sm => hq v' H' d' (up.trans sm), fun e cls dd H' sm => he e cls dd H' (up.trans sm)⟩
      have := tr a ha
      cases q : H a with
      | none => exact this q
      | some o => rw [up a o q] at z; cases z
    | _, [], _, hn, _, _, _ => exact absurd hn (by simp)
end
section
variable {X : Cx} {CX : CXT} {k n : Nat} {f : Addr} {sp : Sp} {E : L2.St → XK} {x : Str} {p pos : Pos} {e : Expr} {es : List Expr} {t : TA}
theorem run_fnRA {pins : List (Addr × Obj)} {σ : L2.St} {H : Hp} {s : Shared} {Q : VK} {us : List Value} {vs : List V} (F : L2.FnR X.prog X.w X.K X.mg X.base CX k f sp) (hr : Room k X.A)
    (hx : PassesAt CX X σ (E σ)) (I : Inv X pins σ H s) (r : Vals vs us) (h : sp vs H Q (E σ)) : wpAny (model X.prog X.w) X.A (call (.ref f) us) (EP X pins σ Q) X.xe s := by
  refine wpAny_call (codeAny_mono (F X.A X.stack s H us vs Q (E σ) hr I.env0 r h) fun r s' hq => ?_)
  match r, hq with
  | .error e, hq => exact hx pins H s e s' I hq
  | .ok (.ret u), hq => exact I.after hq
  | .ok .next, hq => cases hq
  | .ok .brk, hq => cases hq
  | .ok .cont, hq => cases hq
theorem pe_callRA (F : L2.FnR X.prog X.w X.K X.mg X.base CX k f sp) (hr : Room k X.A) (hg : Gl X x) (hm : X.mg x = some (.ref f)) (hk : PySem.W.keepIn X.K (.ref f) = true) (hx : ∀ σ, PassesAt CX X σ (E σ))
    (ha : PA X (e :: es) t) (hdb : (x == ("__debug__" : Str)) = false := by decide) (he : starEach (e :: es) X.env = (false, eval e X.env) :: starEach es X.env := by rfl) (hpl : (backTo pos (starEach es X.env)).any (·.1) = false := by rfl) :
    PE X (.Call (.Name x p) (e :: es) [] pos) (tCallS sp E t) := by
  refine ⟨fun pins s σ H Q I h => wpAny_Call_Name_kw (ld_glob I hg hm (PySem.W.callWith_K (h₀ := X.base) I.ok.mod.kin hk (thn (ha.run pos pins s σ H _ I h) ?_) he hpl) hdb)⟩
  rintro us s1 ⟨vs, H1, I1, r, q⟩
  exact ⟨I1.kIn, run_fnRA F hr (hx σ) I1 r q⟩
end
section
variable {S : Type} {Wo : Wd S} {X : Cx} {W : WX} {K : PySem.W.Frag} {tl : TA} {e : Expr} {es : List Expr} {pos p : Pos} {wl : DA S} {n : Nat}
theorem e_callSO {CX : CXT} {j : Nat} {x : Str} {F : List PyData → (PyData → Prop) → (Er → Prop) → Prop} (D : DoS X.prog X.w K X.mg X.base CX j x n F) (hr : Room j X.A) (hx : ∀ σ, PassesAt CX X σ (WE W σ)) (ha : AD Wo X W (e :: es) tl wl) (hK : X.K = K := by rfl)
    (hg : Gl X x := by rfl) (hdb : (x == ("__debug__" : Str)) = false := by decide) (he : starEach (e :: es) X.env = (false, eval e X.env) :: starEach es X.env := by rfl) (hpl : (backTo pos (starEach es X.env)).any (·.1) = false := by rfl) :
    ED Wo X W (.Call (.Name x p) (e :: es) [] pos) (tCallS (spS K n F) (WE W) tl) (wCallP (starF n F) wl) := by
  subst hK
  obtain ⟨f, h2, h3, h5⟩ := D.ex
  exact ⟨pe_callRA h5 hr hg h2 h3 hx ha.pe hdb he hpl, fun c σ H ρ s Qd Ed Q E hw hv he => ha.go c σ H ρ s _ Ed _ E hw (fun vs H1 as s1 E1 st1 a1 q1 => by
    obtain ⟨ds, g1, g3⟩ := a1.all q1
    exact ⟨c.hs ρ, ds, _, _, E1.nd, E1.tr, g1, g3, fun v H' d sm dv q => hv v H' d s1 (E1.grow sm) (st1.trans (stp_grow sm)) dv q,
      fun e cls dd H' sm ei q => he e cls dd H' s1 (E1.grow sm) ei q⟩) he⟩
theorem e_callSN {j : Nat} {x : Str} {F : List PyData → (PyData → Prop) → (Er → Prop) → Prop} (D : DoS X.prog X.w K X.mg X.base (L2.CX X.prog X.w) j x n F) (hr : Room j X.A) (ha : AD Wo X W (e :: es) tl wl) (hK : X.K = K := by rfl)
    (hg : Gl X x := by rfl) (hdb : (x == ("__debug__" : Str)) = false := by decide) (he : starEach (e :: es) X.env = (false, eval e X.env) :: starEach es X.env := by rfl) (hpl : (backTo pos (starEach es X.env)).any (·.1) = false := by rfl) :
    ED Wo X W (.Call (.Name x p) (e :: es) [] pos) (tCallS (spS K n F) (fun _ _ _ _ => False) tl) (wCallP (fun ds Q _ => starF n F ds Q fun _ => False) wl) := by
  subst hK
  obtain ⟨f, h2, h3, h5⟩ := D.ex
  exact ⟨pe_callRA h5 hr hg h2 h3 (pass_no X) ha.pe hdb he hpl, fun c σ H ρ s Qd Ed Q E hw hv he => ha.go c σ H ρ s _ Ed _ E hw (fun vs H1 as s1 E1 st1 a1 q1 => by
    obtain ⟨ds, g1, g3⟩ := a1.all q1
    exact ⟨c.hs ρ, ds, _, _, E1.nd, E1.tr, g1, g3, fun v H' d sm dv q => hv v H' d s1 (E1.grow sm) (st1.trans (stp_grow sm)) dv q,
      fun e cls dd H' sm ei q => q.elim⟩) he⟩
end
/-! ### reads of lists and dicts that the body owns -/
section
variable {S : Type} {Wo : Wd S} {X : Cx} {W : WX} {K : PySem.W.Frag} {tb te : TE} {b e : Expr} {pos p : Pos} {wb we : DE S} {k : Nat}
/-- len(x), x a list of its own -/
theorem e_lenO (i : Nat) {x : Str} {px : Pos} (B : Bt X.mg) (hN : X.N[i]? = some x := by rfl) (hv : Vis X.env.scope x := by first | exact Or.inl rfl | exact Or.inr (Or.inl rfl) | exact Or.inr (Or.inr rfl)) (hdb : (x == ("__debug__" : Str)) = false := by decide) (hcd : (x == ("__classdict__" : Str)) = false := by decide)
    (hg : Gl X "len" := by rfl) (he : starEach (.Name x px :: []) X.env = (false, eval (.Name x px) X.env) :: starEach [] X.env := by rfl) (hpl : (backTo pos (starEach [] X.env)).any (·.1) = false := by rfl) :
    ED Wo X W (.Call (.Name "len" p) [.Name x px] [] pos) (tCB (rLenG X.K) (tCons (tVar i) tNil)) (wOwnE i fun xs Q => Q (.int xs.length)) :=
  ⟨pe_callB cr_lenG hg (B.no _ (by decide)) (by decide +kernel) (pa_cons (pe_var hN hv hdb hcd) pa_nil he) (by decide) (by decide) he hpl, fun c σ H ρ s Qd Ed Q E hw hv he => by
    unfold wOwnE at hw
    split at hw
    · rename_i q xs hq
      obtain ⟨o, h1, rfl, n, vs, hH, hA⟩ := E.slot i _ hq
      refine ⟨_, h1, .inl ⟨q, vs, rfl, .inl (SqL.of hH), ?_⟩⟩
      rw [hA.length]
      exact hv _ _ _ s E (Same.refl _) (.int (okI_len n)) hw
    · exact hw.elim⟩
/-- x op e, x a list of its own -/
def wOpO {S : Type} (i : Nat) (f : PyData → PyData → (PyData → Prop) → Prop) (wb : DE S) : DT S := fun ρ s Q E => match ρ[i]? with
  | some (.own _ xs) => wb ρ s (fun y s1 => f (.list xs) y fun z => match z with | .bool b => Q b s1 | _ => False) E
  | _ => False
theorem td_cmpO (i : Nat) {x : Str} {px : Pos} {op : CmpOp} {r : R2} {f : PyData → PyData → (PyData → Prop) → Prop} (ho : OpR X (compareOp op) r) (hf : OpD X.K r f) (hb : ED Wo X W b tb wb) (hm : behindInMarks op b = false)
    (hN : X.N[i]? = some x := by rfl) (hv : Vis X.env.scope x := by first | exact Or.inl rfl | exact Or.inr (Or.inl rfl) | exact Or.inr (Or.inr rfl)) (hdb : (x == ("__debug__" : Str)) = false := by decide) (hcd : (x == ("__classdict__" : Str)) = false := by decide) :
    TD Wo X W (.Compare (.Name x px) [op] [b] pos) (tTest (tOp r (tVar i) tb)) (wOpO i f wb) :=
  ⟨pt_cmpR ho (pe_var hN hv hdb hcd) hb.pe hm, fun c σ H ρ s Qd Ed Q E hw hv he => by
    unfold wOpO at hw
    split at hw
    · rename_i q xs hq
      obtain ⟨o, h1, rfl, _⟩ := E.slot i _ hq
      refine ⟨.ref q, h1, hb.go c σ H ρ s _ Ed _ E hw (fun v H1 d s1 E1 st1 dv q1 => ?_) he⟩
      obtain ⟨EF, stf⟩ := E1.freeze hq
      obtain ⟨o2, g1, u, g2, du⟩ := EF.slot i (.d (.list xs)) (List.getElem?_set_self (List.getElem?_eq_some_iff.mp hq).1)
      rw [h1] at g1
      cases g1
      cases g2
      refine hf H1 (c.hs (ρ.set i (.d (.list xs)))) _ v _ d _ _ EF.tr du (Dv.same stf _ _ dv) q1 fun v' H' z sm dz qz => ?_
      cases z with
      | bool b => exact ⟨b, dz.of_bool, hv b H' s1 (E1.grow sm) (st1.trans (stp_grow sm)) qz⟩
      | _ => exact qz.elim
    · exact hw.elim⟩
theorem t_neO (i : Nat) {x : Str} {px : Pos} (hr : Room k X.A) (hb : ED Wo X W b tb wb) (hK : X.K = K := by rfl) (hN : X.N[i]? = some x := by rfl) (hv : Vis X.env.scope x := by first | exact Or.inl rfl | exact Or.inr (Or.inl rfl) | exact Or.inr (Or.inr rfl)) (hdb : (x == ("__debug__" : Str)) = false := by decide) (hcd : (x == ("__classdict__" : Str)) = false := by decide) :
    TD Wo X W (.Compare (.Name x px) [.NotEq] [b] pos) (tTest (tOp (rNeD K) (tVar i) tb)) (wOpO i dNe wb) := by subst hK; exact td_cmpO i (op_neD hr.units) od_ne hb (nomark _) hN hv hdb hcd
theorem t_eqO (i : Nat) {x : Str} {px : Pos} (hr : Room k X.A) (hb : ED Wo X W b tb wb) (hK : X.K = K := by rfl) (hN : X.N[i]? = some x := by rfl) (hv : Vis X.env.scope x := by first | exact Or.inl rfl | exact Or.inr (Or.inl rfl) | exact Or.inr (Or.inr rfl)) (hdb : (x == ("__debug__" : Str)) = false := by decide) (hcd : (x == ("__classdict__" : Str)) = false := by decide) :
    TD Wo X W (.Compare (.Name x px) [.Eq] [b] pos) (tTest (tOp (rEqD K) (tVar i) tb)) (wOpO i dEq wb) := by subst hK; exact td_cmpO i (op_eqD hr.units) od_eq hb (nomark _) hN hv hdb hcd
/-- e in x, x a list of its own -/
def wInO {S : Type} (i : Nat) (f : PyData → PyData → (PyData → Prop) → Prop) (wa : DE S) : DT S := fun ρ s Q E => match ρ[i]? with
  | some (.own _ xs) => wa ρ s (fun y s1 => f y (.list xs) fun z => match z with | .bool b => Q b s1 | _ => False) E
  | _ => False
theorem td_cmpR (i : Nat) {x : Str} {px : Pos} {op : CmpOp} {r : R2} {f : PyData → PyData → (PyData → Prop) → Prop} (ho : OpR X (compareOp op) r) (hf : OpD X.K r f) (hb : ED Wo X W b tb wb) (hm : behindInMarks op (.Name x px) = false)
    (hN : X.N[i]? = some x := by rfl) (hv : Vis X.env.scope x := by first | exact Or.inl rfl | exact Or.inr (Or.inl rfl) | exact Or.inr (Or.inr rfl)) (hdb : (x == ("__debug__" : Str)) = false := by decide) (hcd : (x == ("__classdict__" : Str)) = false := by decide) :
    TD Wo X W (.Compare b [op] [.Name x px] pos) (tTest (tOp r tb (tVar i))) (wInO i f wb) :=
  ⟨pt_cmpR ho hb.pe (pe_var hN hv hdb hcd) hm, fun c σ H ρ s Qd Ed Q E hw hv he => by
    unfold wInO at hw
    split at hw
    · rename_i q xs hq
      obtain ⟨o, h1, rfl, _⟩ := E.slot i _ hq
      refine hb.go c σ H ρ s _ Ed _ E hw (fun v H1 d s1 E1 st1 dv q1 => ?_) he
      obtain ⟨EF, stf⟩ := E1.freeze hq
      obtain ⟨o2, g1, u, g2, du⟩ := EF.slot i (.d (.list xs)) (List.getElem?_set_self (List.getElem?_eq_some_iff.mp hq).1)
      rw [h1] at g1
      cases g1
      cases g2
      refine ⟨.ref q, h1, hf H1 (c.hs (ρ.set i (.d (.list xs)))) v _ d _ _ _ EF.tr (Dv.same stf _ _ dv) du q1 fun v' H' z sm dz qz => ?_⟩
      cases z with
      | bool b => exact ⟨b, dz.of_bool, hv b H' s1 (E1.grow sm) (st1.trans (stp_grow sm)) qz⟩
      | _ => exact qz.elim
    · exact hw.elim⟩
theorem t_inO (i : Nat) {x : Str} {px : Pos} (hr : Room k X.A) (hb : ED Wo X W b tb wb) (hK : X.K = K := by rfl) (hm : behindInMarks .In (.Name x px) = false := by rfl) (hN : X.N[i]? = some x := by rfl) (hv : Vis X.env.scope x := by first | exact Or.inl rfl | exact Or.inr (Or.inl rfl) | exact Or.inr (Or.inr rfl)) (hdb : (x == ("__debug__" : Str)) = false := by decide) (hcd : (x == ("__classdict__" : Str)) = false := by decide) :
    TD Wo X W (.Compare b [.In] [.Name x px] pos) (tTest (tOp (rInG K) tb (tVar i))) (wInO i dIn wb) := by subst hK; exact td_cmpR i (or_in hr) od_in hb hm hN hv hdb hcd
/-- e in x, x a dict of its own, as a test -/
theorem t_inK (i : Nat) {x : Str} {px : Pos} (hr : Room k X.A) (h : ED Wo X W e te we) (hm : behindInMarks .In (.Name x px) = false := by rfl) (hN : X.N[i]? = some x := by rfl) (hv : Vis X.env.scope x := by first | exact Or.inl rfl | exact Or.inr (Or.inl rfl) | exact Or.inr (Or.inr rfl)) (hdb : (x == ("__debug__" : Str)) = false := by decide) (hcd : (x == ("__classdict__" : Str)) = false := by decide) :
    TD Wo X W (.Compare e [.In] [.Name x px] pos) (tB (tDIn te (tVar i))) (wT (wInK i we)) := by
  obtain ⟨pc, go⟩ := e_inK (Wo := Wo) (W := W) (px := px) i hr h hN hv hdb hcd
  exact ⟨pt_cmp pc hm, fun c σ H ρ s Qd Ed Q E hw hv he => go c σ H ρ s _ Ed _ E hw (fun v H' d s' E' st' dv q => by
    cases d with
    | bool b => exact ⟨b, dv.of_bool, hv b H' s' E' st' q⟩
    | _ => exact q.elim) he⟩
end
end Dt

set_option Elab.async false
set_option linter.all false
set_option autoImplicit false
set_option maxRecDepth 100000
set_option maxHeartbeats 1000000
namespace L07
open PySem PySem.Spec Dt
open L2 hiding wT wNot
theorem seqIf_t {S : Type} {t : DT S} {a b v : DS S} {ρ : List Sl} {s : S} {D : DEnds S} (h : ∀ (Q : Bool → S → Prop) (E : Er → S → Prop), Q true s → t ρ s Q E) (k : a ρ s { D with nx := fun ρ' s' => v ρ' s' D }) : wSeq (wIfS t a b) v ρ s D := h _ _ (by rw [if_pos rfl]; exact k)
theorem seqIf_f {S : Type} {t : DT S} {a v : DS S} {ρ : List Sl} {s : S} {D : DEnds S} (h : ∀ (Q : Bool → S → Prop) (E : Er → S → Prop), Q false s → t ρ s Q E) (k : v ρ s D) : wSeq (wIfS t a wNext) v ρ s D := h _ _ (by rw [if_neg (by decide)]; exact k)
def isNum : PyData → Bool
  | .int i => decide (0 ≤ i)
  | _ => false
def elemsD : PyData → List PyData
  | .tuple xs => xs
  | _ => []
theorem f1_of {f : PyData → PyData} {d : PyData} {Q : PyData → Prop} {E : Er → Prop} (h : Q (f d)) : F1 f [d] Q E := h
theorem isName_str {a : PyData} (h : isName a = true) : ∃ x : Str, a = .str x := by
  cases a with
  | str x => exact ⟨x, rfl⟩
  | _ => exact absurd h (by simp [isName])
theorem isKind_str {a : PyData} (h : isKind a = true) : ∃ x : Str, a = .str x := by
  cases a with
  | str x => exact ⟨x, rfl⟩
  | _ => exact absurd h (by simp [isKind, isName, isNothing])
theorem oneOf2 {w a b : Str} : isOneOf (.str w) [.str a, .str b] = true ↔ w = a ∨ w = b := by
  simp only [isOneOf, List.any_cons, List.any_nil, eqv_ss, Bool.or_false, Bool.or_eq_true, decide_eq_true_eq]
  exact ⟨fun h => h.imp Eq.symm Eq.symm, fun h => h.imp Eq.symm Eq.symm⟩
theorem oneOf1 {w a : Str} : isOneOf (.str w) [.str a] = true ↔ w = a := by
  simp only [isOneOf, List.any_cons, List.any_nil, eqv_ss, Bool.or_false, decide_eq_true_eq]
  exact ⟨Eq.symm, Eq.symm⟩
/-- the forms of a row -/
inductive RowK : PyData → Prop
  | one {w : Str} : w = "end" ∨ w = "stop" → RowK (.tuple [.str w])
  | name {w a b : Str} : w = "let" ∨ w = "use" → isName (.str a) = true → isName (.str b) = true → RowK (.tuple [.str w, .str a, .str b])
  | give {a : Str} : isKind (.str a) = true → RowK (.tuple [.str "give", .str a])
  | opn {a : Str} : a = "if" ∨ a = "loop" → RowK (.tuple [.str "open", .str a])
  | fn {a : Str} : isKind (.str a) = true → RowK (.tuple [.str "open", .tuple [.str "fun", .str a]])
theorem rowK {x : PyData} (hh : isRow x = true) : RowK x := by
  match x, hh with
  | .tuple (.str w :: r), h0 =>
    have h : isRow2 (.str w) r = true := h0
    clear h0
    unfold isRow2 at h
    by_cases c1 : isOneOf (.str w) [.str "end", .str "stop"] = true
    · rw [if_pos c1] at h
      match r, h with
      | [], _ => exact .one (oneOf2.mp c1)
      | _ :: _, h => exact absurd h (by simp)
    rw [if_neg c1] at h
    by_cases c2 : isOneOf (.str w) [.str "let", .str "use"] = true
    · rw [if_pos c2] at h
      match r, h with
      | [a, b], h =>
        rw [Bool.and_eq_true] at h
        obtain ⟨x, rfl⟩ := isName_str h.1
        obtain ⟨y, rfl⟩ := isName_str h.2
        exact .name (oneOf2.mp c2) h.1 h.2
    rw [if_neg c2] at h
    by_cases c3 : isOneOf (.str w) [.str "open"] = true
    · rw [if_pos c3] at h
      have e := oneOf1.mp c3
      subst e
      match r, h with
      | [a], h =>
        match a, h with
        | .str a, h => exact .opn (oneOf2.mp h)
        | .tuple [u, v], h =>
          have h : (isOneOf u [.str "fun"] && isKind v) = true := h
          rw [Bool.and_eq_true] at h
          obtain ⟨y, rfl⟩ := isKind_str h.2
          match u, h with
          | .str u, h =>
            have e := oneOf1.mp h.1
            subst e
            exact .fn h.2
          | .none, h => exact absurd h.1 (by simp [isOneOf])
          | .bool _, h => exact absurd h.1 (by simp [isOneOf])
          | .int _, h => exact absurd h.1 (by simp [isOneOf])
          | .list _, h => exact absurd h.1 (by simp [isOneOf])
          | .tuple _, h => exact absurd h.1 (by simp [isOneOf])
          | .dict _, h => exact absurd h.1 (by simp [isOneOf])
        | .tuple [], h => exact absurd h (by simp [isSort])
        | .tuple [_], h => exact absurd h (by simp [isSort])
        | .tuple (_ :: _ :: _ :: _), h => exact absurd h (by simp [isSort])
        | .none, h => exact absurd h (by simp [isSort])
        | .bool _, h => exact absurd h (by simp [isSort])
        | .int _, h => exact absurd h (by simp [isSort])
        | .list _, h => exact absurd h (by simp [isSort])
        | .dict _, h => exact absurd h (by simp [isSort])
    rw [if_neg c3, Bool.and_eq_true] at h
    have e := oneOf1.mp h.1
    subst e
    match r, h with
    | [a], h =>
      obtain ⟨x, rfl⟩ := isKind_str h.2
      exact .give h.2
    | [], h => exact absurd h.2 (by simp)
    | _ :: _ :: _, h => exact absurd h.2 (by simp)
  | .tuple [], h => exact absurd h (by simp [isRow])
  | .tuple (.none :: r), h => exact absurd h (by simp [isRow, isRow2, isOneOf])
  | .tuple (.bool _ :: r), h => exact absurd h (by simp [isRow, isRow2, isOneOf])
  | .tuple (.int _ :: r), h => exact absurd h (by simp [isRow, isRow2, isOneOf])
  | .tuple (.list _ :: r), h => exact absurd h (by simp [isRow, isRow2, isOneOf])
  | .tuple (.tuple _ :: r), h => exact absurd h (by simp [isRow, isRow2, isOneOf])
  | .tuple (.dict _ :: r), h => exact absurd h (by simp [isRow, isRow2, isOneOf])
  | .none, h => exact absurd h (by simp [isRow])
  | .bool _, h => exact absurd h (by simp [isRow])
  | .int _, h => exact absurd h (by simp [isRow])
  | .str _, h => exact absurd h (by simp [isRow])
  | .list _, h => exact absurd h (by simp [isRow])
  | .dict _, h => exact absurd h (by simp [isRow])
theorem rowK_row {x : PyData} (h : RowK x) : isRow x = true := by
  cases h with
  | one h => rcases h with rfl | rfl <;> decide +kernel
  | @name w a b h ha hb =>
    show isRow2 (.str w) [.str a, .str b] = true
    have n1 : ¬ isOneOf (.str w) [.str "end", .str "stop"] = true := by rcases h with rfl | rfl <;> decide +kernel
    unfold isRow2
    rw [if_neg n1, if_pos (oneOf2.mpr h)]
    show (isName _ && isName _) = true
    rw [ha, hb]; rfl
  | @give a ha =>
    show isRow2 (.str "give") [.str a] = true
    unfold isRow2
    rw [if_neg (by decide +kernel), if_neg (by decide +kernel), if_neg (by decide +kernel)]
    show (_ && isKind _) = true
    rw [ha]; decide +kernel
  | @opn a h => rcases h with rfl | rfl <;> decide +kernel
  | @fn a ha =>
    show isRow2 (.str "open") [.tuple [.str "fun", .str a]] = true
    unfold isRow2
    rw [if_neg (by decide +kernel), if_neg (by decide +kernel), if_pos (by decide +kernel)]
    show (isOneOf (.str "fun") [.str "fun"] && isKind _) = true
    rw [ha]; decide +kernel
/-- a row with its names (b false) or its kinds (b true) turned -/
def turnR (b : Bool) (f : Str → Str) : PyData → PyData
  | .tuple [.str w, .str n, .str m] => if b = true then .tuple [.str w, .str n, .str (f m)] else .tuple [.str w, .str (f n), .str m]
  | .tuple [.str w, .str m] => if b = true ∧ w = "give" then .tuple [.str w, .str (f m)] else .tuple [.str w, .str m]
  | .tuple [.str w, .tuple [.str z, .str m]] => if b = true then .tuple [.str w, .tuple [.str z, .str (f m)]] else .tuple [.str w, .tuple [.str z, .str m]]
  | d => d
/-- pairs (old, other) as data -/
def pairsD (ps : List (Str × Str)) : List PyData := ps.map fun p => .tuple [.str p.1, .str p.2]
/-- the other name of a name -/
def late (ps : List (Str × Str)) (s : Str) : Str := ((ps.find? fun p => decide (p.1 = s)).map (·.2)).getD s
/-- the dict of the pairs -/
def dictE (ps : List (Str × Str)) : List (Key × PyData) := ps.map fun p => (.inr p.1, .str p.2)
theorem lk_dictE (s : Str) : ∀ ps : List (Str × Str), lk (dictE ps) (.inr s) = (ps.find? fun p => decide (p.1 = s)).map fun p => PyData.str p.2
  | [] => rfl
  | p :: ps => by
    have ih := lk_dictE s ps
    by_cases c : p.1 = s
    · rw [List.find?_cons_of_pos (by simpa using c)]
      exact lk_pos (p := ((Sum.inr p.1 : Key), PyData.str p.2)) (congrArg Sum.inr c)
    · rw [List.find?_cons_of_neg (by simpa using c), ← ih]
      exact lk_neg (p := ((Sum.inr p.1 : Key), PyData.str p.2)) fun e => c (Sum.inr.inj e)
theorem get_dictE (ps : List (Str × Str)) (s : Str) : (lk (dictE ps) (.inr s)).getD (.str s) = .str (late ps s) := by
  rw [lk_dictE]
  unfold late
  cases ps.find? fun p => decide (p.1 = s) <;> rfl
/-- the pairs, read from the left: the fault of the first one at fault, or all of them -/
def scan : List PyData → Nat → List (Str × Str) → (Str × PyData) ⊕ List (Str × Str)
  | [], _, acc => .inr acc
  | .tuple [.str a, .str b] :: r, k, acc => if (isName (.str a) && isName (.str b)) = true then (if (acc.find? fun p => decide (p.1 = a)).isSome = true then .inl ("name", .str a) else scan r (k + 1) (acc ++ [(a, b)])) else .inl ("pairs", .int (k : Int))
  | _ :: _, k, _ => .inl ("pairs", .int (k : Int))
theorem scan_odd {d : PyData} {r : List PyData} {k : Nat} {acc : List (Str × Str)} (h : ∀ a b, d = .tuple [.str a, .str b] → (isName (.str a) && isName (.str b)) = false) : scan (d :: r) k acc = .inl ("pairs", .int (k : Int)) := by
  unfold scan
  split
  · rename_i heq; exact absurd heq (by simp)
  · rename_i heq
    simp only [List.cons.injEq] at heq
    obtain ⟨e, rfl⟩ := heq
    rw [if_neg (by rw [h _ _ e]; decide)]
  · rename_i heq
    simp only [List.cons.injEq] at heq
    rfl
theorem scan_ok {a b : Str} {r : List PyData} {k : Nat} {acc : List (Str × Str)} (ha : isName (.str a) = true) (hb : isName (.str b) = true) : scan (.tuple [.str a, .str b] :: r) k acc = if (acc.find? fun p => decide (p.1 = a)).isSome = true then .inl ("name", .str a) else scan r (k + 1) (acc ++ [(a, b)]) := by
  conv => lhs; unfold scan
  rw [ha, hb, if_pos (by decide)]
section
variable {P : Program} {w : World} {K : PySem.W.Frag} {mg : Str → Option Value} {base : Heap} {cNU cIP : Addr}
/-! ## check_rows -/
abbrev s_check_rows : Stmt := top 20
theorem sc_check_rows : FnScope ["word", "rows", "k", "row"] ["word", "rows"] (defScope s_check_rows) := ⟨rfl, rfl, rfl, by decide +kernel, rfl, by decide +kernel, by decide +kernel⟩
/-- the first element that is no row; -1 if it is no tuple -/
def rowsFault : PyData → Option Int
  | .tuple xs => (xs.findIdx? fun x => !isRow x).map fun k => (k : Int)
  | _ => some (-1)
def nuE (cNU : Addr) (wd : Str) (k : PyData) : Er := ⟨cNU, [("at", k), ("word", .str wd)]⟩
abbrev F_check_rows (cNU : Addr) : List PyData → (PyData → Prop) → (Er → Prop) → Prop := fun ds Q E => match ds with
  | [.str wd, r] => (match rowsFault r with
    | none => Q .none
    | some k => E (nuE cNU wd (.int k)))
  | _ => False
def w_check_rows (cNU : Addr) : DS Unit :=
  (wSeq (wIfS (wTnot (wT (wIsi "tuple" (wVar 1)))) (wRaise cNU "word" "at" (wCons (wVar 0) (wCons (wUn dNeg (wC (.int 1))) wNil))) wNext)
  (wFor (wEnum (wCons (wVar 1) wNil)) (gT 2 (gCs (gN 2) (gCs (gN 3) gNs))) (wIfS (wTnot (wT (wCallP (fun ds Q E => ds.length = 1 ∧ F_is_row ds Q E) (wCons (wVar 3) wNil)))) (wRaise cNU "word" "at" (wCons (wVar 0) (wCons (wVar 2) wNil))) wNext)))
theorem rows_loop {g : DG} {b : DS Unit} {wd : Str} {r : PyData} {D : DEnds Unit}
    (hg : ∀ (k : Nat) (x : PyData) (D' : DEnds Unit) (z1 z2 : Sl), (if isRow x = true then ∀ z1 z2, D'.nx [.d (.str wd), .d r, z1, z2] () else D'.er (nuE cNU wd (.int (k : Int))) [.d (.str wd), .d r, .d (.int (k : Int)), .d x] ()) → g (.tuple [.int (k : Int), x]) [.d (.str wd), .d r, z1, z2] fun ρ1 => b ρ1 () D') : ∀ (xs : List PyData) (k : Nat) (z1 z2 : Sl),
    (match xs.findIdx? fun x => !isRow x with
      | none => ∀ ρ, D.nx ρ ()
      | some j => ∀ ρ, D.er (nuE cNU wd (.int ((k + j : Nat) : Int))) ρ ()) → wLoop g b (enumD k xs) [.d (.str wd), .d r, z1, z2] () D
  | [], k, z1, z2, h => h _
  | x :: xs, k, z1, z2, h => by
    refine hg k x _ z1 z2 ?_
    by_cases c : isRow x = true
    · rw [if_pos c]
      intro z3 z4
      refine rows_loop hg xs (k + 1) z3 z4 ?_
      rw [List.findIdx?_cons, if_neg (by simp [c])] at h
      cases e : xs.findIdx? fun x => !isRow x with
      | none => rw [e] at h; exact h
      | some j =>
        rw [e] at h
        intro ρ
        rw [show k + 1 + j = k + (j + 1) by omega]
        exact h ρ
    · rw [if_neg c]
      rw [List.findIdx?_cons, if_pos (by simpa using c)] at h
      simpa using h _
theorem spec_check_rows (cNU : Addr) : ∀ ds Qd Ed, ds.length = 2 → F_check_rows cNU ds Qd Ed → w_check_rows cNU (argS 2 4 (ds.map Sl.d)) () (endP Qd Ed) := by
  intro ds Qd Ed hl h
  match ds, hl, h with
  | [.str wd, r], _, h =>
    unfold w_check_rows
    cases r with
    | tuple xs =>
      simp [wRaise, wEnum, wFor, wRet, wRetN, wIfS, wSeq, wNext, wT, wTand, wTor, wTnot, wAnd_eq, wOr_eq, wNot, wIsi_int, wIsi_bool, wIsi_str, wIsi_tup, wIsi_lst, tyInt, tyBool, tyStr, tyTup, tyLst, wChain_eq, wOp, wUn, wC, wVar, wCB, wCallP, fLen, wL, wComp, wSeqI, wZip, zipS, wCons, wNil, wTup, allK, argS, endP, noOwn, wipeD, dLe, dLt, dGe, dGt, dCm, dEq, dNe, dIdx, atI_0, atI_1, atI_2, wAsg, gN, gT, gCs, gNs, List.set, dInG, flatD, F1, List.length, limL_eq, shp_i, shp_s, shp_b, shp_n, eqv_ii, eqv_ss]
      refine rows_loop (cNU := cNU) (fun k x D' z1 z2 q => ?_) xs 0 _ _ ?_
      · by_cases c : isRow x = true
        · rw [if_pos c] at q
          simpa [wRaise, wRet, wRetN, wIfS, wSeq, wNext, wT, wTand, wTor, wTnot, wAnd_eq, wOr_eq, wNot, wIsi_int, wIsi_bool, wIsi_str, wIsi_tup, wIsi_lst, tyInt, tyBool, tyStr, tyTup, tyLst, wChain_eq, wOp, wUn, wC, wVar, wCB, wCallP, fLen, wL, wComp, wSeqI, wZip, zipS, wCons, wNil, wTup, allK, argS, endP, noOwn, wipeD, dLe, dLt, dGe, dGt, dCm, dEq, dNe, dIdx, atI_0, atI_1, atI_2, wAsg, gN, gT, gCs, gNs, List.set, dInG, flatD, F1, List.length, limL_eq, shp_i, shp_s, shp_b, shp_n, eqv_ii, eqv_ss, F_is_row, c, nuE, dNeg] using q _ _
        · rw [if_neg c] at q
          simpa [wRaise, wRet, wRetN, wIfS, wSeq, wNext, wT, wTand, wTor, wTnot, wAnd_eq, wOr_eq, wNot, wIsi_int, wIsi_bool, wIsi_str, wIsi_tup, wIsi_lst, tyInt, tyBool, tyStr, tyTup, tyLst, wChain_eq, wOp, wUn, wC, wVar, wCB, wCallP, fLen, wL, wComp, wSeqI, wZip, zipS, wCons, wNil, wTup, allK, argS, endP, noOwn, wipeD, dLe, dLt, dGe, dGt, dCm, dEq, dNe, dIdx, atI_0, atI_1, atI_2, wAsg, gN, gT, gCs, gNs, List.set, dInG, flatD, F1, List.length, limL_eq, shp_i, shp_s, shp_b, shp_n, eqv_ii, eqv_ss, F_is_row, c, nuE, dNeg] using q
      · have h : (match (xs.findIdx? fun x => !isRow x).map fun k => (k : Int) with | none => Qd .none | some k => Ed (nuE cNU wd (.int k))) := h
        cases e : xs.findIdx? fun x => !isRow x with
        | none => rw [e] at h; intro ρ; exact h
        | some j => rw [e] at h; intro ρ; simpa using h
    | _ =>
      have h : Ed (nuE cNU wd (.int (-1))) := h
      simpa [wRaise, wRet, wRetN, wIfS, wSeq, wNext, wT, wTand, wTor, wTnot, wAnd_eq, wOr_eq, wNot, wIsi_int, wIsi_bool, wIsi_str, wIsi_tup, wIsi_lst, tyInt, tyBool, tyStr, tyTup, tyLst, wChain_eq, wOp, wUn, wC, wVar, wCB, wCallP, fLen, wL, wComp, wSeqI, wZip, zipS, wCons, wNil, wTup, allK, argS, endP, noOwn, wipeD, dLe, dLt, dGe, dGt, dCm, dEq, dNe, dIdx, atI_0, atI_1, atI_2, wAsg, gN, gT, gCs, gNs, List.set, dInG, flatD, F1, List.length, limL_eq, shp_i, shp_s, shp_b, shp_n, eqv_ii, eqv_ss, nuE, dNeg, rowsFault] using h
theorem fo_check_rows {f : Addr} {fd : FuncData} (Fu : Fun K "check_rows" "check_rows" s_check_rows f fd) (B : Bt mg) (D_is_row : Do P w K mg base CX0 4 "is_row" 1 (spP K 1 F_is_row)) (R_NotUsable : Ec P w K mg base "NotUsable" cNU "word" "at") : FnOk P w K mg base (L2.CX P w) 5 f fd ["word", "rows"] (spP K 2 (F_check_rows cNU)) :=
  fnPO (wb := w_check_rows cNU) Fu sc_check_rows rfl (fun cdv A outer s H E hr => ⟨_,
  (sd_cons (sd_if (td_not (td_val (e_isi (T' := "tuple") B (ed_var 1) (by decide +kernel)))) (sd_one (sd_raise R_NotUsable (hr.mono (by decide)) rfl (takes_of rfl rfl rfl rfl) (ad_cons (ed_var 0) (ad_cons (e_neg ed_int) ad_nil)))) sd_nil)
  (sd_one (sd_for (L2.passes_of rfl) rfl (i_enum B (ad_cons (ed_var 1) ad_nil)) (g_tup rfl (gds_cons (gd_name 2 sc_check_rows.nd rfl (by first | exact .inl rfl | exact .inr rfl)) (gds_cons (gd_name 3 sc_check_rows.nd rfl (by first | exact .inl rfl | exact .inr rfl)) gds_nil))) (sd_one (sd_if (td_not (td_val (e_callO D_is_row (hr.mono (by decide)) pass00 (ad_cons (ed_var 3) ad_nil)))) (sd_one (sd_raise R_NotUsable (hr.mono (by decide)) rfl (takes_of rfl rfl rfl rfl) (ad_cons (ed_var 0) (ad_cons (ed_var 2) ad_nil)))) sd_nil)))))⟩) (spec_check_rows cNU)
theorem ok_check_rows {f : Addr} {fd : FuncData} (Fu : Fun K "check_rows" "check_rows" s_check_rows f fd) (hm : mg "check_rows" = some (.ref f)) (hb : Binds K fd ["word", "rows"] []) (B : Bt mg) (D_is_row : Do P w K mg base CX0 4 "is_row" 1 (spP K 1 F_is_row)) (R_NotUsable : Ec P w K mg base "NotUsable" cNU "word" "at") : Do P w K mg base (L2.CX P w) 5 "check_rows" 2 (spP K 2 (F_check_rows cNU)) :=
  ⟨f, fd, ["word", "rows"], rfl, hm, Fu.kp, hb, fo_check_rows Fu B D_is_row R_NotUsable⟩
/-! ## check_text -/
abbrev s_check_text : Stmt := top 21
theorem sc_check_text : FnScope ["text"] ["text"] (defScope s_check_text) := ⟨rfl, rfl, rfl, by decide +kernel, rfl, by decide +kernel, by decide +kernel⟩
abbrev F_check_text (cNU : Addr) : List PyData → (PyData → Prop) → (Er → Prop) → Prop := fun ds Q E => match ds with
  | [r] => (match rowsFault r with
    | none => Q .none
    | some k => E (nuE cNU "text" (.int k)))
  | _ => False
def w_check_text (cNU : Addr) : DS Unit :=
  (wExpr (wCallP (fun ds Q E => ds.length = 2 ∧ (F_check_rows cNU) ds Q E) (wCons (wC (.str "text")) (wCons (wVar 0) wNil))))
theorem spec_check_text (cNU : Addr) : ∀ ds Qd Ed, ds.length = 1 → F_check_text cNU ds Qd Ed → w_check_text cNU (argS 1 1 (ds.map Sl.d)) () (endP Qd Ed) := by
  intro ds Qd Ed hl h
  match ds, hl, h with
  | [r], _, h =>
    unfold w_check_text
    have h : (match rowsFault r with | none => Qd .none | some k => Ed (nuE cNU "text" (.int k))) := h
    cases e : rowsFault r with
    | none => rw [e] at h; simpa [wExpr, wRet, wRetN, wIfS, wSeq, wNext, wT, wTand, wTor, wTnot, wAnd_eq, wOr_eq, wNot, wIsi_int, wIsi_bool, wIsi_str, wIsi_tup, wIsi_lst, tyInt, tyBool, tyStr, tyTup, tyLst, wChain_eq, wOp, wUn, wC, wVar, wCB, wCallP, fLen, wL, wComp, wSeqI, wZip, zipS, wCons, wNil, wTup, allK, argS, endP, noOwn, wipeD, dLe, dLt, dGe, dGt, dCm, dEq, dNe, dIdx, atI_0, atI_1, atI_2, wAsg, gN, gT, gCs, gNs, List.set, dInG, flatD, F1, List.length, limL_eq, shp_i, shp_s, shp_b, shp_n, eqv_ii, eqv_ss, F_check_rows, e] using h
    | some k => rw [e] at h; simpa [wExpr, wRet, wRetN, wIfS, wSeq, wNext, wT, wTand, wTor, wTnot, wAnd_eq, wOr_eq, wNot, wIsi_int, wIsi_bool, wIsi_str, wIsi_tup, wIsi_lst, tyInt, tyBool, tyStr, tyTup, tyLst, wChain_eq, wOp, wUn, wC, wVar, wCB, wCallP, fLen, wL, wComp, wSeqI, wZip, zipS, wCons, wNil, wTup, allK, argS, endP, noOwn, wipeD, dLe, dLt, dGe, dGt, dCm, dEq, dNe, dIdx, atI_0, atI_1, atI_2, wAsg, gN, gT, gCs, gNs, List.set, dInG, flatD, F1, List.length, limL_eq, shp_i, shp_s, shp_b, shp_n, eqv_ii, eqv_ss, F_check_rows, e] using h
theorem fo_check_text {f : Addr} {fd : FuncData} (Fu : Fun K "check_text" "check_text" s_check_text f fd) (B : Bt mg) (D_check_rows : Do P w K mg base (L2.CX P w) 5 "check_rows" 2 (spP K 2 (F_check_rows cNU))) : FnOk P w K mg base (L2.CX P w) 6 f fd ["text"] (spP K 1 (F_check_text cNU)) :=
  fnPO (wb := w_check_text cNU) Fu sc_check_text rfl (fun cdv A outer s H E hr => ⟨_,
  (sd_one (sd_expr (e_callO D_check_rows (hr.mono (by decide)) (passT (takes_of rfl rfl rfl rfl)) (ad_cons ed_str (ad_cons (ed_var 0) ad_nil)))))⟩) (spec_check_text cNU)
theorem ok_check_text {f : Addr} {fd : FuncData} (Fu : Fun K "check_text" "check_text" s_check_text f fd) (hm : mg "check_text" = some (.ref f)) (hb : Binds K fd ["text"] []) (B : Bt mg) (D_check_rows : Do P w K mg base (L2.CX P w) 5 "check_rows" 2 (spP K 2 (F_check_rows cNU))) : Do P w K mg base (L2.CX P w) 6 "check_text" 1 (spP K 1 (F_check_text cNU)) :=
  ⟨f, fd, ["text"], rfl, hm, Fu.kp, hb, fo_check_text Fu B D_check_rows⟩
/-! ## others_of -/
abbrev s_others_of : Stmt := top 25
theorem sc_others_of : FnScope ["pairs", "others", "k", "pair", "old", "other"] ["pairs"] (defScope s_others_of) := ⟨rfl, rfl, rfl, by decide +kernel, rfl, by decide +kernel, by decide +kernel⟩
def scanE (cNU : Addr) (r : (Str × PyData) ⊕ List (Str × Str)) (Q : List (Str × Str) → Prop) (E : Er → Prop) : Prop := match r with
  | .inl (w, d) => E (nuE cNU w d)
  | .inr ps => Q ps
abbrev F_others_of (cNU : Addr) : List PyData → (PyData → Prop) → (Er → Prop) → Prop := fun ds Q E => match ds with
  | [.tuple xs] => xs.length ≤ 1000 ∧ scanE cNU (scan xs 0 []) (fun ps => Q (.dict (kvD (dictE ps)))) E
  | _ => False
def w_others_of (cNU : Addr) : DS Unit :=
  (wSeq (wNewK 1)
  (wSeq (wFor (wEnum (wCons (wVar 0) wNil)) (gT 2 (gCs (gN 2) (gCs (gN 3) gNs))) (wSeq (wIfS (wTor (wTnot (wT (wCallP (fun ds Q E => ds.length = 1 ∧ F_is_pair ds Q E) (wCons (wVar 3) wNil)))) (wTor (wTnot (wT (wCallP (fun ds Q E => ds.length = 1 ∧ F_is_name ds Q E) (wCons (wOp dIdx (wVar 3) (wC (.int 0))) wNil)))) (wTnot (wT (wCallP (fun ds Q E => ds.length = 1 ∧ F_is_name ds Q E) (wCons (wOp dIdx (wVar 3) (wC (.int 1))) wNil)))))) (wRaise cNU "word" "at" (wCons (wC (.str "pairs")) (wCons (wVar 2) wNil))) wNext)
  (wSeq (wAsg (wVar 3) (gT 2 (gCs (gN 4) (gCs (gN 5) gNs))))
  (wSeq (wIfS (wT (wInK 1 (wVar 4))) (wRaise cNU "word" "at" (wCons (wC (.str "name")) (wCons (wVar 4) wNil))) wNext)
  (wPutK 1 (wVar 5) (wVar 4))))))
  (wFreezeK 1 (wRet (wVar 1)))))
theorem exprCall1 {F : List PyData → (PyData → Prop) → (Er → Prop) → Prop} {i : Nat} {ρ : List Sl} {d : PyData} {D : DEnds Unit} {v : DS Unit} (hi : ρ[i]? = some (.d d)) (h : F [d] (fun _ => v ρ () D) (fun e => D.er e ρ ())) : wSeq (wExpr (wCallP (fun ds Q E => ds.length = 1 ∧ F ds Q E) (wCons (wVar i) wNil))) v ρ () D := by
  simpa [wExpr, wRet, wRetN, wIfS, wSeq, wNext, wT, wTand, wTor, wTnot, wAnd_eq, wOr_eq, wNot, wIsi_int, wIsi_bool, wIsi_str, wIsi_tup, wIsi_lst, tyInt, tyBool, tyStr, tyTup, tyLst, wChain_eq, wOp, wUn, wC, wVar, wCB, wCallP, fLen, wL, wComp, wSeqI, wZip, zipS, wCons, wNil, wTup, allK, argS, endP, noOwn, wipeD, dLe, dLt, dGe, dGt, dCm, dEq, dNe, dIdx, atI_0, atI_1, atI_2, wAsg, gN, gT, gCs, gNs, List.set, dInG, flatD, F1, List.length, limL_eq, shp_i, shp_s, shp_b, shp_n, eqv_ii, eqv_ss, hi] using h
theorem exprCall2 {F : List PyData → (PyData → Prop) → (Er → Prop) → Prop} {i j : Nat} {ρ : List Sl} {d e : PyData} {D : DEnds Unit} {v : DS Unit} (hi : ρ[i]? = some (.d d)) (hj : ρ[j]? = some (.d e)) (h : F [d, e] (fun _ => v ρ () D) (fun e => D.er e ρ ())) : wSeq (wExpr (wCallP (fun ds Q E => ds.length = 2 ∧ F ds Q E) (wCons (wVar i) (wCons (wVar j) wNil)))) v ρ () D := by
  simpa [wExpr, wRet, wRetN, wIfS, wSeq, wNext, wT, wTand, wTor, wTnot, wAnd_eq, wOr_eq, wNot, wIsi_int, wIsi_bool, wIsi_str, wIsi_tup, wIsi_lst, tyInt, tyBool, tyStr, tyTup, tyLst, wChain_eq, wOp, wUn, wC, wVar, wCB, wCallP, fLen, wL, wComp, wSeqI, wZip, zipS, wCons, wNil, wTup, allK, argS, endP, noOwn, wipeD, dLe, dLt, dGe, dGt, dCm, dEq, dNe, dIdx, atI_0, atI_1, atI_2, wAsg, gN, gT, gCs, gNs, List.set, dInG, flatD, F1, List.length, limL_eq, shp_i, shp_s, shp_b, shp_n, eqv_ii, eqv_ss, hi, hj] using h
theorem allK_map : ∀ {ds : List PyData} {as : List Ag} {k : List PyData → Prop}, allK (ds.map Ag.d ++ as) k = allK as fun es => k (ds ++ es)
  | [], as, k => rfl
  | d :: ds, as, k => by
    show allK (ds.map Ag.d ++ as) (fun es => k (d :: es)) = _
    rw [allK_map]; rfl
theorem allK_map0 {ds : List PyData} {k : List PyData → Prop} : allK (ds.map Ag.d) k = k ds := by
  have h := allK_map (ds := ds) (as := []) (k := k)
  rw [List.append_nil] at h
  rw [h]
  show k (ds ++ []) = _
  rw [List.append_nil]
theorem cutD_le {α : Type} {xs : List α} {lo hi : Option Int} : (cutD xs lo hi).length ≤ xs.length := by
  unfold cutD
  rw [List.length_take, List.length_drop]
  omega
theorem putK_of {S : Type} {i : Nat} {w wk : DE S} {ρ : List Sl} {s : S} {D : DEnds S} {p : Addr} {es : List (Key × PyData)} (h0 : ρ[i]? = some (.ownK p es)) (h : w ρ s (fun d s1 => wk ρ s1 (fun y s2 => ∃ k, y = kD k ∧ es.length < limL ∧ D.nx (ρ.set i (.ownK p (pt es k d))) s2) fun e s' => D.er e ρ s') fun e s' => D.er e ρ s') : wPutK i w wk ρ s D := by
  unfold wPutK
  rw [h0]; exact h
theorem freezeK_of {S : Type} {i : Nat} {w : DS S} {ρ : List Sl} {s : S} {D : DEnds S} {p : Addr} {es : List (Key × PyData)} (h0 : ρ[i]? = some (.ownK p es)) (h : w (ρ.set i (.d (.dict (kvD es)))) s D) : wFreezeK i w ρ s D := by
  unfold wFreezeK
  rw [h0]; exact h
theorem inK_of {S : Type} {i : Nat} {wk : DE S} {ρ : List Sl} {s : S} {Q : PyData → S → Prop} {E : Er → S → Prop} {p : Addr} {es : List (Key × PyData)} (h0 : ρ[i]? = some (.ownK p es)) (h : wk ρ s (fun y s1 => ∃ k, y = kD k ∧ Q (.bool (lk es k).isSome) s1) E) : wInK i wk ρ s Q E := by
  unfold wInK
  rw [h0]; exact h
theorem enumD_at : ∀ (xs : List PyData) (j k : Nat) (d : PyData), (enumD j xs)[k]? = some d → ∃ x, xs[k]? = some x ∧ d = .tuple [.int ((j + k : Nat) : Int), x]
  | [], j, k, d, h => by simp [enumD] at h
  | x :: xs, j, 0, d, h => by
    simp only [enumD, List.getElem?_cons_zero, Option.some.injEq] at h
    exact ⟨x, rfl, h.symm⟩
  | x :: xs, j, k + 1, d, h => by
    simp only [enumD, List.getElem?_cons_succ] at h
    obtain ⟨y, hy, e⟩ := enumD_at xs (j + 1) k d h
    exact ⟨y, hy, by rw [e, show j + 1 + k = j + (k + 1) by omega]⟩
theorem dictE_pt {ps : List (Str × Str)} {a b : Str} (h : (ps.find? fun p => decide (p.1 = a)) = none) : pt (dictE ps) (.inr a) (.str b) = dictE (ps ++ [(a, b)]) := by
  have e : lk (dictE ps) (.inr a) = none := by rw [lk_dictE, h]; rfl
  unfold pt
  rw [lk_any, e]
  show _ ++ _ = _
  unfold dictE
  rw [List.map_append]; rfl
theorem if2_t {t : DT Unit} {a b : DS Unit} {ρ : List Sl} {s : Unit} {D : DEnds Unit} (h : ∀ (Q : Bool → Unit → Prop) (E : Er → Unit → Prop), Q true s → t ρ s Q E) (k : a ρ s D) : wIfS t a b ρ s D := h _ _ (by rw [if_pos rfl]; exact k)
theorem raise_of {S : Type} {C : Addr} {f1 f2 : Str} {w : DA S} {ρ : List Sl} {s : S} {D : DEnds S} (h : w ρ s (fun as s1 => allK as fun ds => match ds with
  | [d1, d2] => D.er ⟨C, [(f2, d2), (f1, d1)]⟩ ρ s1
  | _ => False) fun e s' => D.er e ρ s') : wRaise C f1 f2 w ρ s D := h
theorem enum_of {S : Type} {w : DE S} {ρ : List Sl} {s : S} {Q : List PyData → S → Prop} {E : Er → S → Prop} {xs : List PyData} (h : w ρ s (fun d s1 => d = .tuple xs ∧ Q (enumD 0 xs) s1) E) (hm : ∀ (Q1 Q2 : PyData → S → Prop), (∀ d s, Q1 d s → Q2 d s) → w ρ s Q1 E → w ρ s Q2 E) : wEnum (wCons w wNil) ρ s Q E := by
  refine hm _ _ (fun d s1 q => ?_) h
  obtain ⟨rfl, q⟩ := q
  exact q
theorem loop_scan (cNU : Addr) (xs : List PyData) (D : DEnds Unit) (body : DS Unit) (Qn : List (Str × Str) → Prop)
    (hx : ∀ z2 z3 z4 z5 ps (p : Addr), Qn ps → D.nx [.d (.tuple xs), .ownK p (dictE ps), z2, z3, z4, z5] ())
    (hb : ∀ (k : Nat) (d : PyData) (ps : List (Str × Str)) (p : Addr) (z4 z5 : Sl) (D' : DEnds Unit), ps.length ≤ k → k < xs.length →
      (∀ e ρ, D.er e ρ () → D'.er e ρ ()) →
      (∀ a b, d = .tuple [.str a, .str b] → isName (.str a) = true → isName (.str b) = true → (ps.find? fun q => decide (q.1 = a)) = none → ∀ z2 z3 z4 z5, D'.nx [.d (.tuple xs), .ownK p (dictE (ps ++ [(a, b)])), z2, z3, z4, z5] ()) →
      (∀ a b, d = .tuple [.str a, .str b] → isName (.str a) = true → isName (.str b) = true → (ps.find? fun q => decide (q.1 = a)).isSome = true → ∀ ρ, D'.er (nuE cNU "name" (.str a)) ρ ()) →
      ((∀ a b, d = .tuple [.str a, .str b] → (isName (.str a) && isName (.str b)) = false) → ∀ ρ, D'.er (nuE cNU "pairs" (.int (k : Int))) ρ ()) →
      body [.d (.tuple xs), .ownK p (dictE ps), .d (.int (k : Int)), .d d, z4, z5] () D')
    (hE : ∀ e ρ ρ', D.er e ρ () → D.er e ρ' ()) :
    ∀ (ys : List PyData) (k : Nat) (ps : List (Str × Str)) (p : Addr) (z2 z3 z4 z5 : Sl), ps.length ≤ k → k + ys.length ≤ xs.length →
      scanE cNU (scan ys k ps) Qn (fun e => ∀ ρ, D.er e ρ ()) → wLoop (gT 2 (gCs (gN 2) (gCs (gN 3) gNs))) body (enumD k ys) [.d (.tuple xs), .ownK p (dictE ps), z2, z3, z4, z5] () D
  | [], k, ps, p, z2, z3, z4, z5, hk, hl, h => hx _ _ _ _ _ _ h
  | y :: ys, k, ps, p, z2, z3, z4, z5, hk, hl, h => by
    rw [List.length_cons] at hl
    show (gT 2 (gCs (gN 2) (gCs (gN 3) gNs))) (.tuple [.int (k : Int), y]) _ _
    simp only [gT, gCs, gN, gNs, List.set]
    refine ⟨rfl, ?_⟩
    refine hb k y ps p z4 z5 _ hk (by omega) (fun e ρ q => q) (fun a b e ha hb' hn z2 z3 z4 z5 => ?_) (fun a b e ha hb' hs ρ => ?_) (fun ho ρ => ?_)
    · subst e
      rw [scan_ok ha hb', hn] at h
      exact loop_scan cNU xs D body Qn hx hb hE ys (k + 1) (ps ++ [(a, b)]) p z2 z3 z4 z5 (by rw [List.length_append]; simp; omega) (by omega) h
    · subst e
      rw [scan_ok ha hb', if_pos hs] at h
      exact h ρ
    · rw [scan_odd ho] at h
      exact h ρ
theorem spec_others_of (cNU : Addr) : ∀ ds Qd Ed, ds.length = 1 → F_others_of cNU ds Qd Ed → w_others_of cNU (argS 1 6 (ds.map Sl.d)) () (endP Qd Ed) := by
  intro ds Qd Ed hl h
  match ds, hl, h with
  | [.tuple xs], _, h =>
    obtain ⟨hn, h⟩ := h
    unfold w_others_of
    show wSeq _ _ [.d (.tuple xs), .no, .no, .no, .no, .no] () _
    refine seq_of (fun p => ?_)
    dsimp only [List.set]
    refine seq_of (for_of ?_)
    show wLoop _ _ (enumD 0 xs) _ _ _
    refine loop_scan cNU xs _ _ (fun ps => Qd (.dict (kvD (dictE ps)))) (fun z2 z3 z4 z5 ps p q => ?_) (fun k d ps p z4 z5 D' hk kl her hok hname hpairs => ?_) (fun e ρ ρ' q => q) xs 0 [] p .no .no .no .no (by simp) (by simp) ?_
    · dsimp only
      refine freezeK_of (i := 1) (p := p) (es := dictE ps) rfl ?_
      dsimp only [List.set]
      refine ret_of (var_of rfl ?_)
      exact q
    · have odd : ∀ (v : DS Unit), (∀ a b, d = .tuple [.str a, .str b] → (isName (.str a) && isName (.str b)) = false) → (∀ (Q : Bool → Unit → Prop) (E : Er → Unit → Prop), Q true () → (wTor (wTnot (wT (wCallP (fun ds Q E => ds.length = 1 ∧ F_is_pair ds Q E) (wCons (wVar 3) wNil)))) (wTor (wTnot (wT (wCallP (fun ds Q E => ds.length = 1 ∧ F_is_name ds Q E) (wCons (wOp dIdx (wVar 3) (wC (.int 0))) wNil)))) (wTnot (wT (wCallP (fun ds Q E => ds.length = 1 ∧ F_is_name ds Q E) (wCons (wOp dIdx (wVar 3) (wC (.int 1))) wNil)))))) [.d (.tuple xs), .ownK p (dictE ps), .d (.int (k : Int)), .d d, z4, z5] () Q E) →
          wSeq (wIfS (wTor (wTnot (wT (wCallP (fun ds Q E => ds.length = 1 ∧ F_is_pair ds Q E) (wCons (wVar 3) wNil)))) (wTor (wTnot (wT (wCallP (fun ds Q E => ds.length = 1 ∧ F_is_name ds Q E) (wCons (wOp dIdx (wVar 3) (wC (.int 0))) wNil)))) (wTnot (wT (wCallP (fun ds Q E => ds.length = 1 ∧ F_is_name ds Q E) (wCons (wOp dIdx (wVar 3) (wC (.int 1))) wNil)))))) (wRaise cNU "word" "at" (wCons (wC (.str "pairs")) (wCons (wVar 2) wNil))) wNext) v [.d (.tuple xs), .ownK p (dictE ps), .d (.int (k : Int)), .d d, z4, z5] () D' := fun v ho ht =>
        seqIf_t ht (raise_of (cons_of (c_of (cons_of (var_of rfl (nil_of (hpairs ho _)))))))
      by_cases cp : ∃ u v, d = .tuple [u, v]
      · obtain ⟨u, v, rfl⟩ := cp
        by_cases cu : isName u = true
        · by_cases cv : isName v = true
          · obtain ⟨a, rfl⟩ := isName_str cu
            obtain ⟨b, rfl⟩ := isName_str cv
            refine seqIf_f (fun Q E q => ?_) ?_
            · refine tor_of (tnot_of (t_of (callP1 (var_of rfl ⟨rfl, f1_of ?_⟩))))
              dsimp only [isPair]
              rw [if_neg (by decide)]
              refine tor_of (tnot_of (t_of (callP1 (op_of (var_of rfl (c_of ⟨_, atI_0, rfl, f1_of ?_⟩))))))
              try dsimp only
              rw [cu, if_neg (by decide)]
              refine tnot_of (t_of (callP1 (op_of (var_of rfl (c_of ⟨_, atI_1, rfl, f1_of ?_⟩)))))
              try dsimp only
              rw [cv]
              exact q
            refine seq_of (asg_of (var_of rfl ?_))
            simp only [gT, gCs, gN, gNs, List.set]
            refine ⟨rfl, ?_⟩
            by_cases hs : (ps.find? fun q => decide (q.1 = a)).isSome = true
            · refine seqIf_t (fun Q E q => t_of (inK_of (p := p) (es := dictE ps) rfl (var_of rfl ⟨.inr a, rfl, ?_⟩))) ?_
              · rw [lk_dictE, Option.isSome_map, hs]
                exact q
              · exact raise_of (cons_of (c_of (cons_of (var_of rfl (nil_of (hname a b rfl cu cv hs _))))))
            · have hs' : (ps.find? fun q => decide (q.1 = a)).isSome = false := eq_false_of_ne_true hs
              have hnn : (ps.find? fun q => decide (q.1 = a)) = none := Option.not_isSome_iff_eq_none.mp hs
              refine seqIf_f (fun Q E q => t_of (inK_of (p := p) (es := dictE ps) rfl (var_of rfl ⟨.inr a, rfl, ?_⟩))) ?_
              · rw [lk_dictE, Option.isSome_map, hs']
                exact q
              · refine putK_of (p := p) (es := dictE ps) rfl (var_of rfl (var_of rfl ⟨.inr a, rfl, ?_, ?_⟩))
                · unfold dictE
                  rw [List.length_map, limL_eq]; omega
                · rw [dictE_pt hnn]
                  exact hok a b rfl cu cv hnn _ _ _ _
          · have cv' : isName v = false := by simpa using cv
            refine odd _ (fun a b e => by
              injection e with e; injection e with _ e; injection e with e _
              rw [← e, cv', Bool.and_false]) fun Q E q => ?_
            refine tor_of (tnot_of (t_of (callP1 (var_of rfl ⟨rfl, f1_of ?_⟩))))
            dsimp only [isPair]
            rw [if_neg (by decide)]
            refine tor_of (tnot_of (t_of (callP1 (op_of (var_of rfl (c_of ⟨_, atI_0, rfl, f1_of ?_⟩))))))
            try dsimp only
            rw [cu, if_neg (by decide)]
            refine tnot_of (t_of (callP1 (op_of (var_of rfl (c_of ⟨_, atI_1, rfl, f1_of ?_⟩)))))
            try dsimp only
            rw [cv']
            exact q
        · have cu' : isName u = false := by simpa using cu
          refine odd _ (fun a b e => by
            injection e with e; injection e with e _
            rw [← e, cu', Bool.false_and]) fun Q E q => ?_
          refine tor_of (tnot_of (t_of (callP1 (var_of rfl ⟨rfl, f1_of ?_⟩))))
          dsimp only [isPair]
          rw [if_neg (by decide)]
          refine tor_of (tnot_of (t_of (callP1 (op_of (var_of rfl (c_of ⟨_, atI_0, rfl, f1_of ?_⟩))))))
          try dsimp only
          rw [cu', if_pos (by decide)]
          exact q
      · have ip : isPair d = false := by
          unfold isPair
          split
          · exact absurd ⟨_, _, rfl⟩ cp
          · rfl
        refine odd _ (fun a b e => absurd ⟨_, _, e⟩ cp) fun Q E q => ?_
        refine tor_of (tnot_of (t_of (callP1 (var_of rfl ⟨rfl, f1_of ?_⟩))))
        try dsimp only
        rw [ip, if_pos (by decide)]
        exact q
    · cases e : scan xs 0 [] with
      | inl z =>
        obtain ⟨wd, d⟩ := z
        rw [e] at h
        exact fun _ => h
      | inr ps =>
        rw [e] at h
        exact h
theorem fo_others_of {f : Addr} {fd : FuncData} (Fu : Fun K "others_of" "others_of" s_others_of f fd) (B : Bt mg) (D_is_name : Do P w K mg base CX0 1 "is_name" 1 (spP K 1 F_is_name)) (D_is_pair : Do P w K mg base CX0 1 "is_pair" 1 (spP K 1 F_is_pair)) (R_NotUsable : Ec P w K mg base "NotUsable" cNU "word" "at") : FnOk P w K mg base (L2.CX P w) 3 f fd ["pairs"] (spP K 1 (F_others_of cNU)) :=
  fnPO (wb := w_others_of cNU) Fu sc_others_of rfl (fun cdv A outer s H E hr => ⟨_,
  (sd_cons (sd_newK 1 sc_others_of.nd rfl (by first | exact .inl rfl | exact .inr rfl))
  (sd_cons (sd_for (L2.passes_of rfl) rfl (i_enum B (ad_cons (ed_var 0) ad_nil)) (g_tup rfl (gds_cons (gd_name 2 sc_others_of.nd rfl (by first | exact .inl rfl | exact .inr rfl)) (gds_cons (gd_name 3 sc_others_of.nd rfl (by first | exact .inl rfl | exact .inr rfl)) gds_nil))) (sd_cons (sd_if (td_bool (tw_or (td_not (td_val (e_callO D_is_pair (hr.mono (by decide)) pass00 (ad_cons (ed_var 3) ad_nil)))) (tw_or (td_not (td_val (e_callO D_is_name (hr.mono (by decide)) pass00 (ad_cons (e_ix (ed_var 3) ed_int) ad_nil)))) (tw_or1 (td_not (td_val (e_callO D_is_name (hr.mono (by decide)) pass00 (ad_cons (e_ix (ed_var 3) ed_int) ad_nil)))))))) (sd_one (sd_raise R_NotUsable (hr.mono (by decide)) rfl (takes_of rfl rfl rfl rfl) (ad_cons ed_str (ad_cons (ed_var 2) ad_nil)))) sd_nil)
  (sd_cons (sd_asg (ed_var 3) (g_tup rfl (gds_cons (gd_name 4 sc_others_of.nd rfl (by first | exact .inl rfl | exact .inr rfl)) (gds_cons (gd_name 5 sc_others_of.nd rfl (by first | exact .inl rfl | exact .inr rfl)) gds_nil))))
  (sd_cons (sd_if (t_inK 1 hr (ed_var 4)) (sd_one (sd_raise R_NotUsable (hr.mono (by decide)) rfl (takes_of rfl rfl rfl rfl) (ad_cons ed_str (ad_cons (ed_var 4) ad_nil)))) sd_nil)
  (sd_one (sd_putK 1 hr (ed_var 5) (ed_var 4)))))))
  (sd_freezeK 1 (sd_one (sd_ret (ed_var 1))))))⟩) (spec_others_of cNU)
theorem ok_others_of {f : Addr} {fd : FuncData} (Fu : Fun K "others_of" "others_of" s_others_of f fd) (hm : mg "others_of" = some (.ref f)) (hb : Binds K fd ["pairs"] []) (B : Bt mg) (D_is_name : Do P w K mg base CX0 1 "is_name" 1 (spP K 1 F_is_name)) (D_is_pair : Do P w K mg base CX0 1 "is_pair" 1 (spP K 1 F_is_pair)) (R_NotUsable : Ec P w K mg base "NotUsable" cNU "word" "at") : Do P w K mg base (L2.CX P w) 3 "others_of" 1 (spP K 1 (F_others_of cNU)) :=
  ⟨f, fd, ["pairs"], rfl, hm, Fu.kp, hb, fo_others_of Fu B D_is_name D_is_pair R_NotUsable⟩
/-! ## row_renamed -/
abbrev s_row_renamed : Stmt := top 26
theorem sc_row_renamed : FnScope ["row", "others"] ["row", "others"] (defScope s_row_renamed) := ⟨rfl, rfl, rfl, by decide +kernel, rfl, by decide +kernel, by decide +kernel⟩
abbrev F_row_renamed : List PyData → (PyData → Prop) → (Er → Prop) → Prop := fun ds Q _ => match ds with
  | [r, o] => ∃ ps : List (Str × Str), isRow r = true ∧ o = .dict (kvD (dictE ps)) ∧ Q (turnR false (late ps) r)
  | _ => False
def w_row_renamed : DS Unit :=
  (wSeq (wIfS (wT (wOp dIn (wOp dIdx (wVar 0) (wC (.int 0))) (wTup (wCons (wC (.str "let")) (wCons (wC (.str "use")) wNil))))) (wRet (wTup (wCons (wOp dIdx (wVar 0) (wC (.int 0))) (wCons (wGet2 (wVar 1) (wOp dIdx (wVar 0) (wC (.int 1))) (wOp dIdx (wVar 0) (wC (.int 1)))) (wCons (wOp dIdx (wVar 0) (wC (.int 2))) wNil))))) wNext)
  (wRet (wVar 0)))
theorem get2_of {S : Type} {wd wk wz : DE S} {ρ : List Sl} {s : S} {Q : PyData → S → Prop} {E : Er → S → Prop} (h : wd ρ s (fun x s1 => ∃ es : List (Key × PyData), x = .dict (kvD es) ∧ wk ρ s1 (fun y s2 => ∃ k, y = kD k ∧ wz ρ s2 (fun z s3 => Q ((lk es k).getD z) s3) E) E) E) : wGet2 wd wk wz ρ s Q E := h
theorem word_in {Q : PyData → Prop} {w a b : Str} (q : Q (.bool (decide (w = a ∨ w = b)))) : dIn (.str w) (.tuple [.str a, .str b]) Q := by
  refine ⟨rfl, rfl, ?_⟩
  have e : ([PyData.str a, PyData.str b].any fun y => PyData.eqv y (.str w)) = decide (w = a ∨ w = b) := by
    simp only [List.any_cons, List.any_nil, eqv_ss, Bool.or_false]
    by_cases c1 : a = w
    · subst c1; simp
    · by_cases c2 : b = w
      · subst c2; simp
      · simp [c1, c2, Ne.symm c1, Ne.symm c2]
  show Q (.bool (id _))
  rw [e]; exact q
theorem is_let {w : Str} {ρ : List Sl} {r : List PyData} {Q : Bool → Unit → Prop} {E : Er → Unit → Prop} (h0 : ρ[0]? = some (.d (.tuple (.str w :: r)))) (q : Q (decide (w = "let" ∨ w = "use")) ()) : wT (wOp dIn (wOp dIdx (wVar 0) (wC (.int 0))) (wTup (wCons (wC (.str "let")) (wCons (wC (.str "use")) wNil)))) ρ () Q E :=
  t_of (op_of (op_of (var_of h0 (c_of ⟨_, atI_0, tup_of (cons_of (c_of (cons_of (c_of (nil_of ⟨few_lim (by simp), word_in q⟩)))))⟩))))
theorem spec_row_renamed : ∀ ds Qd Ed, ds.length = 2 → F_row_renamed ds Qd Ed → w_row_renamed (argS 2 2 (ds.map Sl.d)) () (endP Qd Ed) := by
  intro ds Qd Ed hl h
  match ds, hl, h with
  | [r, o], _, h =>
    obtain ⟨ps, hr, rfl, h⟩ := h
    unfold w_row_renamed
    show wSeq _ _ [.d r, .d (.dict (kvD (dictE ps)))] () _
    have out : ∀ {w : Str} {z : List PyData}, r = .tuple (.str w :: z) → ¬ (w = "let" ∨ w = "use") → Qd r → wSeq (wIfS (wT (wOp dIn (wOp dIdx (wVar 0) (wC (.int 0))) (wTup (wCons (wC (.str "let")) (wCons (wC (.str "use")) wNil))))) (wRet (wTup (wCons (wOp dIdx (wVar 0) (wC (.int 0))) (wCons (wGet2 (wVar 1) (wOp dIdx (wVar 0) (wC (.int 1))) (wOp dIdx (wVar 0) (wC (.int 1)))) (wCons (wOp dIdx (wVar 0) (wC (.int 2))) wNil))))) wNext) (wRet (wVar 0)) [.d r, .d (.dict (kvD (dictE ps)))] () (endP Qd Ed) := fun e c q => by
      subst e
      exact seqIf_f (fun Q E q => is_let rfl (by rw [decide_eq_false c]; exact q)) (ret_of (var_of rfl q))
    cases rowK hr with
    | one c => exact out rfl (by rcases c with rfl | rfl <;> decide +kernel) h
    | @name w a b c ha hb =>
      refine seqIf_t (fun Q E q => is_let rfl (by rw [decide_eq_true c]; exact q)) (ret_of (tup_of ?_))
      refine cons_of (op_of (var_of rfl (c_of ⟨_, atI_0, cons_of (get2_of (var_of rfl ⟨dictE ps, rfl, op_of (var_of rfl (c_of ⟨_, atI_1, .inr a, rfl, op_of (var_of rfl (c_of ⟨_, atI_1, ?_⟩))⟩))⟩))⟩)))
      try dsimp only
      rw [get_dictE]
      exact cons_of (op_of (var_of rfl (c_of ⟨_, atI_2, nil_of ⟨few_lim (by simp), h⟩⟩)))
    | give ha => exact out rfl (by decide +kernel) h
    | opn c => exact out rfl (by decide +kernel) h
    | fn ha => exact out rfl (by decide +kernel) h
theorem fo_row_renamed {f : Addr} {fd : FuncData} (Fu : Fun K "row_renamed" "row_renamed" s_row_renamed f fd) (B : Bt mg) : FnOk P w K mg base CX0 1 f fd ["row", "others"] (spP K 2 F_row_renamed) :=
  fnPO (wb := w_row_renamed) Fu sc_row_renamed rfl (fun cdv A outer s H E hr => ⟨_,
  (sd_cons (sd_if (t_in hr (e_ix (ed_var 0) ed_int) (ed_tup (ad_cons ed_str (ad_cons ed_str ad_nil)))) (sd_one (sd_ret (ed_tup (ad_cons (e_ix (ed_var 0) ed_int) (ad_cons (e_get2 hr (ed_var 1) (e_ix (ed_var 0) ed_int) (e_ix (ed_var 0) ed_int)) (ad_cons (e_ix (ed_var 0) ed_int) ad_nil)))))) sd_nil)
  (sd_one (sd_ret (ed_var 0))))⟩) (spec_row_renamed)
theorem ok_row_renamed {f : Addr} {fd : FuncData} (Fu : Fun K "row_renamed" "row_renamed" s_row_renamed f fd) (hm : mg "row_renamed" = some (.ref f)) (hb : Binds K fd ["row", "others"] []) (B : Bt mg) : Do P w K mg base CX0 1 "row_renamed" 2 (spP K 2 F_row_renamed) :=
  ⟨f, fd, ["row", "others"], rfl, hm, Fu.kp, hb, fo_row_renamed Fu B⟩
/-! ## row_rekinded -/
abbrev s_row_rekinded : Stmt := top 27
theorem sc_row_rekinded : FnScope ["row", "others", "kind"] ["row", "others"] (defScope s_row_rekinded) := ⟨rfl, rfl, rfl, by decide +kernel, rfl, by decide +kernel, by decide +kernel⟩
abbrev F_row_rekinded : List PyData → (PyData → Prop) → (Er → Prop) → Prop := fun ds Q _ => match ds with
  | [r, o] => ∃ ps : List (Str × Str), isRow r = true ∧ o = .dict (kvD (dictE ps)) ∧ Q (turnR true (late ps) r)
  | _ => False
def w_row_rekinded : DS Unit :=
  (wSeq (wIfS (wT (wOp dIn (wOp dIdx (wVar 0) (wC (.int 0))) (wTup (wCons (wC (.str "let")) (wCons (wC (.str "use")) wNil))))) (wRet (wTup (wCons (wOp dIdx (wVar 0) (wC (.int 0))) (wCons (wOp dIdx (wVar 0) (wC (.int 1))) (wCons (wGet2 (wVar 1) (wOp dIdx (wVar 0) (wC (.int 2))) (wOp dIdx (wVar 0) (wC (.int 2)))) wNil))))) wNext)
  (wSeq (wIfS (wT (wOp dEq (wOp dIdx (wVar 0) (wC (.int 0))) (wC (.str "give")))) (wRet (wTup (wCons (wC (.str "give")) (wCons (wGet2 (wVar 1) (wOp dIdx (wVar 0) (wC (.int 1))) (wOp dIdx (wVar 0) (wC (.int 1)))) wNil)))) wNext)
  (wSeq (wIfS (wTand (wT (wOp dEq (wOp dIdx (wVar 0) (wC (.int 0))) (wC (.str "open")))) (wT (wCallP (fun ds Q E => ds.length = 1 ∧ F_is_pair ds Q E) (wCons (wOp dIdx (wVar 0) (wC (.int 1))) wNil)))) (wSeq (wAsg (wOp dIdx (wOp dIdx (wVar 0) (wC (.int 1))) (wC (.int 1))) (gN 2))
  (wRet (wTup (wCons (wC (.str "open")) (wCons (wTup (wCons (wC (.str "fun")) (wCons (wGet2 (wVar 1) (wVar 2) (wVar 2)) wNil))) wNil))))) wNext)
  (wRet (wVar 0)))))
theorem is_word {w z : Str} {ρ : List Sl} {r : List PyData} {Q : Bool → Unit → Prop} {E : Er → Unit → Prop} (h0 : ρ[0]? = some (.d (.tuple (.str w :: r)))) (q : Q (decide (w = z)) ()) : wT (wOp dEq (wOp dIdx (wVar 0) (wC (.int 0))) (wC (.str z))) ρ () Q E :=
  t_of (op_of (op_of (var_of h0 (c_of ⟨_, atI_0, c_of ⟨rfl, rfl, by rw [eqv_ss]; exact q⟩⟩))))
theorem spec_row_rekinded : ∀ ds Qd Ed, ds.length = 2 → F_row_rekinded ds Qd Ed → w_row_rekinded (argS 2 3 (ds.map Sl.d)) () (endP Qd Ed) := by
  intro ds Qd Ed hl h
  match ds, hl, h with
  | [r, o], _, h =>
    obtain ⟨ps, hr, rfl, h⟩ := h
    unfold w_row_rekinded
    show wSeq _ _ [.d r, .d (.dict (kvD (dictE ps))), .no] () _
    cases rowK hr with
    | @one w c =>
      have c1 : ¬ (w = "let" ∨ w = "use") := by rcases c with rfl | rfl <;> decide +kernel
      have c2 : ¬ w = "give" := by rcases c with rfl | rfl <;> decide +kernel
      have c3 : ¬ w = "open" := by rcases c with rfl | rfl <;> decide +kernel
      refine seqIf_f (fun Q E q => is_let rfl (by rw [decide_eq_false c1]; exact q)) ?_
      refine seqIf_f (fun Q E q => is_word rfl (by rw [decide_eq_false c2]; exact q)) ?_
      refine seqIf_f (fun Q E q => tand_of (is_word rfl (by rw [decide_eq_false c3, if_neg (by decide)]; exact q))) ?_
      exact ret_of (var_of rfl h)
    | @name w a b c ha hb =>
      refine seqIf_t (fun Q E q => is_let rfl (by rw [decide_eq_true c]; exact q)) (ret_of (tup_of ?_))
      refine cons_of (op_of (var_of rfl (c_of ⟨_, atI_0, cons_of (op_of (var_of rfl (c_of ⟨_, atI_1, ?_⟩)))⟩)))
      refine cons_of (get2_of (var_of rfl ⟨dictE ps, rfl, op_of (var_of rfl (c_of ⟨_, atI_2, .inr b, rfl, op_of (var_of rfl (c_of ⟨_, atI_2, ?_⟩))⟩))⟩))
      try dsimp only
      rw [get_dictE]
      exact nil_of ⟨few_lim (by simp), h⟩
    | @give a ha =>
      refine seqIf_f (fun Q E q => is_let rfl (by rw [decide_eq_false (by decide +kernel)]; exact q)) ?_
      refine seqIf_t (fun Q E q => is_word rfl (by rw [decide_eq_true rfl]; exact q)) (ret_of (tup_of ?_))
      refine cons_of (c_of (cons_of (get2_of (var_of rfl ⟨dictE ps, rfl, op_of (var_of rfl (c_of ⟨_, atI_1, .inr a, rfl, op_of (var_of rfl (c_of ⟨_, atI_1, ?_⟩))⟩))⟩))))
      try dsimp only
      rw [get_dictE]
      exact nil_of ⟨few_lim (by simp), h⟩
    | @opn a c =>
      refine seqIf_f (fun Q E q => is_let rfl (by rw [decide_eq_false (by decide +kernel)]; exact q)) ?_
      refine seqIf_f (fun Q E q => is_word rfl (by rw [decide_eq_false (by decide +kernel)]; exact q)) ?_
      refine seqIf_f (fun Q E q => tand_of (is_word rfl ?_)) (ret_of (var_of rfl h))
      rw [decide_eq_true rfl, if_pos rfl]
      exact t_of (callP1 (op_of (var_of rfl (c_of ⟨_, atI_1, rfl, f1_of q⟩))))
    | @fn a ha =>
      refine seqIf_f (fun Q E q => is_let rfl (by rw [decide_eq_false (by decide +kernel)]; exact q)) ?_
      refine seqIf_f (fun Q E q => is_word rfl (by rw [decide_eq_false (by decide +kernel)]; exact q)) ?_
      refine seqIf_t (fun Q E q => tand_of (is_word rfl ?_)) ?_
      · rw [decide_eq_true rfl, if_pos rfl]
        exact t_of (callP1 (op_of (var_of rfl (c_of ⟨_, atI_1, rfl, f1_of q⟩))))
      refine seq_of (asg_of (op_of (op_of (var_of rfl (c_of ⟨_, atI_1, c_of ⟨_, atI_1, ?_⟩⟩)))))
      dsimp only [gN, List.set]
      refine ret_of (tup_of (cons_of (c_of (cons_of (tup_of (cons_of (c_of (cons_of (get2_of (var_of rfl ⟨dictE ps, rfl, var_of rfl ⟨.inr a, rfl, var_of rfl ?_⟩⟩))))))))))
      try dsimp only
      rw [get_dictE]
      exact nil_of ⟨few_lim (by simp), nil_of ⟨few_lim (by simp), h⟩⟩
theorem fo_row_rekinded {f : Addr} {fd : FuncData} (Fu : Fun K "row_rekinded" "row_rekinded" s_row_rekinded f fd) (B : Bt mg) (D_is_pair : Do P w K mg base CX0 1 "is_pair" 1 (spP K 1 F_is_pair)) : FnOk P w K mg base CX0 2 f fd ["row", "others"] (spP K 2 F_row_rekinded) :=
  fnPO (wb := w_row_rekinded) Fu sc_row_rekinded rfl (fun cdv A outer s H E hr => ⟨_,
  (sd_cons (sd_if (t_in hr (e_ix (ed_var 0) ed_int) (ed_tup (ad_cons ed_str (ad_cons ed_str ad_nil)))) (sd_one (sd_ret (ed_tup (ad_cons (e_ix (ed_var 0) ed_int) (ad_cons (e_ix (ed_var 0) ed_int) (ad_cons (e_get2 hr (ed_var 1) (e_ix (ed_var 0) ed_int) (e_ix (ed_var 0) ed_int)) ad_nil)))))) sd_nil)
  (sd_cons (sd_if (t_eq hr (e_ix (ed_var 0) ed_int) ed_str) (sd_one (sd_ret (ed_tup (ad_cons ed_str (ad_cons (e_get2 hr (ed_var 1) (e_ix (ed_var 0) ed_int) (e_ix (ed_var 0) ed_int)) ad_nil))))) sd_nil)
  (sd_cons (sd_if (td_bool (tw_and (t_eq hr (e_ix (ed_var 0) ed_int) ed_str) (tw_and1 (td_val (e_callO D_is_pair (hr.mono (by decide)) pass00 (ad_cons (e_ix (ed_var 0) ed_int) ad_nil)))))) (sd_cons (sd_set 2 sc_row_rekinded.nd rfl (by first | exact .inl rfl | exact .inr rfl) (e_ix (e_ix (ed_var 0) ed_int) ed_int))
  (sd_one (sd_ret (ed_tup (ad_cons ed_str (ad_cons (ed_tup (ad_cons ed_str (ad_cons (e_get2 hr (ed_var 1) (ed_var 2) (ed_var 2)) ad_nil))) ad_nil)))))) sd_nil)
  (sd_one (sd_ret (ed_var 0))))))⟩) (spec_row_rekinded)
theorem ok_row_rekinded {f : Addr} {fd : FuncData} (Fu : Fun K "row_rekinded" "row_rekinded" s_row_rekinded f fd) (hm : mg "row_rekinded" = some (.ref f)) (hb : Binds K fd ["row", "others"] []) (B : Bt mg) (D_is_pair : Do P w K mg base CX0 1 "is_pair" 1 (spP K 1 F_is_pair)) : Do P w K mg base CX0 2 "row_rekinded" 2 (spP K 2 F_row_rekinded) :=
  ⟨f, fd, ["row", "others"], rfl, hm, Fu.kp, hb, fo_row_rekinded Fu B D_is_pair⟩
/-! ## renamed -/
abbrev s_renamed : Stmt := top 23
theorem sc_renamed : FnScope ["text", "pairs", "others", "row"] ((["text"] : List Str) ++ (["pairs"] : List Str)) (defScope s_renamed) := ⟨rfl, rfl, rfl, by decide +kernel, rfl, by decide +kernel, by decide +kernel⟩
/-- what renamed and rekinded answer -/
def turnW (cNU : Addr) (b : Bool) (d : PyData) (lot : List PyData) (Q : PyData → Prop) (E : Er → Prop) : Prop := match rowsFault d with
  | some k => E (nuE cNU "text" (.int k))
  | none => scanE cNU (scan lot 0 []) (fun ps => Q (.tuple ((elemsD d).map (turnR b (late ps))))) E
abbrev F_renamed (cNU : Addr) : List PyData → (PyData → Prop) → (Er → Prop) → Prop := fun ds Q E => match ds with
  | [d, .tuple lot] => lot.length ≤ 1000 ∧ (elemsD d).length ≤ 100000 ∧ turnW cNU false d lot Q E
  | _ => False
def w_renamed (cNU : Addr) : DS Unit :=
  (wSeq (wExpr (wCallP (fun ds Q E => ds.length = 1 ∧ (F_check_text cNU) ds Q E) (wCons (wVar 0) wNil)))
  (wSeq (wAsg (wCallP (fun ds Q E => ds.length = 1 ∧ (F_others_of cNU) ds Q E) (wCons (wVar 1) wNil)) (gN 2))
  (wRet (wCB fTuple (wCons (wL (wComp (wSeqI (wVar 0)) (gN 3) wYes (wCallP (fun ds Q E => ds.length = 2 ∧ F_row_renamed ds Q E) (wCons (wVar 3) (wCons (wVar 2) wNil))) [3])) wNil)))))
theorem rows_all {xs : List PyData} (h : rowsFault (.tuple xs) = none) : ∀ x ∈ xs, isRow x = true := by
  have h : ((xs.findIdx? fun x => !isRow x).map fun k => (k : Int)) = none := h
  cases e : xs.findIdx? fun x => !isRow x with
  | some k => rw [e] at h; cases h
  | none =>
    intro x hx
    have := List.findIdx?_eq_none_iff.mp e x hx
    simpa using this
theorem fault_tup {d : PyData} (h : rowsFault d = none) : ∃ xs, d = .tuple xs := by
  cases d with
  | tuple xs => exact ⟨xs, rfl⟩
  | _ => exact absurd h (by simp [rowsFault])
theorem spec_renamed (cNU : Addr) : ∀ ds Qd Ed, ds.length = 2 → F_renamed cNU ds Qd Ed → w_renamed cNU (argS 2 4 (ds.map Sl.d)) () (endP Qd Ed) := by
  intro ds Qd Ed hl h
  match ds, hl, h with
  | [d, .tuple lot], _, h =>
    obtain ⟨hn, hm, h⟩ := h
    unfold w_renamed
    show wSeq _ _ [.d d, .d (.tuple lot), .no, .no] () _
    unfold turnW at h
    refine exprCall1 (d := d) rfl ?_
    show match rowsFault d with | none => _ | some k => _
    cases e : rowsFault d with
    | some k => rw [e] at h; exact h
    | none =>
      rw [e] at h
      obtain ⟨xs, rfl⟩ := fault_tup e
      have hr := rows_all e
      dsimp only at h ⊢
      refine seq_of (asg_of (callP1 (var_of rfl ⟨rfl, hn, ?_⟩)))
      cases es : scan lot 0 [] with
      | inl z => rw [es] at h; exact h
      | inr ps =>
        rw [es] at h
        have h : Qd (.tuple (xs.map (turnR false (late ps)))) := h
        dsimp only [scanE, gN, List.set]
        refine ret_of (cb1_of (l_of (comp_of rfl (seqI_of (var_of rfl ?_)))))
        dsimp only [wipeD, List.set]
        refine comp_map (turnR false (late ps)) xs _ _ (fun x hx s Y y => ?_) ?_
        · dsimp only [gN, List.set]
          exact ⟨rfl, callP2 (var_of rfl (var_of rfl ⟨rfl, ps, hr x hx, rfl, y⟩))⟩
        · exact h
theorem fo_renamed {f : Addr} {fd : FuncData} (Fu : Fun K "renamed" "renamed" s_renamed f fd) (B : Bt mg) (D_check_text : Do P w K mg base (L2.CX P w) 6 "check_text" 1 (spP K 1 (F_check_text cNU))) (D_others_of : Do P w K mg base (L2.CX P w) 3 "others_of" 1 (spP K 1 (F_others_of cNU))) (D_row_renamed : Do P w K mg base CX0 1 "row_renamed" 2 (spP K 2 F_row_renamed)) : L2.FnR P w K mg base (L2.CX P w) 7 f (spS K 1 (F_renamed cNU)) :=
  fnS1 (wb := w_renamed cNU) Fu sc_renamed StX.cxUp (fun _ _ _ _ _ _ _ => rfl) (fun _ _ _ _ _ _ _ _ _ => rfl) (fun cdv A outer s H E hr => ⟨_,
  (sd_cons (sd_expr (e_callO D_check_text (hr.mono (by decide)) (passT (takes_of rfl rfl rfl rfl)) (ad_cons (ed_var 0) ad_nil)))
  (sd_cons (sd_set 2 sc_renamed.nd rfl (by first | exact .inl rfl | exact .inr rfl) (e_callO D_others_of (hr.mono (by decide)) (passT (takes_of rfl rfl rfl rfl)) (ad_cons (ed_var 1) ad_nil)))
  (sd_one (sd_ret (e_tupleOf B (ad_cons (ed_new (fd_lc rfl sc_renamed.nd (own := [("row", 3)]) (i_seq (ed_var 0)) (blkOk_by (own := [("row", 3)]) (N := ["text", "pairs", "others", "row"]) (sc := defScope s_renamed) (by decide +kernel))
    (fun _ _ _ _ _ => (gd_name 3 sc_renamed.nd rfl (by first | exact .inl rfl | exact .inr rfl))) (fun _ _ _ _ _ => ptd_nil) (fun _ _ _ _ _ => (e_callO D_row_renamed (hr.mono (by decide)) pass00 (ad_cons (ed_var 3) (ad_cons (ed_var 2) ad_nil)))) (by simp))) ad_nil))))))⟩) (spec_renamed cNU)
theorem ok_renamed {f : Addr} {fd : FuncData} (Fu : Fun K "renamed" "renamed" s_renamed f fd) (hm : mg "renamed" = some (.ref f)) (B : Bt mg) (D_check_text : Do P w K mg base (L2.CX P w) 6 "check_text" 1 (spP K 1 (F_check_text cNU))) (D_others_of : Do P w K mg base (L2.CX P w) 3 "others_of" 1 (spP K 1 (F_others_of cNU))) (D_row_renamed : Do P w K mg base CX0 1 "row_renamed" 2 (spP K 2 F_row_renamed)) : DoS P w K mg base (L2.CX P w) 7 "renamed" 1 (F_renamed cNU) :=
  ⟨f, hm, Fu.kp, fo_renamed Fu B D_check_text D_others_of D_row_renamed⟩
/-! ## rekinded -/
abbrev s_rekinded : Stmt := top 24
theorem sc_rekinded : FnScope ["text", "pairs", "others", "row"] ((["text"] : List Str) ++ (["pairs"] : List Str)) (defScope s_rekinded) := ⟨rfl, rfl, rfl, by decide +kernel, rfl, by decide +kernel, by decide +kernel⟩
abbrev F_rekinded (cNU : Addr) : List PyData → (PyData → Prop) → (Er → Prop) → Prop := fun ds Q E => match ds with
  | [d, .tuple lot] => lot.length ≤ 1000 ∧ (elemsD d).length ≤ 100000 ∧ turnW cNU true d lot Q E
  | _ => False
def w_rekinded (cNU : Addr) : DS Unit :=
  (wSeq (wExpr (wCallP (fun ds Q E => ds.length = 1 ∧ (F_check_text cNU) ds Q E) (wCons (wVar 0) wNil)))
  (wSeq (wAsg (wCallP (fun ds Q E => ds.length = 1 ∧ (F_others_of cNU) ds Q E) (wCons (wVar 1) wNil)) (gN 2))
  (wRet (wCB fTuple (wCons (wL (wComp (wSeqI (wVar 0)) (gN 3) wYes (wCallP (fun ds Q E => ds.length = 2 ∧ F_row_rekinded ds Q E) (wCons (wVar 3) (wCons (wVar 2) wNil))) [3])) wNil)))))
theorem spec_rekinded (cNU : Addr) : ∀ ds Qd Ed, ds.length = 2 → F_rekinded cNU ds Qd Ed → w_rekinded cNU (argS 2 4 (ds.map Sl.d)) () (endP Qd Ed) := by
  intro ds Qd Ed hl h
  match ds, hl, h with
  | [d, .tuple lot], _, h =>
    obtain ⟨hn, hm, h⟩ := h
    unfold w_rekinded
    show wSeq _ _ [.d d, .d (.tuple lot), .no, .no] () _
    unfold turnW at h
    refine exprCall1 (d := d) rfl ?_
    show match rowsFault d with | none => _ | some k => _
    cases e : rowsFault d with
    | some k => rw [e] at h; exact h
    | none =>
      rw [e] at h
      obtain ⟨xs, rfl⟩ := fault_tup e
      have hr := rows_all e
      dsimp only at h ⊢
      refine seq_of (asg_of (callP1 (var_of rfl ⟨rfl, hn, ?_⟩)))
      cases es : scan lot 0 [] with
      | inl z => rw [es] at h; exact h
      | inr ps =>
        rw [es] at h
        have h : Qd (.tuple (xs.map (turnR true (late ps)))) := h
        dsimp only [scanE, gN, List.set]
        refine ret_of (cb1_of (l_of (comp_of rfl (seqI_of (var_of rfl ?_)))))
        dsimp only [wipeD, List.set]
        refine comp_map (turnR true (late ps)) xs _ _ (fun x hx s Y y => ?_) ?_
        · dsimp only [gN, List.set]
          exact ⟨rfl, callP2 (var_of rfl (var_of rfl ⟨rfl, ps, hr x hx, rfl, y⟩))⟩
        · exact h
theorem fo_rekinded {f : Addr} {fd : FuncData} (Fu : Fun K "rekinded" "rekinded" s_rekinded f fd) (B : Bt mg) (D_check_text : Do P w K mg base (L2.CX P w) 6 "check_text" 1 (spP K 1 (F_check_text cNU))) (D_others_of : Do P w K mg base (L2.CX P w) 3 "others_of" 1 (spP K 1 (F_others_of cNU))) (D_row_rekinded : Do P w K mg base CX0 2 "row_rekinded" 2 (spP K 2 F_row_rekinded)) : L2.FnR P w K mg base (L2.CX P w) 7 f (spS K 1 (F_rekinded cNU)) :=
  fnS1 (wb := w_rekinded cNU) Fu sc_rekinded StX.cxUp (fun _ _ _ _ _ _ _ => rfl) (fun _ _ _ _ _ _ _ _ _ => rfl) (fun cdv A outer s H E hr => ⟨_,
  (sd_cons (sd_expr (e_callO D_check_text (hr.mono (by decide)) (passT (takes_of rfl rfl rfl rfl)) (ad_cons (ed_var 0) ad_nil)))
  (sd_cons (sd_set 2 sc_rekinded.nd rfl (by first | exact .inl rfl | exact .inr rfl) (e_callO D_others_of (hr.mono (by decide)) (passT (takes_of rfl rfl rfl rfl)) (ad_cons (ed_var 1) ad_nil)))
  (sd_one (sd_ret (e_tupleOf B (ad_cons (ed_new (fd_lc rfl sc_rekinded.nd (own := [("row", 3)]) (i_seq (ed_var 0)) (blkOk_by (own := [("row", 3)]) (N := ["text", "pairs", "others", "row"]) (sc := defScope s_rekinded) (by decide +kernel))
    (fun _ _ _ _ _ => (gd_name 3 sc_rekinded.nd rfl (by first | exact .inl rfl | exact .inr rfl))) (fun _ _ _ _ _ => ptd_nil) (fun _ _ _ _ _ => (e_callO D_row_rekinded (hr.mono (by decide)) pass00 (ad_cons (ed_var 3) (ad_cons (ed_var 2) ad_nil)))) (by simp))) ad_nil))))))⟩) (spec_rekinded cNU)
theorem ok_rekinded {f : Addr} {fd : FuncData} (Fu : Fun K "rekinded" "rekinded" s_rekinded f fd) (hm : mg "rekinded" = some (.ref f)) (B : Bt mg) (D_check_text : Do P w K mg base (L2.CX P w) 6 "check_text" 1 (spP K 1 (F_check_text cNU))) (D_others_of : Do P w K mg base (L2.CX P w) 3 "others_of" 1 (spP K 1 (F_others_of cNU))) (D_row_rekinded : Do P w K mg base CX0 2 "row_rekinded" 2 (spP K 2 F_row_rekinded)) : DoS P w K mg base (L2.CX P w) 7 "rekinded" 1 (F_rekinded cNU) :=
  ⟨f, hm, Fu.kp, fo_rekinded Fu B D_check_text D_others_of D_row_rekinded⟩
end
end L07

set_option Elab.async false
set_option linter.all false
set_option autoImplicit false
set_option maxRecDepth 100000
set_option maxHeartbeats 600000
namespace L07
open PySem PySem.Spec Dt
open L2 hiding wT wNot
def isText : PyData → Bool
  | .tuple xs => xs.all isRow
  | _ => false
abbrev F1d (g : PyData → PyData) : List PyData → (PyData → Prop) → (Er → Prop) → Prop := fun ds Q _ => match ds with
  | [d] => PyData.depth d ≤ 50 ∧ Q (g d)
  | _ => False
theorem depth_mem {n : Nat} : ∀ {xs : List PyData}, PyData.depthAll xs ≤ n → ∀ d ∈ xs, PyData.depth d ≤ n
  | [], _, d, h => by cases h
  | a :: r, hn, d, h => by
    simp only [PyData.depthAll] at hn
    rcases List.mem_cons.mp h with e | h
    · rw [e]; omega
    · exact depth_mem (by omega) d h
theorem depth_all {n : Nat} : ∀ {xs : List PyData}, (∀ d ∈ xs, PyData.depth d ≤ n) → PyData.depthAll xs ≤ n
  | [], _ => by simp only [PyData.depthAll]; omega
  | a :: r, h => by
    simp only [PyData.depthAll]
    have h1 := h a List.mem_cons_self
    have h2 := depth_all fun d hd => h d (List.mem_cons_of_mem _ hd)
    omega
theorem flat_all : ∀ {xs : List PyData}, (∀ d ∈ xs, flatD d = true) → PyData.depthAll xs = 0 ∧ PyData.hasDictAll xs = false
  | [], _ => ⟨by simp only [PyData.depthAll], by simp only [PyData.hasDictAll]⟩
  | d :: r, h => by
    obtain ⟨h1, h2⟩ := flat_all fun x hx => h x (List.mem_cons_of_mem _ hx)
    have hd := h d List.mem_cons_self
    simp only [PyData.depthAll, PyData.hasDictAll, h1, h2]
    cases d <;> first | exact ⟨by simp only [PyData.depth]; omega, by simp only [PyData.hasDict]; rfl⟩ | cases hd
theorem shp_lst {xs : List PyData} (h : ∀ d ∈ xs, flatD d = true) : shp (.list xs) = true := by
  obtain ⟨h1, h2⟩ := flat_all h
  rw [shp_iff]
  exact ⟨by simp only [PyData.depth, h1]; omega, by simp only [PyData.hasDict, h2]⟩
theorem shp_e : shp (.list []) = true := shp_lst fun d h => by cases h
theorem eqv_e {xs : List PyData} : PyData.eqv (.list xs) (.list []) = xs.isEmpty := by
  simp only [PyData.eqv]
  cases xs <;> simp only [PyData.eqvAll] <;> rfl
theorem str_empty {x : Str} (h : x.length = 0) : x = "" := by
  cases x with
  | mk c =>
    have : c = #[] := Array.eq_empty_of_size_eq_zero h
    subst this
    rfl
theorem ne_end_open : ¬ ("end" : Str) = "open" := by decide +kernel
theorem ne_stop_open : ¬ ("stop" : Str) = "open" := by decide +kernel
theorem ne_end_give : ¬ ("end" : Str) = "give" := by decide +kernel
theorem ne_stop_give : ¬ ("stop" : Str) = "give" := by decide +kernel
theorem ne_give_open : ¬ ("give" : Str) = "open" := by decide +kernel
theorem row_open {r : List PyData} : isRow2 (.str "open") r = (match r with | [a] => isSort a | _ => false) := by
  have t1 : isOneOf (.str "open") [.str "end", .str "stop"] = false := by decide +kernel
  have t2 : isOneOf (.str "open") [.str "let", .str "use"] = false := by decide +kernel
  have t3 : isOneOf (.str "open") [.str "open"] = true := by decide +kernel
  unfold isRow2
  rw [t1, t2, t3, if_neg (by decide), if_neg (by decide), if_pos rfl]
  all_goals rfl
theorem row_give {r : List PyData} : isRow2 (.str "give") r = (match r with | [a] => isKind a | _ => false) := by
  have t1 : isOneOf (.str "give") [.str "end", .str "stop"] = false := by decide +kernel
  have t2 : isOneOf (.str "give") [.str "let", .str "use"] = false := by decide +kernel
  have t3 : isOneOf (.str "give") [.str "open"] = false := by decide +kernel
  have t4 : isOneOf (.str "give") [.str "give"] = true := by decide +kernel
  unfold isRow2
  rw [t1, t2, t3, t4, if_neg (by decide), if_neg (by decide), if_neg (by decide), Bool.true_and]
  all_goals rfl
theorem pw_eq : ∀ {a b : List Int}, a.Pairwise (· < ·) → b.Pairwise (· < ·) → (∀ k, k ∈ a ↔ k ∈ b) → a = b
  | [], [], _, _, _ => rfl
  | [], y :: b, _, _, h => absurd ((h y).mpr List.mem_cons_self) (by simp)
  | x :: a, [], _, _, h => absurd ((h x).mp List.mem_cons_self) (by simp)
  | x :: a, y :: b, h1, h2, h => by
    have p1 := List.pairwise_cons.mp h1
    have p2 := List.pairwise_cons.mp h2
    have e : x = y := by
      rcases List.mem_cons.mp ((h x).mp List.mem_cons_self) with e | m
      · exact e
      · rcases List.mem_cons.mp ((h y).mpr List.mem_cons_self) with e | m2
        · exact e.symm
        · have := p2.1 x m
          have := p1.1 y m2
          omega
    subst e
    rw [pw_eq p1.2 p2.2 fun k => ?_]
    constructor
    · intro m
      rcases List.mem_cons.mp ((h k).mp (List.mem_cons_of_mem _ m)) with e | m'
      · have := p1.1 k m; omega
      · exact m'
    · intro m
      rcases List.mem_cons.mp ((h k).mpr (List.mem_cons_of_mem _ m)) with e | m'
      · have := p2.1 k m; omega
      · exact m'
theorem eqv_ints : ∀ ns ms : List Int, PyData.eqvAll (ns.map PyData.int) (ms.map PyData.int) = decide (ns = ms)
  | [], [] => by simp only [List.map_nil, PyData.eqvAll]; rfl
  | [], m :: ms => by simp only [List.map_nil, List.map_cons, PyData.eqvAll]; simp
  | n :: ns, [] => by simp only [List.map_nil, List.map_cons, PyData.eqvAll]; simp
  | n :: ns, m :: ms => by
    simp only [List.map_cons, PyData.eqvAll, eqv_ii, eqv_ints ns ms]
    rw [← Bool.decide_and]
    exact decide_eq_decide.mpr (by simp)
theorem ints_of : ∀ {xs : List PyData}, xs.all isNum = true → ∃ ns : List Int, xs = ns.map PyData.int
  | [], _ => ⟨[], rfl⟩
  | a :: r, h => by
    simp only [List.all_cons, Bool.and_eq_true] at h
    obtain ⟨ns, e⟩ := ints_of h.2
    cases a with
    | int i => exact ⟨i :: ns, by rw [e]; rfl⟩
    | _ => exact absurd h.1 (by simp [isNum])
theorem loop_ret {g : DG} {b : DS Unit} {D : DEnds Unit} (I : List PyData → List Sl → Prop) (h0 : ∀ ρ, I [] ρ → D.nx ρ ())
    (h1 : ∀ (d : PyData) (ds : List PyData) (ρ : List Sl) (D' : DEnds Unit), I (d :: ds) ρ → D'.rt = D.rt → D'.er = D.er → (∀ ρ', I ds ρ' → D'.nx ρ' ()) → (∀ ρ', I ds ρ' → D'.ct ρ' ()) → g d ρ fun ρ1 => b ρ1 () D') : ∀ (ds : List PyData) (ρ : List Sl), I ds ρ → wLoop g b ds ρ () D
  | [], ρ, i => h0 ρ i
  | d :: ds, ρ, i => h1 d ds ρ _ i rfl rfl (fun ρ' i' => loop_ret I h0 h1 ds ρ' i') (fun ρ' i' => loop_ret I h0 h1 ds ρ' i')
theorem depth_tup {xs : List PyData} {n : Nat} (h : PyData.depth (.tuple xs) ≤ n + 1) : ∀ d ∈ xs, PyData.depth d ≤ n := by
  simp only [PyData.depth] at h
  exact depth_mem (by omega)
section
variable {P : Program} {w : World} {K : PySem.W.Frag} {mg : Str → Option Value} {base : Heap}
/-! ## _law_is_number -/
abbrev s__law_is_number : Stmt := top 34
theorem sc__law_is_number : FnScope ["_law_item_here"] ["_law_item_here"] (defScope s__law_is_number) := ⟨rfl, rfl, rfl, by decide +kernel, rfl, by decide +kernel, by decide +kernel⟩
abbrev F__law_is_number := F1 fun d => .bool (isNum d)
def w__law_is_number : DS Unit :=
  (wRet (wAnd (wIsi "int" (wVar 0)) (wAnd (wNot (wIsi "bool" (wVar 0))) (wOp dGe (wVar 0) (wC (.int 0))))))
theorem spec__law_is_number : ∀ ds Qd Ed, ds.length = 1 → F__law_is_number ds Qd Ed → w__law_is_number (argS 1 1 (ds.map Sl.d)) () (endP Qd Ed) := by
  intro ds Qd Ed hl h
  match ds, hl, h with
  | [d], _, h =>
    unfold w__law_is_number
    cases d <;> simpa [wRet, wRetN, wIfS, wSeq, wNext, wT, wTand, wTor, wTnot, wAnd_eq, wOr_eq, wNot, wIsi_int, wIsi_bool, wIsi_str, wIsi_tup, wIsi_lst, tyInt, tyBool, tyStr, tyTup, tyLst, wChain_eq, wOp, wUn, wC, wVar, wCB, wCallP, fLen, wL, wComp, wSeqI, wZip, zipS, wCons, wNil, wTup, allK, argS, endP, noOwn, wipeD, dLe, dLt, dGe, dGt, dCm, dEq, dNe, dIdx, atI_0, atI_1, atI_2, wAsg, gN, gT, gCs, gNs, List.set, dInG, flatD, F1, List.length, limL_eq, shp_i, shp_s, shp_b, shp_n, eqv_ii, eqv_ss, shp_e, eqv_e, wLst, wListOf, F1d, F__law_is_number, isNum] using h
theorem ok__law_is_number {f : Addr} {fd : FuncData} (Fu : Fun K "_law_is_number" "_law_is_number" s__law_is_number f fd) (hm : mg "_law_is_number" = some (.ref f)) (hb : Binds K fd ["_law_item_here"] []) (B : Bt mg) : Df P w K mg base CX0 1 "_law_is_number" 1 (spP K 1 F__law_is_number) :=
  ⟨f, fd, ["_law_item_here"], rfl, hm, Fu.kp, hb, fnP (wb := w__law_is_number) Fu sc__law_is_number rfl (fun cdv A outer s H E hG hr => ⟨_,
  (sd_one (sd_ret (ed_and (e_isi (T' := "int") B (ed_var 0) (by decide +kernel)) (ed_and (ed_not (e_isi (T' := "bool") B (ed_var 0) (by decide +kernel))) (ed_one (e_ge (ed_var 0) ed_int))))))⟩) (spec__law_is_number)⟩
/-! ## _law_is_name -/
abbrev s__law_is_name : Stmt := top 35
theorem sc__law_is_name : FnScope ["_law_item_here", "_law_sign"] ["_law_item_here"] (defScope s__law_is_name) := ⟨rfl, rfl, rfl, by decide +kernel, rfl, by decide +kernel, by decide +kernel⟩
def ntL : PyData → Bool
  | .str c => !isLet c
  | _ => false
abbrev F__law_is_name := F1 fun d => .bool (isName d)
def w__law_is_name : DS Unit :=
  (wSeq (wIfS (wTor (wTnot (wT (wIsi "str" (wVar 0)))) (wTnot (wT (wChain dLe dLe (wC (.int 1)) (wCB fLen (wCons (wVar 0) wNil)) (wC (.int 8)))))) (wRet (wC (.bool false))) wNext)
  (wRet (wOp dEq (wL (wComp (wSeqI (wVar 0)) (gN 1) (wT (wOp dNotIn (wVar 1) (wC (.str "abcdefghijklmnopqrstuvwxyz")))) (wVar 1) [1])) (wL (wLst wNil)))))
theorem spec__law_is_name : ∀ ds Qd Ed, ds.length = 1 → F__law_is_name ds Qd Ed → w__law_is_name (argS 1 2 (ds.map Sl.d)) () (endP Qd Ed) := by
  intro ds Qd Ed hl h
  match ds, hl, h with
  | [d], _, h =>
    unfold w__law_is_name
    cases d with
    | str x =>
      have h : Qd (.bool (isName (.str x))) := h
      by_cases c1 : (1 : Int) ≤ (x.length : Int)
      · by_cases c2 : (x.length : Int) ≤ 8
        · have e : isName (.str x) = x.cps.toList.all fun c => isLet ⟨#[c]⟩ := by
            have a1 : 1 ≤ x.length := by omega
            have a2 : x.length ≤ 8 := by omega
            simp [isName, a1, a2]
          simp [wRet, wRetN, wIfS, wSeq, wNext, wT, wTand, wTor, wTnot, wAnd_eq, wOr_eq, wNot, wIsi_int, wIsi_bool, wIsi_str, wIsi_tup, wIsi_lst, tyInt, tyBool, tyStr, tyTup, tyLst, wChain_eq, wOp, wUn, wC, wVar, wCB, wCallP, fLen, wL, wComp, wSeqI, wZip, zipS, wCons, wNil, wTup, allK, argS, endP, noOwn, wipeD, dLe, dLt, dGe, dGt, dCm, dEq, dNe, dIdx, atI_0, atI_1, atI_2, wAsg, gN, gT, gCs, gNs, List.set, dInG, flatD, F1, List.length, limL_eq, shp_i, shp_s, shp_b, shp_n, eqv_ii, eqv_ss, shp_e, eqv_e, wLst, wListOf, F1d, F__law_is_number, F__law_is_name, c1, c2]
          refine comp_fm ntL id _ _ _ (fun d hd s Y N y => ?_) ?_
          · obtain ⟨c, hc, rfl⟩ := List.mem_map.mp hd
            by_cases q : strIn ⟨#[c]⟩ "abcdefghijklmnopqrstuvwxyz" = true
            · simp [ntL, isLet, q] at y
              simp [wRet, wRetN, wIfS, wSeq, wNext, wT, wTand, wTor, wTnot, wAnd_eq, wOr_eq, wNot, wIsi_int, wIsi_bool, wIsi_str, wIsi_tup, wIsi_lst, tyInt, tyBool, tyStr, tyTup, tyLst, wChain_eq, wOp, wUn, wC, wVar, wCB, wCallP, fLen, wL, wComp, wSeqI, wZip, zipS, wCons, wNil, wTup, allK, argS, endP, noOwn, wipeD, dLe, dLt, dGe, dGt, dCm, dEq, dNe, dIdx, atI_0, atI_1, atI_2, wAsg, gN, gT, gCs, gNs, List.set, dInG, flatD, F1, List.length, limL_eq, shp_i, shp_s, shp_b, shp_n, eqv_ii, eqv_ss, shp_e, eqv_e, wLst, wListOf, F1d, F__law_is_number, F__law_is_name, q]
              exact y
            · simp [ntL, isLet, q] at y
              simp [wRet, wRetN, wIfS, wSeq, wNext, wT, wTand, wTor, wTnot, wAnd_eq, wOr_eq, wNot, wIsi_int, wIsi_bool, wIsi_str, wIsi_tup, wIsi_lst, tyInt, tyBool, tyStr, tyTup, tyLst, wChain_eq, wOp, wUn, wC, wVar, wCB, wCallP, fLen, wL, wComp, wSeqI, wZip, zipS, wCons, wNil, wTup, allK, argS, endP, noOwn, wipeD, dLe, dLt, dGe, dGt, dCm, dEq, dNe, dIdx, atI_0, atI_1, atI_2, wAsg, gN, gT, gCs, gNs, List.set, dInG, flatD, F1, List.length, limL_eq, shp_i, shp_s, shp_b, shp_n, eqv_ii, eqv_ss, shp_e, eqv_e, wLst, wListOf, F1d, F__law_is_number, F__law_is_name, q]
              exact y
          · rw [List.map_id]
            refine ⟨shp_lst fun d hd => ?_, ?_⟩
            · obtain ⟨c, hc, rfl⟩ := List.mem_map.mp (List.mem_filter.mp hd).1
              rfl
            · rw [e] at h
              have e2 : ((signs x).filter ntL).isEmpty = x.cps.toList.all fun c => isLet ⟨#[c]⟩ := by
                rw [Bool.eq_iff_iff, List.isEmpty_iff, List.filter_eq_nil_iff, List.all_eq_true]
                constructor
                · intro q c hc
                  have := q _ (List.mem_map.mpr ⟨c, hc, rfl⟩)
                  simpa [ntL] using this
                · intro q d hd
                  obtain ⟨c, hc, rfl⟩ := List.mem_map.mp hd
                  simpa [ntL] using q c hc
              rw [e2]; exact h
        · have e : isName (.str x) = false := by
            have a2 : ¬ x.length ≤ 8 := by omega
            simp [isName, a2]
          rw [e] at h
          simpa [wRet, wRetN, wIfS, wSeq, wNext, wT, wTand, wTor, wTnot, wAnd_eq, wOr_eq, wNot, wIsi_int, wIsi_bool, wIsi_str, wIsi_tup, wIsi_lst, tyInt, tyBool, tyStr, tyTup, tyLst, wChain_eq, wOp, wUn, wC, wVar, wCB, wCallP, fLen, wL, wComp, wSeqI, wZip, zipS, wCons, wNil, wTup, allK, argS, endP, noOwn, wipeD, dLe, dLt, dGe, dGt, dCm, dEq, dNe, dIdx, atI_0, atI_1, atI_2, wAsg, gN, gT, gCs, gNs, List.set, dInG, flatD, F1, List.length, limL_eq, shp_i, shp_s, shp_b, shp_n, eqv_ii, eqv_ss, shp_e, eqv_e, wLst, wListOf, F1d, F__law_is_number, F__law_is_name, c1, c2] using h
      · have e : isName (.str x) = false := by
          have a1 : ¬ 1 ≤ x.length := by omega
          simp [isName, a1]
        rw [e] at h
        simpa [wRet, wRetN, wIfS, wSeq, wNext, wT, wTand, wTor, wTnot, wAnd_eq, wOr_eq, wNot, wIsi_int, wIsi_bool, wIsi_str, wIsi_tup, wIsi_lst, tyInt, tyBool, tyStr, tyTup, tyLst, wChain_eq, wOp, wUn, wC, wVar, wCB, wCallP, fLen, wL, wComp, wSeqI, wZip, zipS, wCons, wNil, wTup, allK, argS, endP, noOwn, wipeD, dLe, dLt, dGe, dGt, dCm, dEq, dNe, dIdx, atI_0, atI_1, atI_2, wAsg, gN, gT, gCs, gNs, List.set, dInG, flatD, F1, List.length, limL_eq, shp_i, shp_s, shp_b, shp_n, eqv_ii, eqv_ss, shp_e, eqv_e, wLst, wListOf, F1d, F__law_is_number, F__law_is_name, c1] using h
    | _ => simpa [wRet, wRetN, wIfS, wSeq, wNext, wT, wTand, wTor, wTnot, wAnd_eq, wOr_eq, wNot, wIsi_int, wIsi_bool, wIsi_str, wIsi_tup, wIsi_lst, tyInt, tyBool, tyStr, tyTup, tyLst, wChain_eq, wOp, wUn, wC, wVar, wCB, wCallP, fLen, wL, wComp, wSeqI, wZip, zipS, wCons, wNil, wTup, allK, argS, endP, noOwn, wipeD, dLe, dLt, dGe, dGt, dCm, dEq, dNe, dIdx, atI_0, atI_1, atI_2, wAsg, gN, gT, gCs, gNs, List.set, dInG, flatD, F1, List.length, limL_eq, shp_i, shp_s, shp_b, shp_n, eqv_ii, eqv_ss, shp_e, eqv_e, wLst, wListOf, F1d, F__law_is_number, F__law_is_name, isName] using h
theorem ok__law_is_name {f : Addr} {fd : FuncData} (Fu : Fun K "_law_is_name" "_law_is_name" s__law_is_name f fd) (hm : mg "_law_is_name" = some (.ref f)) (hb : Binds K fd ["_law_item_here"] []) (B : Bt mg) : Df P w K mg base CX0 1 "_law_is_name" 1 (spP K 1 F__law_is_name) :=
  ⟨f, fd, ["_law_item_here"], rfl, hm, Fu.kp, hb, fnP (wb := w__law_is_name) Fu sc__law_is_name rfl (fun cdv A outer s H E hG hr => ⟨_,
  (sd_cons (sd_if (td_bool (tw_or (td_not (td_val (e_isi (T' := "str") B (ed_var 0) (by decide +kernel)))) (tw_or1 (td_not (t_leLe ed_int (e_len B (ad_cons (ed_var 0) ad_nil)) ed_int))))) (sd_one (sd_ret ed_bl)) sd_nil)
  (sd_one (sd_ret (e_eq hr (ed_new (fd_lc rfl sc__law_is_name.nd (own := [("_law_sign", 1)]) (i_seq (ed_var 0)) (blkOk_by (own := [("_law_sign", 1)]) (N := ["_law_item_here", "_law_sign"]) (sc := defScope s__law_is_name) (by decide +kernel))
    (fun _ _ _ _ _ => (gd_name 1 sc__law_is_name.nd rfl (by first | exact .inl rfl | exact .inr rfl))) (fun _ _ _ _ _ => (ptd_one (t_notIn hr (ed_var 1) ed_str))) (fun _ _ _ _ _ => (ed_var 1)) (by simp))) (ed_new (fd_lst ad_nil))))))⟩) (spec__law_is_name)⟩
/-! ## _law_is_kind -/
abbrev s__law_is_kind : Stmt := top 36
theorem sc__law_is_kind : FnScope ["_law_item_here"] ["_law_item_here"] (defScope s__law_is_kind) := ⟨rfl, rfl, rfl, by decide +kernel, rfl, by decide +kernel, by decide +kernel⟩
abbrev F__law_is_kind := F1 fun d => .bool (isKind d)
def w__law_is_kind : DS Unit :=
  (wRet (wAnd (wIsi "str" (wVar 0)) (wOr (wOp dEq (wVar 0) (wC (.str ""))) (wCallP (fun ds Q E => ds.length = 1 ∧ F__law_is_name ds Q E) (wCons (wVar 0) wNil)))))
theorem spec__law_is_kind : ∀ ds Qd Ed, ds.length = 1 → F__law_is_kind ds Qd Ed → w__law_is_kind (argS 1 1 (ds.map Sl.d)) () (endP Qd Ed) := by
  intro ds Qd Ed hl h
  match ds, hl, h with
  | [d], _, h =>
    unfold w__law_is_kind
    cases d with
    | str x =>
      have h : Qd (.bool (isName (.str x) || decide (x.length = 0))) := h
      by_cases c : x = ""
      · subst c
        have e : decide ((("" : Str)).length = 0) = true := by decide +kernel
        rw [e, Bool.or_true] at h
        simpa [wRet, wRetN, wIfS, wSeq, wNext, wT, wTand, wTor, wTnot, wAnd_eq, wOr_eq, wNot, wIsi_int, wIsi_bool, wIsi_str, wIsi_tup, wIsi_lst, tyInt, tyBool, tyStr, tyTup, tyLst, wChain_eq, wOp, wUn, wC, wVar, wCB, wCallP, fLen, wL, wComp, wSeqI, wZip, zipS, wCons, wNil, wTup, allK, argS, endP, noOwn, wipeD, dLe, dLt, dGe, dGt, dCm, dEq, dNe, dIdx, atI_0, atI_1, atI_2, wAsg, gN, gT, gCs, gNs, List.set, dInG, flatD, F1, List.length, limL_eq, shp_i, shp_s, shp_b, shp_n, eqv_ii, eqv_ss, shp_e, eqv_e, wLst, wListOf, F1d, F__law_is_number, F__law_is_name, F__law_is_kind] using h
      · have e : decide (x.length = 0) = false := by
          refine decide_eq_false fun z => c ?_
          exact str_empty z
        rw [e, Bool.or_false] at h
        simpa [wRet, wRetN, wIfS, wSeq, wNext, wT, wTand, wTor, wTnot, wAnd_eq, wOr_eq, wNot, wIsi_int, wIsi_bool, wIsi_str, wIsi_tup, wIsi_lst, tyInt, tyBool, tyStr, tyTup, tyLst, wChain_eq, wOp, wUn, wC, wVar, wCB, wCallP, fLen, wL, wComp, wSeqI, wZip, zipS, wCons, wNil, wTup, allK, argS, endP, noOwn, wipeD, dLe, dLt, dGe, dGt, dCm, dEq, dNe, dIdx, atI_0, atI_1, atI_2, wAsg, gN, gT, gCs, gNs, List.set, dInG, flatD, F1, List.length, limL_eq, shp_i, shp_s, shp_b, shp_n, eqv_ii, eqv_ss, shp_e, eqv_e, wLst, wListOf, F1d, F__law_is_number, F__law_is_name, F__law_is_kind, c] using h
    | _ => simpa [wRet, wRetN, wIfS, wSeq, wNext, wT, wTand, wTor, wTnot, wAnd_eq, wOr_eq, wNot, wIsi_int, wIsi_bool, wIsi_str, wIsi_tup, wIsi_lst, tyInt, tyBool, tyStr, tyTup, tyLst, wChain_eq, wOp, wUn, wC, wVar, wCB, wCallP, fLen, wL, wComp, wSeqI, wZip, zipS, wCons, wNil, wTup, allK, argS, endP, noOwn, wipeD, dLe, dLt, dGe, dGt, dCm, dEq, dNe, dIdx, atI_0, atI_1, atI_2, wAsg, gN, gT, gCs, gNs, List.set, dInG, flatD, F1, List.length, limL_eq, shp_i, shp_s, shp_b, shp_n, eqv_ii, eqv_ss, shp_e, eqv_e, wLst, wListOf, F1d, F__law_is_number, F__law_is_name, F__law_is_kind, isKind, isName, isNothing] using h
theorem ok__law_is_kind {f : Addr} {fd : FuncData} (Fu : Fun K "_law_is_kind" "_law_is_kind" s__law_is_kind f fd) (hm : mg "_law_is_kind" = some (.ref f)) (hb : Binds K fd ["_law_item_here"] []) (B : Bt mg) (D__law_is_name : Df P w K mg base CX0 1 "_law_is_name" 1 (spP K 1 F__law_is_name)) : Df P w K mg base CX0 2 "_law_is_kind" 1 (spP K 1 F__law_is_kind) :=
  ⟨f, fd, ["_law_item_here"], rfl, hm, Fu.kp, hb, fnP (wb := w__law_is_kind) Fu sc__law_is_kind rfl (fun cdv A outer s H E hG hr => ⟨_,
  (sd_one (sd_ret (ed_and (e_isi (T' := "str") B (ed_var 0) (by decide +kernel)) (ed_one (ed_or (e_eq hr (ed_var 0) ed_str) (ed_one (e_callP D__law_is_name hG (hr.mono (by decide)) pass00 (ad_cons (ed_var 0) ad_nil))))))))⟩) (spec__law_is_kind)⟩
/-! ## _law_is_sort -/
abbrev s__law_is_sort : Stmt := top 37
theorem sc__law_is_sort : FnScope ["_law_item_here"] ["_law_item_here"] (defScope s__law_is_sort) := ⟨rfl, rfl, rfl, by decide +kernel, rfl, by decide +kernel, by decide +kernel⟩
abbrev F__law_is_sort := F1 fun d => .bool (isSort d)
def w__law_is_sort : DS Unit :=
  (wSeq (wIfS (wT (wIsi "str" (wVar 0))) (wRet (wOp dIn (wVar 0) (wTup (wCons (wC (.str "if")) (wCons (wC (.str "loop")) wNil))))) wNext)
  (wSeq (wIfS (wTor (wTnot (wT (wIsi "tuple" (wVar 0)))) (wTor (wT (wOp dNe (wCB fLen (wCons (wVar 0) wNil)) (wC (.int 2)))) (wTnot (wT (wIsi "str" (wOp dIdx (wVar 0) (wC (.int 0)))))))) (wRet (wC (.bool false))) wNext)
  (wRet (wAnd (wOp dEq (wOp dIdx (wVar 0) (wC (.int 0))) (wC (.str "fun"))) (wCallP (fun ds Q E => ds.length = 1 ∧ F__law_is_kind ds Q E) (wCons (wOp dIdx (wVar 0) (wC (.int 1))) wNil))))))
theorem spec__law_is_sort : ∀ ds Qd Ed, ds.length = 1 → F__law_is_sort ds Qd Ed → w__law_is_sort (argS 1 1 (ds.map Sl.d)) () (endP Qd Ed) := by
  intro ds Qd Ed hl h
  match ds, hl, h with
  | [d], _, h =>
    unfold w__law_is_sort
    cases d with
    | tuple xs =>
      match xs, h with
      | [], h => simpa [wRet, wRetN, wIfS, wSeq, wNext, wT, wTand, wTor, wTnot, wAnd_eq, wOr_eq, wNot, wIsi_int, wIsi_bool, wIsi_str, wIsi_tup, wIsi_lst, tyInt, tyBool, tyStr, tyTup, tyLst, wChain_eq, wOp, wUn, wC, wVar, wCB, wCallP, fLen, wL, wComp, wSeqI, wZip, zipS, wCons, wNil, wTup, allK, argS, endP, noOwn, wipeD, dLe, dLt, dGe, dGt, dCm, dEq, dNe, dIdx, atI_0, atI_1, atI_2, wAsg, gN, gT, gCs, gNs, List.set, dInG, flatD, F1, List.length, limL_eq, shp_i, shp_s, shp_b, shp_n, eqv_ii, eqv_ss, shp_e, eqv_e, wLst, wListOf, F1d, F__law_is_number, F__law_is_name, F__law_is_kind, F__law_is_sort, isSort] using h
      | [a], h => simpa [wRet, wRetN, wIfS, wSeq, wNext, wT, wTand, wTor, wTnot, wAnd_eq, wOr_eq, wNot, wIsi_int, wIsi_bool, wIsi_str, wIsi_tup, wIsi_lst, tyInt, tyBool, tyStr, tyTup, tyLst, wChain_eq, wOp, wUn, wC, wVar, wCB, wCallP, fLen, wL, wComp, wSeqI, wZip, zipS, wCons, wNil, wTup, allK, argS, endP, noOwn, wipeD, dLe, dLt, dGe, dGt, dCm, dEq, dNe, dIdx, atI_0, atI_1, atI_2, wAsg, gN, gT, gCs, gNs, List.set, dInG, flatD, F1, List.length, limL_eq, shp_i, shp_s, shp_b, shp_n, eqv_ii, eqv_ss, shp_e, eqv_e, wLst, wListOf, F1d, F__law_is_number, F__law_is_name, F__law_is_kind, F__law_is_sort, isSort] using h
      | [a, b], h =>
        cases a with
        | str x =>
          by_cases c : x = "fun"
          · subst c; simpa [wRet, wRetN, wIfS, wSeq, wNext, wT, wTand, wTor, wTnot, wAnd_eq, wOr_eq, wNot, wIsi_int, wIsi_bool, wIsi_str, wIsi_tup, wIsi_lst, tyInt, tyBool, tyStr, tyTup, tyLst, wChain_eq, wOp, wUn, wC, wVar, wCB, wCallP, fLen, wL, wComp, wSeqI, wZip, zipS, wCons, wNil, wTup, allK, argS, endP, noOwn, wipeD, dLe, dLt, dGe, dGt, dCm, dEq, dNe, dIdx, atI_0, atI_1, atI_2, wAsg, gN, gT, gCs, gNs, List.set, dInG, flatD, F1, List.length, limL_eq, shp_i, shp_s, shp_b, shp_n, eqv_ii, eqv_ss, shp_e, eqv_e, wLst, wListOf, F1d, F__law_is_number, F__law_is_name, F__law_is_kind, F__law_is_sort, isSort, isOneOf] using h
          · have c' : ¬ ("fun" : Str) = x := fun z => c z.symm
            simpa [wRet, wRetN, wIfS, wSeq, wNext, wT, wTand, wTor, wTnot, wAnd_eq, wOr_eq, wNot, wIsi_int, wIsi_bool, wIsi_str, wIsi_tup, wIsi_lst, tyInt, tyBool, tyStr, tyTup, tyLst, wChain_eq, wOp, wUn, wC, wVar, wCB, wCallP, fLen, wL, wComp, wSeqI, wZip, zipS, wCons, wNil, wTup, allK, argS, endP, noOwn, wipeD, dLe, dLt, dGe, dGt, dCm, dEq, dNe, dIdx, atI_0, atI_1, atI_2, wAsg, gN, gT, gCs, gNs, List.set, dInG, flatD, F1, List.length, limL_eq, shp_i, shp_s, shp_b, shp_n, eqv_ii, eqv_ss, shp_e, eqv_e, wLst, wListOf, F1d, F__law_is_number, F__law_is_name, F__law_is_kind, F__law_is_sort, isSort, isOneOf, c, c'] using h
        | _ => simpa [wRet, wRetN, wIfS, wSeq, wNext, wT, wTand, wTor, wTnot, wAnd_eq, wOr_eq, wNot, wIsi_int, wIsi_bool, wIsi_str, wIsi_tup, wIsi_lst, tyInt, tyBool, tyStr, tyTup, tyLst, wChain_eq, wOp, wUn, wC, wVar, wCB, wCallP, fLen, wL, wComp, wSeqI, wZip, zipS, wCons, wNil, wTup, allK, argS, endP, noOwn, wipeD, dLe, dLt, dGe, dGt, dCm, dEq, dNe, dIdx, atI_0, atI_1, atI_2, wAsg, gN, gT, gCs, gNs, List.set, dInG, flatD, F1, List.length, limL_eq, shp_i, shp_s, shp_b, shp_n, eqv_ii, eqv_ss, shp_e, eqv_e, wLst, wListOf, F1d, F__law_is_number, F__law_is_name, F__law_is_kind, F__law_is_sort, isSort, isOneOf] using h
      | a :: b :: c :: r, h =>
        have n : ¬ ((r.length : Int) + 1 + 1 + 1 = 2) := by omega
        simpa [wRet, wRetN, wIfS, wSeq, wNext, wT, wTand, wTor, wTnot, wAnd_eq, wOr_eq, wNot, wIsi_int, wIsi_bool, wIsi_str, wIsi_tup, wIsi_lst, tyInt, tyBool, tyStr, tyTup, tyLst, wChain_eq, wOp, wUn, wC, wVar, wCB, wCallP, fLen, wL, wComp, wSeqI, wZip, zipS, wCons, wNil, wTup, allK, argS, endP, noOwn, wipeD, dLe, dLt, dGe, dGt, dCm, dEq, dNe, dIdx, atI_0, atI_1, atI_2, wAsg, gN, gT, gCs, gNs, List.set, dInG, flatD, F1, List.length, limL_eq, shp_i, shp_s, shp_b, shp_n, eqv_ii, eqv_ss, shp_e, eqv_e, wLst, wListOf, F1d, F__law_is_number, F__law_is_name, F__law_is_kind, F__law_is_sort, isSort, n] using h
    | str x => simpa [wRet, wRetN, wIfS, wSeq, wNext, wT, wTand, wTor, wTnot, wAnd_eq, wOr_eq, wNot, wIsi_int, wIsi_bool, wIsi_str, wIsi_tup, wIsi_lst, tyInt, tyBool, tyStr, tyTup, tyLst, wChain_eq, wOp, wUn, wC, wVar, wCB, wCallP, fLen, wL, wComp, wSeqI, wZip, zipS, wCons, wNil, wTup, allK, argS, endP, noOwn, wipeD, dLe, dLt, dGe, dGt, dCm, dEq, dNe, dIdx, atI_0, atI_1, atI_2, wAsg, gN, gT, gCs, gNs, List.set, dInG, flatD, F1, List.length, limL_eq, shp_i, shp_s, shp_b, shp_n, eqv_ii, eqv_ss, shp_e, eqv_e, wLst, wListOf, F1d, F__law_is_number, F__law_is_name, F__law_is_kind, F__law_is_sort, isSort, isOneOf] using h
    | _ => simpa [wRet, wRetN, wIfS, wSeq, wNext, wT, wTand, wTor, wTnot, wAnd_eq, wOr_eq, wNot, wIsi_int, wIsi_bool, wIsi_str, wIsi_tup, wIsi_lst, tyInt, tyBool, tyStr, tyTup, tyLst, wChain_eq, wOp, wUn, wC, wVar, wCB, wCallP, fLen, wL, wComp, wSeqI, wZip, zipS, wCons, wNil, wTup, allK, argS, endP, noOwn, wipeD, dLe, dLt, dGe, dGt, dCm, dEq, dNe, dIdx, atI_0, atI_1, atI_2, wAsg, gN, gT, gCs, gNs, List.set, dInG, flatD, F1, List.length, limL_eq, shp_i, shp_s, shp_b, shp_n, eqv_ii, eqv_ss, shp_e, eqv_e, wLst, wListOf, F1d, F__law_is_number, F__law_is_name, F__law_is_kind, F__law_is_sort, isSort] using h
theorem ok__law_is_sort {f : Addr} {fd : FuncData} (Fu : Fun K "_law_is_sort" "_law_is_sort" s__law_is_sort f fd) (hm : mg "_law_is_sort" = some (.ref f)) (hb : Binds K fd ["_law_item_here"] []) (B : Bt mg) (D__law_is_kind : Df P w K mg base CX0 2 "_law_is_kind" 1 (spP K 1 F__law_is_kind)) : Df P w K mg base CX0 3 "_law_is_sort" 1 (spP K 1 F__law_is_sort) :=
  ⟨f, fd, ["_law_item_here"], rfl, hm, Fu.kp, hb, fnP (wb := w__law_is_sort) Fu sc__law_is_sort rfl (fun cdv A outer s H E hG hr => ⟨_,
  (sd_cons (sd_if (td_val (e_isi (T' := "str") B (ed_var 0) (by decide +kernel))) (sd_one (sd_ret (e_in hr (ed_var 0) (ed_tup (ad_cons ed_str (ad_cons ed_str ad_nil)))))) sd_nil)
  (sd_cons (sd_if (td_bool (tw_or (td_not (td_val (e_isi (T' := "tuple") B (ed_var 0) (by decide +kernel)))) (tw_or (t_ne hr (e_len B (ad_cons (ed_var 0) ad_nil)) ed_int) (tw_or1 (td_not (td_val (e_isi (T' := "str") B (e_ix (ed_var 0) ed_int) (by decide +kernel)))))))) (sd_one (sd_ret ed_bl)) sd_nil)
  (sd_one (sd_ret (ed_and (e_eq hr (e_ix (ed_var 0) ed_int) ed_str) (ed_one (e_callP D__law_is_kind hG (hr.mono (by decide)) pass00 (ad_cons (e_ix (ed_var 0) ed_int) ad_nil))))))))⟩) (spec__law_is_sort)⟩
/-! ## _law_is_item -/
abbrev s__law_is_item : Stmt := top 38
theorem sc__law_is_item : FnScope ["_law_item_here"] ["_law_item_here"] (defScope s__law_is_item) := ⟨rfl, rfl, rfl, by decide +kernel, rfl, by decide +kernel, by decide +kernel⟩
abbrev F__law_is_item := F1 fun d => .bool (isRow d)
def w__law_is_item : DS Unit :=
  (wSeq (wIfS (wTor (wTnot (wT (wIsi "tuple" (wVar 0)))) (wTor (wT (wOp dEq (wCB fLen (wCons (wVar 0) wNil)) (wC (.int 0)))) (wTnot (wT (wIsi "str" (wOp dIdx (wVar 0) (wC (.int 0)))))))) (wRet (wC (.bool false))) wNext)
  (wSeq (wIfS (wT (wOp dIn (wOp dIdx (wVar 0) (wC (.int 0))) (wTup (wCons (wC (.str "end")) (wCons (wC (.str "stop")) wNil))))) (wRet (wOp dEq (wCB fLen (wCons (wVar 0) wNil)) (wC (.int 1)))) wNext)
  (wSeq (wIfS (wT (wOp dEq (wOp dIdx (wVar 0) (wC (.int 0))) (wC (.str "open")))) (wRet (wAnd (wOp dEq (wCB fLen (wCons (wVar 0) wNil)) (wC (.int 2))) (wCallP (fun ds Q E => ds.length = 1 ∧ F__law_is_sort ds Q E) (wCons (wOp dIdx (wVar 0) (wC (.int 1))) wNil)))) wNext)
  (wSeq (wIfS (wT (wOp dEq (wOp dIdx (wVar 0) (wC (.int 0))) (wC (.str "give")))) (wRet (wAnd (wOp dEq (wCB fLen (wCons (wVar 0) wNil)) (wC (.int 2))) (wCallP (fun ds Q E => ds.length = 1 ∧ F__law_is_kind ds Q E) (wCons (wOp dIdx (wVar 0) (wC (.int 1))) wNil)))) wNext)
  (wRet (wAnd (wOp dIn (wOp dIdx (wVar 0) (wC (.int 0))) (wTup (wCons (wC (.str "let")) (wCons (wC (.str "use")) wNil)))) (wAnd (wOp dEq (wCB fLen (wCons (wVar 0) wNil)) (wC (.int 3))) (wAnd (wCallP (fun ds Q E => ds.length = 1 ∧ F__law_is_name ds Q E) (wCons (wOp dIdx (wVar 0) (wC (.int 1))) wNil)) (wCallP (fun ds Q E => ds.length = 1 ∧ F__law_is_name ds Q E) (wCons (wOp dIdx (wVar 0) (wC (.int 2))) wNil))))))))))
theorem spec__law_is_item : ∀ ds Qd Ed, ds.length = 1 → F__law_is_item ds Qd Ed → w__law_is_item (argS 1 1 (ds.map Sl.d)) () (endP Qd Ed) := by
  intro ds Qd Ed hl h
  match ds, hl, h with
  | [d], _, h =>
    unfold w__law_is_item
    cases d with
    | tuple xs =>
      match xs, h with
      | [], h => simpa [wRet, wRetN, wIfS, wSeq, wNext, wT, wTand, wTor, wTnot, wAnd_eq, wOr_eq, wNot, wIsi_int, wIsi_bool, wIsi_str, wIsi_tup, wIsi_lst, tyInt, tyBool, tyStr, tyTup, tyLst, wChain_eq, wOp, wUn, wC, wVar, wCB, wCallP, fLen, wL, wComp, wSeqI, wZip, zipS, wCons, wNil, wTup, allK, argS, endP, noOwn, wipeD, dLe, dLt, dGe, dGt, dCm, dEq, dNe, dIdx, atI_0, atI_1, atI_2, wAsg, gN, gT, gCs, gNs, List.set, dInG, flatD, F1, List.length, limL_eq, shp_i, shp_s, shp_b, shp_n, eqv_ii, eqv_ss, shp_e, eqv_e, wLst, wListOf, F1d, F__law_is_number, F__law_is_name, F__law_is_kind, F__law_is_sort, F__law_is_item, isRow] using h
      | k :: r, h =>
        have h : Qd (.bool (isRow2 k r)) := h
        have nz : ¬ ((r.length : Int) + 1 = 0) := by omega
        cases k with
        | str x =>
          refine seqIf_f (fun Q E q => by simpa [wRet, wRetN, wIfS, wSeq, wNext, wT, wTand, wTor, wTnot, wAnd_eq, wOr_eq, wNot, wIsi_int, wIsi_bool, wIsi_str, wIsi_tup, wIsi_lst, tyInt, tyBool, tyStr, tyTup, tyLst, wChain_eq, wOp, wUn, wC, wVar, wCB, wCallP, fLen, wL, wComp, wSeqI, wZip, zipS, wCons, wNil, wTup, allK, argS, endP, noOwn, wipeD, dLe, dLt, dGe, dGt, dCm, dEq, dNe, dIdx, atI_0, atI_1, atI_2, wAsg, gN, gT, gCs, gNs, List.set, dInG, flatD, F1, List.length, limL_eq, shp_i, shp_s, shp_b, shp_n, eqv_ii, eqv_ss, shp_e, eqv_e, wLst, wListOf, F1d, F__law_is_number, F__law_is_name, F__law_is_kind, F__law_is_sort, F__law_is_item, nz] using q) ?_
          by_cases c1 : "end" = x ∨ "stop" = x
          · have b1 : (decide (("end" : Str) = x) || decide (("stop" : Str) = x)) = true := by simpa using c1
            have e : isRow2 (.str x) r = decide (r.length = 0) := by
              have : isOneOf (.str x) [.str "end", .str "stop"] = true := by
                simpa [isOneOf, eqv_ss] using c1
              simp [isRow2, this]
            rw [e] at h
            have e2 : decide ((r.length : Int) + 1 = 1) = decide (r.length = 0) := decide_eq_decide.mpr (by omega)
            refine seqIf_t (fun Q E q => by simpa [wRet, wRetN, wIfS, wSeq, wNext, wT, wTand, wTor, wTnot, wAnd_eq, wOr_eq, wNot, wIsi_int, wIsi_bool, wIsi_str, wIsi_tup, wIsi_lst, tyInt, tyBool, tyStr, tyTup, tyLst, wChain_eq, wOp, wUn, wC, wVar, wCB, wCallP, fLen, wL, wComp, wSeqI, wZip, zipS, wCons, wNil, wTup, allK, argS, endP, noOwn, wipeD, dLe, dLt, dGe, dGt, dCm, dEq, dNe, dIdx, atI_0, atI_1, atI_2, wAsg, gN, gT, gCs, gNs, List.set, dInG, flatD, F1, List.length, limL_eq, shp_i, shp_s, shp_b, shp_n, eqv_ii, eqv_ss, shp_e, eqv_e, wLst, wListOf, F1d, F__law_is_number, F__law_is_name, F__law_is_kind, F__law_is_sort, F__law_is_item, b1] using q) ?_
            rw [← e2] at h
            simpa [wRet, wRetN, wIfS, wSeq, wNext, wT, wTand, wTor, wTnot, wAnd_eq, wOr_eq, wNot, wIsi_int, wIsi_bool, wIsi_str, wIsi_tup, wIsi_lst, tyInt, tyBool, tyStr, tyTup, tyLst, wChain_eq, wOp, wUn, wC, wVar, wCB, wCallP, fLen, wL, wComp, wSeqI, wZip, zipS, wCons, wNil, wTup, allK, argS, endP, noOwn, wipeD, dLe, dLt, dGe, dGt, dCm, dEq, dNe, dIdx, atI_0, atI_1, atI_2, wAsg, gN, gT, gCs, gNs, List.set, dInG, flatD, F1, List.length, limL_eq, shp_i, shp_s, shp_b, shp_n, eqv_ii, eqv_ss, shp_e, eqv_e, wLst, wListOf, F1d, F__law_is_number, F__law_is_name, F__law_is_kind, F__law_is_sort, F__law_is_item] using h
          · have b1 : (decide (("end" : Str) = x) || decide (("stop" : Str) = x)) = false := by simpa using c1
            refine seqIf_f (fun Q E q => by simpa [wRet, wRetN, wIfS, wSeq, wNext, wT, wTand, wTor, wTnot, wAnd_eq, wOr_eq, wNot, wIsi_int, wIsi_bool, wIsi_str, wIsi_tup, wIsi_lst, tyInt, tyBool, tyStr, tyTup, tyLst, wChain_eq, wOp, wUn, wC, wVar, wCB, wCallP, fLen, wL, wComp, wSeqI, wZip, zipS, wCons, wNil, wTup, allK, argS, endP, noOwn, wipeD, dLe, dLt, dGe, dGt, dCm, dEq, dNe, dIdx, atI_0, atI_1, atI_2, wAsg, gN, gT, gCs, gNs, List.set, dInG, flatD, F1, List.length, limL_eq, shp_i, shp_s, shp_b, shp_n, eqv_ii, eqv_ss, shp_e, eqv_e, wLst, wListOf, F1d, F__law_is_number, F__law_is_name, F__law_is_kind, F__law_is_sort, F__law_is_item, b1] using q) ?_
            by_cases c2 : x = "open"
            · refine seqIf_t (fun Q E q => by simpa [wRet, wRetN, wIfS, wSeq, wNext, wT, wTand, wTor, wTnot, wAnd_eq, wOr_eq, wNot, wIsi_int, wIsi_bool, wIsi_str, wIsi_tup, wIsi_lst, tyInt, tyBool, tyStr, tyTup, tyLst, wChain_eq, wOp, wUn, wC, wVar, wCB, wCallP, fLen, wL, wComp, wSeqI, wZip, zipS, wCons, wNil, wTup, allK, argS, endP, noOwn, wipeD, dLe, dLt, dGe, dGt, dCm, dEq, dNe, dIdx, atI_0, atI_1, atI_2, wAsg, gN, gT, gCs, gNs, List.set, dInG, flatD, F1, List.length, limL_eq, shp_i, shp_s, shp_b, shp_n, eqv_ii, eqv_ss, shp_e, eqv_e, wLst, wListOf, F1d, F__law_is_number, F__law_is_name, F__law_is_kind, F__law_is_sort, F__law_is_item, c2] using q) ?_
              rw [c2, row_open] at h
              match r, h with
              | [], h => simpa [wRet, wRetN, wIfS, wSeq, wNext, wT, wTand, wTor, wTnot, wAnd_eq, wOr_eq, wNot, wIsi_int, wIsi_bool, wIsi_str, wIsi_tup, wIsi_lst, tyInt, tyBool, tyStr, tyTup, tyLst, wChain_eq, wOp, wUn, wC, wVar, wCB, wCallP, fLen, wL, wComp, wSeqI, wZip, zipS, wCons, wNil, wTup, allK, argS, endP, noOwn, wipeD, dLe, dLt, dGe, dGt, dCm, dEq, dNe, dIdx, atI_0, atI_1, atI_2, wAsg, gN, gT, gCs, gNs, List.set, dInG, flatD, F1, List.length, limL_eq, shp_i, shp_s, shp_b, shp_n, eqv_ii, eqv_ss, shp_e, eqv_e, wLst, wListOf, F1d, F__law_is_number, F__law_is_name, F__law_is_kind, F__law_is_sort, F__law_is_item] using h
              | [a], h => simpa [wRet, wRetN, wIfS, wSeq, wNext, wT, wTand, wTor, wTnot, wAnd_eq, wOr_eq, wNot, wIsi_int, wIsi_bool, wIsi_str, wIsi_tup, wIsi_lst, tyInt, tyBool, tyStr, tyTup, tyLst, wChain_eq, wOp, wUn, wC, wVar, wCB, wCallP, fLen, wL, wComp, wSeqI, wZip, zipS, wCons, wNil, wTup, allK, argS, endP, noOwn, wipeD, dLe, dLt, dGe, dGt, dCm, dEq, dNe, dIdx, atI_0, atI_1, atI_2, wAsg, gN, gT, gCs, gNs, List.set, dInG, flatD, F1, List.length, limL_eq, shp_i, shp_s, shp_b, shp_n, eqv_ii, eqv_ss, shp_e, eqv_e, wLst, wListOf, F1d, F__law_is_number, F__law_is_name, F__law_is_kind, F__law_is_sort, F__law_is_item] using h
              | a :: b :: r, h =>
                have n1 : ¬ ((r.length : Int) + 1 + 1 + 1 = 2) := by omega
                simpa [wRet, wRetN, wIfS, wSeq, wNext, wT, wTand, wTor, wTnot, wAnd_eq, wOr_eq, wNot, wIsi_int, wIsi_bool, wIsi_str, wIsi_tup, wIsi_lst, tyInt, tyBool, tyStr, tyTup, tyLst, wChain_eq, wOp, wUn, wC, wVar, wCB, wCallP, fLen, wL, wComp, wSeqI, wZip, zipS, wCons, wNil, wTup, allK, argS, endP, noOwn, wipeD, dLe, dLt, dGe, dGt, dCm, dEq, dNe, dIdx, atI_0, atI_1, atI_2, wAsg, gN, gT, gCs, gNs, List.set, dInG, flatD, F1, List.length, limL_eq, shp_i, shp_s, shp_b, shp_n, eqv_ii, eqv_ss, shp_e, eqv_e, wLst, wListOf, F1d, F__law_is_number, F__law_is_name, F__law_is_kind, F__law_is_sort, F__law_is_item, n1] using h
            · refine seqIf_f (fun Q E q => by simpa [wRet, wRetN, wIfS, wSeq, wNext, wT, wTand, wTor, wTnot, wAnd_eq, wOr_eq, wNot, wIsi_int, wIsi_bool, wIsi_str, wIsi_tup, wIsi_lst, tyInt, tyBool, tyStr, tyTup, tyLst, wChain_eq, wOp, wUn, wC, wVar, wCB, wCallP, fLen, wL, wComp, wSeqI, wZip, zipS, wCons, wNil, wTup, allK, argS, endP, noOwn, wipeD, dLe, dLt, dGe, dGt, dCm, dEq, dNe, dIdx, atI_0, atI_1, atI_2, wAsg, gN, gT, gCs, gNs, List.set, dInG, flatD, F1, List.length, limL_eq, shp_i, shp_s, shp_b, shp_n, eqv_ii, eqv_ss, shp_e, eqv_e, wLst, wListOf, F1d, F__law_is_number, F__law_is_name, F__law_is_kind, F__law_is_sort, F__law_is_item, c2] using q) ?_
              by_cases c3 : x = "give"
              · refine seqIf_t (fun Q E q => by simpa [wRet, wRetN, wIfS, wSeq, wNext, wT, wTand, wTor, wTnot, wAnd_eq, wOr_eq, wNot, wIsi_int, wIsi_bool, wIsi_str, wIsi_tup, wIsi_lst, tyInt, tyBool, tyStr, tyTup, tyLst, wChain_eq, wOp, wUn, wC, wVar, wCB, wCallP, fLen, wL, wComp, wSeqI, wZip, zipS, wCons, wNil, wTup, allK, argS, endP, noOwn, wipeD, dLe, dLt, dGe, dGt, dCm, dEq, dNe, dIdx, atI_0, atI_1, atI_2, wAsg, gN, gT, gCs, gNs, List.set, dInG, flatD, F1, List.length, limL_eq, shp_i, shp_s, shp_b, shp_n, eqv_ii, eqv_ss, shp_e, eqv_e, wLst, wListOf, F1d, F__law_is_number, F__law_is_name, F__law_is_kind, F__law_is_sort, F__law_is_item, c3] using q) ?_
                rw [c3, row_give] at h
                match r, h with
                | [], h => simpa [wRet, wRetN, wIfS, wSeq, wNext, wT, wTand, wTor, wTnot, wAnd_eq, wOr_eq, wNot, wIsi_int, wIsi_bool, wIsi_str, wIsi_tup, wIsi_lst, tyInt, tyBool, tyStr, tyTup, tyLst, wChain_eq, wOp, wUn, wC, wVar, wCB, wCallP, fLen, wL, wComp, wSeqI, wZip, zipS, wCons, wNil, wTup, allK, argS, endP, noOwn, wipeD, dLe, dLt, dGe, dGt, dCm, dEq, dNe, dIdx, atI_0, atI_1, atI_2, wAsg, gN, gT, gCs, gNs, List.set, dInG, flatD, F1, List.length, limL_eq, shp_i, shp_s, shp_b, shp_n, eqv_ii, eqv_ss, shp_e, eqv_e, wLst, wListOf, F1d, F__law_is_number, F__law_is_name, F__law_is_kind, F__law_is_sort, F__law_is_item] using h
                | [a], h => simpa [wRet, wRetN, wIfS, wSeq, wNext, wT, wTand, wTor, wTnot, wAnd_eq, wOr_eq, wNot, wIsi_int, wIsi_bool, wIsi_str, wIsi_tup, wIsi_lst, tyInt, tyBool, tyStr, tyTup, tyLst, wChain_eq, wOp, wUn, wC, wVar, wCB, wCallP, fLen, wL, wComp, wSeqI, wZip, zipS, wCons, wNil, wTup, allK, argS, endP, noOwn, wipeD, dLe, dLt, dGe, dGt, dCm, dEq, dNe, dIdx, atI_0, atI_1, atI_2, wAsg, gN, gT, gCs, gNs, List.set, dInG, flatD, F1, List.length, limL_eq, shp_i, shp_s, shp_b, shp_n, eqv_ii, eqv_ss, shp_e, eqv_e, wLst, wListOf, F1d, F__law_is_number, F__law_is_name, F__law_is_kind, F__law_is_sort, F__law_is_item] using h
                | a :: b :: r, h =>
                  have n1 : ¬ ((r.length : Int) + 1 + 1 + 1 = 2) := by omega
                  simpa [wRet, wRetN, wIfS, wSeq, wNext, wT, wTand, wTor, wTnot, wAnd_eq, wOr_eq, wNot, wIsi_int, wIsi_bool, wIsi_str, wIsi_tup, wIsi_lst, tyInt, tyBool, tyStr, tyTup, tyLst, wChain_eq, wOp, wUn, wC, wVar, wCB, wCallP, fLen, wL, wComp, wSeqI, wZip, zipS, wCons, wNil, wTup, allK, argS, endP, noOwn, wipeD, dLe, dLt, dGe, dGt, dCm, dEq, dNe, dIdx, atI_0, atI_1, atI_2, wAsg, gN, gT, gCs, gNs, List.set, dInG, flatD, F1, List.length, limL_eq, shp_i, shp_s, shp_b, shp_n, eqv_ii, eqv_ss, shp_e, eqv_e, wLst, wListOf, F1d, F__law_is_number, F__law_is_name, F__law_is_kind, F__law_is_sort, F__law_is_item, n1] using h
              · refine seqIf_f (fun Q E q => by simpa [wRet, wRetN, wIfS, wSeq, wNext, wT, wTand, wTor, wTnot, wAnd_eq, wOr_eq, wNot, wIsi_int, wIsi_bool, wIsi_str, wIsi_tup, wIsi_lst, tyInt, tyBool, tyStr, tyTup, tyLst, wChain_eq, wOp, wUn, wC, wVar, wCB, wCallP, fLen, wL, wComp, wSeqI, wZip, zipS, wCons, wNil, wTup, allK, argS, endP, noOwn, wipeD, dLe, dLt, dGe, dGt, dCm, dEq, dNe, dIdx, atI_0, atI_1, atI_2, wAsg, gN, gT, gCs, gNs, List.set, dInG, flatD, F1, List.length, limL_eq, shp_i, shp_s, shp_b, shp_n, eqv_ii, eqv_ss, shp_e, eqv_e, wLst, wListOf, F1d, F__law_is_number, F__law_is_name, F__law_is_kind, F__law_is_sort, F__law_is_item, c3] using q) ?_
                have d1 : ¬ ("open" : Str) = x := fun z => c2 z.symm
                have d2 : ¬ ("give" : Str) = x := fun z => c3 z.symm
                have t1 : isOneOf (.str x) [.str "end", .str "stop"] = false := by
                  simpa [isOneOf, eqv_ss] using c1
                by_cases c4 : "let" = x ∨ "use" = x
                · have t2 : isOneOf (.str x) [.str "let", .str "use"] = true := by
                    simpa [isOneOf, eqv_ss] using c4
                  match r, h with
                  | [], h => simpa [wRet, wRetN, wIfS, wSeq, wNext, wT, wTand, wTor, wTnot, wAnd_eq, wOr_eq, wNot, wIsi_int, wIsi_bool, wIsi_str, wIsi_tup, wIsi_lst, tyInt, tyBool, tyStr, tyTup, tyLst, wChain_eq, wOp, wUn, wC, wVar, wCB, wCallP, fLen, wL, wComp, wSeqI, wZip, zipS, wCons, wNil, wTup, allK, argS, endP, noOwn, wipeD, dLe, dLt, dGe, dGt, dCm, dEq, dNe, dIdx, atI_0, atI_1, atI_2, wAsg, gN, gT, gCs, gNs, List.set, dInG, flatD, F1, List.length, limL_eq, shp_i, shp_s, shp_b, shp_n, eqv_ii, eqv_ss, shp_e, eqv_e, wLst, wListOf, F1d, F__law_is_number, F__law_is_name, F__law_is_kind, F__law_is_sort, F__law_is_item, c4, isRow2, t1, t2] using h
                  | [a], h => simpa [wRet, wRetN, wIfS, wSeq, wNext, wT, wTand, wTor, wTnot, wAnd_eq, wOr_eq, wNot, wIsi_int, wIsi_bool, wIsi_str, wIsi_tup, wIsi_lst, tyInt, tyBool, tyStr, tyTup, tyLst, wChain_eq, wOp, wUn, wC, wVar, wCB, wCallP, fLen, wL, wComp, wSeqI, wZip, zipS, wCons, wNil, wTup, allK, argS, endP, noOwn, wipeD, dLe, dLt, dGe, dGt, dCm, dEq, dNe, dIdx, atI_0, atI_1, atI_2, wAsg, gN, gT, gCs, gNs, List.set, dInG, flatD, F1, List.length, limL_eq, shp_i, shp_s, shp_b, shp_n, eqv_ii, eqv_ss, shp_e, eqv_e, wLst, wListOf, F1d, F__law_is_number, F__law_is_name, F__law_is_kind, F__law_is_sort, F__law_is_item, c4, isRow2, t1, t2] using h
                  | [a, b], h => by_cases c5 : isName a = true <;> simpa [wRet, wRetN, wIfS, wSeq, wNext, wT, wTand, wTor, wTnot, wAnd_eq, wOr_eq, wNot, wIsi_int, wIsi_bool, wIsi_str, wIsi_tup, wIsi_lst, tyInt, tyBool, tyStr, tyTup, tyLst, wChain_eq, wOp, wUn, wC, wVar, wCB, wCallP, fLen, wL, wComp, wSeqI, wZip, zipS, wCons, wNil, wTup, allK, argS, endP, noOwn, wipeD, dLe, dLt, dGe, dGt, dCm, dEq, dNe, dIdx, atI_0, atI_1, atI_2, wAsg, gN, gT, gCs, gNs, List.set, dInG, flatD, F1, List.length, limL_eq, shp_i, shp_s, shp_b, shp_n, eqv_ii, eqv_ss, shp_e, eqv_e, wLst, wListOf, F1d, F__law_is_number, F__law_is_name, F__law_is_kind, F__law_is_sort, F__law_is_item, c4, c5, isRow2, t1, t2] using h
                  | a :: b :: c :: r, h =>
                    have n1 : ¬ ((r.length : Int) + 1 + 1 + 1 + 1 = 3) := by omega
                    simpa [wRet, wRetN, wIfS, wSeq, wNext, wT, wTand, wTor, wTnot, wAnd_eq, wOr_eq, wNot, wIsi_int, wIsi_bool, wIsi_str, wIsi_tup, wIsi_lst, tyInt, tyBool, tyStr, tyTup, tyLst, wChain_eq, wOp, wUn, wC, wVar, wCB, wCallP, fLen, wL, wComp, wSeqI, wZip, zipS, wCons, wNil, wTup, allK, argS, endP, noOwn, wipeD, dLe, dLt, dGe, dGt, dCm, dEq, dNe, dIdx, atI_0, atI_1, atI_2, wAsg, gN, gT, gCs, gNs, List.set, dInG, flatD, F1, List.length, limL_eq, shp_i, shp_s, shp_b, shp_n, eqv_ii, eqv_ss, shp_e, eqv_e, wLst, wListOf, F1d, F__law_is_number, F__law_is_name, F__law_is_kind, F__law_is_sort, F__law_is_item, c4, n1, isRow2, t1, t2] using h
                · have t2 : isOneOf (.str x) [.str "let", .str "use"] = false := by
                    simpa [isOneOf, eqv_ss] using c4
                  have t3 : isOneOf (.str x) [.str "open"] = false := by
                    simpa [isOneOf, eqv_ss] using d1
                  have t4 : isOneOf (.str x) [.str "give"] = false := by
                    simpa [isOneOf, eqv_ss] using d2
                  simp only [isRow2, t1, t2, t3, t4] at h
                  simpa [wRet, wRetN, wIfS, wSeq, wNext, wT, wTand, wTor, wTnot, wAnd_eq, wOr_eq, wNot, wIsi_int, wIsi_bool, wIsi_str, wIsi_tup, wIsi_lst, tyInt, tyBool, tyStr, tyTup, tyLst, wChain_eq, wOp, wUn, wC, wVar, wCB, wCallP, fLen, wL, wComp, wSeqI, wZip, zipS, wCons, wNil, wTup, allK, argS, endP, noOwn, wipeD, dLe, dLt, dGe, dGt, dCm, dEq, dNe, dIdx, atI_0, atI_1, atI_2, wAsg, gN, gT, gCs, gNs, List.set, dInG, flatD, F1, List.length, limL_eq, shp_i, shp_s, shp_b, shp_n, eqv_ii, eqv_ss, shp_e, eqv_e, wLst, wListOf, F1d, F__law_is_number, F__law_is_name, F__law_is_kind, F__law_is_sort, F__law_is_item, c4] using h
        | _ => 
          refine seqIf_t (fun Q E q => by simpa [wRet, wRetN, wIfS, wSeq, wNext, wT, wTand, wTor, wTnot, wAnd_eq, wOr_eq, wNot, wIsi_int, wIsi_bool, wIsi_str, wIsi_tup, wIsi_lst, tyInt, tyBool, tyStr, tyTup, tyLst, wChain_eq, wOp, wUn, wC, wVar, wCB, wCallP, fLen, wL, wComp, wSeqI, wZip, zipS, wCons, wNil, wTup, allK, argS, endP, noOwn, wipeD, dLe, dLt, dGe, dGt, dCm, dEq, dNe, dIdx, atI_0, atI_1, atI_2, wAsg, gN, gT, gCs, gNs, List.set, dInG, flatD, F1, List.length, limL_eq, shp_i, shp_s, shp_b, shp_n, eqv_ii, eqv_ss, shp_e, eqv_e, wLst, wListOf, F1d, F__law_is_number, F__law_is_name, F__law_is_kind, F__law_is_sort, F__law_is_item, nz] using q) ?_
          simpa [wRet, wRetN, wIfS, wSeq, wNext, wT, wTand, wTor, wTnot, wAnd_eq, wOr_eq, wNot, wIsi_int, wIsi_bool, wIsi_str, wIsi_tup, wIsi_lst, tyInt, tyBool, tyStr, tyTup, tyLst, wChain_eq, wOp, wUn, wC, wVar, wCB, wCallP, fLen, wL, wComp, wSeqI, wZip, zipS, wCons, wNil, wTup, allK, argS, endP, noOwn, wipeD, dLe, dLt, dGe, dGt, dCm, dEq, dNe, dIdx, atI_0, atI_1, atI_2, wAsg, gN, gT, gCs, gNs, List.set, dInG, flatD, F1, List.length, limL_eq, shp_i, shp_s, shp_b, shp_n, eqv_ii, eqv_ss, shp_e, eqv_e, wLst, wListOf, F1d, F__law_is_number, F__law_is_name, F__law_is_kind, F__law_is_sort, F__law_is_item, isRow2, isOneOf] using h
    | _ => 
      refine seqIf_t (fun Q E q => by simpa [wRet, wRetN, wIfS, wSeq, wNext, wT, wTand, wTor, wTnot, wAnd_eq, wOr_eq, wNot, wIsi_int, wIsi_bool, wIsi_str, wIsi_tup, wIsi_lst, tyInt, tyBool, tyStr, tyTup, tyLst, wChain_eq, wOp, wUn, wC, wVar, wCB, wCallP, fLen, wL, wComp, wSeqI, wZip, zipS, wCons, wNil, wTup, allK, argS, endP, noOwn, wipeD, dLe, dLt, dGe, dGt, dCm, dEq, dNe, dIdx, atI_0, atI_1, atI_2, wAsg, gN, gT, gCs, gNs, List.set, dInG, flatD, F1, List.length, limL_eq, shp_i, shp_s, shp_b, shp_n, eqv_ii, eqv_ss, shp_e, eqv_e, wLst, wListOf, F1d, F__law_is_number, F__law_is_name, F__law_is_kind, F__law_is_sort, F__law_is_item] using q) ?_
      simpa [wRet, wRetN, wIfS, wSeq, wNext, wT, wTand, wTor, wTnot, wAnd_eq, wOr_eq, wNot, wIsi_int, wIsi_bool, wIsi_str, wIsi_tup, wIsi_lst, tyInt, tyBool, tyStr, tyTup, tyLst, wChain_eq, wOp, wUn, wC, wVar, wCB, wCallP, fLen, wL, wComp, wSeqI, wZip, zipS, wCons, wNil, wTup, allK, argS, endP, noOwn, wipeD, dLe, dLt, dGe, dGt, dCm, dEq, dNe, dIdx, atI_0, atI_1, atI_2, wAsg, gN, gT, gCs, gNs, List.set, dInG, flatD, F1, List.length, limL_eq, shp_i, shp_s, shp_b, shp_n, eqv_ii, eqv_ss, shp_e, eqv_e, wLst, wListOf, F1d, F__law_is_number, F__law_is_name, F__law_is_kind, F__law_is_sort, F__law_is_item, isRow] using h
theorem ok__law_is_item {f : Addr} {fd : FuncData} (Fu : Fun K "_law_is_item" "_law_is_item" s__law_is_item f fd) (hm : mg "_law_is_item" = some (.ref f)) (hb : Binds K fd ["_law_item_here"] []) (B : Bt mg) (D__law_is_kind : Df P w K mg base CX0 2 "_law_is_kind" 1 (spP K 1 F__law_is_kind)) (D__law_is_name : Df P w K mg base CX0 1 "_law_is_name" 1 (spP K 1 F__law_is_name)) (D__law_is_sort : Df P w K mg base CX0 3 "_law_is_sort" 1 (spP K 1 F__law_is_sort)) : Df P w K mg base CX0 4 "_law_is_item" 1 (spP K 1 F__law_is_item) :=
  ⟨f, fd, ["_law_item_here"], rfl, hm, Fu.kp, hb, fnP (wb := w__law_is_item) Fu sc__law_is_item rfl (fun cdv A outer s H E hG hr => ⟨_,
  (sd_cons (sd_if (td_bool (tw_or (td_not (td_val (e_isi (T' := "tuple") B (ed_var 0) (by decide +kernel)))) (tw_or (t_eq hr (e_len B (ad_cons (ed_var 0) ad_nil)) ed_int) (tw_or1 (td_not (td_val (e_isi (T' := "str") B (e_ix (ed_var 0) ed_int) (by decide +kernel)))))))) (sd_one (sd_ret ed_bl)) sd_nil)
  (sd_cons (sd_if (t_in hr (e_ix (ed_var 0) ed_int) (ed_tup (ad_cons ed_str (ad_cons ed_str ad_nil)))) (sd_one (sd_ret (e_eq hr (e_len B (ad_cons (ed_var 0) ad_nil)) ed_int))) sd_nil)
  (sd_cons (sd_if (t_eq hr (e_ix (ed_var 0) ed_int) ed_str) (sd_one (sd_ret (ed_and (e_eq hr (e_len B (ad_cons (ed_var 0) ad_nil)) ed_int) (ed_one (e_callP D__law_is_sort hG (hr.mono (by decide)) pass00 (ad_cons (e_ix (ed_var 0) ed_int) ad_nil)))))) sd_nil)
  (sd_cons (sd_if (t_eq hr (e_ix (ed_var 0) ed_int) ed_str) (sd_one (sd_ret (ed_and (e_eq hr (e_len B (ad_cons (ed_var 0) ad_nil)) ed_int) (ed_one (e_callP D__law_is_kind hG (hr.mono (by decide)) pass00 (ad_cons (e_ix (ed_var 0) ed_int) ad_nil)))))) sd_nil)
  (sd_one (sd_ret (ed_and (e_in hr (e_ix (ed_var 0) ed_int) (ed_tup (ad_cons ed_str (ad_cons ed_str ad_nil)))) (ed_and (e_eq hr (e_len B (ad_cons (ed_var 0) ad_nil)) ed_int) (ed_and (e_callP D__law_is_name hG (hr.mono (by decide)) pass00 (ad_cons (e_ix (ed_var 0) ed_int) ad_nil)) (ed_one (e_callP D__law_is_name hG (hr.mono (by decide)) pass00 (ad_cons (e_ix (ed_var 0) ed_int) ad_nil))))))))))))⟩) (spec__law_is_item)⟩
/-! ## _law_page_fault -/
abbrev s__law_page_fault : Stmt := top 44
theorem sc__law_page_fault : FnScope ["_law_item_here", "_law_wrong", "_law_k"] ["_law_item_here"] (defScope s__law_page_fault) := ⟨rfl, rfl, rfl, by decide +kernel, rfl, by decide +kernel, by decide +kernel⟩
def faultD (d : PyData) : PyData := match rowsFault d with
  | none => .none
  | some k => .tuple [.str "NotUsable", .str "text", .int k]
abbrev F__law_page_fault : List PyData → (PyData → Prop) → (Er → Prop) → Prop := fun ds Q _ => match ds with
  | [d] => PyData.depth d ≤ 50 ∧ (∀ xs, d = .tuple xs → xs.length ≤ 100000) ∧ Q (faultD d)
  | _ => False
def w__law_page_fault : DS Unit :=
  (wSeq (wIfS (wTnot (wT (wIsi "tuple" (wVar 0)))) (wRet (wTup (wCons (wC (.str "NotUsable")) (wCons (wC (.str "text")) (wCons (wUn dNeg (wC (.int 1))) wNil))))) wNext)
  (wSeq (wAsg (wL (wComp (wRng1 (wCons (wCB fLen (wCons (wVar 0) wNil)) wNil)) (gN 2) (wTnot (wT (wCallP (fun ds Q E => ds.length = 1 ∧ F__law_is_item ds Q E) (wCons (wOp dIdx (wVar 0) (wVar 2)) wNil)))) (wVar 2) [2])) (gN 1))
  (wRet (wIf (wT (wOp dNe (wVar 1) (wL (wLst wNil)))) (wTup (wCons (wC (.str "NotUsable")) (wCons (wC (.str "text")) (wCons (wOp dIdx (wVar 1) (wC (.int 0))) wNil)))) (wC .none)))))
theorem rng_first (p : PyData → Bool) : ∀ (xs : List PyData) (k : Nat) (q : PyData → Bool), (∀ i (h : i < xs.length), q (.int ((k + i : Nat) : Int)) = p xs[i]) →
    (((List.range' k xs.length).map fun i : Nat => PyData.int (i : Int)).filter q).head? = (xs.findIdx? p).map fun j => PyData.int ((k + j : Nat) : Int)
  | [], k, q, _ => rfl
  | x :: xs, k, q, h => by
    have h0 := h 0 (by simp)
    rw [List.length_cons, List.range'_succ, List.map_cons, List.filter_cons, List.findIdx?_cons]
    have h0 : q (.int (k : Int)) = p x := h0
    rw [h0]
    by_cases c : p x = true
    · rw [if_pos c, if_pos c]; rfl
    · rw [if_neg c, if_neg c, rng_first p xs (k + 1) q fun i hi => by
        have := h (i + 1) (by rw [List.length_cons]; omega)
        rw [show k + 1 + i = k + (i + 1) by omega, this]; rfl]
      cases xs.findIdx? p with
      | none => rfl
      | some j => exact congrArg some (congrArg (fun n : Nat => PyData.int (n : Int)) (show k + 1 + j = k + (j + 1) by omega))
theorem spec__law_page_fault : ∀ ds Qd Ed, ds.length = 1 → F__law_page_fault ds Qd Ed → w__law_page_fault (argS 1 3 (ds.map Sl.d)) () (endP Qd Ed) := by
  intro ds Qd Ed hl h
  match ds, hl, h with
  | [d], _, h =>
    unfold w__law_page_fault
    cases d with
    | tuple xs =>
      have hd := depth_tup h.1
      have hn := h.2.1 xs rfl
      have h : Qd (faultD (.tuple xs)) := h.2.2
      refine seqIf_f (fun Q E q => by simpa [wRet, wRetN, wIfS, wSeq, wNext, wT, wTand, wTor, wTnot, wAnd_eq, wOr_eq, wNot, wIsi_int, wIsi_bool, wIsi_str, wIsi_tup, wIsi_lst, tyInt, tyBool, tyStr, tyTup, tyLst, wChain_eq, wOp, wUn, wC, wVar, wCB, wCallP, fLen, wL, wComp, wSeqI, wZip, zipS, wCons, wNil, wTup, allK, argS, endP, noOwn, wipeD, dLe, dLt, dGe, dGt, dCm, dEq, dNe, dIdx, atI_0, atI_1, atI_2, wAsg, gN, gT, gCs, gNs, List.set, dInG, flatD, F1, List.length, limL_eq, shp_i, shp_s, shp_b, shp_n, eqv_ii, eqv_ss, shp_e, eqv_e, wLst, wListOf, F1d, F__law_is_number, F__law_is_name, F__law_is_kind, F__law_is_sort, F__law_is_item] using q) ?_
      have n1 : (xs.length : Int) ≤ 4194304 := by omega
      have n2 : -(2 ^ 62) ≤ (xs.length : Int) := by omega
      have e0 : rngD 0 xs.length = (List.range' 0 xs.length).map fun i : Nat => PyData.int (i : Int) := by
        unfold rngD
        rw [List.range_eq_range']
        exact List.map_congr_left fun i _ => by simp
      let q : PyData → Bool := fun d => match d with
        | .int i => (match xs[i.toNat]? with | some x => !isRow x | none => false)
        | _ => false
      have fst := rng_first (fun x => !isRow x) xs 0 q fun i hi => by
        show (match xs[(((0 + i : Nat) : Int)).toNat]? with | some x => !isRow x | none => false) = _
        rw [show (((0 + i : Nat) : Int)).toNat = i by omega, List.getElem?_eq_getElem hi]
      have step : ∀ E, wComp (wRng1 (wCons (wCB fLen (wCons (wVar 0) wNil)) wNil)) (gN 2) (wTnot (wT (wCallP (fun ds Q E => ds.length = 1 ∧ F__law_is_item ds Q E) (wCons (wOp dIdx (wVar 0) (wVar 2)) wNil)))) (wVar 2) [2] [.d (.tuple xs), .no, .no] () (fun ds s1 => wRet (wIf (wT (wOp dNe (wVar 1) (wL (wLst wNil)))) (wTup (wCons (wC (.str "NotUsable")) (wCons (wC (.str "text")) (wCons (wOp dIdx (wVar 1) (wC (.int 0))) wNil)))) (wC .none)) [.d (.tuple xs), .d (.list ds), .no] s1 (endP Qd Ed)) E := by
        intro E
        simp only [wComp, wRng1, wCons, wNil, wCB, wVar, fLen, allK, n1, n2, List.getElem?_cons_zero, true_and]
        refine ⟨rfl, ?_⟩
        rw [show ((xs.length : Int)).toNat = xs.length by omega]
        refine Dt.comp_fm q id _ _ _ (fun d hx s Y N y => ?_) ?_
        · rw [e0] at hx
          obtain ⟨i, hi, rfl⟩ := List.mem_map.mp hx
          have hi : i < xs.length := by simpa using hi
          have ex : xs[i]? = some xs[i] := List.getElem?_eq_getElem hi
          have y : if (!isRow xs[i]) = true then Y (.int i) s else N s := by
            have e : q (.int (i : Int)) = !isRow xs[i] := by
              show (match xs[((i : Int)).toNat]? with | some x => !isRow x | none => false) = _
              rw [show ((i : Int)).toNat = i by omega, ex]
            rw [e] at y; exact y
          have at1 : atI xs (i : Int) = some xs[i] := atI_nat ex
          have dp : PyData.depth xs[i] ≤ 50 := by have := hd _ (List.getElem_mem hi); omega
          cases c : isRow xs[i] with
          | true =>
            have y : N s := by simpa [c] using y
            simpa [wRet, wRetN, wIfS, wSeq, wNext, wT, wTand, wTor, wTnot, wAnd_eq, wOr_eq, wNot, wIsi_int, wIsi_bool, wIsi_str, wIsi_tup, wIsi_lst, tyInt, tyBool, tyStr, tyTup, tyLst, wChain_eq, wOp, wUn, wC, wVar, wCB, wCallP, fLen, wL, wComp, wSeqI, wZip, zipS, wCons, wNil, wTup, allK, argS, endP, noOwn, wipeD, dLe, dLt, dGe, dGt, dCm, dEq, dNe, dIdx, atI_0, atI_1, atI_2, wAsg, gN, gT, gCs, gNs, List.set, dInG, flatD, F1, List.length, limL_eq, shp_i, shp_s, shp_b, shp_n, eqv_ii, eqv_ss, shp_e, eqv_e, wLst, wListOf, F1d, F__law_is_number, F__law_is_name, F__law_is_kind, F__law_is_sort, F__law_is_item, at1, dp, c] using y
          | false =>
            have y : Y (.int i) s := by simpa [c] using y
            simpa [wRet, wRetN, wIfS, wSeq, wNext, wT, wTand, wTor, wTnot, wAnd_eq, wOr_eq, wNot, wIsi_int, wIsi_bool, wIsi_str, wIsi_tup, wIsi_lst, tyInt, tyBool, tyStr, tyTup, tyLst, wChain_eq, wOp, wUn, wC, wVar, wCB, wCallP, fLen, wL, wComp, wSeqI, wZip, zipS, wCons, wNil, wTup, allK, argS, endP, noOwn, wipeD, dLe, dLt, dGe, dGt, dCm, dEq, dNe, dIdx, atI_0, atI_1, atI_2, wAsg, gN, gT, gCs, gNs, List.set, dInG, flatD, F1, List.length, limL_eq, shp_i, shp_s, shp_b, shp_n, eqv_ii, eqv_ss, shp_e, eqv_e, wLst, wListOf, F1d, F__law_is_number, F__law_is_name, F__law_is_kind, F__law_is_sort, F__law_is_item, at1, dp, c] using y
        · rw [List.map_id, e0]
          generalize hL : ((List.range' 0 xs.length).map fun i : Nat => PyData.int (i : Int)).filter q = L at fst
          have sh : shp (.list L) = true := shp_lst fun d hd => by
            rw [← hL] at hd
            obtain ⟨i, _, rfl⟩ := List.mem_map.mp (List.mem_filter.mp hd).1
            rfl
          have h : Qd (match (xs.findIdx? fun x => !isRow x).map fun k => (k : Int) with | none => .none | some k => .tuple [.str "NotUsable", .str "text", .int k]) := h
          cases L with
          | nil =>
            have e : xs.findIdx? (fun x => !isRow x) = none := by
              cases z : xs.findIdx? (fun x => !isRow x) with
              | none => rfl
              | some j => rw [z] at fst; cases fst
            rw [e] at h
            simpa [wRet, wRetN, wIfS, wSeq, wNext, wT, wTand, wTor, wTnot, wAnd_eq, wOr_eq, wNot, wIsi_int, wIsi_bool, wIsi_str, wIsi_tup, wIsi_lst, tyInt, tyBool, tyStr, tyTup, tyLst, wChain_eq, wOp, wUn, wC, wVar, wCB, wCallP, fLen, wL, wComp, wSeqI, wZip, zipS, wCons, wNil, wTup, allK, argS, endP, noOwn, wipeD, dLe, dLt, dGe, dGt, dCm, dEq, dNe, dIdx, atI_0, atI_1, atI_2, wAsg, gN, gT, gCs, gNs, List.set, dInG, flatD, F1, List.length, limL_eq, shp_i, shp_s, shp_b, shp_n, eqv_ii, eqv_ss, shp_e, eqv_e, wLst, wListOf, F1d, F__law_is_number, F__law_is_name, F__law_is_kind, F__law_is_sort, F__law_is_item, wIf, sh] using h
          | cons a r =>
            cases z : xs.findIdx? (fun x => !isRow x) with
            | none => rw [z] at fst; cases fst
            | some j =>
              rw [z] at fst h
              have ea : a = .int (j : Int) := by simpa using fst
              subst ea
              simpa [wRet, wRetN, wIfS, wSeq, wNext, wT, wTand, wTor, wTnot, wAnd_eq, wOr_eq, wNot, wIsi_int, wIsi_bool, wIsi_str, wIsi_tup, wIsi_lst, tyInt, tyBool, tyStr, tyTup, tyLst, wChain_eq, wOp, wUn, wC, wVar, wCB, wCallP, fLen, wL, wComp, wSeqI, wZip, zipS, wCons, wNil, wTup, allK, argS, endP, noOwn, wipeD, dLe, dLt, dGe, dGt, dCm, dEq, dNe, dIdx, atI_0, atI_1, atI_2, wAsg, gN, gT, gCs, gNs, List.set, dInG, flatD, F1, List.length, limL_eq, shp_i, shp_s, shp_b, shp_n, eqv_ii, eqv_ss, shp_e, eqv_e, wLst, wListOf, F1d, F__law_is_number, F__law_is_name, F__law_is_kind, F__law_is_sort, F__law_is_item, wIf, sh] using h
      exact step _
    | _ =>
      refine seqIf_t (fun Q E q => by simpa [wRet, wRetN, wIfS, wSeq, wNext, wT, wTand, wTor, wTnot, wAnd_eq, wOr_eq, wNot, wIsi_int, wIsi_bool, wIsi_str, wIsi_tup, wIsi_lst, tyInt, tyBool, tyStr, tyTup, tyLst, wChain_eq, wOp, wUn, wC, wVar, wCB, wCallP, fLen, wL, wComp, wSeqI, wZip, zipS, wCons, wNil, wTup, allK, argS, endP, noOwn, wipeD, dLe, dLt, dGe, dGt, dCm, dEq, dNe, dIdx, atI_0, atI_1, atI_2, wAsg, gN, gT, gCs, gNs, List.set, dInG, flatD, F1, List.length, limL_eq, shp_i, shp_s, shp_b, shp_n, eqv_ii, eqv_ss, shp_e, eqv_e, wLst, wListOf, F1d, F__law_is_number, F__law_is_name, F__law_is_kind, F__law_is_sort, F__law_is_item] using q) ?_
      simpa [wRet, wRetN, wIfS, wSeq, wNext, wT, wTand, wTor, wTnot, wAnd_eq, wOr_eq, wNot, wIsi_int, wIsi_bool, wIsi_str, wIsi_tup, wIsi_lst, tyInt, tyBool, tyStr, tyTup, tyLst, wChain_eq, wOp, wUn, wC, wVar, wCB, wCallP, fLen, wL, wComp, wSeqI, wZip, zipS, wCons, wNil, wTup, allK, argS, endP, noOwn, wipeD, dLe, dLt, dGe, dGt, dCm, dEq, dNe, dIdx, atI_0, atI_1, atI_2, wAsg, gN, gT, gCs, gNs, List.set, dInG, flatD, F1, List.length, limL_eq, shp_i, shp_s, shp_b, shp_n, eqv_ii, eqv_ss, shp_e, eqv_e, wLst, wListOf, F1d, F__law_is_number, F__law_is_name, F__law_is_kind, F__law_is_sort, F__law_is_item, dNeg, faultD, rowsFault] using h.2.2
theorem ok__law_page_fault {f : Addr} {fd : FuncData} (Fu : Fun K "_law_page_fault" "_law_page_fault" s__law_page_fault f fd) (hm : mg "_law_page_fault" = some (.ref f)) (hb : Binds K fd ["_law_item_here"] []) (B : Bt mg) (D__law_is_item : Df P w K mg base CX0 4 "_law_is_item" 1 (spP K 1 F__law_is_item)) : Df P w K mg base CX0 5 "_law_page_fault" 1 (spP K 1 F__law_page_fault) :=
  ⟨f, fd, ["_law_item_here"], rfl, hm, Fu.kp, hb, fnP (wb := w__law_page_fault) Fu sc__law_page_fault rfl (fun cdv A outer s H E hG hr => ⟨_,
  (sd_cons (sd_if (td_not (td_val (e_isi (T' := "tuple") B (ed_var 0) (by decide +kernel)))) (sd_one (sd_ret (ed_tup (ad_cons ed_str (ad_cons ed_str (ad_cons (e_neg ed_int) ad_nil)))))) sd_nil)
  (sd_cons (sd_setLc 1 sc__law_page_fault.nd rfl rfl (own := [("_law_k", 2)]) (i_rng1 B (ad_cons (e_len B (ad_cons (ed_var 0) ad_nil)) ad_nil)) (blkOk_by (own := [("_law_k", 2)]) (N := ["_law_item_here", "_law_wrong", "_law_k"]) (sc := defScope s__law_page_fault) (by decide +kernel))
    (fun _ _ _ _ _ => (gd_name 2 sc__law_page_fault.nd rfl (by first | exact .inl rfl | exact .inr rfl))) (fun _ _ _ _ _ => (ptd_one (td_not (td_val (e_callP D__law_is_item hG (hr.mono (by decide)) pass00 (ad_cons (e_ix (ed_var 0) (ed_var 2)) ad_nil)))))) (fun _ _ _ _ _ => (ed_var 2)) (by simp))
  (sd_one (sd_ret (ed_if (t_ne hr (ed_var 1) (ed_new (fd_lst ad_nil))) (ed_tup (ad_cons ed_str (ad_cons ed_str (ad_cons (e_ix (ed_var 1) ed_int) ad_nil)))) ed_non)))))⟩) (spec__law_page_fault)⟩
/-! ## _law_late -/
abbrev s__law_late : Stmt := top 45
theorem sc__law_late : FnScope ["_law_lot", "_law_sign", "_law_found", "_law_pair"] ["_law_lot", "_law_sign"] (defScope s__law_late) := ⟨rfl, rfl, rfl, by decide +kernel, rfl, by decide +kernel, by decide +kernel⟩
abbrev F__law_late : List PyData → (PyData → Prop) → (Er → Prop) → Prop := fun ds Q _ => match ds with
  | [.list lot, .str s] => ∃ ps : List (Str × Str), lot = pairsD ps ∧ (∀ p ∈ ps, p.1 ≠ "") ∧ Q (.str (late ps s))
  | _ => False
def w__law_late : DS Unit :=
  (wSeq (wAsg (wL (wComp (wSeqI (wVar 0)) (gN 3) (wT (wOp dEq (wOp dIdx (wVar 3) (wC (.int 0))) (wVar 1))) (wOp dIdx (wVar 3) (wC (.int 1))) [3])) (gN 2))
  (wRet (wIf (wTand (wT (wOp dNe (wVar 2) (wL (wLst wNil)))) (wT (wOp dNe (wVar 1) (wC (.str ""))))) (wOp dIdx (wVar 2) (wC (.int 0))) (wVar 1))))
def pFst (s : Str) : PyData → Bool
  | .tuple [.str a, _] => decide (a = s)
  | _ => false
def fSnd : PyData → PyData
  | .tuple [_, b] => b
  | _ => .none
theorem pairs_found (s : Str) : ∀ ps : List (Str × Str), ((pairsD ps).filter (pFst s)).map fSnd = (ps.filter fun p => decide (p.1 = s)).map fun p => PyData.str p.2
  | [] => rfl
  | p :: ps => by
    have ih := pairs_found s ps
    show (List.filter (pFst s) (.tuple [.str p.1, .str p.2] :: pairsD ps)).map fSnd = _
    by_cases c : p.1 = s
    · rw [List.filter_cons_of_pos (show pFst s (.tuple [.str p.1, .str p.2]) = true from decide_eq_true c), List.filter_cons_of_pos (by simpa using c), List.map_cons, List.map_cons, ih]; rfl
    · rw [List.filter_cons_of_neg (show ¬ pFst s (.tuple [.str p.1, .str p.2]) = true from by rw [show pFst s (.tuple [.str p.1, .str p.2]) = decide (p.1 = s) from rfl, decide_eq_false c]; decide), List.filter_cons_of_neg (by simpa using c), ih]
theorem strs_flat {α : Type} (f : α → Str) (l : List α) : ∀ d ∈ l.map fun x => PyData.str (f x), flatD d = true := fun d hd => by
  obtain ⟨x, _, rfl⟩ := List.mem_map.mp hd
  rfl
theorem ne_nil {α : Type} (f : α → Str) (l : List α) {Q : PyData → Prop} (h : Q (.bool (!l.isEmpty))) : dNe (.list (l.map fun x => PyData.str (f x))) (.list []) Q := by
  refine ⟨shp_lst (strs_flat f l), shp_lst (fun _ h => by cases h), ?_⟩
  cases l with
  | nil => exact h
  | cons a l => exact h
theorem spec__law_late : ∀ ds Qd Ed, ds.length = 2 → F__law_late ds Qd Ed → w__law_late (argS 2 4 (ds.map Sl.d)) () (endP Qd Ed) := by
  intro ds Qd Ed hl h
  match ds, hl, h with
  | [.list lot, .str s], _, h =>
    obtain ⟨ps, rfl, hne, h⟩ := h
    unfold w__law_late
    show wSeq _ _ [.d (.list (pairsD ps)), .d (.str s), .no, .no] () _
    refine Dt.seq_of (Dt.asg_of (Dt.l_of (Dt.comp_of rfl (Dt.seqI_of (Dt.var_of rfl ?_)))))
    show wCompL _ _ _ _ _ (pairsD ps) _ _
    dsimp only [wipeD, List.set]
    refine Dt.comp_fm (pFst s) fSnd _ _ _ (fun d hd s' Y N y => ?_) ?_
    · obtain ⟨p, hp, rfl⟩ := List.mem_map.mp hd
      dsimp only [gN, List.set]
      refine ⟨rfl, Dt.t_of (Dt.op_of (Dt.op_of (Dt.var_of rfl (Dt.c_of ⟨_, atI_0, Dt.var_of rfl ⟨rfl, rfl, ?_⟩⟩))))⟩
      rw [eqv_ss]
      dsimp only
      have y : if decide (p.1 = s) = true then Y (.str p.2) s' else N s' := y
      by_cases c : p.1 = s
      · rw [decide_eq_true c, if_pos rfl] at y ⊢
        exact Dt.op_of (Dt.var_of rfl (Dt.c_of ⟨_, atI_1, y⟩))
      · rw [decide_eq_false c, if_neg (by decide)] at y ⊢
        exact y
    rw [pairs_found]
    dsimp only [gN, List.set]
    have hf : ps.find? (fun p => decide (p.1 = s)) = (ps.filter fun p => decide (p.1 = s)).head? := (List.head?_filter ..).symm
    unfold late at h
    rw [hf] at h
    have hes : s = "" → (ps.filter fun p => decide (p.1 = s)) = [] := fun e => by
      subst e
      exact List.filter_eq_nil_iff.mpr fun p hp => by simpa using hne p hp
    generalize (ps.filter fun p => decide (p.1 = s)) = fs at h hes
    refine Dt.ret_of (Dt.if_of (Dt.tand_of (Dt.t_of (Dt.op_of (Dt.var_of rfl (Dt.l_of (Dt.lst_of (Dt.nil_of ⟨Dt.few_lim (by simp), ne_nil _ fs ?_⟩))))))))
    cases fs with
    | nil =>
      show if false = true then _ else _
      rw [if_neg (by decide)]
      show if false = true then _ else _
      rw [if_neg (by decide)]
      exact Dt.var_of rfl h
    | cons p fs =>
      have ns : ¬ s = "" := fun e => by cases hes e
      change wT (wOp dNe (wVar 1) (wC (.str ""))) _ _ _ _
      refine Dt.t_of (Dt.op_of (Dt.var_of rfl (Dt.c_of ⟨rfl, rfl, ?_⟩)))
      rw [eqv_ss, decide_eq_false ns]
      change wOp dIdx (wVar 2) (wC (.int 0)) _ _ _ _
      exact Dt.op_of (Dt.var_of rfl (Dt.c_of ⟨_, atI_0, h⟩))
theorem ok__law_late {f : Addr} {fd : FuncData} (Fu : Fun K "_law_late" "_law_late" s__law_late f fd) (hm : mg "_law_late" = some (.ref f)) (hb : Binds K fd ["_law_lot", "_law_sign"] []) (B : Bt mg) : Df P w K mg base CX0 1 "_law_late" 2 (spP K 2 F__law_late) :=
  ⟨f, fd, ["_law_lot", "_law_sign"], rfl, hm, Fu.kp, hb, fnP (wb := w__law_late) Fu sc__law_late rfl (fun cdv A outer s H E hG hr => ⟨_,
  (sd_cons (sd_setLc 2 sc__law_late.nd rfl rfl (own := [("_law_pair", 3)]) (i_seq (ed_var 0)) (blkOk_by (own := [("_law_pair", 3)]) (N := ["_law_lot", "_law_sign", "_law_found", "_law_pair"]) (sc := defScope s__law_late) (by decide +kernel))
    (fun _ _ _ _ _ => (gd_name 3 sc__law_late.nd rfl (by first | exact .inl rfl | exact .inr rfl))) (fun _ _ _ _ _ => (ptd_one (t_eq hr (e_ix (ed_var 3) ed_int) (ed_var 1)))) (fun _ _ _ _ _ => (e_ix (ed_var 3) ed_int)) (by simp))
  (sd_one (sd_ret (ed_if (td_bool (tw_and (t_ne hr (ed_var 2) (ed_new (fd_lst ad_nil))) (tw_and1 (t_ne hr (ed_var 1) ed_str)))) (e_ix (ed_var 2) ed_int) (ed_var 1)))))⟩) (spec__law_late)⟩
/-! ## _law_turned -/
abbrev s__law_turned : Stmt := top 46
theorem sc__law_turned : FnScope ["_law_lot", "_law_item_here", "_law_are_kinds", "_law_name"] ["_law_lot", "_law_item_here", "_law_are_kinds"] (defScope s__law_turned) := ⟨rfl, rfl, rfl, by decide +kernel, rfl, by decide +kernel, by decide +kernel⟩
abbrev F__law_turned : List PyData → (PyData → Prop) → (Er → Prop) → Prop := fun ds Q _ => match ds with
  | [.list lot, r, .bool b] => ∃ ps : List (Str × Str), lot = pairsD ps ∧ (∀ p ∈ ps, p.1 ≠ "") ∧ isRow r = true ∧ Q (turnR b (late ps) r)
  | _ => False
def w__law_turned : DS Unit :=
  (wSeq (wIfS (wT (wOp dIn (wOp dIdx (wVar 1) (wC (.int 0))) (wTup (wCons (wC (.str "let")) (wCons (wC (.str "use")) wNil))))) (wSeq (wAsg (wIf (wT (wVar 2)) (wOp dIdx (wVar 1) (wC (.int 1))) (wCallP (fun ds Q E => ds.length = 2 ∧ F__law_late ds Q E) (wCons (wVar 0) (wCons (wOp dIdx (wVar 1) (wC (.int 1))) wNil)))) (gN 3))
  (wRet (wTup (wCons (wOp dIdx (wVar 1) (wC (.int 0))) (wCons (wVar 3) (wCons (wIf (wT (wVar 2)) (wCallP (fun ds Q E => ds.length = 2 ∧ F__law_late ds Q E) (wCons (wVar 0) (wCons (wOp dIdx (wVar 1) (wC (.int 2))) wNil))) (wOp dIdx (wVar 1) (wC (.int 2)))) wNil)))))) wNext)
  (wSeq (wIfS (wTnot (wT (wVar 2))) (wRet (wVar 1)) wNext)
  (wSeq (wIfS (wT (wOp dEq (wOp dIdx (wVar 1) (wC (.int 0))) (wC (.str "give")))) (wRet (wTup (wCons (wC (.str "give")) (wCons (wCallP (fun ds Q E => ds.length = 2 ∧ F__law_late ds Q E) (wCons (wVar 0) (wCons (wOp dIdx (wVar 1) (wC (.int 1))) wNil))) wNil)))) wNext)
  (wSeq (wIfS (wTand (wT (wOp dEq (wOp dIdx (wVar 1) (wC (.int 0))) (wC (.str "open")))) (wT (wIsi "tuple" (wOp dIdx (wVar 1) (wC (.int 1)))))) (wRet (wTup (wCons (wC (.str "open")) (wCons (wTup (wCons (wC (.str "fun")) (wCons (wCallP (fun ds Q E => ds.length = 2 ∧ F__law_late ds Q E) (wCons (wVar 0) (wCons (wOp dIdx (wOp dIdx (wVar 1) (wC (.int 1))) (wC (.int 1))) wNil))) wNil))) wNil)))) wNext)
  (wRet (wVar 1))))))
theorem is_letL {w : Str} {ρ : List Sl} {r : List PyData} {Q : Bool → Unit → Prop} {E : Er → Unit → Prop} (h0 : ρ[1]? = some (.d (.tuple (.str w :: r)))) (q : Q (decide (w = "let" ∨ w = "use")) ()) : wT (wOp dIn (wOp dIdx (wVar 1) (wC (.int 0))) (wTup (wCons (wC (.str "let")) (wCons (wC (.str "use")) wNil)))) ρ () Q E :=
  Dt.t_of (Dt.op_of (Dt.op_of (Dt.var_of h0 (Dt.c_of ⟨_, atI_0, Dt.tup_of (Dt.cons_of (Dt.c_of (Dt.cons_of (Dt.c_of (Dt.nil_of ⟨Dt.few_lim (by simp), word_in q⟩)))))⟩))))
theorem is_wordL {w z : Str} {ρ : List Sl} {r : List PyData} {Q : Bool → Unit → Prop} {E : Er → Unit → Prop} (h0 : ρ[1]? = some (.d (.tuple (.str w :: r)))) (q : Q (decide (w = z)) ()) : wT (wOp dEq (wOp dIdx (wVar 1) (wC (.int 0))) (wC (.str z))) ρ () Q E :=
  Dt.t_of (Dt.op_of (Dt.op_of (Dt.var_of h0 (Dt.c_of ⟨_, atI_0, Dt.c_of ⟨rfl, rfl, by rw [eqv_ss]; exact q⟩⟩))))
theorem spec__law_turned : ∀ ds Qd Ed, ds.length = 3 → F__law_turned ds Qd Ed → w__law_turned (argS 3 4 (ds.map Sl.d)) () (endP Qd Ed) := by
  intro ds Qd Ed hl h
  match ds, hl, h with
  | [.list lot, r, .bool b], _, h =>
    obtain ⟨ps, rfl, hne, hr, h⟩ := h
    unfold w__law_turned
    show wSeq _ _ [.d (.list (pairsD ps)), .d r, .d (.bool b), .no] () _
    cases rowK hr with
    | @name w a c hw ha hb =>
      refine seqIf_t (fun Q E q => is_letL rfl (by rw [decide_eq_true hw]; exact q)) ?_
      refine Dt.seq_of (Dt.asg_of (Dt.if_of (Dt.t_of (Dt.var_of rfl ?_))))
      dsimp only
      cases b with
      | true =>
        rw [if_pos rfl]
        refine Dt.op_of (Dt.var_of rfl (Dt.c_of ⟨_, atI_1, ?_⟩))
        dsimp only [gN, List.set]
        refine Dt.ret_of (Dt.tup_of (Dt.cons_of (Dt.op_of (Dt.var_of rfl (Dt.c_of ⟨_, atI_0, Dt.cons_of (Dt.var_of rfl (Dt.cons_of (Dt.if_of (Dt.t_of (Dt.var_of rfl ?_)))))⟩)))))
        dsimp only
        rw [if_pos rfl]
        exact Dt.callP2 (Dt.var_of rfl (Dt.op_of (Dt.var_of rfl (Dt.c_of ⟨_, atI_2, rfl, ps, rfl, hne, Dt.nil_of ⟨Dt.few_lim (by simp), h⟩⟩))))
      | false =>
        rw [if_neg (by decide)]
        refine Dt.callP2 (Dt.var_of rfl (Dt.op_of (Dt.var_of rfl (Dt.c_of ⟨_, atI_1, rfl, ps, rfl, hne, ?_⟩))))
        dsimp only [gN, List.set]
        refine Dt.ret_of (Dt.tup_of (Dt.cons_of (Dt.op_of (Dt.var_of rfl (Dt.c_of ⟨_, atI_0, Dt.cons_of (Dt.var_of rfl (Dt.cons_of (Dt.if_of (Dt.t_of (Dt.var_of rfl ?_)))))⟩)))))
        dsimp only
        rw [if_neg (by decide)]
        exact Dt.op_of (Dt.var_of rfl (Dt.c_of ⟨_, atI_2, Dt.nil_of ⟨Dt.few_lim (by simp), h⟩⟩))
    | @one w c =>
      have c1 : ¬ (w = "let" ∨ w = "use") := by rcases c with rfl | rfl <;> decide +kernel
      have c2 : ¬ w = "give" := by rcases c with rfl | rfl <;> decide +kernel
      have c3 : ¬ w = "open" := by rcases c with rfl | rfl <;> decide +kernel
      refine seqIf_f (fun Q E q => is_letL rfl (by rw [decide_eq_false c1]; exact q)) ?_
      cases b with
      | false => exact seqIf_t (fun Q E q => Dt.tnot_of (Dt.t_of (Dt.var_of rfl q))) (Dt.ret_of (Dt.var_of rfl h))
      | true =>
        refine seqIf_f (fun Q E q => Dt.tnot_of (Dt.t_of (Dt.var_of rfl q))) ?_
        refine seqIf_f (fun Q E q => is_wordL rfl (by rw [decide_eq_false c2]; exact q)) ?_
        exact seqIf_f (fun Q E q => Dt.tand_of (is_wordL rfl (by rw [decide_eq_false c3, if_neg (by decide)]; exact q))) (Dt.ret_of (Dt.var_of rfl h))
    | @give a ha =>
      refine seqIf_f (fun Q E q => is_letL rfl (by rw [decide_eq_false (by decide +kernel)]; exact q)) ?_
      cases b with
      | false => exact seqIf_t (fun Q E q => Dt.tnot_of (Dt.t_of (Dt.var_of rfl q))) (Dt.ret_of (Dt.var_of rfl h))
      | true =>
        refine seqIf_f (fun Q E q => Dt.tnot_of (Dt.t_of (Dt.var_of rfl q))) ?_
        refine seqIf_t (fun Q E q => is_wordL rfl (by rw [decide_eq_true rfl]; exact q)) ?_
        exact Dt.ret_of (Dt.tup_of (Dt.cons_of (Dt.c_of (Dt.cons_of (Dt.callP2 (Dt.var_of rfl (Dt.op_of (Dt.var_of rfl (Dt.c_of ⟨_, atI_1, rfl, ps, rfl, hne, Dt.nil_of ⟨Dt.few_lim (by simp), h⟩⟩)))))))))
    | @opn a c =>
      refine seqIf_f (fun Q E q => is_letL rfl (by rw [decide_eq_false (by decide +kernel)]; exact q)) ?_
      cases b with
      | false => exact seqIf_t (fun Q E q => Dt.tnot_of (Dt.t_of (Dt.var_of rfl q))) (Dt.ret_of (Dt.var_of rfl h))
      | true =>
        refine seqIf_f (fun Q E q => Dt.tnot_of (Dt.t_of (Dt.var_of rfl q))) ?_
        refine seqIf_f (fun Q E q => is_wordL rfl (by rw [decide_eq_false (by decide +kernel)]; exact q)) ?_
        refine seqIf_f (fun Q E q => Dt.tand_of (is_wordL rfl ?_)) (Dt.ret_of (Dt.var_of rfl h))
        rw [decide_eq_true rfl, if_pos rfl]
        exact Dt.t_of (by rw [wIsi_tup]; exact Dt.op_of (Dt.var_of rfl (Dt.c_of ⟨_, atI_1, q⟩)))
    | @fn a ha =>
      refine seqIf_f (fun Q E q => is_letL rfl (by rw [decide_eq_false (by decide +kernel)]; exact q)) ?_
      cases b with
      | false => exact seqIf_t (fun Q E q => Dt.tnot_of (Dt.t_of (Dt.var_of rfl q))) (Dt.ret_of (Dt.var_of rfl h))
      | true =>
        refine seqIf_f (fun Q E q => Dt.tnot_of (Dt.t_of (Dt.var_of rfl q))) ?_
        refine seqIf_f (fun Q E q => is_wordL rfl (by rw [decide_eq_false (by decide +kernel)]; exact q)) ?_
        refine seqIf_t (fun Q E q => Dt.tand_of (is_wordL rfl ?_)) ?_
        · rw [decide_eq_true rfl, if_pos rfl]
          exact Dt.t_of (by rw [wIsi_tup]; exact Dt.op_of (Dt.var_of rfl (Dt.c_of ⟨_, atI_1, q⟩)))
        refine Dt.ret_of (Dt.tup_of (Dt.cons_of (Dt.c_of (Dt.cons_of (Dt.tup_of (Dt.cons_of (Dt.c_of (Dt.cons_of (Dt.callP2 (Dt.var_of rfl (Dt.op_of (Dt.op_of (Dt.var_of rfl (Dt.c_of ⟨_, atI_1, Dt.c_of ⟨_, atI_1, rfl, ps, rfl, hne, ?_⟩⟩))))))))))))))
        exact Dt.nil_of ⟨Dt.few_lim (by simp), Dt.nil_of ⟨Dt.few_lim (by simp), h⟩⟩
theorem ok__law_turned {f : Addr} {fd : FuncData} (Fu : Fun K "_law_turned" "_law_turned" s__law_turned f fd) (hm : mg "_law_turned" = some (.ref f)) (hb : Binds K fd ["_law_lot", "_law_item_here", "_law_are_kinds"] []) (B : Bt mg) (D__law_late : Df P w K mg base CX0 1 "_law_late" 2 (spP K 2 F__law_late)) : Df P w K mg base CX0 2 "_law_turned" 3 (spP K 3 F__law_turned) :=
  ⟨f, fd, ["_law_lot", "_law_item_here", "_law_are_kinds"], rfl, hm, Fu.kp, hb, fnP (wb := w__law_turned) Fu sc__law_turned rfl (fun cdv A outer s H E hG hr => ⟨_,
  (sd_cons (sd_if (t_in hr (e_ix (ed_var 1) ed_int) (ed_tup (ad_cons ed_str (ad_cons ed_str ad_nil)))) (sd_cons (sd_set 3 sc__law_turned.nd rfl (by first | exact .inl rfl | exact .inr rfl) (ed_if (td_val (ed_var 2)) (e_ix (ed_var 1) ed_int) (e_callP D__law_late hG (hr.mono (by decide)) pass00 (ad_cons (ed_var 0) (ad_cons (e_ix (ed_var 1) ed_int) ad_nil)))))
  (sd_one (sd_ret (ed_tup (ad_cons (e_ix (ed_var 1) ed_int) (ad_cons (ed_var 3) (ad_cons (ed_if (td_val (ed_var 2)) (e_callP D__law_late hG (hr.mono (by decide)) pass00 (ad_cons (ed_var 0) (ad_cons (e_ix (ed_var 1) ed_int) ad_nil))) (e_ix (ed_var 1) ed_int)) ad_nil))))))) sd_nil)
  (sd_cons (sd_if (td_not (td_val (ed_var 2))) (sd_one (sd_ret (ed_var 1))) sd_nil)
  (sd_cons (sd_if (t_eq hr (e_ix (ed_var 1) ed_int) ed_str) (sd_one (sd_ret (ed_tup (ad_cons ed_str (ad_cons (e_callP D__law_late hG (hr.mono (by decide)) pass00 (ad_cons (ed_var 0) (ad_cons (e_ix (ed_var 1) ed_int) ad_nil))) ad_nil))))) sd_nil)
  (sd_cons (sd_if (td_bool (tw_and (t_eq hr (e_ix (ed_var 1) ed_int) ed_str) (tw_and1 (td_val (e_isi (T' := "tuple") B (e_ix (ed_var 1) ed_int) (by decide +kernel)))))) (sd_one (sd_ret (ed_tup (ad_cons ed_str (ad_cons (ed_tup (ad_cons ed_str (ad_cons (e_callP D__law_late hG (hr.mono (by decide)) pass00 (ad_cons (ed_var 0) (ad_cons (e_ix (e_ix (ed_var 1) ed_int) ed_int) ad_nil))) ad_nil))) ad_nil))))) sd_nil)
  (sd_one (sd_ret (ed_var 1)))))))⟩) (spec__law_turned)⟩
/-! ## _law_due -/
abbrev s__law_due : Stmt := top 47
theorem sc__law_due : FnScope ["_law_page_here", "_law_lot", "_law_are_kinds", "_law_fault", "_law_olds", "_law_k", "_law_pair", "_law_item_here"] ["_law_page_here", "_law_lot", "_law_are_kinds"] (defScope s__law_due) := ⟨rfl, rfl, rfl, by decide +kernel, rfl, by decide +kernel, by decide +kernel⟩
def nuD (wd : Str) (k : PyData) : PyData := .tuple [.str "NotUsable", .str wd, k]
/-- what the law awaits of renamed (b false) and rekinded (b true) -/
def dueT (b : Bool) (d : PyData) (ls : List PyData) : PyData := match rowsFault d with
  | some k => nuD "text" (.int k)
  | none => match scan ls 0 [] with
    | .inl (w, x) => nuD w x
    | .inr ps => .tuple [.str "told", .tuple ((elemsD d).map (turnR b (late ps)))]
abbrev F__law_due : List PyData → (PyData → Prop) → (Er → Prop) → Prop := fun ds Q _ => match ds with
  | [d, .list ls, .bool b] => PyData.depth d ≤ 50 ∧ (∀ xs, d = .tuple xs → xs.length ≤ 100000) ∧ ls.length ≤ 1000 ∧ Q (dueT b d ls)
  | _ => False
def w__law_due : DS Unit :=
  (wSeq (wAsg (wCallP (fun ds Q E => ds.length = 1 ∧ F__law_page_fault ds Q E) (wCons (wVar 0) wNil)) (gN 3))
  (wSeq (wIfS (wT (wOp dNotN (wVar 3) (wC .none))) (wRet (wVar 3)) wNext)
  (wSeq (wSetF 4 (wLst wNil))
  (wSeq (wFor (wRng1 (wCons (wCB fLen (wCons (wVar 1) wNil)) wNil)) (gN 5) (wSeq (wAsg (wOp dIdx (wVar 1) (wVar 5)) (gN 6))
  (wSeq (wIfS (wTor (wTnot (wT (wIsi "tuple" (wVar 6)))) (wTor (wT (wOp dNe (wCB fLen (wCons (wVar 6) wNil)) (wC (.int 2)))) (wTor (wTnot (wT (wCallP (fun ds Q E => ds.length = 1 ∧ F__law_is_name ds Q E) (wCons (wOp dIdx (wVar 6) (wC (.int 0))) wNil)))) (wTnot (wT (wCallP (fun ds Q E => ds.length = 1 ∧ F__law_is_name ds Q E) (wCons (wOp dIdx (wVar 6) (wC (.int 1))) wNil))))))) (wRet (wTup (wCons (wC (.str "NotUsable")) (wCons (wC (.str "pairs")) (wCons (wVar 5) wNil))))) wNext)
  (wSeq (wIfS (wInO 4 dIn (wOp dIdx (wVar 6) (wC (.int 0)))) (wRet (wTup (wCons (wC (.str "NotUsable")) (wCons (wC (.str "name")) (wCons (wOp dIdx (wVar 6) (wC (.int 0))) wNil))))) wNext)
  (wApp 4 (wOp dIdx (wVar 6) (wC (.int 0))))))))
  (wFreeze 4 (wRet (wTup (wCons (wC (.str "told")) (wCons (wCB fTuple (wCons (wL (wComp (wSeqI (wVar 0)) (gN 7) wYes (wCallP (fun ds Q E => ds.length = 3 ∧ F__law_turned ds Q E) (wCons (wVar 1) (wCons (wVar 7) (wCons (wVar 2) wNil)))) [7])) wNil)) wNil)))))))))
theorem inO_of {S : Type} {i : Nat} {f : PyData → PyData → (PyData → Prop) → Prop} {wa : DE S} {ρ : List Sl} {s : S} {Q : Bool → S → Prop} {E : Er → S → Prop} {p : Addr} {xs : List PyData} (h0 : ρ[i]? = some (.own p xs)) (h : wa ρ s (fun y s1 => f y (.list xs) fun z => match z with | .bool b => Q b s1 | _ => False) E) : wInO i f wa ρ s Q E := by
  unfold wInO
  rw [h0]; exact h
def oldsD (ps : List (Str × Str)) : List PyData := ps.map fun p => PyData.str p.1
theorem olds_in (a : Str) : ∀ ps : List (Str × Str), ((oldsD ps).any fun y => PyData.eqv y (.str a)) = (ps.find? fun p => decide (p.1 = a)).isSome
  | [] => rfl
  | p :: ps => by
    have ih := olds_in a ps
    show (PyData.eqv (.str p.1) (.str a) || (oldsD ps).any _) = _
    rw [eqv_ss, ih]
    by_cases c : p.1 = a
    · rw [List.find?_cons_of_pos (by simpa using c), decide_eq_true c]; rfl
    · rw [List.find?_cons_of_neg (by simpa using c), decide_eq_false c]; rfl
theorem nm_ne {a : Str} (h : isName (.str a) = true) : a ≠ "" := fun e => by subst e; exact absurd h (by decide +kernel)
theorem scan_all : ∀ (ls : List PyData) (k : Nat) (ps qs : List (Str × Str)), scan ls k ps = .inr qs → ∃ rs, qs = ps ++ rs ∧ ls = pairsD rs ∧ ∀ p ∈ rs, isName (.str p.1) = true ∧ isName (.str p.2) = true
  | [], k, ps, qs, h => by
    injection h with h
    exact ⟨[], by rw [List.append_nil, h], rfl, fun p hp => by cases hp⟩
  | d :: ls, k, ps, qs, h => by
    by_cases c : ∃ a b, d = .tuple [.str a, .str b] ∧ isName (.str a) = true ∧ isName (.str b) = true
    · obtain ⟨a, b, rfl, ha, hb⟩ := c
      rw [scan_ok ha hb] at h
      split at h
      · cases h
      · obtain ⟨rs, rfl, rfl, hr⟩ := scan_all ls (k + 1) _ qs h
        refine ⟨(a, b) :: rs, by rw [List.append_assoc]; rfl, rfl, fun p hp => ?_⟩
        rcases List.mem_cons.mp hp with rfl | hp
        · exact ⟨ha, hb⟩
        · exact hr p hp
    · rw [scan_odd (fun a b e => by
        by_cases ca : isName (.str a) = true
        · by_cases cb : isName (.str b) = true
          · exact absurd ⟨a, b, e, ca, cb⟩ c
          · rw [eq_false_of_ne_true cb, Bool.and_false]
        · rw [eq_false_of_ne_true ca, Bool.false_and])] at h
      cases h
theorem drop_one {α : Type} {l : List α} {k : Nat} {d : α} (h : l[k]? = some d) : l.drop k = d :: l.drop (k + 1) := by
  obtain ⟨kl, rfl⟩ := List.getElem?_eq_some_iff.mp h
  exact List.drop_eq_getElem_cons kl
/-- the test of a pair -/
def wPairTest : DT Unit := (wTor (wTnot (wT (wIsi "tuple" (wVar 6)))) (wTor (wT (wOp dNe (wCB fLen (wCons (wVar 6) wNil)) (wC (.int 2)))) (wTor (wTnot (wT (wCallP (fun ds Q E => ds.length = 1 ∧ F__law_is_name ds Q E) (wCons (wOp dIdx (wVar 6) (wC (.int 0))) wNil)))) (wTnot (wT (wCallP (fun ds Q E => ds.length = 1 ∧ F__law_is_name ds Q E) (wCons (wOp dIdx (wVar 6) (wC (.int 1))) wNil)))))))
theorem f1n_of {f : PyData → PyData} {d : PyData} {Q : PyData → Prop} {E : Er → Prop} (h : Q (f d)) : F1 f [d] Q E := h
theorem pair_ok {a b : Str} {ρ : List Sl} (h0 : ρ[6]? = some (.d (.tuple [.str a, .str b]))) (ha : isName (.str a) = true) (hb : isName (.str b) = true) (Q : Bool → Unit → Prop) (E : Er → Unit → Prop) (q : Q false ()) : wPairTest ρ () Q E := by
  unfold wPairTest
  refine Dt.tor_of (Dt.tnot_of (Dt.t_of ?_))
  rw [wIsi_tup]
  refine Dt.var_of h0 ?_
  show if (!true) = true then _ else _
  rw [if_neg (by decide)]
  refine Dt.tor_of (Dt.t_of (Dt.op_of (Dt.cb1_of (Dt.var_of h0 (Dt.len_tup (Dt.c_of ⟨rfl, rfl, ?_⟩))))))
  show if (!PyData.eqv (.int 2) (.int 2)) = true then _ else _
  rw [eqv_ii, if_neg (by decide)]
  refine Dt.tor_of (Dt.tnot_of (Dt.t_of (Dt.callP1 (Dt.op_of (Dt.var_of h0 (Dt.c_of ⟨_, atI_0, rfl, f1n_of ?_⟩))))))
  show if (!isName (.str a)) = true then _ else _
  rw [ha, if_neg (by decide)]
  refine Dt.tnot_of (Dt.t_of (Dt.callP1 (Dt.op_of (Dt.var_of h0 (Dt.c_of ⟨_, atI_1, rfl, f1n_of ?_⟩)))))
  show Q (!isName (.str b)) ()
  rw [hb]
  exact q
theorem pair_no {d : PyData} {ρ : List Sl} (h0 : ρ[6]? = some (.d d)) (h : ∀ a b, d = .tuple [.str a, .str b] → (isName (.str a) && isName (.str b)) = false) (Q : Bool → Unit → Prop) (E : Er → Unit → Prop) (q : Q true ()) : wPairTest ρ () Q E := by
  unfold wPairTest
  refine Dt.tor_of (Dt.tnot_of (Dt.t_of ?_))
  rw [wIsi_tup]
  refine Dt.var_of h0 ?_
  cases d with
  | tuple xs =>
    show if (!true) = true then _ else _
    rw [if_neg (by decide)]
    refine Dt.tor_of (Dt.t_of (Dt.op_of (Dt.cb1_of (Dt.var_of h0 (Dt.len_tup (Dt.c_of ⟨rfl, rfl, ?_⟩))))))
    rw [eqv_ii]
    match xs, h, h0 with
    | [], _, _ => exact q
    | [_], _, _ => exact q
    | x :: y :: z :: r, _, _ =>
      have n : (!decide (((x :: y :: z :: r).length : Int) = 2)) = true := by rw [decide_eq_false (by simp only [List.length_cons]; omega)]; rfl
      show if (!decide (((x :: y :: z :: r).length : Int) = 2)) = true then _ else _
      rw [if_pos n]
      exact q
    | [u, v], h, h0 =>
      show if (!decide (([u, v].length : Int) = 2)) = true then _ else _
      rw [if_neg (by simp)]
      refine Dt.tor_of (Dt.tnot_of (Dt.t_of (Dt.callP1 (Dt.op_of (Dt.var_of h0 (Dt.c_of ⟨_, atI_0, rfl, f1n_of ?_⟩))))))
      show if (!isName u) = true then _ else _
      by_cases cu : isName u = true
      · rw [cu, if_neg (by decide)]
        refine Dt.tnot_of (Dt.t_of (Dt.callP1 (Dt.op_of (Dt.var_of h0 (Dt.c_of ⟨_, atI_1, rfl, f1n_of ?_⟩)))))
        show Q (!isName v) ()
        have nv : isName v = false := by
          by_cases cv : isName v = true
          · obtain ⟨a, rfl⟩ := isName_str cu
            obtain ⟨b, rfl⟩ := isName_str cv
            have := h a b rfl
            rw [cu, cv] at this
            exact absurd this (by decide)
          · exact eq_false_of_ne_true cv
        rw [nv]
        exact q
      · rw [eq_false_of_ne_true cu, if_pos (by decide)]
        exact q
  | _ => exact q
theorem spec__law_due : ∀ ds Qd Ed, ds.length = 3 → F__law_due ds Qd Ed → w__law_due (argS 3 8 (ds.map Sl.d)) () (endP Qd Ed) := by
  intro ds Qd Ed hl h
  match ds, hl, h with
  | [d, .list ls, .bool b], _, h =>
    obtain ⟨h1, h2, hn, h⟩ := h
    unfold w__law_due
    show wSeq _ _ [.d d, .d (.list ls), .d (.bool b), .no, .no, .no, .no, .no] () _
    unfold dueT at h
    refine Dt.seq_of (Dt.asg_of (Dt.callP1 (Dt.var_of rfl ⟨rfl, h1, h2, ?_⟩)))
    dsimp only [gN, List.set]
    cases e : rowsFault d with
    | some k =>
      rw [e] at h
      have ef : faultD d = nuD "text" (.int k) := by unfold faultD; rw [e]; rfl
      rw [ef]
      refine seqIf_t (fun Q E q => Dt.t_of (Dt.op_of (Dt.var_of rfl (Dt.c_of ?_)))) (Dt.ret_of (Dt.var_of rfl h))
      exact q
    | none =>
      rw [e] at h
      have ef : faultD d = .none := by unfold faultD; rw [e]
      rw [ef]
      refine seqIf_f (fun Q E q => Dt.t_of (Dt.op_of (Dt.var_of rfl (Dt.c_of ?_)))) ?_
      · exact q
      obtain ⟨xs, rfl⟩ := fault_tup e
      have hr := rows_all e
      dsimp only at h
      refine Dt.seq_of (Dt.setF_of (Dt.lst_of (Dt.nil_of ⟨Dt.few_lim (by simp), fun p => ?_⟩)))
      dsimp only [List.set]
      refine Dt.seq_gen fun D1 hnx hrt her => Dt.for_of (Dt.rng1_of (Dt.cb1_of (Dt.var_of rfl (Dt.len_lst ⟨by omega, by omega, ?_⟩))))
      have hrt' : D1.rt = fun d _ => Qd d := hrt
      refine Dt.loop_inv (fun k ρ _ => ∃ ps y z, ρ = [.d (.tuple xs), .d (.list ls), .d (.bool b), .d .none, .own p (oldsD ps), y, z, .no] ∧ ps.length ≤ k ∧ scan ls 0 [] = scan (ls.drop k) k ps) _ 0 _ _ ?_ ⟨[], _, _, rfl, Nat.le_refl _, rfl⟩ ?_
      · rintro k d hd ρ s ⟨ps, y, z, rfl, pk, hs⟩ D' rt' _ _ hx _
        rw [Nat.zero_add] at hs hx pk
        obtain ⟨kl, rfl⟩ := Dt.rngD_at hd
        have kl : k < ls.length := by omega
        obtain ⟨x, hxk⟩ : ∃ x, ls[k]? = some x := ⟨_, List.getElem?_eq_getElem kl⟩
        rw [drop_one hxk] at hs
        dsimp only [gN, List.set]
        refine Dt.seq_of (Dt.asg_of (Dt.op_of (Dt.var_of rfl (Dt.var_of rfl ⟨x, atI_nat hxk, ?_⟩))))
        dsimp only [gN, List.set]
        by_cases c : ∃ a b, x = .tuple [.str a, .str b] ∧ isName (.str a) = true ∧ isName (.str b) = true
        · obtain ⟨a, b', rfl, ha, hb⟩ := c
          rw [scan_ok ha hb] at hs
          refine seqIf_f (fun Q E q => pair_ok rfl ha hb Q E q) ?_
          by_cases cf : (ps.find? fun p => decide (p.1 = a)).isSome = true
          · rw [if_pos cf] at hs
            rw [hs] at h
            refine seqIf_t (fun Q E q => inO_of (p := p) (xs := oldsD ps) rfl (Dt.op_of (Dt.var_of rfl (Dt.c_of ⟨_, atI_0, rfl, shp_lst (strs_flat _ ps), ?_⟩)))) ?_
            · rw [olds_in, cf]
              exact q
            refine Dt.ret_of (Dt.tup_of (Dt.cons_of (Dt.c_of (Dt.cons_of (Dt.c_of (Dt.cons_of (Dt.op_of (Dt.var_of rfl (Dt.c_of ⟨_, atI_0, Dt.nil_of ⟨Dt.few_lim (by simp), ?_⟩⟩)))))))))
            show D'.rt _ _
            rw [rt', hrt']
            exact h
          · rw [if_neg cf] at hs
            refine seqIf_f (fun Q E q => inO_of (p := p) (xs := oldsD ps) rfl (Dt.op_of (Dt.var_of rfl (Dt.c_of ⟨_, atI_0, rfl, shp_lst (strs_flat _ ps), ?_⟩)))) ?_
            · rw [olds_in, eq_false_of_ne_true cf]
              exact q
            refine Dt.app_of (p := p) (xs := oldsD ps) rfl (Dt.op_of (Dt.var_of rfl (Dt.c_of ⟨_, atI_0, ?_, hx _ _ ⟨ps ++ [(a, b')], .d (.int (k : Int)), .d (.tuple [.str a, .str b']), ?_, by rw [List.length_append]; simp; omega, hs⟩⟩)))
            · unfold oldsD; rw [List.length_map, limL_eq]; omega
            · unfold oldsD; rw [List.map_append]; rfl
        · have no : ∀ a b, x = .tuple [.str a, .str b] → (isName (.str a) && isName (.str b)) = false := fun a b e => by
            by_cases ca : isName (.str a) = true
            · by_cases cb : isName (.str b) = true
              · exact absurd ⟨a, b, e, ca, cb⟩ c
              · rw [eq_false_of_ne_true cb, Bool.and_false]
            · rw [eq_false_of_ne_true ca, Bool.false_and]
          rw [scan_odd no] at hs
          rw [hs] at h
          refine seqIf_t (fun Q E q => pair_no rfl no Q E q) ?_
          refine Dt.ret_of (Dt.tup_of (Dt.cons_of (Dt.c_of (Dt.cons_of (Dt.c_of (Dt.cons_of (Dt.var_of rfl (Dt.nil_of ⟨Dt.few_lim (by simp), ?_⟩))))))))
          show D'.rt _ _
          rw [rt', hrt']
          exact h
      · rintro ρ s ⟨ps, y, z, rfl, pk, hs⟩
        rw [Nat.zero_add, rngD_len, Int.toNat_natCast, List.drop_length] at hs
        have hs : scan ls 0 [] = .inr ps := hs
        rw [hs] at h
        obtain ⟨rs, e1, e2, hrs⟩ := scan_all ls 0 [] ps hs
        have e1 : ps = rs := by rw [e1]; rfl
        subst e1
        refine hnx _ _ ?_
        refine Dt.freeze_of (p := p) (xs := oldsD ps) rfl ?_
        dsimp only [List.set]
        refine Dt.ret_of (Dt.tup_of (Dt.cons_of (Dt.c_of (Dt.cons_of (Dt.cb1_of (Dt.l_of (Dt.comp_of rfl (Dt.seqI_of (Dt.var_of rfl ?_)))))))))
        show wCompL _ _ _ _ _ xs _ _
        dsimp only [wipeD, List.set]
        refine Dt.comp_map (turnR b (late ps)) xs _ _ (fun x hx s Y y => ?_) ?_
        · dsimp only [gN, List.set]
          exact ⟨rfl, Dt.callP3 (Dt.var_of rfl (Dt.var_of rfl (Dt.var_of rfl ⟨rfl, ps, e2, fun q hq => nm_ne (hrs q hq).1, hr x hx, y⟩)))⟩
        · exact Dt.ftup_of (Dt.nil_of ⟨Dt.few_lim (by simp), h⟩)
theorem ok__law_due {f : Addr} {fd : FuncData} (Fu : Fun K "_law_due" "_law_due" s__law_due f fd) (hm : mg "_law_due" = some (.ref f)) (hb : Binds K fd ["_law_page_here", "_law_lot", "_law_are_kinds"] []) (B : Bt mg) (D__law_is_name : Df P w K mg base CX0 1 "_law_is_name" 1 (spP K 1 F__law_is_name)) (D__law_page_fault : Df P w K mg base CX0 5 "_law_page_fault" 1 (spP K 1 F__law_page_fault)) (D__law_turned : Df P w K mg base CX0 2 "_law_turned" 3 (spP K 3 F__law_turned)) : Df P w K mg base CX0 6 "_law_due" 3 (spP K 3 F__law_due) :=
  ⟨f, fd, ["_law_page_here", "_law_lot", "_law_are_kinds"], rfl, hm, Fu.kp, hb, fnP (wb := w__law_due) Fu sc__law_due rfl (fun cdv A outer s H E hG hr => ⟨_,
  (sd_cons (sd_set 3 sc__law_due.nd rfl (by first | exact .inl rfl | exact .inr rfl) (e_callP D__law_page_fault hG (hr.mono (by decide)) pass00 (ad_cons (ed_var 0) ad_nil)))
  (sd_cons (sd_if (t_notN (ed_var 3) ed_non) (sd_one (sd_ret (ed_var 3))) sd_nil)
  (sd_cons (sd_setF 4 sc__law_due.nd rfl (by first | exact .inl rfl | exact .inr rfl) (fd_lst ad_nil))
  (sd_cons (sd_for (L2.passes_of rfl) rfl (i_rng1 B (ad_cons (e_len B (ad_cons (ed_var 1) ad_nil)) ad_nil)) (gd_name 5 sc__law_due.nd rfl (by first | exact .inl rfl | exact .inr rfl)) (sd_cons (sd_set 6 sc__law_due.nd rfl (by first | exact .inl rfl | exact .inr rfl) (e_ix (ed_var 1) (ed_var 5)))
  (sd_cons (sd_if (td_bool (tw_or (td_not (td_val (e_isi (T' := "tuple") B (ed_var 6) (by decide +kernel)))) (tw_or (t_ne hr (e_len B (ad_cons (ed_var 6) ad_nil)) ed_int) (tw_or (td_not (td_val (e_callP D__law_is_name hG (hr.mono (by decide)) pass00 (ad_cons (e_ix (ed_var 6) ed_int) ad_nil)))) (tw_or1 (td_not (td_val (e_callP D__law_is_name hG (hr.mono (by decide)) pass00 (ad_cons (e_ix (ed_var 6) ed_int) ad_nil))))))))) (sd_one (sd_ret (ed_tup (ad_cons ed_str (ad_cons ed_str (ad_cons (ed_var 5) ad_nil)))))) sd_nil)
  (sd_cons (sd_if (t_inO 4 hr (e_ix (ed_var 6) ed_int)) (sd_one (sd_ret (ed_tup (ad_cons ed_str (ad_cons ed_str (ad_cons (e_ix (ed_var 6) ed_int) ad_nil)))))) sd_nil)
  (sd_one (sd_append 4 (e_ix (ed_var 6) ed_int)))))))
  (sd_freeze 4 (sd_one (sd_ret (ed_tup (ad_cons ed_str (ad_cons (e_tupleOf B (ad_cons (ed_new (fd_lc rfl sc__law_due.nd (own := [("_law_item_here", 7)]) (i_seq (ed_var 0)) (blkOk_by (own := [("_law_item_here", 7)]) (N := ["_law_page_here", "_law_lot", "_law_are_kinds", "_law_fault", "_law_olds", "_law_k", "_law_pair", "_law_item_here"]) (sc := defScope s__law_due) (by decide +kernel))
    (fun _ _ _ _ _ => (gd_name 7 sc__law_due.nd rfl (by first | exact .inl rfl | exact .inr rfl))) (fun _ _ _ _ _ => ptd_nil) (fun _ _ _ _ _ => (e_callP D__law_turned hG (hr.mono (by decide)) pass00 (ad_cons (ed_var 1) (ad_cons (ed_var 7) (ad_cons (ed_var 2) ad_nil))))) (by simp))) ad_nil)) ad_nil))))))))))⟩) (spec__law_due)⟩
end
end L07

set_option Elab.async false
set_option linter.all false
set_option autoImplicit false
set_option maxRecDepth 100000
set_option maxHeartbeats 4000000
namespace L07
open PySem PySem.Spec Dt
open L2 hiding wT wNot
abbrev Wf (T : List (Addr × Str)) := ftW "cells" "spot" "left" "turns" T
section
variable {P : Program} {w : World} {K : PySem.W.Frag} {mg : Str → Option Value} {base : Heap} {T : List (Addr × Str)}
abbrev s_draw : Stmt := top 30
theorem sc_draw : FnScope ["_law_feed_here", "_law_size", "_law_digit", "_law_cells", "_law_spot", "_law_cell", "_law_mixed"] ["_law_feed_here", "_law_size"] (defScope s_draw) := ⟨rfl, rfl, rfl, by decide +kernel, rfl, by decide +kernel, by decide +kernel⟩
theorem ok_draw {f : Addr} {fd : FuncData} (Fu : Fun K "_law_draw" "_law_draw" s_draw f fd) (hm : mg "_law_draw" = some (.ref f)) (hb : Binds K fd ["_law_feed_here", "_law_size"] []) (B : Bt mg) : Df P w K mg base CX0 1 "_law_draw" 2 (spI K (Wf T) 2 F_draw) := by
  refine ⟨f, fd, _, rfl, hm, Fu.kp, hb, fnG Fu sc_draw (fun vs H Q E h => by obtain ⟨i, h⟩ := h; exact h.1) fun cdv A outer s H vs Q E hG hr h => ?_⟩
  obtain ⟨⟨a, L⟩, hl, R, as, s1, Qd, Ed, nd, tr, ⟨⟨ns, kvs, sp, lf, tn, F⟩, hTT⟩, ag, ⟨n, rfl, n0, n1, hq⟩, hQ, _⟩ := h
  match vs, hl, ag with
  | [v1, v2], _, ag =>
  obtain ⟨rfl, d2, _⟩ := ag
  cases d2
  have fin : ∀ (H' : Hp) (k : Int) kvs' sp' lf' tn', Fd "cells" "spot" "left" "turns" H' a L ns kvs' sp' lf' tn' → (∀ b o, b ≠ a → H b = some o → H' b = some o) → 0 ≤ k → k < n → Q (.int k) H' := fun H' k kvs' sp' lf' tn' F' e k0 k1 =>
    hQ (.int k) H' (.int k) () ⟨⟨ns, kvs', sp', lf', tn', F'⟩, fun p hp => Dt.TabS.off F.at' (hTT p hp) e⟩ (fun b o h nb => e b o (fun z => nb (by rw [z]; simp [ftW])) h) (.int (okI_small (by omega))) (hq k k0 k1)
  have hu := hu_of hr
  have mInt : mg "int" = none := B.no _ (by decide)
  have mLen : mg "len" = none := B.no _ (by decide)
  refine ⟨_, pss_cons (ps_dput hu (pv 0) pe_str (pe_op op_add (pe_dget hu (pv 0) pe_str (fun _ _ => rfl)) pe_int) rfl)
    (pss_cons (ps_if (pt_cmpR op_gt (pe_dget hu (pv 0) pe_str (fun _ _ => rfl)) pe_int (nomark _))
      (pss_cons (ps_set (i := 2) sc_draw.nd rfl (.inl rfl) (pe_op op_mod (pe_callTy call_int1 (by rfl) mInt (by decide +kernel) (pa_cons (pe_dget hu (pv 0) pe_str (fun _ _ => rfl)) pa_nil)) (pv 1)))
      (pss_cons (ps_dput hu (pv 0) pe_str (pe_op op_fdiv (pe_dget hu (pv 0) pe_str (fun _ _ => rfl)) (pv 1)) rfl)
      (pss_one (ps_ret (pv 2))))) pss_nil)
    (pss_cons (ps_par (i := 3) (j := 4) rfl sc_draw.nd rfl rfl (by decide) rfl rfl (pa_cons (pe_dget hu (pv 0) pe_str (fun _ _ => rfl)) (pa_cons (pe_dget hu (pv 0) pe_str (fun _ _ => rfl)) pa_nil)) (by rfl))
    (pss_cons (ps_dput hu (pv 0) pe_str (pe_op op_add (pv 4) pe_int) rfl)
    (pss_cons (ps_set (i := 5) sc_draw.nd rfl (.inl rfl) (pe_ifExp (pt_cmpR (op_neD hr.units) (pv 3) (pe_lst pa_nil) (nomark _)) (pe_ix ix_list (pv 3) (pe_op op_mod (pe_callTy call_int1 (by rfl) mInt (by decide +kernel) (pa_cons (pv 4) pa_nil)) (pe_callB call_len_seq (by rfl) mLen (by decide +kernel) (pa_cons (pv 3) pa_nil))) (fun _ _ => rfl)) pe_int))
    (pss_cons (ps_if (PW.pt (pw_and (pt_cmpR op_ge (pv 5) (pe_op op_pow pe_int pe_int) (nomark _)) (pw_and1 (pt_cmpR op_lt (pv 4) (pe_callB call_len_seq (by rfl) mLen (by decide +kernel) (pa_cons (pv 3) pa_nil)) (nomark _)))))
      (pss_cons (ps_dput hu (pv 0) pe_str (pe_op op_fdiv (pv 5) (pv 1)) rfl)
      (pss_one (ps_ret (pe_op op_mod (pe_callTy call_int1 (by rfl) mInt (by decide +kernel) (pa_cons (pv 5) pa_nil)) (pv 1))))) pss_nil)
    (pss_cons (ps_set (i := 6) sc_draw.nd rfl (.inl rfl) (pe_op op_mod (pe_callTy call_int1 (by rfl) mInt (by decide +kernel) (pa_cons (pe_op op_add (pe_op op_add (pe_op op_mul (pe_op op_mod (pe_callTy call_int1 (by rfl) mInt (by decide +kernel) (pa_cons (pv 5) pa_nil)) pe_int) pe_int) (pe_op op_mul pe_int (pe_dget hu (pv 0) pe_str (fun _ _ => rfl)))) pe_int) pa_nil)) pe_int))
    (pss_cons (ps_set (i := 6) sc_draw.nd rfl (.inl rfl) (pe_op op_mod (pe_callTy call_int1 (by rfl) mInt (by decide +kernel) (pa_cons (pe_op op_add (pe_op op_add (pe_op op_mul (pv 6) (pv 6)) (pe_op op_mul pe_int (pe_dget hu (pv 0) pe_str (fun _ _ => rfl)))) pe_int) pa_nil)) pe_int))
    (pss_one (ps_ret (pe_op op_mod (pe_callTy call_int1 (by rfl) mInt (by decide +kernel) (pa_cons (pe_op op_fdiv (pe_op op_mod (pe_callTy call_int1 (by rfl) mInt (by decide +kernel) (pa_cons (pe_op op_add (pe_op op_mul (pv 6) (pv 6)) (pe_op op_mul pe_int (pv 6))) pa_nil)) pe_int) pe_int) pa_nil)) (pv 1))))))))))), ?_⟩
  -- turns
  refine ⟨_, rfl, a, _, rfl, dget_of F.at' F.kt, _, _, rfl, rfl, _, rfl, a, _, rfl, F.dput "turns" _, ?_⟩
  have F1 := F.putT (by decide) (by decide) (by decide) (tn + 1)
  generalize hk1 : putK kvs (.inr "turns") (.int (tn + 1)) = kvs1 at F1 ⊢
  have o1 : ∀ b o, b ≠ a → H b = some o → upd H a (.dK kvs1) b = some o := fun b o h q => by rw [upd_ne h]; exact q
  generalize upd H a (.dK kvs1) = H1 at F1 o1 ⊢
  -- if left > 0
  refine ⟨_, rfl, a, _, rfl, dget_of F1.at' F1.kl, _, _, rfl, rfl, _, rfl, ?_⟩
  refine ite2 (fun c => ?_) (fun c => ?_)
  · refine ⟨_, rfl, a, _, rfl, dget_of F1.at' F1.kl, .inl ⟨_, rfl, _, rfl, _, _, rfl, rfl, n0, ?_⟩⟩
    refine ⟨_, rfl, a, _, rfl, dget_of F1.at' F1.kl, _, rfl, _, _, rfl, rfl, ⟨n0, n1⟩, _, rfl, a, _, rfl, F1.dput "left" _, _, rfl, ?_⟩
    exact fin _ _ _ _ _ _ (F1.putL (by decide) (by decide) (by decide) _) (fun b o h q => by rw [upd_ne h]; exact o1 b o h q) (Int.emod_nonneg _ (by omega)) (Int.emod_lt_of_pos _ n0)
  · -- cells, spot
    refine ⟨_, rfl, a, _, rfl, dget_of F1.at' F1.kc, _, rfl, a, _, rfl, dget_of F1.at' F1.ks, _, _, rfl, ?_⟩
    -- spot
    refine ⟨_, rfl, _, _, rfl, rfl, _, rfl, a, _, rfl, F1.dput "spot" _, ?_⟩
    have F2 := F1.putS (by decide) (by decide) (by decide) (sp + 1)
    generalize hk2 : putK kvs1 (.inr "spot") (.int (sp + 1)) = kvs2 at F2 ⊢
    have o2 : ∀ b o, b ≠ a → H b = some o → upd H1 a (.dK kvs2) b = some o := fun b o h q => by rw [upd_ne h]; exact o1 b o h q
    generalize upd H1 a (.dK kvs2) = H2 at F2 o2 ⊢
    -- the cell
    refine ⟨_, rfl, (by show 0 ≤ sizeLine; decide), fun p hp => ?_⟩
    have F3 : Fd "cells" "spot" "left" "turns" (upd H2 p (.lst [])) a L ns kvs2 (sp + 1) lf (tn + 1) := F2.grow (upd_ne (ne_of_none F2.at' hp)) (upd_ne (ne_of_none F2.cells hp))
    have o3 : ∀ b o, b ≠ a → H b = some o → upd H2 p (.lst []) b = some o := fun b o h q => by
      have := o2 b o h q
      rw [upd_ne (ne_of_none this hp)]; exact this
    have e3 : (upd H2 p (.lst [])) p = some (.lst []) := upd_same
    generalize upd H2 p (.lst []) = H3 at F3 o3 e3 ⊢
    refine ⟨.list (ns.map PyData.int), .list [], .lst (SqL.of F3.cells) (dp_ints ns), .lst (SqL.of e3) .nil, shaped_ints ns, shaped_nil, _, rfl, ?_⟩
    have e4 : (!PyData.eqv (.list (ns.map PyData.int)) (.list [])) = !ns.isEmpty := by cases ns <;> simp [PyData.eqv, PyData.eqvAll]
    rw [e4]
    by_cases hn : ns = []
    · subst hn
      refine iteF ?_
      generalize (90507 : Int) = c
      refine ⟨_, rfl, _, _, rfl, rfl, ⟨by decide, by decide, by decide⟩, _, _, rfl, rfl, _, rfl, ?_⟩
      refine ite2 (fun c1 => ?_) (fun c1 => ?_)
      · refine ⟨_, rfl, _, rfl, L, _, rfl, .inl (SqL.of F3.cells), _, _, rfl, rfl, _, rfl, ?_⟩
        refine ite2 (fun c2 => ?_) (fun c2 => ?_)
        · refine ⟨_, rfl, _, rfl, _, _, rfl, rfl, ⟨n0, n1⟩, _, rfl, a, _, rfl, F3.dput "left" _, _, rfl, .inl ⟨_, rfl, _, rfl, _, _, rfl, rfl, n0, ?_⟩⟩
          exact fin _ _ _ _ _ _ (F3.putL (by decide) (by decide) (by decide) _) (fun b o h q => by rw [upd_ne h]; exact o3 b o h q) (Int.emod_nonneg _ (by omega)) (Int.emod_lt_of_pos _ n0)
        · refine ⟨_, rfl, .inl ⟨_, rfl, _, _, rfl, rfl, (by show (0:Int) < _; decide), _, _, rfl, rfl, .inr ⟨by decide, by decide⟩, _, rfl, a, _, rfl, dget_of F3.at' F3.kt, _, _, rfl, rfl, .inl ⟨by decide, by decide⟩, _, _, rfl, rfl, _, _, rfl, rfl, .inl ⟨_, rfl, _, _, rfl, rfl, (by show (0:Int) < _; decide), ?_⟩⟩⟩
          refine ⟨_, rfl, _, rfl, _, _, rfl, rfl, .inl (mid _ (by decide) (by decide)), _, rfl, a, _, rfl, dget_of F3.at' F3.kt, _, _, rfl, rfl, .inl ⟨by decide, by decide⟩, _, _, rfl, rfl, _, _, rfl, rfl, .inl ⟨_, rfl, _, _, rfl, rfl, (by show (0:Int) < _; decide), ?_⟩⟩
          refine ⟨_, rfl, _, rfl, _, _, rfl, rfl, .inl (mid _ (by decide) (by decide)), _, rfl, _, _, rfl, rfl, .inl ⟨by decide, by decide⟩, _, _, rfl, rfl, .inl ⟨_, rfl, _, _, rfl, rfl, (by show (0:Int) < _; decide), _, _, rfl, rfl, ⟨by decide, by decide⟩, .inl ⟨_, rfl, _, rfl, _, _, rfl, rfl, n0, ?_⟩⟩⟩
          exact fin _ _ _ _ _ _ F3 o3 (Int.emod_nonneg _ (by omega)) (Int.emod_lt_of_pos _ n0)
      · refine iteF ?_
        refine ⟨_, rfl, .inl ⟨_, rfl, _, _, rfl, rfl, (by show (0:Int) < _; decide), _, _, rfl, rfl, .inr ⟨by decide, by decide⟩, _, rfl, a, _, rfl, dget_of F3.at' F3.kt, _, _, rfl, rfl, .inl ⟨by decide, by decide⟩, _, _, rfl, rfl, _, _, rfl, rfl, .inl ⟨_, rfl, _, _, rfl, rfl, (by show (0:Int) < _; decide), ?_⟩⟩⟩
        refine ⟨_, rfl, _, rfl, _, _, rfl, rfl, .inl (mid _ (by decide) (by decide)), _, rfl, a, _, rfl, dget_of F3.at' F3.kt, _, _, rfl, rfl, .inl ⟨by decide, by decide⟩, _, _, rfl, rfl, _, _, rfl, rfl, .inl ⟨_, rfl, _, _, rfl, rfl, (by show (0:Int) < _; decide), ?_⟩⟩
        refine ⟨_, rfl, _, rfl, _, _, rfl, rfl, .inl (mid _ (by decide) (by decide)), _, rfl, _, _, rfl, rfl, .inl ⟨by decide, by decide⟩, _, _, rfl, rfl, .inl ⟨_, rfl, _, _, rfl, rfl, (by show (0:Int) < _; decide), _, _, rfl, rfl, ⟨by decide, by decide⟩, .inl ⟨_, rfl, _, rfl, _, _, rfl, rfl, n0, ?_⟩⟩⟩
        exact fin _ _ _ _ _ _ F3 o3 (Int.emod_nonneg _ (by omega)) (Int.emod_lt_of_pos _ n0)
    · have : (!ns.isEmpty) = true := by cases ns with | nil => exact absurd rfl hn | cons _ _ => rfl
      rw [this]
      refine iteT ?_
      obtain ⟨c, hc⟩ := atI_mod hn sp
      refine ⟨_, rfl, _, rfl, .inl ⟨_, rfl, _, rfl, L, _, rfl, .inl (SqL.of F3.cells), _, _, rfl, rfl, ?_, L, _, _, _, rfl, rfl, SqL.of F3.cells, hc, ?_⟩⟩
      · have : 0 < ns.length := List.length_pos_iff.mpr hn
        rw [List.length_map]; omega
      · refine ⟨_, rfl, _, _, rfl, rfl, ⟨by decide, by decide, by decide⟩, _, _, rfl, rfl, _, rfl, ?_⟩
        refine ite2 (fun c1 => ?_) (fun c1 => ?_)
        · refine ⟨_, rfl, _, rfl, L, _, rfl, .inl (SqL.of F3.cells), _, _, rfl, rfl, _, rfl, ?_⟩
          refine ite2 (fun c2 => ?_) (fun c2 => ?_)
          · refine ⟨_, rfl, _, rfl, _, _, rfl, rfl, ⟨n0, n1⟩, _, rfl, a, _, rfl, F3.dput "left" _, _, rfl, .inl ⟨_, rfl, _, rfl, _, _, rfl, rfl, n0, ?_⟩⟩
            exact fin _ _ _ _ _ _ (F3.putL (by decide) (by decide) (by decide) _) (fun b o h q => by rw [upd_ne h]; exact o3 b o h q) (Int.emod_nonneg _ (by omega)) (Int.emod_lt_of_pos _ n0)
          · refine ⟨_, rfl, .inl ⟨_, rfl, _, _, rfl, rfl, (by show (0:Int) < _; decide), _, _, rfl, rfl, .inr ⟨by decide, by decide⟩, _, rfl, a, _, rfl, dget_of F3.at' F3.kt, _, _, rfl, rfl, .inl ⟨by decide, by decide⟩, _, _, rfl, rfl, _, _, rfl, rfl, .inl ⟨_, rfl, _, _, rfl, rfl, (by show (0:Int) < _; decide), ?_⟩⟩⟩
            refine ⟨_, rfl, _, rfl, _, _, rfl, rfl, .inl (mid _ (by decide) (by decide)), _, rfl, a, _, rfl, dget_of F3.at' F3.kt, _, _, rfl, rfl, .inl ⟨by decide, by decide⟩, _, _, rfl, rfl, _, _, rfl, rfl, .inl ⟨_, rfl, _, _, rfl, rfl, (by show (0:Int) < _; decide), ?_⟩⟩
            refine ⟨_, rfl, _, rfl, _, _, rfl, rfl, .inl (mid _ (by decide) (by decide)), _, rfl, _, _, rfl, rfl, .inl ⟨by decide, by decide⟩, _, _, rfl, rfl, .inl ⟨_, rfl, _, _, rfl, rfl, (by show (0:Int) < _; decide), _, _, rfl, rfl, ⟨by decide, by decide⟩, .inl ⟨_, rfl, _, rfl, _, _, rfl, rfl, n0, ?_⟩⟩⟩
            exact fin _ _ _ _ _ _ F3 o3 (Int.emod_nonneg _ (by omega)) (Int.emod_lt_of_pos _ n0)
        · refine iteF ?_
          refine ⟨_, rfl, .inl ⟨_, rfl, _, _, rfl, rfl, (by show (0:Int) < _; decide), _, _, rfl, rfl, .inr ⟨by decide, by decide⟩, _, rfl, a, _, rfl, dget_of F3.at' F3.kt, _, _, rfl, rfl, .inl ⟨by decide, by decide⟩, _, _, rfl, rfl, _, _, rfl, rfl, .inl ⟨_, rfl, _, _, rfl, rfl, (by show (0:Int) < _; decide), ?_⟩⟩⟩
          refine ⟨_, rfl, _, rfl, _, _, rfl, rfl, .inl (mid _ (by decide) (by decide)), _, rfl, a, _, rfl, dget_of F3.at' F3.kt, _, _, rfl, rfl, .inl ⟨by decide, by decide⟩, _, _, rfl, rfl, _, _, rfl, rfl, .inl ⟨_, rfl, _, _, rfl, rfl, (by show (0:Int) < _; decide), ?_⟩⟩
          refine ⟨_, rfl, _, rfl, _, _, rfl, rfl, .inl (mid _ (by decide) (by decide)), _, rfl, _, _, rfl, rfl, .inl ⟨by decide, by decide⟩, _, _, rfl, rfl, .inl ⟨_, rfl, _, _, rfl, rfl, (by show (0:Int) < _; decide), _, _, rfl, rfl, ⟨by decide, by decide⟩, .inl ⟨_, rfl, _, rfl, _, _, rfl, rfl, n0, ?_⟩⟩⟩
          exact fin _ _ _ _ _ _ F3 o3 (Int.emod_nonneg _ (by omega)) (Int.emod_lt_of_pos _ n0)
end
end L07


set_option Elab.async false
set_option linter.all false
set_option autoImplicit false
set_option maxRecDepth 100000
set_option maxHeartbeats 1000000
namespace L07
open PySem PySem.Spec Dt
open L2 hiding wT wNot
abbrev Ix := Addr × Addr
abbrev F__law_draw := F_draw
def itemsD : PyData → Option (List PyData)
  | .list xs => some xs
  | .tuple xs => some xs
  | .str x => some (signs x)
  | _ => none
mutual
/-- the greatest whole number in it -/
def iB : PyData → Nat
  | .int i => i.natAbs
  | .list xs => iBall xs
  | .tuple xs => iBall xs
  | _ => 0
def iBall : List PyData → Nat
  | [] => 0
  | x :: xs => max (iB x) (iBall xs)
end
/-- small enough -/
def nz (W D I : Nat) (d : PyData) : Bool := decide (wg d ≤ W) && (decide (PyData.depth d ≤ D) && decide (iB d ≤ I))
/-- a word of at most ten signs -/
def Word (x : PyData) : Prop := ∃ t : Str, x = .str t ∧ t.length ≤ 10
/-- a name or a word of the kinds -/
def Nm (x : PyData) : Prop := isName x = true
def GoodRow (y : PyData) : Prop := nz 360 3 0 y = true ∧ (∃ (x : Str) (r : List PyData), y = .tuple (.str x :: r) ∧ r.length ≤ 2) ∧ isRow y = true
theorem nm_word {x : PyData} (h : Nm x) : Word x := by
  cases x with
  | str t =>
    have h : (decide (1 ≤ t.length) && decide (t.length ≤ 8) && t.cps.toList.all fun c => isLet ⟨#[c]⟩) = true := h
    simp only [Bool.and_eq_true, decide_eq_true_eq] at h
    exact ⟨t, rfl, by omega⟩
  | _ => exact absurd h (by simp [Nm, isName])
theorem row_let {w : Str} (hw : w = "let" ∨ w = "use") {a b : PyData} (ha : Nm a) (hb : Nm b) : isRow (.tuple [.str w, a, b]) = true := by
  have ha : isName a = true := ha
  have hb : isName b = true := hb
  show isRow2 (.str w) [a, b] = true
  rcases hw with rfl | rfl
  · have t1 : isOneOf (.str "let") [.str "end", .str "stop"] = false := by decide +kernel
    have t2 : isOneOf (.str "let") [.str "let", .str "use"] = true := by decide +kernel
    unfold isRow2
    rw [t1, t2, if_neg (by decide), if_pos rfl]
    simp [ha, hb]
  · have t1 : isOneOf (.str "use") [.str "end", .str "stop"] = false := by decide +kernel
    have t2 : isOneOf (.str "use") [.str "let", .str "use"] = true := by decide +kernel
    unfold isRow2
    rw [t1, t2, if_neg (by decide), if_pos rfl]
    simp [ha, hb]
theorem row_opn {a : PyData} (ha : isSort a = true) : isRow (.tuple [.str "open", a]) = true := by
  show isRow2 (.str "open") [a] = true
  rw [row_open]; exact ha
theorem row_giv {a : PyData} (ha : isKind a = true) : isRow (.tuple [.str "give", a]) = true := by
  show isRow2 (.str "give") [a] = true
  rw [row_give]; exact ha
theorem kind_nm {a : PyData} (ha : Nm a) : isKind a = true := by
  have ha : isName a = true := ha
  unfold isKind
  rw [ha]; rfl
theorem sort_fun {a : PyData} (ha : isKind a = true) : isSort (.tuple [.str "fun", a]) = true := by
  have t : isOneOf (.str "fun") [.str "fun"] = true := by decide +kernel
  show (isOneOf (.str "fun") [.str "fun"] && isKind a) = true
  rw [t, ha]; rfl
theorem seq_of {S : Type} {a v : DS S} {ρ : List Sl} {s : S} {D : DEnds S} (h : a ρ s { D with nx := fun ρ' s' => v ρ' s' D }) : wSeq a v ρ s D := h
theorem asg_of {S : Type} {w : DE S} {g : DG} {ρ : List Sl} {s : S} {D : DEnds S} (h : w ρ s (fun d s1 => g d ρ fun ρ' => D.nx ρ' s1) fun e s' => D.er e ρ s') : wAsg w g ρ s D := h
theorem par_of {S : Type} {i j : Nat} {w : DA S} {ρ : List Sl} {s : S} {D : DEnds S} (h : w ρ s (fun as s1 => allK as fun ds => match ds with
  | [a, b] => D.nx ((ρ.set i (.d a)).set j (.d b)) s1
  | _ => False) fun e s' => D.er e ρ s') : wPar i j w ρ s D := h
theorem cons_of {S : Type} {w : DE S} {r : DA S} {ρ : List Sl} {s : S} {Q : List Ag → S → Prop} {E : Er → S → Prop} (h : w ρ s (fun x s1 => r ρ s1 (fun as s2 => Q (.d x :: as) s2) E) E) : wCons w r ρ s Q E := h
theorem rngD_len (lo : Int) (n : Nat) : (rngD lo n).length = n := by simp [rngD]
theorem comp_prop {S : Type} {g : DG} {we : DE S} {vs : List Nat} {ρ : List Sl} (R : PyData → Prop) (ds : List PyData) (s : S) (Q : List PyData → S → Prop)
    (hd : ∀ d ∈ ds, ∀ (s : S) (Y : PyData → S → Prop), (∀ y s', R y → Y y s') → g d ρ fun ρ1 => noOwn ρ1 vs = true ∧ we ρ1 s Y noE)
    (h : ∀ ys s', ys.length = ds.length → (∀ y ∈ ys, R y) → Q ys s') : wCompL g wYes we vs ρ ds s Q :=
  comp_rel (fun _ y => R y) ds s Q hd fun ys s' b => h ys s' b.length (b.all fun _ _ r => r)
theorem ret_of {S : Type} {w : DE S} {ρ : List Sl} {s : S} {D : DEnds S} (h : w ρ s D.rt fun e s' => D.er e ρ s') : wRet w ρ s D := h
theorem cb1_of {S : Type} {f : List PyData → (PyData → Prop) → Prop} {w : DE S} {ρ : List Sl} {s : S} {Q : PyData → S → Prop} {E : Er → S → Prop} (h : w ρ s (fun d s1 => f [d] fun z => Q z s1) E) : wCB f (wCons w wNil) ρ s Q E := h
theorem l_of {S : Type} {w : DL S} {ρ : List Sl} {s : S} {Q : PyData → S → Prop} {E : Er → S → Prop} (h : w ρ s (fun ds s1 => Q (.list ds) s1) E) : wL w ρ s Q E := h
theorem comp_of {S : Type} {w : DL S} {g : DG} {wt : DT S} {we : DE S} {vs : List Nat} {ρ : List Sl} {s : S} {Q : List PyData → S → Prop} {E : Er → S → Prop} (h0 : noOwn ρ vs = true) (h : w ρ s (fun ds s1 => wCompL g wt we vs (wipeD ρ vs) ds s1 Q) E) : wComp w g wt we vs ρ s Q E := ⟨h0, h⟩
theorem rng1_of {S : Type} {w : DE S} {ρ : List Sl} {s : S} {Q : List PyData → S → Prop} {E : Er → S → Prop} (h : w ρ s (fun d s1 => match [d] with
  | [.int j] => j ≤ 4194304 ∧ -(2 ^ 62) ≤ j ∧ Q (rngD 0 j.toNat) s1
  | _ => False) E) : wRng1 (wCons w wNil) ρ s Q E := h
theorem op_of {S : Type} {f : PyData → PyData → (PyData → Prop) → Prop} {wa wb : DE S} {ρ : List Sl} {s : S} {Q : PyData → S → Prop} {E : Er → S → Prop} (h : wa ρ s (fun x s1 => wb ρ s1 (fun y s2 => f x y fun z => Q z s2) E) E) : wOp f wa wb ρ s Q E := h
theorem c_of {S : Type} {d : PyData} {ρ : List Sl} {s : S} {Q : PyData → S → Prop} {E : Er → S → Prop} (h : Q d s) : wC d ρ s Q E := h
theorem nz_of {W D I : Nat} {d : PyData} (h1 : wg d ≤ W) (h2 : PyData.depth d ≤ D) (h3 : iB d ≤ I) : nz W D I d = true := by
  unfold nz
  rw [decide_eq_true h1, decide_eq_true h2, decide_eq_true h3]; rfl
theorem good1 {a : PyData} (ha : Word a) (hrow : isRow (.tuple [a]) = true) : GoodRow (.tuple [a]) := by
  obtain ⟨x, rfl, hx⟩ := ha
  refine ⟨nz_of ?_ ?_ ?_, ⟨_, _, rfl, by simp⟩, hrow⟩
  · simp only [wg, wgAll]; omega
  · simp only [PyData.depth, PyData.depthAll]; omega
  · simp only [iB, iBall]; omega
theorem good2 {a b : PyData} (ha : Word a) (hb : Word b) (hrow : isRow (.tuple [a, b]) = true) : GoodRow (.tuple [a, b]) := by
  obtain ⟨x, rfl, hx⟩ := ha
  obtain ⟨y, rfl, hy⟩ := hb
  refine ⟨nz_of ?_ ?_ ?_, ⟨_, _, rfl, by simp⟩, hrow⟩
  · simp only [wg, wgAll]; omega
  · simp only [PyData.depth, PyData.depthAll]; omega
  · simp only [iB, iBall]; omega
theorem good3 {a b c : PyData} (ha : Word a) (hb : Word b) (hc : Word c) (hrow : isRow (.tuple [a, b, c]) = true) : GoodRow (.tuple [a, b, c]) := by
  obtain ⟨x, rfl, hx⟩ := ha
  obtain ⟨y, rfl, hy⟩ := hb
  obtain ⟨z, rfl, hz⟩ := hc
  refine ⟨nz_of ?_ ?_ ?_, ⟨_, _, rfl, by simp⟩, hrow⟩
  · simp only [wg, wgAll]; omega
  · simp only [PyData.depth, PyData.depthAll]; omega
  · simp only [iB, iBall]; omega
theorem good2t {a b c : PyData} (ha : Word a) (hb : Word b) (hc : Word c) (hrow : isRow (.tuple [a, .tuple [b, c]]) = true) : GoodRow (.tuple [a, .tuple [b, c]]) := by
  obtain ⟨x, rfl, hx⟩ := ha
  obtain ⟨y, rfl, hy⟩ := hb
  obtain ⟨z, rfl, hz⟩ := hc
  refine ⟨nz_of ?_ ?_ ?_, ⟨_, _, rfl, by simp⟩, hrow⟩
  · simp only [wg, wgAll]; omega
  · simp only [PyData.depth, PyData.depthAll]; omega
  · simp only [iB, iBall]; omega
theorem bars {m : Int} (h0 : 0 ≤ m) (h4 : m < 4) : ∃ p q : Int, atI [PyData.tuple [.int 3, .int 6], .tuple [.int 2, .int 8], .tuple [.int 7, .int 8], .tuple [.int 1, .int 2]] m = some (.tuple [.int p, .int q]) := by
  have : m = 0 ∨ m = 1 ∨ m = 2 ∨ m = 3 := by omega
  rcases this with rfl | rfl | rfl | rfl
  · exact ⟨3, 6, atI_nat (j := 0) rfl⟩
  · exact ⟨2, 8, atI_nat (j := 1) rfl⟩
  · exact ⟨7, 8, atI_nat (j := 2) rfl⟩
  · exact ⟨1, 2, atI_nat (j := 3) rfl⟩
def oddB (y : PyData) : Bool := nz 360 6 (10 ^ 59) y && (match y with
  | .tuple xs => decide (xs.length ≤ 4)
  | .dict _ => false
  | _ => true)
def Odd (y : PyData) : Prop := oddB y = true
def DrawOk (x : PyData) (Q : PyData → Unit → Prop) : Prop := ∃ n : Int, x = .int n ∧ 0 < n ∧ n < 1073741824 ∧ ∀ k : Int, 0 ≤ k → k < n → Q (.int k) ()
theorem c_draw {i : Ix} {w : DE Unit} {ρ : List Sl} {s : Unit} {Q : PyData → Unit → Prop} {E : Er → Unit → Prop} (h0 : ρ[0]? = some (.raw (.ref i.1)))
    (hw : w ρ s (fun d _ => DrawOk d Q) E) : wCallW (fun as s Q E => as.length = 2 ∧ F_draw i as s Q E) (wRaw 0 (wCons w wNil)) ρ s Q E := by
  have e : wCallW (fun as s Q E => as.length = 2 ∧ F_draw i as s Q E) (wRaw 0 (wCons w wNil)) ρ s Q E = w ρ s (fun d _ => DrawOk d Q) E := by
    unfold wCallW wRaw
    rw [h0]
    show w ρ s (fun x s1 => ([Ag.raw (.ref i.1), Ag.d x].length = 2 ∧ F_draw i [.raw (.ref i.1), .d x] s1 Q E)) E = _
    congr 1
    funext x s1
    apply propext
    constructor
    · rintro ⟨_, n, h1, h2⟩
      injection h1 with _ h1
      injection h1 with h1 _
      injection h1 with h1
      exact ⟨n, h1, h2⟩
    · rintro ⟨n, rfl, h2⟩
      exact ⟨rfl, n, rfl, h2⟩
  rw [e]; exact hw
def F__law_pick : Ix → List Ag → Unit → (PyData → Unit → Prop) → (Er → Unit → Prop) → Prop := fun i as _ Q _ => ∃ (d : PyData) (ys : List PyData), as = [.raw (.ref i.1), .d d] ∧ itemsD d = some ys ∧ ys ≠ [] ∧ ys.length < 1073741824 ∧ ∀ y ∈ ys, Q y ()
def PickOk (x : PyData) (Q : PyData → Unit → Prop) : Prop := ∃ ys : List PyData, itemsD x = some ys ∧ ys ≠ [] ∧ ys.length < 1073741824 ∧ ∀ y ∈ ys, Q y ()
theorem c_pick {i : Ix} {w : DE Unit} {ρ : List Sl} {s : Unit} {Q : PyData → Unit → Prop} {E : Er → Unit → Prop} (h0 : ρ[0]? = some (.raw (.ref i.1)))
    (hw : w ρ s (fun d _ => PickOk d Q) E) : wCallW (fun as s Q E => as.length = 2 ∧ F__law_pick i as s Q E) (wRaw 0 (wCons w wNil)) ρ s Q E := by
  have e : wCallW (fun as s Q E => as.length = 2 ∧ F__law_pick i as s Q E) (wRaw 0 (wCons w wNil)) ρ s Q E = w ρ s (fun d _ => PickOk d Q) E := by
    unfold wCallW wRaw
    rw [h0]
    show w ρ s (fun x s1 => ([Ag.raw (.ref i.1), Ag.d x].length = 2 ∧ F__law_pick i [.raw (.ref i.1), .d x] s1 Q E)) E = _
    congr 1
    funext x s1
    apply propext
    constructor
    · rintro ⟨_, d, ys, h1, h2⟩
      injection h1 with _ h1
      injection h1 with h1 _
      injection h1 with h1
      subst h1
      exact ⟨ys, h2⟩
    · rintro ⟨ys, h2⟩
      exact ⟨rfl, x, ys, rfl, h2⟩
  rw [e]; exact hw
theorem atI_mem {ys : List PyData} {k : Int} (h0 : 0 ≤ k) (h1 : k < ys.length) : ∃ y, y ∈ ys ∧ atI ys k = some y := by
  obtain ⟨m, rfl⟩ : ∃ m : Nat, k = (m : Int) := ⟨k.toNat, by omega⟩
  have hk : m < ys.length := by omega
  exact ⟨ys[m], List.getElem_mem hk, atI_nat (by rw [List.getElem?_eq_getElem hk])⟩
theorem atI_sign {x : Str} {k : Int} (h0 : 0 ≤ k) (h1 : k < x.length) : ∃ c, PyData.str ⟨#[c]⟩ ∈ signs x ∧ atI x.cps.toList k = some c := by
  obtain ⟨m, rfl⟩ : ∃ m : Nat, k = (m : Int) := ⟨k.toNat, by omega⟩
  have hl : x.length = x.cps.toList.length := by show x.cps.size = _; simp
  have hk : m < x.cps.toList.length := by omega
  exact ⟨x.cps.toList[m], List.mem_map.mpr ⟨_, List.getElem_mem hk, rfl⟩, atI_nat (by rw [List.getElem?_eq_getElem hk])⟩
section
variable {P : Program} {w : World} {K : PySem.W.Frag} {mg : Str → Option Value} {base : Heap} {T : List (Addr × Str)}
/-! ## _law_pick -/
abbrev s__law_pick : Stmt := top 31
theorem sc__law_pick : FnScope ["_law_feed_here", "_law_some"] ["_law_feed_here", "_law_some"] (defScope s__law_pick) := ⟨rfl, rfl, rfl, by decide +kernel, rfl, by decide +kernel, by decide +kernel⟩
def w__law_pick (i : Ix) : DS Unit :=
  (wRet (wOp dIdx (wVar 1) (wCallW (fun as s Q E => as.length = 2 ∧ F__law_draw i as s Q E) (wRaw 0 (wCons (wCB fLen (wCons (wVar 1) wNil)) wNil)))))
theorem spec__law_pick : ∀ (i : Ix) as s Qd Ed, as.length = 2 → F__law_pick i as s Qd Ed → w__law_pick i (argS 2 2 (as.map toSl)) s (endW Qd Ed) := by
  rintro i as s Qd Ed _ ⟨d, ys, rfl, hi, hne, hlt, hq⟩
  have n0 : 0 < ys.length := List.length_pos_iff.mpr hne
  unfold w__law_pick
  show wRet _ [.raw (.ref i.1), .d d] s _
  cases d with
  | list xs =>
    cases hi
    simp only [wRet, wOp, wVar, argS, toSl, endW, List.map_cons, List.map_nil, List.append_nil, Nat.sub_self, List.replicate_zero, List.getElem?_cons_succ, List.getElem?_cons_zero]
    refine c_draw rfl ?_
    simp only [wCB, wCons, wNil, wVar, allK, fLen, List.getElem?_cons_succ, List.getElem?_cons_zero]
    refine ⟨ys.length, rfl, by omega, by omega, fun k k0 k1 => ?_⟩
    obtain ⟨y, hy, e⟩ := atI_mem k0 k1
    exact ⟨y, e, hq y hy⟩
  | tuple xs =>
    cases hi
    simp only [wRet, wOp, wVar, argS, toSl, endW, List.map_cons, List.map_nil, List.append_nil, Nat.sub_self, List.replicate_zero, List.getElem?_cons_succ, List.getElem?_cons_zero]
    refine c_draw rfl ?_
    simp only [wCB, wCons, wNil, wVar, allK, fLen, List.getElem?_cons_succ, List.getElem?_cons_zero]
    refine ⟨ys.length, rfl, by omega, by omega, fun k k0 k1 => ?_⟩
    obtain ⟨y, hy, e⟩ := atI_mem k0 k1
    exact ⟨y, e, hq y hy⟩
  | str x =>
    cases hi
    have hl : (signs x).length = x.length := by unfold signs; rw [List.length_map]; show _ = x.cps.size; simp
    rw [hl] at n0 hlt
    simp only [wRet, wOp, wVar, argS, toSl, endW, List.map_cons, List.map_nil, List.append_nil, Nat.sub_self, List.replicate_zero, List.getElem?_cons_succ, List.getElem?_cons_zero]
    refine c_draw rfl ?_
    simp only [wCB, wCons, wNil, wVar, allK, fLen, List.getElem?_cons_succ, List.getElem?_cons_zero]
    refine ⟨x.length, rfl, by omega, by omega, fun k k0 k1 => ?_⟩
    obtain ⟨c, hy, e⟩ := atI_sign k0 k1
    exact ⟨c, e, hq _ hy⟩
  | _ => cases hi
theorem ok__law_pick {f : Addr} {fd : FuncData} (Fu : Fun K "_law_pick" "_law_pick" s__law_pick f fd) (hm : mg "_law_pick" = some (.ref f)) (hb : Binds K fd ["_law_feed_here", "_law_some"] []) (B : Bt mg) (D__law_draw : Df P w K mg base CX0 1 "_law_draw" 2 (spI K (Wf T) 2 F__law_draw)) : Df P w K mg base CX0 2 "_law_pick" 2 (spI K (Wf T) 2 F__law_pick) :=
  ⟨f, fd, ["_law_feed_here", "_law_some"], rfl, hm, Fu.kp, hb, fnI (wb := w__law_pick) Fu sc__law_pick rfl (fun i cdv A outer s H E hG hr => ⟨_,
  (sd_one (sd_ret (e_ix (ed_var 1) (e_callI D__law_draw hG (hr.mono (by decide)) pass00 (ad_raw 0 (ad_cons (e_len B (ad_cons (ed_var 1) ad_nil)) ad_nil))))))⟩) (spec__law_pick)⟩
/-! ## _law_item -/
abbrev s__law_item : Stmt := top 32
theorem sc__law_item : FnScope ["_law_feed_here", "_law_names", "_law_kinds", "_law_lean", "_law_lot", "_law_bars"] ["_law_feed_here", "_law_names", "_law_kinds", "_law_lean"] (defScope s__law_item) := ⟨rfl, rfl, rfl, by decide +kernel, rfl, by decide +kernel, by decide +kernel⟩
def F__law_item : Ix → List Ag → Unit → (PyData → Unit → Prop) → (Er → Unit → Prop) → Prop := fun i as _ Q _ => ∃ (ns ks : List PyData) (m : Int), as = [.raw (.ref i.1), .d (.list ns), .d (.list ks), .d (.int m)] ∧ ns ≠ [] ∧ ks ≠ [] ∧ ns.length < 100 ∧ ks.length < 100 ∧ (∀ x ∈ ns, Nm x) ∧ (∀ x ∈ ks, Nm x) ∧ 0 ≤ m ∧ m < 4 ∧ ∀ y, GoodRow y → Q y ()
def w__law_item (i : Ix) : DS Unit :=
  (wSeq (wPar 4 5 (wCons (wCallW (fun as s Q E => as.length = 2 ∧ F__law_draw i as s Q E) (wRaw 0 (wCons (wC (.int 12)) wNil))) (wCons (wOp dIdx (wL (wLst (wCons (wTup (wCons (wC (.int 3)) (wCons (wC (.int 6)) wNil))) (wCons (wTup (wCons (wC (.int 2)) (wCons (wC (.int 8)) wNil))) (wCons (wTup (wCons (wC (.int 7)) (wCons (wC (.int 8)) wNil))) (wCons (wTup (wCons (wC (.int 1)) (wCons (wC (.int 2)) wNil))) wNil)))))) (wVar 3)) wNil)))
  (wSeq (wIfS (wT (wOp dLt (wVar 4) (wOp dIdx (wVar 5) (wC (.int 0))))) (wRet (wTup (wCons (wC (.str "open")) (wCons (wCallW (fun as s Q E => as.length = 2 ∧ F__law_pick i as s Q E) (wRaw 0 (wCons (wL (wLst (wCons (wC (.str "if")) (wCons (wC (.str "loop")) (wCons (wTup (wCons (wC (.str "fun")) (wCons (wC (.str "")) wNil))) (wCons (wTup (wCons (wC (.str "fun")) (wCons (wCallW (fun as s Q E => as.length = 2 ∧ F__law_pick i as s Q E) (wRaw 0 (wCons (wVar 2) wNil))) wNil))) wNil)))))) wNil))) wNil)))) wNext)
  (wSeq (wIfS (wT (wOp dLt (wVar 4) (wOp dIdx (wVar 5) (wC (.int 1))))) (wRet (wTup (wCons (wC (.str "end")) wNil))) wNext)
  (wSeq (wAsg (wCallW (fun as s Q E => as.length = 2 ∧ F__law_draw i as s Q E) (wRaw 0 (wCons (wC (.int 6)) wNil))) (gN 4))
  (wSeq (wIfS (wT (wOp dLt (wVar 4) (wC (.int 4)))) (wRet (wTup (wCons (wCallW (fun as s Q E => as.length = 2 ∧ F__law_pick i as s Q E) (wRaw 0 (wCons (wL (wLst (wCons (wC (.str "let")) (wCons (wC (.str "use")) wNil)))) wNil))) (wCons (wCallW (fun as s Q E => as.length = 2 ∧ F__law_pick i as s Q E) (wRaw 0 (wCons (wVar 1) wNil))) (wCons (wCallW (fun as s Q E => as.length = 2 ∧ F__law_pick i as s Q E) (wRaw 0 (wCons (wVar 2) wNil))) wNil))))) wNext)
  (wRet (wIf (wT (wOp dEq (wVar 4) (wC (.int 4)))) (wTup (wCons (wC (.str "stop")) wNil)) (wTup (wCons (wC (.str "give")) (wCons (wCallW (fun as s Q E => as.length = 2 ∧ F__law_pick i as s Q E) (wRaw 0 (wCons (wOp dAdd (wVar 2) (wL (wLst (wCons (wC (.str "")) wNil)))) wNil))) wNil))))))))))
theorem spec__law_item : ∀ (i : Ix) as s Qd Ed, as.length = 4 → F__law_item i as s Qd Ed → w__law_item i (argS 4 6 (as.map toSl)) s (endW Qd Ed) := by
  rintro i as s Qd Ed _ ⟨ns, ks, m, rfl, nn, kn, nl, kl, hn, hk, m0, m4, hq⟩
  have rt : ∀ y, GoodRow y → Qd y s := fun y h => hq y h
  obtain ⟨p, q, hb⟩ := bars m0 m4
  unfold w__law_item
  show wSeq _ _ [.raw (.ref i.1), .d (.list ns), .d (.list ks), .d (.int m), .no, .no] s _
  refine seq_of (par_of (cons_of ?_))
  refine c_draw rfl ⟨12, rfl, by decide, by decide, fun a a0 a1 => ?_⟩
  simp only [wL, wLst, wTup, wOp, wCons, wNil, wC, wVar, allK, List.length_cons, List.length_nil, List.getElem?_cons_succ, List.getElem?_cons_zero]
  refine ⟨by decide, by decide, by decide, by decide, by decide, _, hb, ?_⟩
  show wSeq _ _ [.raw (.ref i.1), .d (.list ns), .d (.list ks), .d (.int m), .d (.int a), .d (.tuple [.int p, .int q])] s _
  by_cases c1 : a < p
  · refine seqIf_t (fun Q E q => by simpa [wRet, wRetN, wIfS, wSeq, wNext, wT, wTand, wTor, wTnot, wAnd_eq, wOr_eq, wNot, wIsi_int, wIsi_bool, wIsi_str, wIsi_tup, wIsi_lst, tyInt, tyBool, tyStr, tyTup, tyLst, wChain_eq, wOp, wUn, wC, wVar, wCB, wCallP, fLen, wL, wComp, wSeqI, wZip, zipS, wCons, wNil, wTup, allK, argS, endP, noOwn, wipeD, dLe, dLt, dGe, dGt, dCm, dEq, dNe, dIdx, atI_0, atI_1, atI_2, wAsg, gN, gT, gCs, gNs, List.set, dInG, flatD, F1, List.length, limL_eq, shp_i, shp_s, shp_b, shp_n, eqv_ii, eqv_ss, shp_e, eqv_e, wLst, wListOf, F1d, wCallK, dAdd, wAsg, gN, wCallW, wRaw, argS, toSl, endW, F_draw, F__law_draw, c1] using q) ?_
    simp only [wRet, wTup, wCons, wC]
    refine c_pick rfl ?_
    simp [wL, wLst, wTup, wCons, wC, wNil, allK, limL_eq]
    refine c_pick rfl ⟨ks, rfl, kn, by omega, fun y hy => ?_⟩
    refine ⟨_, rfl, by simp, by simp, fun z hz => ?_⟩
    refine rt _ ?_
    have l1 : Word (.str "open") := ⟨_, rfl, by decide +kernel⟩
    have l2 : Word (.str "fun") := ⟨_, rfl, by decide +kernel⟩
    simp only [List.mem_cons, List.not_mem_nil, or_false] at hz
    rcases hz with rfl | rfl | rfl | rfl
    · exact good2 l1 ⟨_, rfl, by decide +kernel⟩ (by decide +kernel)
    · exact good2 l1 ⟨_, rfl, by decide +kernel⟩ (by decide +kernel)
    · exact good2t l1 l2 ⟨_, rfl, by decide +kernel⟩ (by decide +kernel)
    · exact good2t l1 l2 (nm_word (hk y hy)) (row_opn (sort_fun (kind_nm (hk y hy))))
  refine seqIf_f (fun Q E q => by simpa [wRet, wRetN, wIfS, wSeq, wNext, wT, wTand, wTor, wTnot, wAnd_eq, wOr_eq, wNot, wIsi_int, wIsi_bool, wIsi_str, wIsi_tup, wIsi_lst, tyInt, tyBool, tyStr, tyTup, tyLst, wChain_eq, wOp, wUn, wC, wVar, wCB, wCallP, fLen, wL, wComp, wSeqI, wZip, zipS, wCons, wNil, wTup, allK, argS, endP, noOwn, wipeD, dLe, dLt, dGe, dGt, dCm, dEq, dNe, dIdx, atI_0, atI_1, atI_2, wAsg, gN, gT, gCs, gNs, List.set, dInG, flatD, F1, List.length, limL_eq, shp_i, shp_s, shp_b, shp_n, eqv_ii, eqv_ss, shp_e, eqv_e, wLst, wListOf, F1d, wCallK, dAdd, wAsg, gN, wCallW, wRaw, argS, toSl, endW, F_draw, F__law_draw, c1] using q) ?_
  by_cases c2 : a < q
  · refine seqIf_t (fun Q E q => by simpa [wRet, wRetN, wIfS, wSeq, wNext, wT, wTand, wTor, wTnot, wAnd_eq, wOr_eq, wNot, wIsi_int, wIsi_bool, wIsi_str, wIsi_tup, wIsi_lst, tyInt, tyBool, tyStr, tyTup, tyLst, wChain_eq, wOp, wUn, wC, wVar, wCB, wCallP, fLen, wL, wComp, wSeqI, wZip, zipS, wCons, wNil, wTup, allK, argS, endP, noOwn, wipeD, dLe, dLt, dGe, dGt, dCm, dEq, dNe, dIdx, atI_0, atI_1, atI_2, wAsg, gN, gT, gCs, gNs, List.set, dInG, flatD, F1, List.length, limL_eq, shp_i, shp_s, shp_b, shp_n, eqv_ii, eqv_ss, shp_e, eqv_e, wLst, wListOf, F1d, wCallK, dAdd, wAsg, gN, wCallW, wRaw, argS, toSl, endW, F_draw, F__law_draw, c2] using q) ?_
    simp [wRet, wTup, wCons, wC, wNil, allK, limL_eq]
    exact rt _ (good1 ⟨_, rfl, by decide +kernel⟩ (by decide +kernel))
  refine seqIf_f (fun Q E q => by simpa [wRet, wRetN, wIfS, wSeq, wNext, wT, wTand, wTor, wTnot, wAnd_eq, wOr_eq, wNot, wIsi_int, wIsi_bool, wIsi_str, wIsi_tup, wIsi_lst, tyInt, tyBool, tyStr, tyTup, tyLst, wChain_eq, wOp, wUn, wC, wVar, wCB, wCallP, fLen, wL, wComp, wSeqI, wZip, zipS, wCons, wNil, wTup, allK, argS, endP, noOwn, wipeD, dLe, dLt, dGe, dGt, dCm, dEq, dNe, dIdx, atI_0, atI_1, atI_2, wAsg, gN, gT, gCs, gNs, List.set, dInG, flatD, F1, List.length, limL_eq, shp_i, shp_s, shp_b, shp_n, eqv_ii, eqv_ss, shp_e, eqv_e, wLst, wListOf, F1d, wCallK, dAdd, wAsg, gN, wCallW, wRaw, argS, toSl, endW, F_draw, F__law_draw, c2] using q) ?_
  refine seq_of (asg_of ?_)
  refine c_draw rfl ⟨6, rfl, by decide, by decide, fun b b0 b1 => ?_⟩
  simp only [gN, List.set]
  show wSeq _ _ [.raw (.ref i.1), .d (.list ns), .d (.list ks), .d (.int m), .d (.int b), .d (.tuple [.int p, .int q])] s _
  by_cases c3 : b < 4
  · refine seqIf_t (fun Q E q => by simpa [wRet, wRetN, wIfS, wSeq, wNext, wT, wTand, wTor, wTnot, wAnd_eq, wOr_eq, wNot, wIsi_int, wIsi_bool, wIsi_str, wIsi_tup, wIsi_lst, tyInt, tyBool, tyStr, tyTup, tyLst, wChain_eq, wOp, wUn, wC, wVar, wCB, wCallP, fLen, wL, wComp, wSeqI, wZip, zipS, wCons, wNil, wTup, allK, argS, endP, noOwn, wipeD, dLe, dLt, dGe, dGt, dCm, dEq, dNe, dIdx, atI_0, atI_1, atI_2, wAsg, gN, gT, gCs, gNs, List.set, dInG, flatD, F1, List.length, limL_eq, shp_i, shp_s, shp_b, shp_n, eqv_ii, eqv_ss, shp_e, eqv_e, wLst, wListOf, F1d, wCallK, dAdd, wAsg, gN, wCallW, wRaw, argS, toSl, endW, F_draw, F__law_draw, c3] using q) ?_
    simp only [wRet, wTup, wCons]
    refine c_pick rfl ?_
    simp [wL, wLst, wCons, wC, wNil, allK, limL_eq]
    refine ⟨_, rfl, by simp, by simp, fun x hx => ?_⟩
    refine c_pick rfl ⟨ns, rfl, nn, by omega, fun y hy => ?_⟩
    refine c_pick rfl ⟨ks, rfl, kn, by omega, fun z hz => ?_⟩
    refine rt _ ?_
    simp only [List.mem_cons, List.not_mem_nil, or_false] at hx
    have lx : ∃ t : Str, x = .str t ∧ (t = "let" ∨ t = "use") := by rcases hx with rfl | rfl; exact ⟨_, rfl, .inl rfl⟩; exact ⟨_, rfl, .inr rfl⟩
    obtain ⟨t, rfl, ht⟩ := lx
    exact good3 ⟨_, rfl, by rcases ht with rfl | rfl <;> decide +kernel⟩ (nm_word (hn y hy)) (nm_word (hk z hz)) (row_let ht (hn y hy) (hk z hz))
  refine seqIf_f (fun Q E q => by simpa [wRet, wRetN, wIfS, wSeq, wNext, wT, wTand, wTor, wTnot, wAnd_eq, wOr_eq, wNot, wIsi_int, wIsi_bool, wIsi_str, wIsi_tup, wIsi_lst, tyInt, tyBool, tyStr, tyTup, tyLst, wChain_eq, wOp, wUn, wC, wVar, wCB, wCallP, fLen, wL, wComp, wSeqI, wZip, zipS, wCons, wNil, wTup, allK, argS, endP, noOwn, wipeD, dLe, dLt, dGe, dGt, dCm, dEq, dNe, dIdx, atI_0, atI_1, atI_2, wAsg, gN, gT, gCs, gNs, List.set, dInG, flatD, F1, List.length, limL_eq, shp_i, shp_s, shp_b, shp_n, eqv_ii, eqv_ss, shp_e, eqv_e, wLst, wListOf, F1d, wCallK, dAdd, wAsg, gN, wCallW, wRaw, argS, toSl, endW, F_draw, F__law_draw, c3] using q) ?_
  by_cases c4 : b = 4
  · simp [wRet, wIf, wT, wOp, wVar, wC, dEq, shp_i, eqv_ii, c4, wTup, wCons, wNil, allK, limL_eq]
    exact rt _ (good1 ⟨_, rfl, by decide +kernel⟩ (by decide +kernel))
  · simp [wRet, wIf, wT, wOp, wVar, wC, dEq, shp_i, eqv_ii, c4, wTup, wCons]
    refine c_pick rfl ?_
    simp [wOp, wVar, wL, wLst, wCons, wC, wNil, allK, limL_eq, dAdd]
    refine ⟨by omega, _, rfl, by simp, by simp; omega, fun y hy => ?_⟩
    simp [allK, wNil]
    rcases List.mem_append.mp hy with h | h
    · exact rt _ (good2 ⟨_, rfl, by decide +kernel⟩ (nm_word (hk y h)) (row_giv (kind_nm (hk y h))))
    · rw [List.mem_singleton.mp h]; exact rt _ (good2 ⟨_, rfl, by decide +kernel⟩ ⟨_, rfl, by decide +kernel⟩ (by decide +kernel))
theorem ok__law_item {f : Addr} {fd : FuncData} (Fu : Fun K "_law_item" "_law_item" s__law_item f fd) (hm : mg "_law_item" = some (.ref f)) (hb : Binds K fd ["_law_feed_here", "_law_names", "_law_kinds", "_law_lean"] []) (B : Bt mg) (D__law_draw : Df P w K mg base CX0 1 "_law_draw" 2 (spI K (Wf T) 2 F__law_draw)) (D__law_pick : Df P w K mg base CX0 2 "_law_pick" 2 (spI K (Wf T) 2 F__law_pick)) : Df P w K mg base CX0 3 "_law_item" 4 (spI K (Wf T) 4 F__law_item) :=
  ⟨f, fd, ["_law_feed_here", "_law_names", "_law_kinds", "_law_lean"], rfl, hm, Fu.kp, hb, fnI (wb := w__law_item) Fu sc__law_item rfl (fun i cdv A outer s H E hG hr => ⟨_,
  (sd_cons (sd_par 4 5 sc__law_item.nd rfl rfl (by decide) (ad_cons (e_callI D__law_draw hG (hr.mono (by decide)) pass00 (ad_raw 0 (ad_cons ed_int ad_nil))) (ad_cons (e_ix (ed_new (fd_lst (ad_cons (ed_tup (ad_cons ed_int (ad_cons ed_int ad_nil))) (ad_cons (ed_tup (ad_cons ed_int (ad_cons ed_int ad_nil))) (ad_cons (ed_tup (ad_cons ed_int (ad_cons ed_int ad_nil))) (ad_cons (ed_tup (ad_cons ed_int (ad_cons ed_int ad_nil))) ad_nil)))))) (ed_var 3)) ad_nil)))
  (sd_cons (sd_if (t_lt (ed_var 4) (e_ix (ed_var 5) ed_int)) (sd_one (sd_ret (ed_tup (ad_cons ed_str (ad_cons (e_callI D__law_pick hG (hr.mono (by decide)) pass00 (ad_raw 0 (ad_cons (ed_new (fd_lst (ad_cons ed_str (ad_cons ed_str (ad_cons (ed_tup (ad_cons ed_str (ad_cons ed_str ad_nil))) (ad_cons (ed_tup (ad_cons ed_str (ad_cons (e_callI D__law_pick hG (hr.mono (by decide)) pass00 (ad_raw 0 (ad_cons (ed_var 2) ad_nil))) ad_nil))) ad_nil)))))) ad_nil))) ad_nil))))) sd_nil)
  (sd_cons (sd_if (t_lt (ed_var 4) (e_ix (ed_var 5) ed_int)) (sd_one (sd_ret (ed_tup (ad_cons ed_str ad_nil)))) sd_nil)
  (sd_cons (sd_set 4 sc__law_item.nd rfl (by first | exact .inl rfl | exact .inr rfl) (e_callI D__law_draw hG (hr.mono (by decide)) pass00 (ad_raw 0 (ad_cons ed_int ad_nil))))
  (sd_cons (sd_if (t_lt (ed_var 4) ed_int) (sd_one (sd_ret (ed_tup (ad_cons (e_callI D__law_pick hG (hr.mono (by decide)) pass00 (ad_raw 0 (ad_cons (ed_new (fd_lst (ad_cons ed_str (ad_cons ed_str ad_nil)))) ad_nil))) (ad_cons (e_callI D__law_pick hG (hr.mono (by decide)) pass00 (ad_raw 0 (ad_cons (ed_var 1) ad_nil))) (ad_cons (e_callI D__law_pick hG (hr.mono (by decide)) pass00 (ad_raw 0 (ad_cons (ed_var 2) ad_nil))) ad_nil)))))) sd_nil)
  (sd_one (sd_ret (ed_if (t_eq hr (ed_var 4) ed_int) (ed_tup (ad_cons ed_str ad_nil)) (ed_tup (ad_cons ed_str (ad_cons (e_callI D__law_pick hG (hr.mono (by decide)) pass00 (ad_raw 0 (ad_cons (e_add (ed_var 2) (ed_new (fd_lst (ad_cons ed_str ad_nil)))) ad_nil))) ad_nil)))))))))))⟩) (spec__law_item)⟩
/-! ## _law_page -/
abbrev s__law_page : Stmt := top 33
theorem sc__law_page : FnScope ["_law_feed_here", "_law_most", "_law_signs_here", "_law_names", "_law_lap", "_law_kinds", "_law_lean"] ["_law_feed_here", "_law_most"] (defScope s__law_page) := ⟨rfl, rfl, rfl, by decide +kernel, rfl, by decide +kernel, by decide +kernel⟩
def F__law_page : Ix → List Ag → Unit → (PyData → Unit → Prop) → (Er → Unit → Prop) → Prop := fun i as _ Q _ => ∃ m : Int, as = [.raw (.ref i.1), .d (.int m)] ∧ 0 ≤ m ∧ m < 100 ∧ ∀ ys : List PyData, (ys.length : Int) ≤ m → (∀ y ∈ ys, GoodRow y) → Q (.tuple ys) ()
def w__law_page (i : Ix) : DS Unit :=
  (wSeq (wAsg (wL (wLst (wCons (wC (.str "x")) (wCons (wC (.str "y")) (wCons (wC (.str "let")) (wCons (wC (.str "end")) (wCons (wC (.str "open")) (wCons (wC (.str "use")) (wCons (wC (.str "fun")) (wCons (wC (.str "a")) (wCons (wC (.str "abcdefgh")) (wCons (wC (.str "if")) (wCons (wC (.str "stop")) (wCons (wC (.str "xy")) wNil)))))))))))))) (gN 2))
  (wSeq (wAsg (wL (wComp (wRng1 (wCons (wOp dAdd (wC (.int 1)) (wCallW (fun as s Q E => as.length = 2 ∧ F__law_draw i as s Q E) (wRaw 0 (wCons (wC (.int 3)) wNil)))) wNil)) (gN 4) wYes (wCallW (fun as s Q E => as.length = 2 ∧ F__law_pick i as s Q E) (wRaw 0 (wCons (wVar 2) wNil))) [4])) (gN 3))
  (wSeq (wAsg (wL (wComp (wRng1 (wCons (wC (.int 2)) wNil)) (gN 4) wYes (wCallW (fun as s Q E => as.length = 2 ∧ F__law_pick i as s Q E) (wRaw 0 (wCons (wL (wLst (wCons (wC (.str "num")) (wCons (wC (.str "text")) (wCons (wC (.str "end")) (wCons (wC (.str "loop")) (wCons (wC (.str "k")) (wCons (wC (.str "zzzzzzzz")) (wCons (wC (.str "x")) wNil))))))))) wNil))) [4])) (gN 5))
  (wSeq (wAsg (wCallW (fun as s Q E => as.length = 2 ∧ F__law_draw i as s Q E) (wRaw 0 (wCons (wC (.int 4)) wNil))) (gN 6))
  (wRet (wCB fTuple (wCons (wL (wComp (wRng1 (wCons (wCallW (fun as s Q E => as.length = 2 ∧ F__law_draw i as s Q E) (wRaw 0 (wCons (wOp dAdd (wVar 1) (wC (.int 1))) wNil))) wNil)) (gN 4) wYes (wCallW (fun as s Q E => as.length = 4 ∧ F__law_item i as s Q E) (wRaw 0 (wCons (wVar 3) (wCons (wVar 5) (wCons (wVar 6) wNil))))) [4])) wNil)))))))
theorem spec__law_page : ∀ (i : Ix) as s Qd Ed, as.length = 2 → F__law_page i as s Qd Ed → w__law_page i (argS 2 7 (as.map toSl)) s (endW Qd Ed) := by
  rintro i as s Qd Ed _ ⟨m, rfl, m0, m1, hq⟩
  unfold w__law_page
  show wSeq _ _ [.raw (.ref i.1), .d (.int m), .no, .no, .no, .no, .no] s _
  refine seq_of (asg_of ?_)
  simp only [wL, wLst, wCons, wC, wNil, allK]
  refine ⟨by simp [limL_eq], ?_⟩
  simp only [gN, List.set]
  generalize hsg : [PyData.str "x", .str "y", .str "let", .str "end", .str "open", .str "use", .str "fun", .str "a", .str "abcdefgh", .str "if", .str "stop", .str "xy"] = sg
  have sgw : ∀ x ∈ sg, Nm x := by
    subst hsg
    intro x hx
    simp only [List.mem_cons, List.not_mem_nil, or_false] at hx
    rcases hx with rfl | rfl | rfl | rfl | rfl | rfl | rfl | rfl | rfl | rfl | rfl | rfl <;> (unfold Nm; decide +kernel)
  have sgl : sg ≠ [] ∧ sg.length < 100 := by subst hsg; exact ⟨by simp, by simp⟩
  show wSeq _ _ [.raw (.ref i.1), .d (.int m), .d (.list sg), .no, .no, .no, .no] s _
  refine seq_of (asg_of (l_of (comp_of rfl (rng1_of (op_of (c_of ?_))))))
  refine c_draw rfl ⟨3, rfl, by decide, by decide, fun k k0 k1 => ?_⟩
  refine ⟨okI_small (by omega), by omega, by omega, ?_⟩
  refine comp_prop Nm _ _ _ (fun d hd s Y y => ⟨rfl, c_pick rfl ⟨sg, rfl, sgl.1, by omega, fun y' hy => y _ _ (sgw _ hy)⟩⟩) (fun ns s1 nl hn => ?_)
  rw [rngD_len] at nl
  simp only [gN, List.set]
  show wSeq _ _ [.raw (.ref i.1), .d (.int m), .d (.list sg), .d (.list ns), .no, .no, .no] s1 _
  refine seq_of (asg_of (l_of (comp_of rfl (rng1_of (c_of ⟨by decide, by decide, ?_⟩)))))
  refine comp_prop Nm _ _ _ (fun d hd s Y y => ⟨rfl, c_pick rfl ?_⟩) (fun ks s2 kl hk => ?_)
  · simp only [wL, wLst, wCons, wC, wNil, allK]
    refine ⟨by simp [limL_eq], _, rfl, by simp, by simp, fun x hx => y _ _ ?_⟩
    simp only [List.mem_cons, List.not_mem_nil, or_false] at hx
    rcases hx with rfl | rfl | rfl | rfl | rfl | rfl | rfl <;> (unfold Nm; decide +kernel)
  rw [rngD_len] at kl
  simp only [gN, List.set]
  show wSeq _ _ [.raw (.ref i.1), .d (.int m), .d (.list sg), .d (.list ns), .no, .d (.list ks), .no] s2 _
  refine seq_of (asg_of ?_)
  refine c_draw rfl ⟨4, rfl, by decide, by decide, fun l l0 l1 => ?_⟩
  simp only [gN, List.set]
  show wRet _ [.raw (.ref i.1), .d (.int m), .d (.list sg), .d (.list ns), .no, .d (.list ks), .d (.int l)] s2 _
  refine ret_of (cb1_of (l_of (comp_of rfl (rng1_of ?_))))
  refine c_draw rfl (op_of ?_)
  show okI (m + 1) ∧ DrawOk (.int (m + 1)) _
  refine ⟨okI_small (by omega), m + 1, rfl, by omega, by omega, fun r r0 r1 => ?_⟩
  refine ⟨by omega, by omega, ?_⟩
  refine comp_prop GoodRow _ _ _ (fun d hd s Y y => ⟨rfl, ?_⟩) (fun ys s3 yl hy => ?_)
  · show _ = 4 ∧ F__law_item i [.raw (.ref i.1), .d (.list ns), .d (.list ks), .d (.int l)] s Y _
    refine ⟨rfl, ns, ks, l, rfl, ?_, ?_, by omega, by omega, hn, hk, l0, l1, fun z hz => y z _ hz⟩
    · intro z; subst z; simp at nl; omega
    · intro z; subst z; simp at kl
  · rw [rngD_len] at yl
    exact hq ys (by omega) hy
theorem ok__law_page {f : Addr} {fd : FuncData} (Fu : Fun K "_law_page" "_law_page" s__law_page f fd) (hm : mg "_law_page" = some (.ref f)) (hb : Binds K fd ["_law_feed_here", "_law_most"] []) (B : Bt mg) (D__law_draw : Df P w K mg base CX0 1 "_law_draw" 2 (spI K (Wf T) 2 F__law_draw)) (D__law_item : Df P w K mg base CX0 3 "_law_item" 4 (spI K (Wf T) 4 F__law_item)) (D__law_pick : Df P w K mg base CX0 2 "_law_pick" 2 (spI K (Wf T) 2 F__law_pick)) : Df P w K mg base CX0 4 "_law_page" 2 (spI K (Wf T) 2 F__law_page) :=
  ⟨f, fd, ["_law_feed_here", "_law_most"], rfl, hm, Fu.kp, hb, fnI (wb := w__law_page) Fu sc__law_page rfl (fun i cdv A outer s H E hG hr => ⟨_,
  (sd_cons (sd_set 2 sc__law_page.nd rfl (by first | exact .inl rfl | exact .inr rfl) (ed_new (fd_lst (ad_cons ed_str (ad_cons ed_str (ad_cons ed_str (ad_cons ed_str (ad_cons ed_str (ad_cons ed_str (ad_cons ed_str (ad_cons ed_str (ad_cons ed_str (ad_cons ed_str (ad_cons ed_str (ad_cons ed_str ad_nil)))))))))))))))
  (sd_cons (sd_set 3 sc__law_page.nd rfl (by first | exact .inl rfl | exact .inr rfl) (ed_new (fd_lc rfl sc__law_page.nd (own := [("_law_lap", 4)]) (i_rng1 B (ad_cons (e_add ed_int (e_callI D__law_draw hG (hr.mono (by decide)) pass00 (ad_raw 0 (ad_cons ed_int ad_nil)))) ad_nil)) (blkOk_by (own := [("_law_lap", 4)]) (N := ["_law_feed_here", "_law_most", "_law_signs_here", "_law_names", "_law_lap", "_law_kinds", "_law_lean"]) (sc := defScope s__law_page) (by decide +kernel))
    (fun _ _ _ _ _ => (gd_name 4 sc__law_page.nd rfl (by first | exact .inl rfl | exact .inr rfl))) (fun _ _ _ _ _ => ptd_nil) (fun _ _ _ _ _ => (e_callI D__law_pick hG (hr.mono (by decide)) pass00 (ad_raw 0 (ad_cons (ed_var 2) ad_nil)))) (by simp))))
  (sd_cons (sd_set 5 sc__law_page.nd rfl (by first | exact .inl rfl | exact .inr rfl) (ed_new (fd_lc rfl sc__law_page.nd (own := [("_law_lap", 4)]) (i_rng1 B (ad_cons ed_int ad_nil)) (blkOk_by (own := [("_law_lap", 4)]) (N := ["_law_feed_here", "_law_most", "_law_signs_here", "_law_names", "_law_lap", "_law_kinds", "_law_lean"]) (sc := defScope s__law_page) (by decide +kernel))
    (fun _ _ _ _ _ => (gd_name 4 sc__law_page.nd rfl (by first | exact .inl rfl | exact .inr rfl))) (fun _ _ _ _ _ => ptd_nil) (fun _ _ _ _ _ => (e_callI D__law_pick hG (hr.mono (by decide)) pass00 (ad_raw 0 (ad_cons (ed_new (fd_lst (ad_cons ed_str (ad_cons ed_str (ad_cons ed_str (ad_cons ed_str (ad_cons ed_str (ad_cons ed_str (ad_cons ed_str ad_nil))))))))) ad_nil)))) (by simp))))
  (sd_cons (sd_set 6 sc__law_page.nd rfl (by first | exact .inl rfl | exact .inr rfl) (e_callI D__law_draw hG (hr.mono (by decide)) pass00 (ad_raw 0 (ad_cons ed_int ad_nil))))
  (sd_one (sd_ret (e_tupleOf B (ad_cons (ed_new (fd_lc rfl sc__law_page.nd (own := [("_law_lap", 4)]) (i_rng1 B (ad_cons (e_callI D__law_draw hG (hr.mono (by decide)) pass00 (ad_raw 0 (ad_cons (e_add (ed_var 1) ed_int) ad_nil))) ad_nil)) (blkOk_by (own := [("_law_lap", 4)]) (N := ["_law_feed_here", "_law_most", "_law_signs_here", "_law_names", "_law_lap", "_law_kinds", "_law_lean"]) (sc := defScope s__law_page) (by decide +kernel))
    (fun _ _ _ _ _ => (gd_name 4 sc__law_page.nd rfl (by first | exact .inl rfl | exact .inr rfl))) (fun _ _ _ _ _ => ptd_nil) (fun _ _ _ _ _ => (e_callI D__law_item hG (hr.mono (by decide)) pass00 (ad_raw 0 (ad_cons (ed_var 3) (ad_cons (ed_var 5) (ad_cons (ed_var 6) ad_nil)))))) (by simp))) ad_nil))))))))⟩) (spec__law_page)⟩
/-! ## _law_strange -/
abbrev s__law_strange : Stmt := top 40
theorem sc__law_strange : FnScope ["_law_feed_here", "_law_some"] ["_law_feed_here"] (defScope s__law_strange) := ⟨rfl, rfl, rfl, by decide +kernel, rfl, by decide +kernel, by decide +kernel⟩
def F__law_strange : Ix → List Ag → Unit → (PyData → Unit → Prop) → (Er → Unit → Prop) → Prop := fun i as _ Q _ => as = [.raw (.ref i.1)] ∧ ∀ y, Odd y → Q y ()
def w__law_strange (i : Ix) : DS Unit :=
  (wSeq (wSetF 1 (wLst (wCons (wC .none) (wCons (wC (.bool true)) (wCons (wC (.bool false)) (wCons (wUn dNeg (wC (.int 1))) (wCons (wC (.int 0)) (wCons (wC (.int 1)) (wCons (wC (.int 2)) (wCons (wC (.int 7)) (wCons (wOp (dI2 CPow fun i j => i ^ j.toNat) (wC (.int 10)) (wC (.int 59))) (wCons (wC (.str "")) (wCons (wC (.str "a")) (wCons (wC (.str "abcdefgh")) (wCons (wC (.str "abcdefghi")) (wCons (wC (.str "A")) (wCons (wC (.str "a b")) (wCons (wC (.str "x-")) (wCons (wC (.str "-")) wNil)))))))))))))))))))
  (wSeq (wExt 1 (wLst (wCons (wC (.str "if")) (wCons (wC (.str "loop")) (wCons (wC (.str "fun")) (wCons (wC (.str "end")) (wCons (wC (.str "open")) (wCons (wTup wNil) (wCons (wL (wLst wNil)) (wCons (wTup (wCons (wC (.str "end")) wNil)) (wCons (wL (wLst (wCons (wC (.str "end")) wNil))) (wCons (wTup (wCons (wC (.str "stop")) wNil)) (wCons (wTup (wCons (wC (.str "stop")) (wCons (wC (.int 1)) wNil))) (wCons (wTup (wCons (wC (.str "end")) (wCons (wC (.str "end")) wNil))) wNil))))))))))))))
  (wSeq (wExt 1 (wLst (wCons (wTup (wCons (wC (.str "let")) (wCons (wC (.str "x")) wNil))) (wCons (wTup (wCons (wC (.str "let")) (wCons (wC (.str "x")) (wCons (wC (.str "")) wNil)))) (wCons (wTup (wCons (wC (.str "use")) (wCons (wC (.str "x")) (wCons (wC (.str "num")) wNil)))) (wCons (wTup (wCons (wC (.str "give")) wNil)) (wCons (wTup (wCons (wC (.str "give")) (wCons (wC (.str "")) wNil))) (wCons (wTup (wCons (wC (.str "give")) (wCons (wC (.str "num")) (wCons (wC (.str "num")) wNil)))) wNil))))))))
  (wSeq (wExt 1 (wLst (wCons (wTup (wCons (wC (.str "open")) wNil)) (wCons (wTup (wCons (wC (.str "open")) (wCons (wC (.str "if")) wNil))) (wCons (wTup (wCons (wC (.str "open")) (wCons (wC (.str "fun")) wNil))) (wCons (wTup (wCons (wC (.str "open")) (wCons (wTup (wCons (wC (.str "fun")) wNil)) wNil))) (wCons (wTup (wCons (wC (.str "open")) (wCons (wTup (wCons (wC (.str "fun")) (wCons (wC (.str "")) wNil))) wNil))) (wCons (wTup (wCons (wC (.str "fun")) (wCons (wC (.str "")) wNil))) wNil))))))))
  (wSeq (wExt 1 (wLst (wCons (wTup (wCons (wC (.str "open")) (wCons (wTup (wCons (wC (.str "loop")) (wCons (wC (.str "")) wNil))) wNil))) (wCons (wTup (wCons (wC (.str "open")) (wCons (wL (wLst (wCons (wC (.str "fun")) (wCons (wC (.str "")) wNil)))) wNil))) (wCons (wTup (wCons (wC (.str "open")) (wCons (wC (.str "if")) (wCons (wC (.str "if")) wNil)))) (wCons (wTup (wCons (wC (.str "use")) (wCons (wC (.str "X")) (wCons (wC (.str "num")) wNil)))) (wCons (wTup (wCons (wC (.str "fun")) (wCons (wC (.int 1)) wNil))) wNil)))))))
  (wSeq (wExt 1 (wLst (wCons (wTup (wCons (wC (.int 0)) wNil)) (wCons (wTup (wCons (wC (.int 0)) (wCons (wC (.int 1)) wNil))) (wCons (wTup (wCons (wC (.int 1)) (wCons (wC (.int 0)) wNil))) (wCons (wTup (wCons (wC (.int 1)) (wCons (wC (.int 1)) wNil))) (wCons (wTup (wCons (wC (.int 0)) (wCons (wC (.bool true)) wNil))) (wCons (wTup (wCons (wC (.int 0)) (wCons (wC (.str "use")) wNil))) (wCons (wTup (wCons (wC (.int 3)) (wCons (wC (.str "unused")) wNil))) (wCons (wTup (wCons (wC (.bool true)) (wCons (wC (.str "use")) wNil))) (wCons (wTup (wCons (wC (.int 0)) (wCons (wC (.str "let")) wNil))) wNil)))))))))))
  (wSeq (wExt 1 (wLst (wCons (wTup (wCons (wUn dNeg (wC (.int 1))) (wCons (wC (.str "end")) wNil))) (wCons (wTup (wCons (wC (.int 0)) (wCons (wTup (wCons (wC (.str "end")) wNil)) wNil))) (wCons (wTup (wCons (wTup (wCons (wC (.int 0)) (wCons (wTup (wCons (wTup (wCons (wC (.str "end")) wNil)) wNil)) wNil))) wNil)) (wCons (wTup (wCons (wTup (wCons (wC (.int 0)) (wCons (wTup wNil) wNil))) wNil)) (wCons (wTup (wCons (wTup (wCons (wC (.int 1)) (wCons (wTup (wCons (wTup (wCons (wC (.str "end")) wNil)) wNil)) wNil))) (wCons (wTup (wCons (wC (.int 0)) (wCons (wTup (wCons (wTup (wCons (wC (.str "end")) wNil)) wNil)) wNil))) wNil))) wNil)))))))
  (wSeq (wExt 1 (wLst (wCons (wTup (wCons (wTup (wCons (wC (.str "end")) wNil)) wNil)) (wCons (wTup (wCons (wTup (wCons (wC (.str "end")) wNil)) (wCons (wTup (wCons (wC (.str "stop")) wNil)) wNil))) (wCons (wL (wLst (wCons (wTup (wCons (wC (.str "end")) wNil)) wNil))) (wCons (wTup (wCons (wTup (wCons (wC (.str "end")) wNil)) (wCons (wC .none) wNil))) (wCons (wTup (wCons (wC (.str "let")) (wCons (wC (.str "a")) (wCons (wC (.str "b")) (wCons (wC (.str "c")) wNil))))) (wCons (wC (.str "use")) wNil))))))))
  (wFreeze 1 (wRet (wCallW (fun as s Q E => as.length = 2 ∧ F__law_pick i as s Q E) (wRaw 0 (wCons (wVar 1) wNil)))))))))))))
theorem spec__law_strange : ∀ (i : Ix) as s Qd Ed, as.length = 1 → F__law_strange i as s Qd Ed → w__law_strange i (argS 1 2 (as.map toSl)) s (endW Qd Ed) := by
  rintro i as s Qd Ed _ ⟨rfl, hq⟩
  unfold w__law_strange
  show wSeq _ _ [.raw (.ref i.1), .no] s _
  simp [wSeq, wSetF, wExt, wLst, wL, wCons, wC, wTup, wNil, allK, wUn, dNeg, wOp, dI2, CPow, limL_eq, wFreeze, List.set]
  refine ⟨by unfold okI; decide, ?_⟩
  refine c_pick rfl ⟨_, rfl, by simp, by simp, fun y hy => hq y ?_⟩
  refine List.all_eq_true.mp ?_ y hy
  decide +kernel
theorem ok__law_strange {f : Addr} {fd : FuncData} (Fu : Fun K "_law_strange" "_law_strange" s__law_strange f fd) (hm : mg "_law_strange" = some (.ref f)) (hb : Binds K fd ["_law_feed_here"] []) (B : Bt mg) (D__law_pick : Df P w K mg base CX0 2 "_law_pick" 2 (spI K (Wf T) 2 F__law_pick)) : Df P w K mg base CX0 3 "_law_strange" 1 (spI K (Wf T) 1 F__law_strange) :=
  ⟨f, fd, ["_law_feed_here"], rfl, hm, Fu.kp, hb, fnI (wb := w__law_strange) Fu sc__law_strange rfl (fun i cdv A outer s H E hG hr => ⟨_,
  (sd_cons (sd_setF 1 sc__law_strange.nd rfl (by first | exact .inl rfl | exact .inr rfl) (fd_lst (ad_cons ed_non (ad_cons ed_bl (ad_cons ed_bl (ad_cons (e_neg ed_int) (ad_cons ed_int (ad_cons ed_int (ad_cons ed_int (ad_cons ed_int (ad_cons (e_pow ed_int ed_int) (ad_cons ed_str (ad_cons ed_str (ad_cons ed_str (ad_cons ed_str (ad_cons ed_str (ad_cons ed_str (ad_cons ed_str (ad_cons ed_str ad_nil)))))))))))))))))))
  (sd_cons (sd_extend 1 (fd_lst (ad_cons ed_str (ad_cons ed_str (ad_cons ed_str (ad_cons ed_str (ad_cons ed_str (ad_cons (ed_tup ad_nil) (ad_cons (ed_new (fd_lst ad_nil)) (ad_cons (ed_tup (ad_cons ed_str ad_nil)) (ad_cons (ed_new (fd_lst (ad_cons ed_str ad_nil))) (ad_cons (ed_tup (ad_cons ed_str ad_nil)) (ad_cons (ed_tup (ad_cons ed_str (ad_cons ed_int ad_nil))) (ad_cons (ed_tup (ad_cons ed_str (ad_cons ed_str ad_nil))) ad_nil))))))))))))))
  (sd_cons (sd_extend 1 (fd_lst (ad_cons (ed_tup (ad_cons ed_str (ad_cons ed_str ad_nil))) (ad_cons (ed_tup (ad_cons ed_str (ad_cons ed_str (ad_cons ed_str ad_nil)))) (ad_cons (ed_tup (ad_cons ed_str (ad_cons ed_str (ad_cons ed_str ad_nil)))) (ad_cons (ed_tup (ad_cons ed_str ad_nil)) (ad_cons (ed_tup (ad_cons ed_str (ad_cons ed_str ad_nil))) (ad_cons (ed_tup (ad_cons ed_str (ad_cons ed_str (ad_cons ed_str ad_nil)))) ad_nil))))))))
  (sd_cons (sd_extend 1 (fd_lst (ad_cons (ed_tup (ad_cons ed_str ad_nil)) (ad_cons (ed_tup (ad_cons ed_str (ad_cons ed_str ad_nil))) (ad_cons (ed_tup (ad_cons ed_str (ad_cons ed_str ad_nil))) (ad_cons (ed_tup (ad_cons ed_str (ad_cons (ed_tup (ad_cons ed_str ad_nil)) ad_nil))) (ad_cons (ed_tup (ad_cons ed_str (ad_cons (ed_tup (ad_cons ed_str (ad_cons ed_str ad_nil))) ad_nil))) (ad_cons (ed_tup (ad_cons ed_str (ad_cons ed_str ad_nil))) ad_nil))))))))
  (sd_cons (sd_extend 1 (fd_lst (ad_cons (ed_tup (ad_cons ed_str (ad_cons (ed_tup (ad_cons ed_str (ad_cons ed_str ad_nil))) ad_nil))) (ad_cons (ed_tup (ad_cons ed_str (ad_cons (ed_new (fd_lst (ad_cons ed_str (ad_cons ed_str ad_nil)))) ad_nil))) (ad_cons (ed_tup (ad_cons ed_str (ad_cons ed_str (ad_cons ed_str ad_nil)))) (ad_cons (ed_tup (ad_cons ed_str (ad_cons ed_str (ad_cons ed_str ad_nil)))) (ad_cons (ed_tup (ad_cons ed_str (ad_cons ed_int ad_nil))) ad_nil)))))))
  (sd_cons (sd_extend 1 (fd_lst (ad_cons (ed_tup (ad_cons ed_int ad_nil)) (ad_cons (ed_tup (ad_cons ed_int (ad_cons ed_int ad_nil))) (ad_cons (ed_tup (ad_cons ed_int (ad_cons ed_int ad_nil))) (ad_cons (ed_tup (ad_cons ed_int (ad_cons ed_int ad_nil))) (ad_cons (ed_tup (ad_cons ed_int (ad_cons ed_bl ad_nil))) (ad_cons (ed_tup (ad_cons ed_int (ad_cons ed_str ad_nil))) (ad_cons (ed_tup (ad_cons ed_int (ad_cons ed_str ad_nil))) (ad_cons (ed_tup (ad_cons ed_bl (ad_cons ed_str ad_nil))) (ad_cons (ed_tup (ad_cons ed_int (ad_cons ed_str ad_nil))) ad_nil)))))))))))
  (sd_cons (sd_extend 1 (fd_lst (ad_cons (ed_tup (ad_cons (e_neg ed_int) (ad_cons ed_str ad_nil))) (ad_cons (ed_tup (ad_cons ed_int (ad_cons (ed_tup (ad_cons ed_str ad_nil)) ad_nil))) (ad_cons (ed_tup (ad_cons (ed_tup (ad_cons ed_int (ad_cons (ed_tup (ad_cons (ed_tup (ad_cons ed_str ad_nil)) ad_nil)) ad_nil))) ad_nil)) (ad_cons (ed_tup (ad_cons (ed_tup (ad_cons ed_int (ad_cons (ed_tup ad_nil) ad_nil))) ad_nil)) (ad_cons (ed_tup (ad_cons (ed_tup (ad_cons ed_int (ad_cons (ed_tup (ad_cons (ed_tup (ad_cons ed_str ad_nil)) ad_nil)) ad_nil))) (ad_cons (ed_tup (ad_cons ed_int (ad_cons (ed_tup (ad_cons (ed_tup (ad_cons ed_str ad_nil)) ad_nil)) ad_nil))) ad_nil))) ad_nil)))))))
  (sd_cons (sd_extend 1 (fd_lst (ad_cons (ed_tup (ad_cons (ed_tup (ad_cons ed_str ad_nil)) ad_nil)) (ad_cons (ed_tup (ad_cons (ed_tup (ad_cons ed_str ad_nil)) (ad_cons (ed_tup (ad_cons ed_str ad_nil)) ad_nil))) (ad_cons (ed_new (fd_lst (ad_cons (ed_tup (ad_cons ed_str ad_nil)) ad_nil))) (ad_cons (ed_tup (ad_cons (ed_tup (ad_cons ed_str ad_nil)) (ad_cons ed_non ad_nil))) (ad_cons (ed_tup (ad_cons ed_str (ad_cons ed_str (ad_cons ed_str (ad_cons ed_str ad_nil))))) (ad_cons ed_str ad_nil))))))))
  (sd_freeze 1 (sd_one (sd_ret (e_callI D__law_pick hG (hr.mono (by decide)) pass00 (ad_raw 0 (ad_cons (ed_var 1) ad_nil))))))))))))))⟩) (spec__law_strange)⟩
end
end L07

set_option Elab.async false
set_option linter.all false
set_option autoImplicit false
set_option maxRecDepth 100000
set_option maxHeartbeats 1000000
set_option pp.maxSteps 400
namespace L07
open PySem PySem.Spec Dt
open L2 hiding wT wNot
/-- where the top is a tuple, how long it is -/
def tl : PyData → Nat
  | .tuple xs => xs.length
  | _ => 0
def Bent (d y : PyData) : Prop := wg y ≤ 2 * wg d + 800 ∧ PyData.depth y ≤ PyData.depth d + 6 ∧ iB y ≤ max (iB d) (10 ^ 59) + 1 ∧ tl y ≤ max (tl d + 1) 4
/-- what can be bent: of a depth less than n -/
def F__law_bent (n : Nat) : Ix → List Ag → Unit → (PyData → Unit → Prop) → (Er → Unit → Prop) → Prop := fun i as _ Q _ => ∃ d : PyData, as = [.raw (.ref i.1), .d d] ∧ PyData.depth d < n ∧ wg d ≤ 100000 ∧ iB d ≤ 10 ^ 60 ∧ ∀ y, Bent d y → Q y ()
theorem split_at {xs : List PyData} {k : Int} (h0 : 0 ≤ k) (h1 : k < xs.length) : ∃ l x r, xs = l ++ x :: r ∧ k = (l.length : Int) := by
  obtain ⟨m, rfl⟩ : ∃ m : Nat, k = (m : Int) := ⟨k.toNat, by omega⟩
  have hk : m < xs.length := by omega
  refine ⟨xs.take m, xs[m], xs.drop (m + 1), ?_, by rw [List.length_take]; omega⟩
  rw [← List.drop_eq_getElem_cons hk, List.take_append_drop]
theorem split_le {xs : List PyData} {k : Int} (h0 : 0 ≤ k) (h1 : k ≤ xs.length) : ∃ l r, xs = l ++ r ∧ k = (l.length : Int) := by
  obtain ⟨m, rfl⟩ : ∃ m : Nat, k = (m : Int) := ⟨k.toNat, by omega⟩
  exact ⟨xs.take m, xs.drop m, (List.take_append_drop m xs).symm, by rw [List.length_take]; omega⟩
theorem cut_l {l r : List PyData} : cutD (l ++ r) none (some (l.length : Int)) = l := by
  unfold cutD
  rw [HT.sIx_nat, HT.sIx_none, Nat.min_eq_left (by simp), List.drop_zero, Nat.sub_zero, List.take_left']
  rfl
theorem cut_r {l r : List PyData} : cutD (l ++ r) (some (l.length : Int)) none = r := by
  unfold cutD
  rw [HT.sIx_nat, HT.sIx_none, Nat.min_eq_left (by simp), List.drop_left' rfl]
  exact List.take_of_length_le (by simp)
theorem cut_r1 {l r : List PyData} : cutD (l ++ r) (some ((l.length : Int) + 1)) none = r.drop 1 := by
  unfold cutD
  rw [show (l.length : Int) + 1 = ((l.length + 1 : Nat) : Int) by omega, HT.sIx_nat, HT.sIx_none]
  cases r with
  | nil =>
    rw [List.append_nil, Nat.min_eq_right (by omega), List.drop_length]
    simp
  | cons x r =>
    rw [Nat.min_eq_left (by simp), List.drop_append]
    have e : List.drop (l.length + 1) l = [] := List.drop_of_length_le (by omega)
    rw [e, List.nil_append, show l.length + 1 - l.length = 1 by omega]
    exact List.take_of_length_le (by simp; omega)
theorem cut_m {l r : List PyData} : cutD (l ++ r) (some (l.length : Int)) (some ((l.length : Int) + 1)) = r.take 1 := by
  unfold cutD
  have e1 : min l.length (l ++ r).length = l.length := Nat.min_eq_left (by simp)
  rw [show (l.length : Int) + 1 = ((l.length + 1 : Nat) : Int) by omega, HT.sIx_nat, HT.sIx_nat, e1, List.drop_left' rfl]
  cases r with
  | nil => simp
  | cons x r =>
    have e2 : min (l.length + 1) (l ++ x :: r).length = l.length + 1 := Nat.min_eq_left (by simp)
    rw [e2, show l.length + 1 - l.length = 1 by omega]
theorem var_of {S : Type} {i : Nat} {x : PyData} {ρ : List Sl} {s : S} {Q : PyData → S → Prop} {E : Er → S → Prop} (h0 : ρ[i]? = some (.d x)) (h : Q x s) : wVar i ρ s Q E := by
  unfold wVar
  rw [h0]; exact h
theorem cutS_le {z : Str} {lo hi : Option Int} : (cutS z lo hi).length ≤ z.length := by
  have e : (cutS z lo hi).cps.toList = cutD z.cps.toList lo hi := by
    unfold cutS cutD
    simp [Str.length]
  have h1 : (cutS z lo hi).length = (cutS z lo hi).cps.toList.length := by simp [Str.length]
  have h2 : z.length = z.cps.toList.length := by simp [Str.length]
  rw [h1, h2, e]
  unfold cutD
  rw [List.length_take, List.length_drop]
  omega
theorem first_if {t : DT Unit} {a v : DS Unit} {ρ : List Sl} {s : Unit} {D : DEnds Unit} (hv : v ρ s D) (h : v ρ s D → wSeq (wIfS t a wNext) v ρ s D) : wSeq (wIfS t a wNext) v ρ s D := h hv
theorem wgAll_app : ∀ xs ys : List PyData, wgAll (xs ++ ys) = wgAll xs + wgAll ys
  | [], ys => by simp [wgAll]
  | x :: xs, ys => by simp only [List.cons_append, wgAll, wgAll_app xs ys]; omega
theorem iBall_app : ∀ xs ys : List PyData, iBall (xs ++ ys) = max (iBall xs) (iBall ys)
  | [], ys => by simp [iBall]
  | x :: xs, ys => by simp only [List.cons_append, iBall, iBall_app xs ys]; omega
theorem depthAll_app : ∀ xs ys : List PyData, PyData.depthAll (xs ++ ys) = max (PyData.depthAll xs) (PyData.depthAll ys)
  | [], ys => by simp [PyData.depthAll]
  | x :: xs, ys => by simp only [List.cons_append, PyData.depthAll, depthAll_app xs ys]; omega
theorem rev_same : ∀ xs : List PyData, wgAll xs.reverse = wgAll xs ∧ iBall xs.reverse = iBall xs ∧ PyData.depthAll xs.reverse = PyData.depthAll xs
  | [] => ⟨rfl, rfl, rfl⟩
  | x :: xs => by
    obtain ⟨h1, h2, h3⟩ := rev_same xs
    rw [List.reverse_cons, wgAll_app, iBall_app, depthAll_app, h1, h2, h3]
    simp only [wgAll, iBall, PyData.depthAll]
    omega
theorem len_wg : ∀ xs : List PyData, xs.length ≤ wgAll xs
  | [] => by simp
  | x :: xs => by have := len_wg xs; simp only [List.length_cons, wgAll]; omega
theorem odd_of {y : PyData} (h : Odd y) : wg y ≤ 360 ∧ PyData.depth y ≤ 6 ∧ iB y ≤ 10 ^ 59 ∧ tl y ≤ 4 := by
  have h : oddB y = true := h
  unfold oddB nz at h
  simp only [Bool.and_eq_true, decide_eq_true_eq] at h
  obtain ⟨⟨h1, h2, h3⟩, h4⟩ := h
  refine ⟨h1, h2, h3, ?_⟩
  cases y with
  | tuple xs => simpa [tl] using h4
  | _ => simp [tl]
theorem c_bent {n : Nat} {i : Ix} {w : DE Unit} {ρ : List Sl} {s : Unit} {Q : PyData → Unit → Prop} {E : Er → Unit → Prop} (h0 : ρ[0]? = some (.raw (.ref i.1)))
    (hw : w ρ s (fun d _ => PyData.depth d < n ∧ wg d ≤ 100000 ∧ iB d ≤ 10 ^ 60 ∧ ∀ y, Bent d y → Q y ()) E) : wCallW (fun as s Q E => as.length = 2 ∧ F__law_bent n i as s Q E) (wRaw 0 (wCons w wNil)) ρ s Q E := by
  have e : wCallW (fun as s Q E => as.length = 2 ∧ F__law_bent n i as s Q E) (wRaw 0 (wCons w wNil)) ρ s Q E = w ρ s (fun d _ => PyData.depth d < n ∧ wg d ≤ 100000 ∧ iB d ≤ 10 ^ 60 ∧ ∀ y, Bent d y → Q y ()) E := by
    unfold wCallW wRaw
    rw [h0]
    show w ρ s (fun x s1 => ([Ag.raw (.ref i.1), Ag.d x].length = 2 ∧ F__law_bent n i [.raw (.ref i.1), .d x] s1 Q E)) E = _
    congr 1
    funext x s1
    apply propext
    constructor
    · rintro ⟨_, d, h1, h2⟩
      injection h1 with _ h1
      injection h1 with h1 _
      injection h1 with h1
      subst h1
      exact h2
    · intro h2
      exact ⟨rfl, x, rfl, h2⟩
  rw [e]; exact hw
section
variable {P : Program} {w : World} {K : PySem.W.Frag} {mg : Str → Option Value} {base : Heap} {T : List (Addr × Str)}
/-! ## _law_bent -/
abbrev s__law_bent : Stmt := top 41
theorem sc__law_bent : FnScope ["_law_feed_here", "_law_item_here", "_law_k", "_law_lot", "_law_strange_here"] ["_law_feed_here", "_law_item_here"] (defScope s__law_bent) := ⟨rfl, rfl, rfl, by decide +kernel, rfl, by decide +kernel, by decide +kernel⟩
def w__law_bent (n : Nat) (i : Ix) : DS Unit :=
  (wSeq (wIfS (wTand (wT (wIsi "tuple" (wVar 1))) (wTand (wT (wOp dGt (wCB fLen (wCons (wVar 1) wNil)) (wC (.int 0)))) (wT (wOp dGt (wCallW (fun as s Q E => as.length = 2 ∧ F__law_draw i as s Q E) (wRaw 0 (wCons (wC (.int 5)) wNil))) (wC (.int 0)))))) (wSeq (wAsg (wCallW (fun as s Q E => as.length = 2 ∧ F__law_draw i as s Q E) (wRaw 0 (wCons (wCB fLen (wCons (wVar 1) wNil)) wNil))) (gN 2))
  (wRet (wOp dAdd (wOp dAdd (wSl (wVar 1) oNo (oSome (wVar 2))) (wTup (wCons (wCallW (fun as s Q E => as.length = 2 ∧ F__law_bent n i as s Q E) (wRaw 0 (wCons (wOp dIdx (wVar 1) (wVar 2)) wNil))) wNil))) (wSl (wVar 1) (oSome (wOp dAdd (wVar 2) (wC (.int 1)))) oNo)))) wNext)
  (wSeq (wPar 3 4 (wCons (wCallW (fun as s Q E => as.length = 2 ∧ F__law_draw i as s Q E) (wRaw 0 (wCons (wC (.int 7)) wNil))) (wCons (wCallW (fun as s Q E => as.length = 1 ∧ F__law_strange i as s Q E) (wRaw 0 wNil)) wNil)))
  (wSeq (wIfS (wTand (wT (wIsi "tuple" (wVar 1))) (wT (wOp dLt (wVar 3) (wC (.int 6))))) (wSeq (wAsg (wCallW (fun as s Q E => as.length = 2 ∧ F__law_draw i as s Q E) (wRaw 0 (wCons (wOp dAdd (wCB fLen (wCons (wVar 1) wNil)) (wC (.int 1))) wNil))) (gN 2))
  (wSeq (wIfS (wT (wOp dEq (wVar 3) (wC (.int 0)))) (wRet (wL (wListOf (wCons (wVar 1) wNil)))) wNext)
  (wSeq (wIfS (wT (wOp dEq (wVar 3) (wC (.int 1)))) (wRet (wOp dAdd (wSl (wVar 1) oNo (oSome (wVar 2))) (wSl (wVar 1) (oSome (wOp dAdd (wVar 2) (wC (.int 1)))) oNo))) wNext)
  (wSeq (wIfS (wT (wOp dEq (wVar 3) (wC (.int 2)))) (wRet (wOp dAdd (wOp dAdd (wSl (wVar 1) oNo (oSome (wVar 2))) (wSl (wVar 1) (oSome (wVar 2)) (oSome (wOp dAdd (wVar 2) (wC (.int 1)))))) (wSl (wVar 1) (oSome (wVar 2)) oNo))) wNext)
  (wRet (wIf (wT (wOp dLt (wVar 3) (wC (.int 5)))) (wOp dAdd (wOp dAdd (wSl (wVar 1) oNo (oSome (wVar 2))) (wTup (wCons (wVar 4) wNil))) (wSl (wVar 1) (oSome (wVar 2)) oNo)) (wUn dRev (wVar 1)))))))) wNext)
  (wSeq (wIfS (wTand (wT (wIsi "str" (wVar 1))) (wT (wOp dLt (wVar 3) (wC (.int 5))))) (wSeq (wAsg (wCallW (fun as s Q E => as.length = 2 ∧ F__law_draw i as s Q E) (wRaw 0 (wCons (wOp dAdd (wCB fLen (wCons (wVar 1) wNil)) (wC (.int 1))) wNil))) (gN 2))
  (wRet (wOp dAdd (wOp dAdd (wSl (wVar 1) oNo (oSome (wVar 2))) (wCallW (fun as s Q E => as.length = 2 ∧ F__law_pick i as s Q E) (wRaw 0 (wCons (wL (wLst (wCons (wC (.str "a")) (wCons (wC (.str "A")) (wCons (wC (.str "")) (wCons (wC (.str " ")) (wCons (wC (.str "z")) (wCons (wC (.str "0")) (wCons (wC (.str "-")) wNil))))))))) wNil)))) (wSl (wVar 1) (oSome (wOp dAdd (wVar 2) (wCB fInt (wCons (wOp dGt (wVar 3) (wC (.int 2))) wNil)))) oNo)))) wNext)
  (wSeq (wIfS (wTand (wT (wCallP (fun ds Q E => ds.length = 1 ∧ F__law_is_number ds Q E) (wCons (wVar 1) wNil))) (wT (wOp dLt (wVar 3) (wC (.int 5))))) (wRet (wOp dIdx (wL (wLst (wCons (wOp dAdd (wVar 1) (wC (.int 1))) (wCons (wOp (dI0 fun i j => i - j) (wVar 1) (wC (.int 1))) (wCons (wUn dNeg (wVar 1)) (wCons (wOp dEq (wVar 1) (wC (.int 1))) (wCons (wCB fStr (wCons (wVar 1) wNil)) wNil))))))) (wVar 3))) wNext)
  (wRet (wVar 4)))))))
theorem spec__law_bent (n : Nat) : ∀ (i : Ix) as s Qd Ed, as.length = 2 → F__law_bent (n + 1) i as s Qd Ed → w__law_bent n i (argS 2 5 (as.map toSl)) s (endW Qd Ed) := by
  rintro i as s Qd Ed _ ⟨d, rfl, hd, hw, hi, hq⟩
  have rt : ∀ y, Bent d y → Qd y s := hq
  unfold w__law_bent
  show wSeq _ _ [.raw (.ref i.1), .d d, .no, .no, .no] s _
  refine first_if ?_ (fun tail => ?_)
  · refine seq_of (par_of (cons_of ?_))
    refine c_draw rfl ⟨7, rfl, by decide, by decide, fun lot l0 l1 => ?_⟩
    refine cons_of ?_
    show _ = 1 ∧ F__law_strange i [.raw (.ref i.1)] s _ _
    refine ⟨rfl, rfl, fun o ho => ?_⟩
    have hO := odd_of ho
    simp only [wNil, allK, List.set]
    show wSeq _ _ [.raw (.ref i.1), .d d, .no, .d (.int lot), .d o] () _
    have ho' : Bent d o := ⟨by omega, by omega, by omega, by omega⟩
    have nostr : ∀ (D : DEnds Unit), D.rt = (endW Qd Ed).rt → (isNum d = true → lot < 5 → False) → wSeq (wIfS (wTand (wT (wCallP (fun ds Q E => ds.length = 1 ∧ F__law_is_number ds Q E) (wCons (wVar 1) wNil))) (wT (wOp dLt (wVar 3) (wC (PyData.int 5))))) (wRet (wOp dIdx (wL (wLst (wCons (wOp dAdd (wVar 1) (wC (PyData.int 1))) (wCons (wOp (dI0 fun i j => i - j) (wVar 1) (wC (PyData.int 1))) (wCons (wUn dNeg (wVar 1)) (wCons (wOp dEq (wVar 1) (wC (PyData.int 1))) (wCons (wCB fStr (wCons (wVar 1) wNil)) wNil))))))) (wVar 3))) wNext) (wRet (wVar 4)) [.raw (.ref i.1), .d d, .no, .d (.int lot), .d o] () (endW Qd Ed) := by
      intro D hD hn
      refine seqIf_f (fun Q E q => ?_) (ret_of (var_of rfl (rt _ ho')))
      by_cases c : isNum d = true
      · have : ¬ lot < 5 := fun z => hn c z
        simpa [wRet, wRetN, wIfS, wSeq, wNext, wT, wTand, wTor, wTnot, wAnd_eq, wOr_eq, wNot, wIsi_int, wIsi_bool, wIsi_str, wIsi_tup, wIsi_lst, tyInt, tyBool, tyStr, tyTup, tyLst, wChain_eq, wOp, wUn, wC, wVar, wCB, wCallP, fLen, wL, wComp, wSeqI, wZip, zipS, wCons, wNil, wTup, allK, argS, endP, noOwn, wipeD, dLe, dLt, dGe, dGt, dCm, dEq, dNe, dIdx, atI_0, atI_1, atI_2, wAsg, gN, gT, gCs, gNs, List.set, dInG, flatD, F1, List.length, limL_eq, shp_i, shp_s, shp_b, shp_n, eqv_ii, eqv_ss, shp_e, eqv_e, wLst, wListOf, F1d, wCallK, dAdd, wAsg, gN, wCallW, wRaw, argS, toSl, endW, F_draw, F__law_draw, F__law_is_number, c, this] using q
      · simpa [wRet, wRetN, wIfS, wSeq, wNext, wT, wTand, wTor, wTnot, wAnd_eq, wOr_eq, wNot, wIsi_int, wIsi_bool, wIsi_str, wIsi_tup, wIsi_lst, tyInt, tyBool, tyStr, tyTup, tyLst, wChain_eq, wOp, wUn, wC, wVar, wCB, wCallP, fLen, wL, wComp, wSeqI, wZip, zipS, wCons, wNil, wTup, allK, argS, endP, noOwn, wipeD, dLe, dLt, dGe, dGt, dCm, dEq, dNe, dIdx, atI_0, atI_1, atI_2, wAsg, gN, gT, gCs, gNs, List.set, dInG, flatD, F1, List.length, limL_eq, shp_i, shp_s, shp_b, shp_n, eqv_ii, eqv_ss, shp_e, eqv_e, wLst, wListOf, F1d, wCallK, dAdd, wAsg, gN, wCallW, wRaw, argS, toSl, endW, F_draw, F__law_draw, F__law_is_number, c] using q
    cases d with
    | tuple xs =>
      have lw := len_wg xs
      simp only [wg, PyData.depth, iB] at hd hw hi
      by_cases c6 : lot < 6
      · refine seqIf_t (fun Q E q => by simpa [wRet, wRetN, wIfS, wSeq, wNext, wT, wTand, wTor, wTnot, wAnd_eq, wOr_eq, wNot, wIsi_int, wIsi_bool, wIsi_str, wIsi_tup, wIsi_lst, tyInt, tyBool, tyStr, tyTup, tyLst, wChain_eq, wOp, wUn, wC, wVar, wCB, wCallP, fLen, wL, wComp, wSeqI, wZip, zipS, wCons, wNil, wTup, allK, argS, endP, noOwn, wipeD, dLe, dLt, dGe, dGt, dCm, dEq, dNe, dIdx, atI_0, atI_1, atI_2, wAsg, gN, gT, gCs, gNs, List.set, dInG, flatD, F1, List.length, limL_eq, shp_i, shp_s, shp_b, shp_n, eqv_ii, eqv_ss, shp_e, eqv_e, wLst, wListOf, F1d, wCallK, dAdd, wAsg, gN, wCallW, wRaw, argS, toSl, endW, F_draw, F__law_draw, c6] using q) ?_
        refine seq_of (asg_of (c_draw rfl (op_of (cb1_of (var_of rfl ?_)))))
        simp only [fLen]
        refine c_of ?_
        show okI ((xs.length : Int) + 1) ∧ DrawOk (.int ((xs.length : Int) + 1)) _
        refine ⟨okI_small (by omega), _, rfl, by omega, by omega, fun k k0 k1 => ?_⟩
        obtain ⟨l, r, e, rfl⟩ := split_le k0 (show k ≤ xs.length by omega)
        simp only [gN, List.set]
        show wSeq _ _ [.raw (.ref i.1), .d (.tuple xs), .d (.int l.length), .d (.int lot), .d o] () _
        by_cases z0 : lot = 0
        · refine seqIf_t (fun Q E q => by simpa [wRet, wRetN, wIfS, wSeq, wNext, wT, wTand, wTor, wTnot, wAnd_eq, wOr_eq, wNot, wIsi_int, wIsi_bool, wIsi_str, wIsi_tup, wIsi_lst, tyInt, tyBool, tyStr, tyTup, tyLst, wChain_eq, wOp, wUn, wC, wVar, wCB, wCallP, fLen, wL, wComp, wSeqI, wZip, zipS, wCons, wNil, wTup, allK, argS, endP, noOwn, wipeD, dLe, dLt, dGe, dGt, dCm, dEq, dNe, dIdx, atI_0, atI_1, atI_2, wAsg, gN, gT, gCs, gNs, List.set, dInG, flatD, F1, List.length, limL_eq, shp_i, shp_s, shp_b, shp_n, eqv_ii, eqv_ss, shp_e, eqv_e, wLst, wListOf, F1d, wCallK, dAdd, wAsg, gN, wCallW, wRaw, argS, toSl, endW, F_draw, F__law_draw, z0] using q) ?_
          simp only [wRet, wL, wListOf, wCons, wVar, wNil, allK, List.getElem?_cons_succ, List.getElem?_cons_zero]
          refine rt _ ⟨?_, ?_, ?_, ?_⟩
          · simp only [wg]; omega
          · simp only [PyData.depth]; omega
          · simp only [iB]; omega
          · simp only [tl]; omega
        refine seqIf_f (fun Q E q => by simpa [wRet, wRetN, wIfS, wSeq, wNext, wT, wTand, wTor, wTnot, wAnd_eq, wOr_eq, wNot, wIsi_int, wIsi_bool, wIsi_str, wIsi_tup, wIsi_lst, tyInt, tyBool, tyStr, tyTup, tyLst, wChain_eq, wOp, wUn, wC, wVar, wCB, wCallP, fLen, wL, wComp, wSeqI, wZip, zipS, wCons, wNil, wTup, allK, argS, endP, noOwn, wipeD, dLe, dLt, dGe, dGt, dCm, dEq, dNe, dIdx, atI_0, atI_1, atI_2, wAsg, gN, gT, gCs, gNs, List.set, dInG, flatD, F1, List.length, limL_eq, shp_i, shp_s, shp_b, shp_n, eqv_ii, eqv_ss, shp_e, eqv_e, wLst, wListOf, F1d, wCallK, dAdd, wAsg, gN, wCallW, wRaw, argS, toSl, endW, F_draw, F__law_draw, z0] using q) ?_
        by_cases z1 : lot = 1
        · refine seqIf_t (fun Q E q => by simpa [wRet, wRetN, wIfS, wSeq, wNext, wT, wTand, wTor, wTnot, wAnd_eq, wOr_eq, wNot, wIsi_int, wIsi_bool, wIsi_str, wIsi_tup, wIsi_lst, tyInt, tyBool, tyStr, tyTup, tyLst, wChain_eq, wOp, wUn, wC, wVar, wCB, wCallP, fLen, wL, wComp, wSeqI, wZip, zipS, wCons, wNil, wTup, allK, argS, endP, noOwn, wipeD, dLe, dLt, dGe, dGt, dCm, dEq, dNe, dIdx, atI_0, atI_1, atI_2, wAsg, gN, gT, gCs, gNs, List.set, dInG, flatD, F1, List.length, limL_eq, shp_i, shp_s, shp_b, shp_n, eqv_ii, eqv_ss, shp_e, eqv_e, wLst, wListOf, F1d, wCallK, dAdd, wAsg, gN, wCallW, wRaw, argS, toSl, endW, F_draw, F__law_draw, z1] using q) ?_
          subst e
          simp only [wgAll_app, depthAll_app, iBall_app, List.length_append] at hd hw hi lw
          simp only [wRet, wOp, wSl, oNo, oSome, wVar, wC, List.getElem?_cons_succ, List.getElem?_cons_zero, dSl, dAdd, cut_l, cut_r1, limL_eq, List.length_append, List.length_drop]
          refine ⟨okI_small (by omega), by omega, rt _ ?_⟩
          cases r with
          | nil =>
            refine ⟨?_, ?_, ?_, ?_⟩
            · simp only [wg, wgAll_app, List.drop_nil, wgAll]; omega
            · simp only [PyData.depth, depthAll_app, List.drop_nil, PyData.depthAll]; omega
            · simp only [iB, iBall_app, List.drop_nil, iBall]; omega
            · simp only [tl, List.length_append, List.drop_nil, List.length_nil]; omega
          | cons x r =>
            refine ⟨?_, ?_, ?_, ?_⟩
            · simp only [wg, wgAll_app, List.drop_succ_cons, List.drop_zero, wgAll]; omega
            · simp only [PyData.depth, depthAll_app, List.drop_succ_cons, List.drop_zero, PyData.depthAll]; omega
            · simp only [iB, iBall_app, List.drop_succ_cons, List.drop_zero, iBall]; omega
            · simp only [tl, List.length_append, List.drop_succ_cons, List.drop_zero, List.length_cons]; omega
        refine seqIf_f (fun Q E q => by simpa [wRet, wRetN, wIfS, wSeq, wNext, wT, wTand, wTor, wTnot, wAnd_eq, wOr_eq, wNot, wIsi_int, wIsi_bool, wIsi_str, wIsi_tup, wIsi_lst, tyInt, tyBool, tyStr, tyTup, tyLst, wChain_eq, wOp, wUn, wC, wVar, wCB, wCallP, fLen, wL, wComp, wSeqI, wZip, zipS, wCons, wNil, wTup, allK, argS, endP, noOwn, wipeD, dLe, dLt, dGe, dGt, dCm, dEq, dNe, dIdx, atI_0, atI_1, atI_2, wAsg, gN, gT, gCs, gNs, List.set, dInG, flatD, F1, List.length, limL_eq, shp_i, shp_s, shp_b, shp_n, eqv_ii, eqv_ss, shp_e, eqv_e, wLst, wListOf, F1d, wCallK, dAdd, wAsg, gN, wCallW, wRaw, argS, toSl, endW, F_draw, F__law_draw, z1] using q) ?_
        by_cases z2 : lot = 2
        · refine seqIf_t (fun Q E q => by simpa [wRet, wRetN, wIfS, wSeq, wNext, wT, wTand, wTor, wTnot, wAnd_eq, wOr_eq, wNot, wIsi_int, wIsi_bool, wIsi_str, wIsi_tup, wIsi_lst, tyInt, tyBool, tyStr, tyTup, tyLst, wChain_eq, wOp, wUn, wC, wVar, wCB, wCallP, fLen, wL, wComp, wSeqI, wZip, zipS, wCons, wNil, wTup, allK, argS, endP, noOwn, wipeD, dLe, dLt, dGe, dGt, dCm, dEq, dNe, dIdx, atI_0, atI_1, atI_2, wAsg, gN, gT, gCs, gNs, List.set, dInG, flatD, F1, List.length, limL_eq, shp_i, shp_s, shp_b, shp_n, eqv_ii, eqv_ss, shp_e, eqv_e, wLst, wListOf, F1d, wCallK, dAdd, wAsg, gN, wCallW, wRaw, argS, toSl, endW, F_draw, F__law_draw, z2] using q) ?_
          subst e
          simp only [wgAll_app, depthAll_app, iBall_app, List.length_append] at hd hw hi lw
          simp only [wRet, wOp, wSl, oNo, oSome, wVar, wC, List.getElem?_cons_succ, List.getElem?_cons_zero, dSl, dAdd, cut_l, cut_r, cut_m, limL_eq, List.length_append, List.length_take]
          refine ⟨okI_small (by omega), by omega, by omega, rt _ ?_⟩
          cases r with
          | nil =>
            refine ⟨?_, ?_, ?_, ?_⟩
            · simp only [wg, wgAll_app, List.take_nil, wgAll]; omega
            · simp only [PyData.depth, depthAll_app, List.take_nil, PyData.depthAll]; omega
            · simp only [iB, iBall_app, List.take_nil, iBall]; omega
            · simp only [tl, List.length_append, List.take_nil, List.length_nil]; omega
          | cons x r =>
            simp only [wgAll, PyData.depthAll, iBall] at hd hw hi
            refine ⟨?_, ?_, ?_, ?_⟩
            · simp only [wg, wgAll_app, List.take_succ_cons, List.take_zero, wgAll]; omega
            · simp only [PyData.depth, depthAll_app, List.take_succ_cons, List.take_zero, PyData.depthAll]; omega
            · simp only [iB, iBall_app, List.take_succ_cons, List.take_zero, iBall]; omega
            · simp only [tl, List.length_append, List.take_succ_cons, List.take_zero, List.length_cons, List.length_nil]; omega
        refine seqIf_f (fun Q E q => by simpa [wRet, wRetN, wIfS, wSeq, wNext, wT, wTand, wTor, wTnot, wAnd_eq, wOr_eq, wNot, wIsi_int, wIsi_bool, wIsi_str, wIsi_tup, wIsi_lst, tyInt, tyBool, tyStr, tyTup, tyLst, wChain_eq, wOp, wUn, wC, wVar, wCB, wCallP, fLen, wL, wComp, wSeqI, wZip, zipS, wCons, wNil, wTup, allK, argS, endP, noOwn, wipeD, dLe, dLt, dGe, dGt, dCm, dEq, dNe, dIdx, atI_0, atI_1, atI_2, wAsg, gN, gT, gCs, gNs, List.set, dInG, flatD, F1, List.length, limL_eq, shp_i, shp_s, shp_b, shp_n, eqv_ii, eqv_ss, shp_e, eqv_e, wLst, wListOf, F1d, wCallK, dAdd, wAsg, gN, wCallW, wRaw, argS, toSl, endW, F_draw, F__law_draw, z2] using q) ?_
        by_cases c5 : lot < 5
        · subst e
          simp only [wgAll_app, depthAll_app, iBall_app, List.length_append] at hd hw hi lw
          simp only [wRet, wIf, wT, wOp, wSl, oNo, oSome, wVar, wC, List.getElem?_cons_succ, List.getElem?_cons_zero, dLt, dCm, decide_eq_true c5, if_true, wTup, wCons, wNil, allK, dSl, dAdd, cut_l, cut_r, limL_eq, List.length_append, List.length_cons, List.length_nil]
          refine ⟨by omega, by omega, by omega, rt _ ⟨?_, ?_, ?_, ?_⟩⟩
          · simp only [wg, wgAll_app, wgAll]; omega
          · simp only [PyData.depth, depthAll_app, PyData.depthAll]; omega
          · simp only [iB, iBall_app, iBall]; omega
          · simp only [tl, List.length_append, List.length_cons, List.length_nil]; omega
        · obtain ⟨v1, v2, v3⟩ := rev_same xs
          simp only [wRet, wIf, wT, wOp, wVar, wC, List.getElem?_cons_succ, List.getElem?_cons_zero, dLt, dCm, decide_eq_false c5, wUn, dRev]
          refine rt _ ⟨?_, ?_, ?_, ?_⟩
          · simp only [wg, v1]; omega
          · simp only [PyData.depth, v3]; omega
          · simp only [iB, v2]; omega
          · simp only [tl, List.length_reverse]; omega
      · refine seqIf_f (fun Q E q => by simpa [wRet, wRetN, wIfS, wSeq, wNext, wT, wTand, wTor, wTnot, wAnd_eq, wOr_eq, wNot, wIsi_int, wIsi_bool, wIsi_str, wIsi_tup, wIsi_lst, tyInt, tyBool, tyStr, tyTup, tyLst, wChain_eq, wOp, wUn, wC, wVar, wCB, wCallP, fLen, wL, wComp, wSeqI, wZip, zipS, wCons, wNil, wTup, allK, argS, endP, noOwn, wipeD, dLe, dLt, dGe, dGt, dCm, dEq, dNe, dIdx, atI_0, atI_1, atI_2, wAsg, gN, gT, gCs, gNs, List.set, dInG, flatD, F1, List.length, limL_eq, shp_i, shp_s, shp_b, shp_n, eqv_ii, eqv_ss, shp_e, eqv_e, wLst, wListOf, F1d, wCallK, dAdd, wAsg, gN, wCallW, wRaw, argS, toSl, endW, F_draw, F__law_draw, c6] using q) ?_
        refine seqIf_f (fun Q E q => by simpa [wRet, wRetN, wIfS, wSeq, wNext, wT, wTand, wTor, wTnot, wAnd_eq, wOr_eq, wNot, wIsi_int, wIsi_bool, wIsi_str, wIsi_tup, wIsi_lst, tyInt, tyBool, tyStr, tyTup, tyLst, wChain_eq, wOp, wUn, wC, wVar, wCB, wCallP, fLen, wL, wComp, wSeqI, wZip, zipS, wCons, wNil, wTup, allK, argS, endP, noOwn, wipeD, dLe, dLt, dGe, dGt, dCm, dEq, dNe, dIdx, atI_0, atI_1, atI_2, wAsg, gN, gT, gCs, gNs, List.set, dInG, flatD, F1, List.length, limL_eq, shp_i, shp_s, shp_b, shp_n, eqv_ii, eqv_ss, shp_e, eqv_e, wLst, wListOf, F1d, wCallK, dAdd, wAsg, gN, wCallW, wRaw, argS, toSl, endW, F_draw, F__law_draw] using q) ?_
        exact nostr _ rfl (by simp [isNum])
    | str x =>
      refine seqIf_f (fun Q E q => by simpa [wRet, wRetN, wIfS, wSeq, wNext, wT, wTand, wTor, wTnot, wAnd_eq, wOr_eq, wNot, wIsi_int, wIsi_bool, wIsi_str, wIsi_tup, wIsi_lst, tyInt, tyBool, tyStr, tyTup, tyLst, wChain_eq, wOp, wUn, wC, wVar, wCB, wCallP, fLen, wL, wComp, wSeqI, wZip, zipS, wCons, wNil, wTup, allK, argS, endP, noOwn, wipeD, dLe, dLt, dGe, dGt, dCm, dEq, dNe, dIdx, atI_0, atI_1, atI_2, wAsg, gN, gT, gCs, gNs, List.set, dInG, flatD, F1, List.length, limL_eq, shp_i, shp_s, shp_b, shp_n, eqv_ii, eqv_ss, shp_e, eqv_e, wLst, wListOf, F1d, wCallK, dAdd, wAsg, gN, wCallW, wRaw, argS, toSl, endW, F_draw, F__law_draw] using q) ?_
      by_cases c5 : lot < 5
      · refine seqIf_t (fun Q E q => by simpa [wRet, wRetN, wIfS, wSeq, wNext, wT, wTand, wTor, wTnot, wAnd_eq, wOr_eq, wNot, wIsi_int, wIsi_bool, wIsi_str, wIsi_tup, wIsi_lst, tyInt, tyBool, tyStr, tyTup, tyLst, wChain_eq, wOp, wUn, wC, wVar, wCB, wCallP, fLen, wL, wComp, wSeqI, wZip, zipS, wCons, wNil, wTup, allK, argS, endP, noOwn, wipeD, dLe, dLt, dGe, dGt, dCm, dEq, dNe, dIdx, atI_0, atI_1, atI_2, wAsg, gN, gT, gCs, gNs, List.set, dInG, flatD, F1, List.length, limL_eq, shp_i, shp_s, shp_b, shp_n, eqv_ii, eqv_ss, shp_e, eqv_e, wLst, wListOf, F1d, wCallK, dAdd, wAsg, gN, wCallW, wRaw, argS, toSl, endW, F_draw, F__law_draw, c5] using q) ?_
        simp only [wg] at hw
        refine seq_of (asg_of (c_draw rfl (op_of (cb1_of (var_of rfl ?_)))))
        simp only [fLen]
        refine c_of ?_
        show okI ((x.length : Int) + 1) ∧ DrawOk (.int ((x.length : Int) + 1)) _
        refine ⟨okI_small (by omega), _, rfl, by omega, by omega, fun k k0 k1 => ?_⟩
        simp only [gN, List.set]
        show wRet _ [.raw (.ref i.1), .d (.str x), .d (.int k), .d (.int lot), .d o] () _
        refine ret_of (op_of (op_of ?_))
        simp only [wSl, oNo, oSome, wVar, List.getElem?_cons_succ, List.getElem?_cons_zero, dSl]
        refine c_pick rfl ?_
        simp only [wL, wLst, wCons, wC, wNil, allK]
        refine ⟨by simp [limL_eq], _, rfl, by simp, by simp, fun t ht => ?_⟩
        have ht' : ∃ u : Str, t = .str u ∧ u.length ≤ 1 := by
          simp only [List.mem_cons, List.not_mem_nil, or_false] at ht
          rcases ht with rfl | rfl | rfl | rfl | rfl | rfl | rfl <;> exact ⟨_, rfl, by decide +kernel⟩
        obtain ⟨u, rfl, hu⟩ := ht'
        have q1 := cutS_le (z := x) (lo := none) (hi := some k)
        have q2 := cutS_le (z := x) (lo := some (k + (if decide (2 < lot) = true then 1 else 0))) (hi := none)
        simp only [dAdd, wOp, wVar, wC, wCB, wCons, wNil, allK, fInt, dGt, dCm, List.getElem?_cons_succ, List.getElem?_cons_zero, str_app_len, limL_eq]
        refine ⟨by omega, okI_small ?_, by omega, rt _ ⟨?_, ?_, ?_, ?_⟩⟩
        · split <;> omega
        · simp only [wg, str_app_len]; omega
        · simp only [PyData.depth]; omega
        · simp only [iB]; omega
        · simp only [tl]; omega
      · refine seqIf_f (fun Q E q => by simpa [wRet, wRetN, wIfS, wSeq, wNext, wT, wTand, wTor, wTnot, wAnd_eq, wOr_eq, wNot, wIsi_int, wIsi_bool, wIsi_str, wIsi_tup, wIsi_lst, tyInt, tyBool, tyStr, tyTup, tyLst, wChain_eq, wOp, wUn, wC, wVar, wCB, wCallP, fLen, wL, wComp, wSeqI, wZip, zipS, wCons, wNil, wTup, allK, argS, endP, noOwn, wipeD, dLe, dLt, dGe, dGt, dCm, dEq, dNe, dIdx, atI_0, atI_1, atI_2, wAsg, gN, gT, gCs, gNs, List.set, dInG, flatD, F1, List.length, limL_eq, shp_i, shp_s, shp_b, shp_n, eqv_ii, eqv_ss, shp_e, eqv_e, wLst, wListOf, F1d, wCallK, dAdd, wAsg, gN, wCallW, wRaw, argS, toSl, endW, F_draw, F__law_draw, c5] using q) ?_
        exact nostr _ rfl (by simp [isNum])
    | int j =>
      refine seqIf_f (fun Q E q => by simpa [wRet, wRetN, wIfS, wSeq, wNext, wT, wTand, wTor, wTnot, wAnd_eq, wOr_eq, wNot, wIsi_int, wIsi_bool, wIsi_str, wIsi_tup, wIsi_lst, tyInt, tyBool, tyStr, tyTup, tyLst, wChain_eq, wOp, wUn, wC, wVar, wCB, wCallP, fLen, wL, wComp, wSeqI, wZip, zipS, wCons, wNil, wTup, allK, argS, endP, noOwn, wipeD, dLe, dLt, dGe, dGt, dCm, dEq, dNe, dIdx, atI_0, atI_1, atI_2, wAsg, gN, gT, gCs, gNs, List.set, dInG, flatD, F1, List.length, limL_eq, shp_i, shp_s, shp_b, shp_n, eqv_ii, eqv_ss, shp_e, eqv_e, wLst, wListOf, F1d, wCallK, dAdd, wAsg, gN, wCallW, wRaw, argS, toSl, endW, F_draw, F__law_draw] using q) ?_
      refine seqIf_f (fun Q E q => by simpa [wRet, wRetN, wIfS, wSeq, wNext, wT, wTand, wTor, wTnot, wAnd_eq, wOr_eq, wNot, wIsi_int, wIsi_bool, wIsi_str, wIsi_tup, wIsi_lst, tyInt, tyBool, tyStr, tyTup, tyLst, wChain_eq, wOp, wUn, wC, wVar, wCB, wCallP, fLen, wL, wComp, wSeqI, wZip, zipS, wCons, wNil, wTup, allK, argS, endP, noOwn, wipeD, dLe, dLt, dGe, dGt, dCm, dEq, dNe, dIdx, atI_0, atI_1, atI_2, wAsg, gN, gT, gCs, gNs, List.set, dInG, flatD, F1, List.length, limL_eq, shp_i, shp_s, shp_b, shp_n, eqv_ii, eqv_ss, shp_e, eqv_e, wLst, wListOf, F1d, wCallK, dAdd, wAsg, gN, wCallW, wRaw, argS, toSl, endW, F_draw, F__law_draw] using q) ?_
      by_cases c : 0 ≤ j ∧ lot < 5
      · refine seqIf_t (fun Q E q => by simpa [wRet, wRetN, wIfS, wSeq, wNext, wT, wTand, wTor, wTnot, wAnd_eq, wOr_eq, wNot, wIsi_int, wIsi_bool, wIsi_str, wIsi_tup, wIsi_lst, tyInt, tyBool, tyStr, tyTup, tyLst, wChain_eq, wOp, wUn, wC, wVar, wCB, wCallP, fLen, wL, wComp, wSeqI, wZip, zipS, wCons, wNil, wTup, allK, argS, endP, noOwn, wipeD, dLe, dLt, dGe, dGt, dCm, dEq, dNe, dIdx, atI_0, atI_1, atI_2, wAsg, gN, gT, gCs, gNs, List.set, dInG, flatD, F1, List.length, limL_eq, shp_i, shp_s, shp_b, shp_n, eqv_ii, eqv_ss, shp_e, eqv_e, wLst, wListOf, F1d, wCallK, dAdd, wAsg, gN, wCallW, wRaw, argS, toSl, endW, F_draw, F__law_draw, F__law_is_number, isNum, c.1, c.2] using q) ?_
        simp only [iB] at hi
        have ok : ∀ m : Int, m.natAbs ≤ 10 ^ 60 + 1 → okI m := fun m hm => by
          unfold okI
          exact Nat.lt_of_le_of_lt hm (by decide)
        have e := int_text_length_le10 (a := j) (k := 76) (by decide) (Nat.lt_of_le_of_lt hi (by decide))
        simp only [wRet, wOp, wL, wLst, wCons, wNil, wVar, wC, wUn, wCB, fStr, dAdd, dI0, dNeg, dEq, shp_i, eqv_ii, allK, List.getElem?_cons_succ, List.getElem?_cons_zero, List.length_cons, List.length_nil, limL_eq]
        refine ⟨ok _ (by omega), ok _ (by omega), trivial, trivial, by omega, ?_⟩
        have lt : lot = 0 ∨ lot = 1 ∨ lot = 2 ∨ lot = 3 ∨ lot = 4 := by omega
        rcases lt with rfl | rfl | rfl | rfl | rfl
        · refine ⟨_, atI_nat (j := 0) rfl, rt _ ⟨?_, ?_, ?_, ?_⟩⟩
          · simp only [wg]; omega
          · simp only [PyData.depth]; omega
          · simp only [iB]; omega
          · simp only [tl]; omega
        · refine ⟨_, atI_nat (j := 1) rfl, rt _ ⟨?_, ?_, ?_, ?_⟩⟩
          · simp only [wg]; omega
          · simp only [PyData.depth]; omega
          · simp only [iB]; omega
          · simp only [tl]; omega
        · refine ⟨_, atI_nat (j := 2) rfl, rt _ ⟨?_, ?_, ?_, ?_⟩⟩
          · simp only [wg]; omega
          · simp only [PyData.depth]; omega
          · simp only [iB]; omega
          · simp only [tl]; omega
        · refine ⟨_, atI_nat (j := 3) rfl, rt _ ⟨?_, ?_, ?_, ?_⟩⟩
          · simp only [wg]; omega
          · simp only [PyData.depth]; omega
          · simp only [iB]; omega
          · simp only [tl]; omega
        · refine ⟨_, atI_nat (j := 4) rfl, rt _ ⟨?_, ?_, ?_, ?_⟩⟩
          · simp only [wg]; rw [ofString_length]; omega
          · simp only [PyData.depth]; omega
          · simp only [iB]; omega
          · simp only [tl]; omega
      · exact nostr _ rfl (fun a b => c ⟨by simpa [isNum] using a, b⟩)
    | _ =>
      refine seqIf_f (fun Q E q => by simpa [wRet, wRetN, wIfS, wSeq, wNext, wT, wTand, wTor, wTnot, wAnd_eq, wOr_eq, wNot, wIsi_int, wIsi_bool, wIsi_str, wIsi_tup, wIsi_lst, tyInt, tyBool, tyStr, tyTup, tyLst, wChain_eq, wOp, wUn, wC, wVar, wCB, wCallP, fLen, wL, wComp, wSeqI, wZip, zipS, wCons, wNil, wTup, allK, argS, endP, noOwn, wipeD, dLe, dLt, dGe, dGt, dCm, dEq, dNe, dIdx, atI_0, atI_1, atI_2, wAsg, gN, gT, gCs, gNs, List.set, dInG, flatD, F1, List.length, limL_eq, shp_i, shp_s, shp_b, shp_n, eqv_ii, eqv_ss, shp_e, eqv_e, wLst, wListOf, F1d, wCallK, dAdd, wAsg, gN, wCallW, wRaw, argS, toSl, endW, F_draw, F__law_draw] using q) ?_
      refine seqIf_f (fun Q E q => by simpa [wRet, wRetN, wIfS, wSeq, wNext, wT, wTand, wTor, wTnot, wAnd_eq, wOr_eq, wNot, wIsi_int, wIsi_bool, wIsi_str, wIsi_tup, wIsi_lst, tyInt, tyBool, tyStr, tyTup, tyLst, wChain_eq, wOp, wUn, wC, wVar, wCB, wCallP, fLen, wL, wComp, wSeqI, wZip, zipS, wCons, wNil, wTup, allK, argS, endP, noOwn, wipeD, dLe, dLt, dGe, dGt, dCm, dEq, dNe, dIdx, atI_0, atI_1, atI_2, wAsg, gN, gT, gCs, gNs, List.set, dInG, flatD, F1, List.length, limL_eq, shp_i, shp_s, shp_b, shp_n, eqv_ii, eqv_ss, shp_e, eqv_e, wLst, wListOf, F1d, wCallK, dAdd, wAsg, gN, wCallW, wRaw, argS, toSl, endW, F_draw, F__law_draw] using q) ?_
      exact nostr _ rfl (by simp [isNum])
  · cases d with
    | tuple xs =>
      cases xs with
      | nil => exact seqIf_f (fun Q E q => by simpa [wRet, wRetN, wIfS, wSeq, wNext, wT, wTand, wTor, wTnot, wAnd_eq, wOr_eq, wNot, wIsi_int, wIsi_bool, wIsi_str, wIsi_tup, wIsi_lst, tyInt, tyBool, tyStr, tyTup, tyLst, wChain_eq, wOp, wUn, wC, wVar, wCB, wCallP, fLen, wL, wComp, wSeqI, wZip, zipS, wCons, wNil, wTup, allK, argS, endP, noOwn, wipeD, dLe, dLt, dGe, dGt, dCm, dEq, dNe, dIdx, atI_0, atI_1, atI_2, wAsg, gN, gT, gCs, gNs, List.set, dInG, flatD, F1, List.length, limL_eq, shp_i, shp_s, shp_b, shp_n, eqv_ii, eqv_ss, shp_e, eqv_e, wLst, wListOf, F1d, wCallK, dAdd, wAsg, gN, wCallW, wRaw, argS, toSl, endW, F_draw, F__law_draw] using q) tail
      | cons x0 r0 =>
        generalize hx : x0 :: r0 = xs at *
        have n0 : 0 < xs.length := by subst hx; simp
        have n0' : (0 : Int) < (xs.length : Int) := by omega
        show wTand _ _ _ _ _ _
        simp only [wTand, wT, wIsi_tup, wVar, tyTup, List.getElem?_cons_succ, List.getElem?_cons_zero, if_true, wOp, wCB, wCons, wNil, allK, fLen, wC, dGt, dCm, decide_eq_true n0']
        refine c_draw rfl ⟨5, rfl, by decide, by decide, fun k k0 k1 => ?_⟩
        have lw := len_wg xs
        simp only [wg, PyData.depth, iB] at hd hw hi
        by_cases c : k > 0
        · simp only [decide_eq_true c, if_true]
          refine seq_of (asg_of (c_draw rfl (cb1_of (var_of rfl ?_))))
          simp only [fLen]
          refine ⟨_, rfl, by omega, by omega, fun j j0 j1 => ?_⟩
          clear tail
          obtain ⟨l, x, r, e, rfl⟩ := split_at j0 j1
          simp only [gN, List.set]
          show wRet _ [.raw (.ref i.1), .d (.tuple xs), .d (.int l.length), .no, .no] _ _
          subst e
          simp only [wgAll_app, depthAll_app, iBall_app, wgAll, PyData.depthAll, iBall, List.length_append, List.length_cons] at hd hw hi lw
          refine ret_of (op_of (op_of ?_))
          simp only [wOp, wSl, oNo, oSome, wVar, List.getElem?_cons_succ, List.getElem?_cons_zero, dSl, wTup, wCons, cut_l]
          refine c_bent rfl (op_of (var_of rfl (var_of rfl ?_)))
          show ∃ z, atI (l ++ x :: r) (l.length : Int) = some z ∧ _
          refine ⟨x, atI_nat (by simp), by omega, by omega, by omega, fun y hy => ?_⟩
          obtain ⟨b1, b2, b3, b4⟩ := hy
          simp only [wNil, allK, dAdd, wC, cut_r1, List.drop_succ_cons, List.drop_zero, List.length_append, List.length_cons, List.length_nil, limL_eq]
          refine ⟨by omega, by omega, okI_small (by omega), by omega, rt _ ⟨?_, ?_, ?_, ?_⟩⟩
          · simp only [wg, wgAll_app, wgAll]; omega
          · simp only [PyData.depth, depthAll_app, PyData.depthAll]; omega
          · simp only [iB, iBall_app, iBall]; omega
          · simp only [tl, List.length_append, List.length_cons, List.length_nil]; omega
        · simp only [decide_eq_false c]
          exact tail
    | _ => exact seqIf_f (fun Q E q => by simpa [wRet, wRetN, wIfS, wSeq, wNext, wT, wTand, wTor, wTnot, wAnd_eq, wOr_eq, wNot, wIsi_int, wIsi_bool, wIsi_str, wIsi_tup, wIsi_lst, tyInt, tyBool, tyStr, tyTup, tyLst, wChain_eq, wOp, wUn, wC, wVar, wCB, wCallP, fLen, wL, wComp, wSeqI, wZip, zipS, wCons, wNil, wTup, allK, argS, endP, noOwn, wipeD, dLe, dLt, dGe, dGt, dCm, dEq, dNe, dIdx, atI_0, atI_1, atI_2, wAsg, gN, gT, gCs, gNs, List.set, dInG, flatD, F1, List.length, limL_eq, shp_i, shp_s, shp_b, shp_n, eqv_ii, eqv_ss, shp_e, eqv_e, wLst, wListOf, F1d, wCallK, dAdd, wAsg, gN, wCallW, wRaw, argS, toSl, endW, F_draw, F__law_draw] using q) tail
theorem ok__law_bent {f : Addr} {fd : FuncData} (Fu : Fun K "_law_bent" "_law_bent" s__law_bent f fd) (hm : mg "_law_bent" = some (.ref f)) (hb : Binds K fd ["_law_feed_here", "_law_item_here"] []) (B : Bt mg) (n : Nat) (D__law_bent : Df P w K mg base CX0 (3 + n) "_law_bent" 2 (spI K (Wf T) 2 (F__law_bent n))) (D__law_draw : Df P w K mg base CX0 1 "_law_draw" 2 (spI K (Wf T) 2 F__law_draw)) (D__law_is_number : Df P w K mg base CX0 1 "_law_is_number" 1 (spP K 1 F__law_is_number)) (D__law_pick : Df P w K mg base CX0 2 "_law_pick" 2 (spI K (Wf T) 2 F__law_pick)) (D__law_strange : Df P w K mg base CX0 3 "_law_strange" 1 (spI K (Wf T) 1 F__law_strange)) : Df P w K mg base CX0 (3 + n + 1) "_law_bent" 2 (spI K (Wf T) 2 (F__law_bent (n + 1))) :=
  ⟨f, fd, ["_law_feed_here", "_law_item_here"], rfl, hm, Fu.kp, hb, fnI (wb := w__law_bent n) Fu sc__law_bent rfl (fun i cdv A outer s H E hG hr => ⟨_,
  (sd_cons (sd_if (td_bool (tw_and (td_val (e_isi (T' := "tuple") B (ed_var 1) (by decide +kernel))) (tw_and (t_gt (e_len B (ad_cons (ed_var 1) ad_nil)) ed_int) (tw_and1 (t_gt (e_callI D__law_draw hG (hr.mono (by omega)) pass00 (ad_raw 0 (ad_cons ed_int ad_nil))) ed_int))))) (sd_cons (sd_set 2 sc__law_bent.nd rfl (by first | exact .inl rfl | exact .inr rfl) (e_callI D__law_draw hG (hr.mono (by omega)) pass00 (ad_raw 0 (ad_cons (e_len B (ad_cons (ed_var 1) ad_nil)) ad_nil))))
  (sd_one (sd_ret (e_add (e_add (e_slice (ed_var 1) od_no (od_some (ed_var 2))) (ed_tup (ad_cons (e_callI D__law_bent hG (hr.mono (by omega)) pass00 (ad_raw 0 (ad_cons (e_ix (ed_var 1) (ed_var 2)) ad_nil))) ad_nil))) (e_slice (ed_var 1) (od_some (e_add (ed_var 2) ed_int)) od_no))))) sd_nil)
  (sd_cons (sd_par 3 4 sc__law_bent.nd rfl rfl (by decide) (ad_cons (e_callI D__law_draw hG (hr.mono (by omega)) pass00 (ad_raw 0 (ad_cons ed_int ad_nil))) (ad_cons (e_callI D__law_strange hG (hr.mono (by omega)) pass00 (ad_raw 0 ad_nil)) ad_nil)))
  (sd_cons (sd_if (td_bool (tw_and (td_val (e_isi (T' := "tuple") B (ed_var 1) (by decide +kernel))) (tw_and1 (t_lt (ed_var 3) ed_int)))) (sd_cons (sd_set 2 sc__law_bent.nd rfl (by first | exact .inl rfl | exact .inr rfl) (e_callI D__law_draw hG (hr.mono (by omega)) pass00 (ad_raw 0 (ad_cons (e_add (e_len B (ad_cons (ed_var 1) ad_nil)) ed_int) ad_nil))))
  (sd_cons (sd_if (t_eq hr (ed_var 3) ed_int) (sd_one (sd_ret (ed_new (f_listOf B (ad_cons (ed_var 1) ad_nil))))) sd_nil)
  (sd_cons (sd_if (t_eq hr (ed_var 3) ed_int) (sd_one (sd_ret (e_add (e_slice (ed_var 1) od_no (od_some (ed_var 2))) (e_slice (ed_var 1) (od_some (e_add (ed_var 2) ed_int)) od_no)))) sd_nil)
  (sd_cons (sd_if (t_eq hr (ed_var 3) ed_int) (sd_one (sd_ret (e_add (e_add (e_slice (ed_var 1) od_no (od_some (ed_var 2))) (e_slice (ed_var 1) (od_some (ed_var 2)) (od_some (e_add (ed_var 2) ed_int)))) (e_slice (ed_var 1) (od_some (ed_var 2)) od_no)))) sd_nil)
  (sd_one (sd_ret (ed_if (t_lt (ed_var 3) ed_int) (e_add (e_add (e_slice (ed_var 1) od_no (od_some (ed_var 2))) (ed_tup (ad_cons (ed_var 4) ad_nil))) (e_slice (ed_var 1) (od_some (ed_var 2)) od_no)) (e_rev (ed_var 1))))))))) sd_nil)
  (sd_cons (sd_if (td_bool (tw_and (td_val (e_isi (T' := "str") B (ed_var 1) (by decide +kernel))) (tw_and1 (t_lt (ed_var 3) ed_int)))) (sd_cons (sd_set 2 sc__law_bent.nd rfl (by first | exact .inl rfl | exact .inr rfl) (e_callI D__law_draw hG (hr.mono (by omega)) pass00 (ad_raw 0 (ad_cons (e_add (e_len B (ad_cons (ed_var 1) ad_nil)) ed_int) ad_nil))))
  (sd_one (sd_ret (e_add (e_add (e_slice (ed_var 1) od_no (od_some (ed_var 2))) (e_callI D__law_pick hG (hr.mono (by omega)) pass00 (ad_raw 0 (ad_cons (ed_new (fd_lst (ad_cons ed_str (ad_cons ed_str (ad_cons ed_str (ad_cons ed_str (ad_cons ed_str (ad_cons ed_str (ad_cons ed_str ad_nil))))))))) ad_nil)))) (e_slice (ed_var 1) (od_some (e_add (ed_var 2) (e_int B (ad_cons (e_gt (ed_var 3) ed_int) ad_nil)))) od_no))))) sd_nil)
  (sd_cons (sd_if (td_bool (tw_and (td_val (e_callP D__law_is_number hG (hr.mono (by omega)) pass00 (ad_cons (ed_var 1) ad_nil))) (tw_and1 (t_lt (ed_var 3) ed_int)))) (sd_one (sd_ret (e_ix (ed_new (fd_lst (ad_cons (e_add (ed_var 1) ed_int) (ad_cons (e_sub (ed_var 1) ed_int) (ad_cons (e_neg (ed_var 1)) (ad_cons (e_eq hr (ed_var 1) ed_int) (ad_cons (e_str B (ad_cons (ed_var 1) ad_nil)) ad_nil))))))) (ed_var 3)))) sd_nil)
  (sd_one (sd_ret (ed_var 4))))))))⟩) (spec__law_bent n)⟩
end
end L07

set_option Elab.async false
set_option linter.all false
set_option autoImplicit false
set_option maxRecDepth 100000
namespace L07
open PySem PySem.Spec Dt
open L2 hiding wT wNot
section
variable {P : Program} {w : World} {K : PySem.W.Frag} {mg : Str → Option Value} {base : Heap} {T : List (Addr × Str)}
/-- at no depth nothing can be bent -/
theorem bent0 {f : Addr} {fd : FuncData} (Fu : Fun K "_law_bent" "_law_bent" s__law_bent f fd) (hm : mg "_law_bent" = some (.ref f)) (hb : Binds K fd ["_law_feed_here", "_law_item_here"] []) : Df P w K mg base CX0 3 "_law_bent" 2 (spI K (Wf T) 2 (F__law_bent 0)) := by
  refine ⟨f, fd, _, rfl, hm, Fu.kp, hb, fnG Fu sc__law_bent (fun vs H Q E h => by obtain ⟨i, h⟩ := h; exact h.1) fun cdv A outer s H vs Q E hG hr h => ?_⟩
  obtain ⟨i, hl, R, as, s1, Qd, Ed, nd, tr, g, ag, hf, _⟩ := h
  obtain ⟨d, _, hd, _⟩ := hf
  exact absurd hd (Nat.not_lt_zero _)
theorem bents {f : Addr} {fd : FuncData} (Fu : Fun K "_law_bent" "_law_bent" s__law_bent f fd) (hm : mg "_law_bent" = some (.ref f)) (hb : Binds K fd ["_law_feed_here", "_law_item_here"] []) (B : Bt mg)
    (Dd : Df P w K mg base CX0 1 "_law_draw" 2 (spI K (Wf T) 2 F__law_draw)) (Dn : Df P w K mg base CX0 1 "_law_is_number" 1 (spP K 1 F__law_is_number)) (Dp : Df P w K mg base CX0 2 "_law_pick" 2 (spI K (Wf T) 2 F__law_pick)) (Ds : Df P w K mg base CX0 3 "_law_strange" 1 (spI K (Wf T) 1 F__law_strange)) : ∀ n : Nat, Df P w K mg base CX0 (3 + n) "_law_bent" 2 (spI K (Wf T) 2 (F__law_bent n))
  | 0 => bent0 Fu hm hb
  | n + 1 => ok__law_bent Fu hm hb B n (bents Fu hm hb B Dd Dn Dp Ds n) Dd Dn Dp Ds
end
end L07

set_option Elab.async false
set_option linter.all false
set_option autoImplicit false
set_option maxRecDepth 100000
set_option maxHeartbeats 1000000
set_option pp.maxSteps 600
namespace L07
open PySem PySem.Spec Dt
open L2 hiding wT wNot
theorem for_of {S : Type} {w : DL S} {g : DG} {b : DS S} {ρ : List Sl} {s : S} {D : DEnds S} (h : w ρ s (fun ds s1 => wLoop g b ds ρ s1 D) fun e s' => D.er e ρ s') : wFor w g b ρ s D := h
theorem app_of {S : Type} {i : Nat} {w : DE S} {ρ : List Sl} {s : S} {D : DEnds S} {p : Addr} {xs : List PyData} (h0 : ρ[i]? = some (.own p xs)) (h : w ρ s (fun d s1 => xs.length < limL ∧ D.nx (ρ.set i (.own p (xs ++ [d]))) s1) fun e s' => D.er e ρ s') : wApp i w ρ s D := by
  unfold wApp
  rw [h0]; exact h
theorem tup_of {S : Type} {w : DA S} {ρ : List Sl} {s : S} {Q : PyData → S → Prop} {E : Er → S → Prop} (h : w ρ s (fun as s1 => allK as fun ds => ds.length ≤ limL ∧ Q (.tuple ds) s1) E) : wTup w ρ s Q E := h
theorem freeze_of {S : Type} {i : Nat} {w : DS S} {ρ : List Sl} {s : S} {D : DEnds S} {p : Addr} {xs : List PyData} (h0 : ρ[i]? = some (.own p xs)) (h : w (ρ.set i (.d (.list xs))) s D) : wFreeze i w ρ s D := by
  unfold wFreeze
  rw [h0]; exact h
theorem rngD_at {n i : Nat} {d : PyData} (h : (rngD 0 n)[i]? = some d) : i < n ∧ d = .int i := by
  unfold rngD at h
  rw [List.getElem?_map] at h
  by_cases c : i < n
  · rw [List.getElem?_range c] at h
    simp at h
    exact ⟨c, h.symm⟩
  · rw [List.getElem?_eq_none (by simpa using c)] at h
    cases h
theorem nz_w {W D I : Nat} {d : PyData} (h : nz W D I d = true) : wg d ≤ W ∧ PyData.depth d ≤ D ∧ iB d ≤ I := by
  unfold nz at h
  simpa only [Bool.and_eq_true, decide_eq_true_eq] using h
theorem all_nz {W D I : Nat} : ∀ {xs : List PyData}, (∀ x ∈ xs, nz W D I x = true) → wgAll xs ≤ xs.length * (W + 2) ∧ PyData.depthAll xs ≤ D ∧ iBall xs ≤ I
  | [], _ => by simp [wgAll, PyData.depthAll, iBall]
  | x :: xs, h => by
    obtain ⟨a1, a2, a3⟩ := nz_w (h x List.mem_cons_self)
    obtain ⟨b1, b2, b3⟩ := all_nz fun y hy => h y (List.mem_cons_of_mem _ hy)
    simp only [wgAll, PyData.depthAll, iBall, List.length_cons]
    rw [Nat.add_mul, Nat.one_mul]
    omega
theorem ifS_any {t : DT Unit} {a b : DS Unit} {ρ : List Sl} {D : DEnds Unit} (h : ∀ (Q : Bool → Unit → Prop) (E : Er → Unit → Prop), (∀ c, Q c ()) → t ρ () Q E) (ka : a ρ () D) (kb : b ρ () D) : wIfS t a b ρ () D := h _ _ fun c => by
  cases c with
  | true => rw [if_pos rfl]; exact ka
  | false => rw [if_neg (by decide)]; exact kb
theorem t_of {S : Type} {w : DE S} {ρ : List Sl} {s : S} {Q : Bool → S → Prop} {E : Er → S → Prop} (h : w ρ s (fun x s1 => match x with | .bool b => Q b s1 | _ => False) E) : wT w ρ s Q E := h
theorem tand_of {S : Type} {wa wb : DT S} {ρ : List Sl} {s : S} {Q : Bool → S → Prop} {E : Er → S → Prop} (h : wa ρ s (fun b s1 => if b = true then wb ρ s1 Q E else Q false s1) E) : wTand wa wb ρ s Q E := h
theorem tor_of {S : Type} {wa wb : DT S} {ρ : List Sl} {s : S} {Q : Bool → S → Prop} {E : Er → S → Prop} (h : wa ρ s (fun b s1 => if b = true then Q true s1 else wb ρ s1 Q E) E) : wTor wa wb ρ s Q E := h
theorem eqI_of {i j : Int} {Q : PyData → Prop} (h : Q (.bool (decide (i = j)))) : dEq (.int i) (.int j) Q := ⟨shp_i _, shp_i _, by rw [eqv_ii]; exact h⟩
theorem both_if {c : Prop} [Decidable c] {a b : Prop} (ha : a) (hb : b) : if c then a else b := by split <;> assumption
theorem ss_of {S : Type} {w : DE S} {ρ : List Sl} {s : S} {Q : List PyData → S → Prop} {E : Er → S → Prop} (h : w ρ s (fun d s1 => intsOf d fun ns => ns.length ≤ 4000 ∧ ∀ ms : List Int, ms.Pairwise (· < ·) → (∀ k, k ∈ ms ↔ k ∈ ns) → Q (ms.map PyData.int) s1) E) : wSortedSet w ρ s Q E := h
theorem setF_of {S : Type} {i : Nat} {w : DL S} {ρ : List Sl} {s : S} {D : DEnds S} (h : w ρ s (fun ds s1 => ∀ p, D.nx (ρ.set i (.own p ds)) s1) fun e s' => D.er e ρ s') : wSetF i w ρ s D := h
theorem lst_of {S : Type} {w : DA S} {ρ : List Sl} {s : S} {Q : List PyData → S → Prop} {E : Er → S → Prop} (h : w ρ s (fun as s1 => allK as fun ds => ds.length ≤ limL ∧ Q ds s1) E) : wLst w ρ s Q E := h
/-- a whole number from 0 to m -/
def IntTo (m : Int) (y : PyData) : Prop := ∃ k : Int, y = .int k ∧ 0 ≤ k ∧ k ≤ m
theorem ints_to {m : Int} : ∀ {ys : List PyData}, (∀ y ∈ ys, IntTo m y) → ∃ ns : List Int, ys = ns.map PyData.int ∧ ns.length = ys.length ∧ ∀ k ∈ ns, 0 ≤ k ∧ k ≤ m
  | [], _ => ⟨[], rfl, rfl, fun k h => by cases h⟩
  | y :: ys, h => by
    obtain ⟨k, rfl, m0, m1⟩ := h y List.mem_cons_self
    obtain ⟨ns, rfl, l, hn⟩ := ints_to fun z hz => h z (List.mem_cons_of_mem _ hz)
    refine ⟨k :: ns, rfl, by simp, fun j hj => ?_⟩
    rcases List.mem_cons.mp hj with e | hj
    · rw [e]; exact ⟨m0, m1⟩
    · exact hn j hj
theorem repr3_ok {d : PyData} {Q : PyData → Prop} (h2 : d.depth ≤ 60) (h3 : wg d ≤ limL) (h : Q (.str d.shown)) : fRepr3 [d] Q := ⟨h2, h3, h⟩
theorem eq_self (x : Str) {Q : PyData → Prop} (h : Q (.bool true)) : dEq (.str x) (.str x) Q := ⟨rfl, rfl, by rw [eqv_ss, decide_eq_true rfl]; exact h⟩
theorem ne_self (x : Str) {Q : PyData → Prop} (h : Q (.bool false)) : dNe (.str x) (.str x) Q := ⟨rfl, rfl, by rw [eqv_ss, decide_eq_true rfl]; exact h⟩
theorem callP1 {S : Type} {f : List PyData → (PyData → Prop) → (Er → Prop) → Prop} {w : DE S} {ρ : List Sl} {s : S} {Q : PyData → S → Prop} {E : Er → S → Prop} (h : w ρ s (fun x s1 => f [x] (fun d => Q d s1) fun e => E e s1) E) : wCallP f (wCons w wNil) ρ s Q E := h
theorem un_of {S : Type} {f : PyData → (PyData → Prop) → Prop} {w : DE S} {ρ : List Sl} {s : S} {Q : PyData → S → Prop} {E : Er → S → Prop} (h : w ρ s (fun d s1 => f d fun z => Q z s1) E) : wUn f w ρ s Q E := h
def toldD (d : PyData) : PyData := .tuple [.str "told", d]
theorem tells_nu {cNU cIP cIT : Addr} {wd : Str} {k : PyData} : TellsEr cNU cIP cIT (nuE cNU wd k) (nuD wd k) := ⟨.str wd, k, .inl ⟨rfl, rfl⟩⟩
theorem num_int {d : PyData} (h : isNum d = true) : ∃ i : Int, d = .int i := by
  cases d <;> first | exact ⟨_, rfl⟩ | exact absurd h (by simp [isNum])
theorem elems_wg (p : PyData) : (elemsD p).length ≤ wg p := by
  cases p with
  | tuple ys =>
    have := len_wg ys
    simp only [elemsD, wg]; omega
  | _ => simp [elemsD]
theorem c_drawN {j : Nat} {i : Ix} {w : DE Unit} {ρ : List Sl} {s : Unit} {Q : PyData → Unit → Prop} {E : Er → Unit → Prop} (h0 : ρ[j]? = some (.raw (.ref i.1)))
    (hw : w ρ s (fun d _ => DrawOk d Q) E) : wCallW (fun as s Q E => as.length = 2 ∧ F_draw i as s Q E) (wRaw j (wCons w wNil)) ρ s Q E := by
  have e : wCallW (fun as s Q E => as.length = 2 ∧ F_draw i as s Q E) (wRaw j (wCons w wNil)) ρ s Q E = w ρ s (fun d _ => DrawOk d Q) E := by
    unfold wCallW wRaw
    rw [h0]
    show w ρ s (fun x s1 => ([Ag.raw (.ref i.1), Ag.d x].length = 2 ∧ F_draw i [.raw (.ref i.1), .d x] s1 Q E)) E = _
    congr 1
    funext x s1
    apply propext
    constructor
    · rintro ⟨_, n, h1, h2⟩
      injection h1 with _ h1
      injection h1 with h1 _
      injection h1 with h1
      exact ⟨n, h1, h2⟩
    · rintro ⟨n, rfl, h2⟩
      exact ⟨rfl, n, rfl, h2⟩
  rw [e]; exact hw
theorem c_bentN {j n : Nat} {i : Ix} {w : DE Unit} {ρ : List Sl} {s : Unit} {Q : PyData → Unit → Prop} {E : Er → Unit → Prop} (h0 : ρ[j]? = some (.raw (.ref i.1)))
    (hw : w ρ s (fun d _ => PyData.depth d < n ∧ wg d ≤ 100000 ∧ iB d ≤ 10 ^ 60 ∧ ∀ y, Bent d y → Q y ()) E) : wCallW (fun as s Q E => as.length = 2 ∧ F__law_bent n i as s Q E) (wRaw j (wCons w wNil)) ρ s Q E := by
  have e : wCallW (fun as s Q E => as.length = 2 ∧ F__law_bent n i as s Q E) (wRaw j (wCons w wNil)) ρ s Q E = w ρ s (fun d _ => PyData.depth d < n ∧ wg d ≤ 100000 ∧ iB d ≤ 10 ^ 60 ∧ ∀ y, Bent d y → Q y ()) E := by
    unfold wCallW wRaw
    rw [h0]
    show w ρ s (fun x s1 => ([Ag.raw (.ref i.1), Ag.d x].length = 2 ∧ F__law_bent n i [.raw (.ref i.1), .d x] s1 Q E)) E = _
    congr 1
    funext x s1
    apply propext
    constructor
    · rintro ⟨_, d, h1, h2⟩
      injection h1 with _ h1
      injection h1 with h1 _
      injection h1 with h1
      subst h1
      exact h2
    · intro h2
      exact ⟨rfl, x, rfl, h2⟩
  rw [e]; exact hw
theorem ext_of {S : Type} {i : Nat} {w : DL S} {ρ : List Sl} {s : S} {D : DEnds S} {p : Addr} {xs : List PyData} (h0 : ρ[i]? = some (.own p xs)) (h : w ρ s (fun ds s1 => (xs ++ ds).length ≤ limL ∧ D.nx (ρ.set i (.own p (xs ++ ds))) s1) fun e s' => D.er e ρ s') : wExt i w ρ s D := by
  unfold wExt
  rw [h0]; exact h
theorem seqI_of {S : Type} {w : DE S} {ρ : List Sl} {s : S} {Q : List PyData → S → Prop} {E : Er → S → Prop} (h : w ρ s (fun d s1 => seqOf d fun ds => Q ds s1) E) : wSeqI w ρ s Q E := h
theorem seq_gen {S : Type} {a v : DS S} {ρ : List Sl} {s : S} {D : DEnds S} (h : ∀ D' : DEnds S, (∀ ρ' s', v ρ' s' D → D'.nx ρ' s') → a ρ s D') : wSeq a v ρ s D := h _ fun _ _ q => q
theorem cut_few {α : Type} {xs : List α} {lo : Option Int} {n : Nat} : (cutD xs lo (some (n : Int))).length ≤ n := by
  unfold cutD
  rw [HT.sIx_nat, List.length_take]
  omega
theorem cut_mem {α : Type} {xs : List α} {lo hi : Option Int} {x : α} (h : x ∈ cutD xs lo hi) : x ∈ xs := by
  unfold cutD at h
  exact List.mem_of_mem_drop (List.mem_of_mem_take h)
theorem nil_of {S : Type} {ρ : List Sl} {s : S} {Q : List Ag → S → Prop} {E : Er → S → Prop} (h : Q [] s) : wNil ρ s Q E := h
theorem few_lim {n : Nat} (h : n ≤ 1000) : n ≤ limL := by rw [limL_eq]; omega
theorem len_tup {xs : List PyData} {Q : PyData → Prop} (h : Q (.int xs.length)) : fLen [.tuple xs] Q := h
theorem dAddI {i j : Int} {Q : PyData → Prop} (h1 : okI (i + j)) (h : Q (.int (i + j))) : dAdd (.int i) (.int j) Q := ⟨h1, h⟩
theorem ownIx_of {S : Type} {i : Nat} {w : DE S} {ρ : List Sl} {s : S} {Q : PyData → S → Prop} {E : Er → S → Prop} {p : Addr} {xs : List PyData} (h0 : ρ[i]? = some (.own p xs)) (h : w ρ s (fun d s1 => match d with
    | .int j => ∃ z, atI xs j = some z ∧ Q z s1
    | _ => False) E) : wOwnIx i w ρ s Q E := by
  unfold wOwnIx
  rw [h0]; exact h
theorem tnot_of {S : Type} {wa : DT S} {ρ : List Sl} {s : S} {Q : Bool → S → Prop} {E : Er → S → Prop} (h : wa ρ s (fun b s1 => Q (!b) s1) E) : wTnot wa ρ s Q E := h
theorem if_of {S : Type} {wc : DT S} {wa wb : DE S} {ρ : List Sl} {s : S} {Q : PyData → S → Prop} {E : Er → S → Prop} (h : wc ρ s (fun b s1 => if b = true then wa ρ s1 Q E else wb ρ s1 Q E) E) : wIf wc wa wb ρ s Q E := h
theorem ifS_f {t : DT Unit} {a : DS Unit} {ρ : List Sl} {D : DEnds Unit} (h : ∀ (Q : Bool → Unit → Prop) (E : Er → Unit → Prop), Q false () → t ρ () Q E) (k : D.nx ρ ()) : wIfS t a wNext ρ () D := h _ _ (by rw [if_neg (by decide)]; exact k)
theorem last_of {xs : List PyData} (h : xs ≠ []) : ∃ z, atI xs (-1) = some z ∧ z ∈ xs := by
  obtain ⟨l, z, rfl⟩ : ∃ l z, xs = l ++ [z] := ⟨_, _, (List.dropLast_concat_getLast h).symm⟩
  exact ⟨z, atI_last _ _, by simp⟩
theorem c_pickN {j : Nat} {i : Ix} {w : DE Unit} {ρ : List Sl} {s : Unit} {Q : PyData → Unit → Prop} {E : Er → Unit → Prop} (h0 : ρ[j]? = some (.raw (.ref i.1)))
    (hw : w ρ s (fun d _ => PickOk d Q) E) : wCallW (fun as s Q E => as.length = 2 ∧ F__law_pick i as s Q E) (wRaw j (wCons w wNil)) ρ s Q E := by
  have e : wCallW (fun as s Q E => as.length = 2 ∧ F__law_pick i as s Q E) (wRaw j (wCons w wNil)) ρ s Q E = w ρ s (fun d _ => PickOk d Q) E := by
    unfold wCallW wRaw
    rw [h0]
    show w ρ s (fun x s1 => ([Ag.raw (.ref i.1), Ag.d x].length = 2 ∧ F__law_pick i [.raw (.ref i.1), .d x] s1 Q E)) E = _
    congr 1
    funext x s1
    apply propext
    constructor
    · rintro ⟨_, d, ys, h1, h2⟩
      injection h1 with _ h1
      injection h1 with h1 _
      injection h1 with h1
      subst h1
      exact ⟨ys, h2⟩
    · rintro ⟨ys, h2⟩
      exact ⟨rfl, x, ys, rfl, h2⟩
  rw [e]; exact hw
theorem callP4 {S : Type} {f : List PyData → (PyData → Prop) → (Er → Prop) → Prop} {w1 w2 w3 w4 : DE S} {ρ : List Sl} {s : S} {Q : PyData → S → Prop} {E : Er → S → Prop} (h : w1 ρ s (fun a s1 => w2 ρ s1 (fun b s2 => w3 ρ s2 (fun c s3 => w4 ρ s3 (fun d s4 => f [a, b, c, d] (fun z => Q z s4) fun e => E e s4) E) E) E) E) : wCallP f (wCons w1 (wCons w2 (wCons w3 (wCons w4 wNil)))) ρ s Q E := h
def Few (d : PyData) : Prop := wg d ≤ 200 ∧ PyData.depth d ≤ 3
theorem wgAll_take : ∀ (n : Nat) (xs : List PyData), wgAll (xs.take n) ≤ wgAll xs ∧ PyData.depthAll (xs.take n) ≤ PyData.depthAll xs
  | 0, xs => by simp [wgAll, PyData.depthAll]
  | n + 1, [] => by simp [wgAll, PyData.depthAll]
  | n + 1, x :: xs => by
    obtain ⟨a, b⟩ := wgAll_take n xs
    simp only [List.take_succ_cons, wgAll, PyData.depthAll]
    omega
theorem wgAll_drop : ∀ (n : Nat) (xs : List PyData), wgAll (xs.drop n) ≤ wgAll xs ∧ PyData.depthAll (xs.drop n) ≤ PyData.depthAll xs
  | 0, xs => ⟨Nat.le_refl _, Nat.le_refl _⟩
  | n + 1, [] => by simp [wgAll, PyData.depthAll]
  | n + 1, x :: xs => by
    obtain ⟨a, b⟩ := wgAll_drop n xs
    simp only [List.drop_succ_cons, wgAll, PyData.depthAll]
    omega
theorem wgAll_cut {xs : List PyData} {lo hi : Option Int} : wgAll (cutD xs lo hi) ≤ wgAll xs ∧ PyData.depthAll (cutD xs lo hi) ≤ PyData.depthAll xs := by
  unfold cutD
  obtain ⟨a, b⟩ := wgAll_take (HT.sIx xs.length xs.length hi - HT.sIx xs.length 0 lo) (xs.drop (HT.sIx xs.length 0 lo))
  obtain ⟨c, d⟩ := wgAll_drop (HT.sIx xs.length 0 lo) xs
  omega
theorem elems_all (r : PyData) : wgAll (elemsD r) ≤ wg r ∧ PyData.depthAll (elemsD r) ≤ PyData.depth r := by
  cases r with
  | tuple xs => simp only [elemsD, wg, PyData.depth]; omega
  | _ => simp [elemsD, wgAll, PyData.depthAll]
def Tx (d : PyData) : Prop := PyData.depth d ≤ 30 ∧ wg d ≤ 100000
def Md (d : PyData) : Prop := wg d ≤ 500000 ∧ PyData.depth d ≤ 50
theorem nu_small {wd : Str} {k : PyData} (h : wd.length ≤ 6) (hk : Few k) : Md (nuD wd k) := by
  have h1 : ("NotUsable" : Str).length = 9 := by decide +kernel
  obtain ⟨a, b⟩ := hk
  unfold nuD Md
  simp only [wg, wgAll, PyData.depth, PyData.depthAll, h1]
  omega
theorem few_int {i : Int} : Few (.int i) := by
  constructor
  · simp only [wg]; omega
  · simp only [PyData.depth]; omega
theorem told_md {xs : List PyData} (h1 : wgAll xs ≤ 450000) (h2 : PyData.depthAll xs ≤ 40) : Md (.tuple [.str "told", .tuple xs]) := by
  have t1 : ("told" : Str).length = 4 := by decide +kernel
  unfold Md
  simp only [wg, wgAll, PyData.depth, PyData.depthAll, t1]
  omega
theorem callP3 {S : Type} {f : List PyData → (PyData → Prop) → (Er → Prop) → Prop} {w1 w2 w3 : DE S} {ρ : List Sl} {s : S} {Q : PyData → S → Prop} {E : Er → S → Prop} (h : w1 ρ s (fun a s1 => w2 ρ s1 (fun b s2 => w3 ρ s2 (fun c s3 => f [a, b, c] (fun z => Q z s3) fun e => E e s3) E) E) E) : wCallP f (wCons w1 (wCons w2 (wCons w3 wNil))) ρ s Q E := h
theorem callP2 {S : Type} {f : List PyData → (PyData → Prop) → (Er → Prop) → Prop} {w1 w2 : DE S} {ρ : List Sl} {s : S} {Q : PyData → S → Prop} {E : Er → S → Prop} (h : w1 ρ s (fun a s1 => w2 ρ s1 (fun b s2 => f [a, b] (fun z => Q z s2) fun e => E e s2) E) E) : wCallP f (wCons w1 (wCons w2 wNil)) ρ s Q E := h
theorem fault_none {xs : List PyData} (h : ∀ x ∈ xs, isRow x = true) : rowsFault (.tuple xs) = none := by
  show ((xs.findIdx? fun x => !isRow x).map fun k => (k : Int)) = none
  have e : xs.findIdx? (fun x => !isRow x) = none := List.findIdx?_eq_none_iff.mpr fun x hx => by simp [h x hx]
  rw [e]; rfl
theorem ints_wg (ns : List Nat) : PyData.depthAll (ns.map fun k : Nat => PyData.int (k : Int)) ≤ 1 ∧ wgAll (ns.map fun k : Nat => PyData.int (k : Int)) = 82 * ns.length := by
  induction ns with
  | nil => simp [PyData.depthAll, wgAll]
  | cons n r ih => simp only [List.map_cons, PyData.depthAll, PyData.depth, wgAll, wg, List.length_cons]; omega
theorem len0 {s : Str} (h : s.length = 0) : s = "" := by
  have e : s.cps = #[] := Array.size_eq_zero_iff.mp h
  cases s; simp only at e; subst e; rfl
theorem kind_word {a : Str} (h : isKind (.str a) = true) : Word (.str a) := by
  have h : (isName (.str a) || decide (a.length = 0)) = true := h
  rw [Bool.or_eq_true] at h
  rcases h with h | h
  · exact nm_word h
  · exact ⟨a, rfl, by have := of_decide_eq_true h; omega⟩
theorem row_good {x : PyData} (h : RowK x) : GoodRow x := by
  have hr := rowK_row h
  cases h with
  | @one w c => exact good1 ⟨w, rfl, by rcases c with rfl | rfl <;> decide +kernel⟩ hr
  | @name w a b c ha hb => exact good3 ⟨w, rfl, by rcases c with rfl | rfl <;> decide +kernel⟩ (nm_word ha) (nm_word hb) hr
  | @give a ha => exact good2 ⟨_, rfl, by decide +kernel⟩ (kind_word ha) hr
  | @opn a c => exact good2 ⟨_, rfl, by decide +kernel⟩ ⟨a, rfl, by rcases c with rfl | rfl <;> decide +kernel⟩ hr
  | @fn a ha => exact good2t ⟨_, rfl, by decide +kernel⟩ ⟨_, rfl, by decide +kernel⟩ (kind_word ha) hr
/-- a map that keeps names names and leaves "" -/
structure KeepN (f : Str → Str) : Prop where
  nm : ∀ s, isName (.str s) = true → isName (.str (f s)) = true
  no : f "" = ""
theorem KeepN.kind {f : Str → Str} (h : KeepN f) {s : Str} (k : isKind (.str s) = true) : isKind (.str (f s)) = true := by
  have k2 : (isName (.str s) || decide (s.length = 0)) = true := k
  rw [Bool.or_eq_true] at k2
  rcases k2 with k2 | k2
  · exact kind_nm (h.nm s k2)
  · have e : s = "" := len0 (of_decide_eq_true k2)
    subst e
    rw [h.no]; exact k
theorem turn_rowK {f : Str → Str} (h : KeepN f) (b : Bool) {x : PyData} (hx : RowK x) : RowK (turnR b f x) := by
  cases hx with
  | @one w c => exact .one c
  | @name w a m c ha hb =>
    cases b with
    | true => exact .name c ha (h.nm _ hb)
    | false => exact .name c (h.nm _ ha) hb
  | @give a ha =>
    show RowK (if b = true ∧ ("give" : Str) = "give" then _ else _)
    split
    · exact .give (h.kind ha)
    · exact .give ha
  | @opn a c =>
    show RowK (if b = true ∧ ("open" : Str) = "give" then _ else _)
    rw [if_neg fun z => absurd z.2 (by decide +kernel)]
    exact .opn c
  | @fn a ha =>
    show RowK (if b = true then _ else _)
    split
    · exact .fn (h.kind ha)
    · exact .fn ha
theorem late_keep {ps : List (Str × Str)} (h : ∀ p ∈ ps, isName (.str p.1) = true ∧ isName (.str p.2) = true) : KeepN (late ps) := by
  refine ⟨fun s hs => ?_, ?_⟩
  · unfold late
    cases e : ps.find? fun p => decide (p.1 = s) with
    | none => exact hs
    | some p => exact (h p (List.mem_of_find?_eq_some e)).2
  · unfold late
    have e : ps.find? (fun p => decide (p.1 = ("" : Str))) = none := List.find?_eq_none.mpr fun p hp => by simpa using nm_ne (h p hp).1
    rw [e]; rfl
theorem few_nm {a : Str} (h : isName (.str a) = true) : Few (.str a) := by
  obtain ⟨t, e, hl⟩ := nm_word (x := .str a) h
  injection e with e
  subst e
  constructor
  · simp only [wg]; omega
  · simp only [PyData.depth]; omega
theorem scan_inl : ∀ (ls : List PyData) (k : Nat) (ps : List (Str × Str)) (w : Str) (x : PyData), scan ls k ps = .inl (w, x) → (w = "pairs" ∨ w = "name") ∧ Few x
  | [], k, ps, w, x, h => by cases h
  | d :: ls, k, ps, w, x, h => by
    by_cases c : ∃ a b, d = .tuple [.str a, .str b] ∧ isName (.str a) = true ∧ isName (.str b) = true
    · obtain ⟨a, b, rfl, ha, hb⟩ := c
      rw [scan_ok ha hb] at h
      split at h
      · injection h with h
        injection h with h1 h2
        subst h1 h2
        exact ⟨.inr rfl, few_nm ha⟩
      · exact scan_inl ls _ _ _ _ h
    · rw [scan_odd (fun a b e => by
        by_cases ca : isName (.str a) = true
        · by_cases cb : isName (.str b) = true
          · exact absurd ⟨a, b, e, ca, cb⟩ c
          · rw [eq_false_of_ne_true cb, Bool.and_false]
        · rw [eq_false_of_ne_true ca, Bool.false_and])] at h
      injection h with h
      injection h with h1 h2
      subst h1 h2
      exact ⟨.inl rfl, few_int⟩
theorem turn_due {cNU cIP cIT : Addr} {b : Bool} {d : PyData} {ls : List PyData} {Q : PyData → Prop} (h : Q (dueT b d ls)) : turnW cNU b d ls (fun x => Q (.tuple [.str "told", x])) (fun e => ∃ y, TellsEr cNU cIP cIT e y ∧ Q y) := by
  unfold turnW
  unfold dueT at h
  cases e : rowsFault d with
  | some k => rw [e] at h; exact ⟨_, tells_nu, h⟩
  | none =>
    rw [e] at h
    dsimp only at h ⊢
    cases es : scan ls 0 [] with
    | inl z =>
      rw [es] at h
      exact ⟨_, tells_nu, h⟩
    | inr ps =>
      rw [es] at h
      exact h
section
variable {P : Program} {w : World} {K : PySem.W.Frag} {mg : Str → Option Value} {base : Heap} {T : List (Addr × Str)} {cNU cIP cIT : Addr}
/-! ## _law_renamed -/
abbrev s__law_renamed : Stmt := top 48
theorem sc__law_renamed : FnScope ["_law_page_here", "_law_lot"] ["_law_page_here", "_law_lot"] (defScope s__law_renamed) := ⟨rfl, rfl, rfl, by decide +kernel, rfl, by decide +kernel, by decide +kernel⟩
abbrev F__law_renamed (cNU : Addr) : List PyData → (PyData → Prop) → (Er → Prop) → Prop := fun ds Q E => match ds with
  | [d, .list ls] => ls.length ≤ 4 ∧ shp (.list ls) = true ∧ (elemsD d).length ≤ 100000 ∧ turnW cNU false d ls Q E
  | _ => False
def w__law_renamed (cNU : Addr) : DS Unit :=
  (wSeq (wIfS (wT (wOp dLt (wCB fLen (wCons (wVar 1) wNil)) (wC (.int 2)))) (wRet (wIf (wT (wOp dEq (wVar 1) (wL (wLst wNil)))) (wCallP (starF 1 (F_renamed cNU)) (wCons (wVar 0) wNil)) (wCallP (starF 1 (F_renamed cNU)) (wCons (wVar 0) (wCons (wOp dIdx (wVar 1) (wC (.int 0))) wNil))))) wNext)
  (wSeq (wIfS (wT (wOp dEq (wCB fLen (wCons (wVar 1) wNil)) (wC (.int 2)))) (wRet (wCallP (starF 1 (F_renamed cNU)) (wCons (wVar 0) (wCons (wOp dIdx (wVar 1) (wC (.int 0))) (wCons (wOp dIdx (wVar 1) (wC (.int 1))) wNil))))) wNext)
  (wRet (wIf (wT (wOp dEq (wCB fLen (wCons (wVar 1) wNil)) (wC (.int 3)))) (wCallP (starF 1 (F_renamed cNU)) (wCons (wVar 0) (wCons (wOp dIdx (wVar 1) (wC (.int 0))) (wCons (wOp dIdx (wVar 1) (wC (.int 1))) (wCons (wOp dIdx (wVar 1) (wC (.int 2))) wNil))))) (wCallP (starF 1 (F_renamed cNU)) (wCons (wVar 0) (wCons (wOp dIdx (wVar 1) (wC (.int 0))) (wCons (wOp dIdx (wVar 1) (wC (.int 1))) (wCons (wOp dIdx (wVar 1) (wC (.int 2))) (wCons (wOp dIdx (wVar 1) (wC (.int 3))) wNil))))))))))
theorem callP5 {S : Type} {f : List PyData → (PyData → Prop) → (Er → Prop) → Prop} {w1 w2 w3 w4 w5 : DE S} {ρ : List Sl} {s : S} {Q : PyData → S → Prop} {E : Er → S → Prop} (h : w1 ρ s (fun a s1 => w2 ρ s1 (fun b s2 => w3 ρ s2 (fun c s3 => w4 ρ s3 (fun d s4 => w5 ρ s4 (fun e s5 => f [a, b, c, d, e] (fun z => Q z s5) fun e => E e s5) E) E) E) E) E) : wCallP f (wCons w1 (wCons w2 (wCons w3 (wCons w4 (wCons w5 wNil))))) ρ s Q E := h
theorem len_is {xs : List PyData} {Q : PyData → Prop} {n : Int} (e : (xs.length : Int) = n) (h : Q (.int n)) : fLen [.list xs] Q := by
  subst e; exact h
theorem neq_nil {xs : List PyData} (hs : shp (.list xs) = true) {Q : PyData → Prop} (h : Q (.bool xs.isEmpty)) : dEq (.list xs) (.list []) Q := by
  refine ⟨hs, by decide +kernel, ?_⟩
  have e : PyData.eqv (.list xs) (.list []) = xs.isEmpty := by cases xs <;> rfl
  rw [e]; exact h
theorem spec__law_renamed (cNU : Addr) : ∀ ds Qd Ed, ds.length = 2 → F__law_renamed cNU ds Qd Ed → w__law_renamed cNU (argS 2 2 (ds.map Sl.d)) () (endP Qd Ed) := by
  intro ds Qd Ed hl h
  match ds, hl, h with
  | [d, .list ls], _, h =>
    obtain ⟨hn, hs, hz, h⟩ := h
    unfold w__law_renamed
    show wSeq _ _ [.d d, .d (.list ls)] () _
    match ls, hn, hs, h with
    | [], _, hs, h =>
      refine seqIf_t (fun Q E q => Dt.t_of (Dt.op_of (Dt.cb1_of (Dt.var_of rfl (len_is (n := 0) rfl (Dt.c_of q)))))) ?_
      refine Dt.ret_of (Dt.if_of (Dt.t_of (Dt.op_of (Dt.var_of rfl (Dt.l_of (Dt.lst_of (Dt.nil_of ⟨Dt.few_lim (by simp), neq_nil hs ?_⟩)))))))
      show if true = true then _ else _
      rw [if_pos rfl]
      exact Dt.callP1 (Dt.var_of rfl ⟨by simp, Dt.few_lim (by simp), by simp, hz, h⟩)
    | [a], _, hs, h =>
      refine seqIf_t (fun Q E q => Dt.t_of (Dt.op_of (Dt.cb1_of (Dt.var_of rfl (len_is (n := 1) rfl (Dt.c_of q)))))) ?_
      refine Dt.ret_of (Dt.if_of (Dt.t_of (Dt.op_of (Dt.var_of rfl (Dt.l_of (Dt.lst_of (Dt.nil_of ⟨Dt.few_lim (by simp), neq_nil hs ?_⟩)))))))
      show if false = true then _ else _
      rw [if_neg (by decide)]
      exact Dt.callP2 (Dt.var_of rfl (Dt.op_of (Dt.var_of rfl (Dt.c_of ⟨_, atI_0, by simp, Dt.few_lim (by simp), by simp, hz, h⟩))))
    | [a, b], _, hs, h =>
      refine seqIf_f (fun Q E q => Dt.t_of (Dt.op_of (Dt.cb1_of (Dt.var_of rfl (len_is (n := 2) rfl (Dt.c_of q)))))) ?_
      refine seqIf_t (fun Q E q => Dt.t_of (Dt.op_of (Dt.cb1_of (Dt.var_of rfl (len_is (n := 2) rfl (Dt.c_of (Dt.eqI_of q))))))) ?_
      exact Dt.ret_of (Dt.callP3 (Dt.var_of rfl (Dt.op_of (Dt.var_of rfl (Dt.c_of ⟨_, atI_0, Dt.op_of (Dt.var_of rfl (Dt.c_of ⟨_, atI_1, by simp, Dt.few_lim (by simp), by simp, hz, h⟩))⟩)))))
    | [a, b, c], _, hs, h =>
      refine seqIf_f (fun Q E q => Dt.t_of (Dt.op_of (Dt.cb1_of (Dt.var_of rfl (len_is (n := 3) rfl (Dt.c_of q)))))) ?_
      refine seqIf_f (fun Q E q => Dt.t_of (Dt.op_of (Dt.cb1_of (Dt.var_of rfl (len_is (n := 3) rfl (Dt.c_of (Dt.eqI_of q))))))) ?_
      refine Dt.ret_of (Dt.if_of (Dt.t_of (Dt.op_of (Dt.cb1_of (Dt.var_of rfl (len_is (n := 3) rfl (Dt.c_of (Dt.eqI_of ?_))))))))
      show if true = true then _ else _
      rw [if_pos rfl]
      exact Dt.callP4 (Dt.var_of rfl (Dt.op_of (Dt.var_of rfl (Dt.c_of ⟨_, atI_0, Dt.op_of (Dt.var_of rfl (Dt.c_of ⟨_, atI_1, Dt.op_of (Dt.var_of rfl (Dt.c_of ⟨_, atI_2, by simp, Dt.few_lim (by simp), by simp, hz, h⟩))⟩))⟩))))
    | [a, b, c, e], _, hs, h =>
      refine seqIf_f (fun Q E q => Dt.t_of (Dt.op_of (Dt.cb1_of (Dt.var_of rfl (len_is (n := 4) rfl (Dt.c_of q)))))) ?_
      refine seqIf_f (fun Q E q => Dt.t_of (Dt.op_of (Dt.cb1_of (Dt.var_of rfl (len_is (n := 4) rfl (Dt.c_of (Dt.eqI_of q))))))) ?_
      refine Dt.ret_of (Dt.if_of (Dt.t_of (Dt.op_of (Dt.cb1_of (Dt.var_of rfl (len_is (n := 4) rfl (Dt.c_of (Dt.eqI_of ?_))))))))
      show if false = true then _ else _
      rw [if_neg (by decide)]
      exact callP5 (Dt.var_of rfl (Dt.op_of (Dt.var_of rfl (Dt.c_of ⟨_, atI_0, Dt.op_of (Dt.var_of rfl (Dt.c_of ⟨_, atI_1, Dt.op_of (Dt.var_of rfl (Dt.c_of ⟨_, atI_2, Dt.op_of (Dt.var_of rfl (Dt.c_of ⟨_, atI_nat (j := 3) rfl, by simp, Dt.few_lim (by simp), by simp, hz, h⟩))⟩))⟩))⟩))))
    | _ :: _ :: _ :: _ :: _ :: _, hn, _, _ => simp at hn
theorem fo__law_renamed {f : Addr} {fd : FuncData} (Fu : Fun K "_law_renamed" "_law_renamed" s__law_renamed f fd) (B : Bt mg) (D_renamed : DoS P w K mg base (L2.CX P w) 7 "renamed" 1 (F_renamed cNU)) : FnOk P w K mg base (L2.CX P w) 8 f fd ["_law_page_here", "_law_lot"] (spP K 2 (F__law_renamed cNU)) :=
  fnPO (wb := w__law_renamed cNU) Fu sc__law_renamed rfl (fun cdv A outer s H E hr => ⟨_,
  (sd_cons (sd_if (t_lt (e_len B (ad_cons (ed_var 1) ad_nil)) ed_int) (sd_one (sd_ret (ed_if (t_eq hr (ed_var 1) (ed_new (fd_lst ad_nil))) (e_callSO D_renamed (hr.mono (by decide)) (passT (takes_of rfl rfl rfl rfl)) (ad_cons (ed_var 0) ad_nil)) (e_callSO D_renamed (hr.mono (by decide)) (passT (takes_of rfl rfl rfl rfl)) (ad_cons (ed_var 0) (ad_cons (e_ix (ed_var 1) ed_int) ad_nil)))))) sd_nil)
  (sd_cons (sd_if (t_eq hr (e_len B (ad_cons (ed_var 1) ad_nil)) ed_int) (sd_one (sd_ret (e_callSO D_renamed (hr.mono (by decide)) (passT (takes_of rfl rfl rfl rfl)) (ad_cons (ed_var 0) (ad_cons (e_ix (ed_var 1) ed_int) (ad_cons (e_ix (ed_var 1) ed_int) ad_nil)))))) sd_nil)
  (sd_one (sd_ret (ed_if (t_eq hr (e_len B (ad_cons (ed_var 1) ad_nil)) ed_int) (e_callSO D_renamed (hr.mono (by decide)) (passT (takes_of rfl rfl rfl rfl)) (ad_cons (ed_var 0) (ad_cons (e_ix (ed_var 1) ed_int) (ad_cons (e_ix (ed_var 1) ed_int) (ad_cons (e_ix (ed_var 1) ed_int) ad_nil))))) (e_callSO D_renamed (hr.mono (by decide)) (passT (takes_of rfl rfl rfl rfl)) (ad_cons (ed_var 0) (ad_cons (e_ix (ed_var 1) ed_int) (ad_cons (e_ix (ed_var 1) ed_int) (ad_cons (e_ix (ed_var 1) ed_int) (ad_cons (e_ix (ed_var 1) ed_int) ad_nil)))))))))))⟩) (spec__law_renamed cNU)
theorem ok__law_renamed {f : Addr} {fd : FuncData} (Fu : Fun K "_law_renamed" "_law_renamed" s__law_renamed f fd) (hm : mg "_law_renamed" = some (.ref f)) (hb : Binds K fd ["_law_page_here", "_law_lot"] []) (B : Bt mg) (D_renamed : DoS P w K mg base (L2.CX P w) 7 "renamed" 1 (F_renamed cNU)) : Do P w K mg base (L2.CX P w) 8 "_law_renamed" 2 (spP K 2 (F__law_renamed cNU)) :=
  ⟨f, fd, ["_law_page_here", "_law_lot"], rfl, hm, Fu.kp, hb, fo__law_renamed Fu B D_renamed⟩
/-! ## _law_rekinded -/
abbrev s__law_rekinded : Stmt := top 49
theorem sc__law_rekinded : FnScope ["_law_page_here", "_law_lot"] ["_law_page_here", "_law_lot"] (defScope s__law_rekinded) := ⟨rfl, rfl, rfl, by decide +kernel, rfl, by decide +kernel, by decide +kernel⟩
abbrev F__law_rekinded (cNU : Addr) : List PyData → (PyData → Prop) → (Er → Prop) → Prop := fun ds Q E => match ds with
  | [d, .list ls] => ls.length ≤ 4 ∧ shp (.list ls) = true ∧ (elemsD d).length ≤ 100000 ∧ turnW cNU true d ls Q E
  | _ => False
def w__law_rekinded (cNU : Addr) : DS Unit :=
  (wSeq (wIfS (wT (wOp dLt (wCB fLen (wCons (wVar 1) wNil)) (wC (.int 2)))) (wRet (wIf (wT (wOp dEq (wVar 1) (wL (wLst wNil)))) (wCallP (starF 1 (F_rekinded cNU)) (wCons (wVar 0) wNil)) (wCallP (starF 1 (F_rekinded cNU)) (wCons (wVar 0) (wCons (wOp dIdx (wVar 1) (wC (.int 0))) wNil))))) wNext)
  (wSeq (wIfS (wT (wOp dEq (wCB fLen (wCons (wVar 1) wNil)) (wC (.int 2)))) (wRet (wCallP (starF 1 (F_rekinded cNU)) (wCons (wVar 0) (wCons (wOp dIdx (wVar 1) (wC (.int 0))) (wCons (wOp dIdx (wVar 1) (wC (.int 1))) wNil))))) wNext)
  (wSeq (wIfS (wT (wOp dEq (wCB fLen (wCons (wVar 1) wNil)) (wC (.int 3)))) (wRet (wCallP (starF 1 (F_rekinded cNU)) (wCons (wVar 0) (wCons (wOp dIdx (wVar 1) (wC (.int 0))) (wCons (wOp dIdx (wVar 1) (wC (.int 1))) (wCons (wOp dIdx (wVar 1) (wC (.int 2))) wNil)))))) wNext)
  (wRet (wCallP (starF 1 (F_rekinded cNU)) (wCons (wVar 0) (wCons (wOp dIdx (wVar 1) (wC (.int 0))) (wCons (wOp dIdx (wVar 1) (wC (.int 1))) (wCons (wOp dIdx (wVar 1) (wC (.int 2))) (wCons (wOp dIdx (wVar 1) (wC (.int 3))) wNil))))))))))
theorem spec__law_rekinded (cNU : Addr) : ∀ ds Qd Ed, ds.length = 2 → F__law_rekinded cNU ds Qd Ed → w__law_rekinded cNU (argS 2 2 (ds.map Sl.d)) () (endP Qd Ed) := by
  intro ds Qd Ed hl h
  match ds, hl, h with
  | [d, .list ls], _, h =>
    obtain ⟨hn, hs, hz, h⟩ := h
    unfold w__law_rekinded
    show wSeq _ _ [.d d, .d (.list ls)] () _
    match ls, hn, hs, h with
    | [], _, hs, h =>
      refine seqIf_t (fun Q E q => Dt.t_of (Dt.op_of (Dt.cb1_of (Dt.var_of rfl (len_is (n := 0) rfl (Dt.c_of q)))))) ?_
      refine Dt.ret_of (Dt.if_of (Dt.t_of (Dt.op_of (Dt.var_of rfl (Dt.l_of (Dt.lst_of (Dt.nil_of ⟨Dt.few_lim (by simp), neq_nil hs ?_⟩)))))))
      show if true = true then _ else _
      rw [if_pos rfl]
      exact Dt.callP1 (Dt.var_of rfl ⟨by simp, Dt.few_lim (by simp), by simp, hz, h⟩)
    | [a], _, hs, h =>
      refine seqIf_t (fun Q E q => Dt.t_of (Dt.op_of (Dt.cb1_of (Dt.var_of rfl (len_is (n := 1) rfl (Dt.c_of q)))))) ?_
      refine Dt.ret_of (Dt.if_of (Dt.t_of (Dt.op_of (Dt.var_of rfl (Dt.l_of (Dt.lst_of (Dt.nil_of ⟨Dt.few_lim (by simp), neq_nil hs ?_⟩)))))))
      show if false = true then _ else _
      rw [if_neg (by decide)]
      exact Dt.callP2 (Dt.var_of rfl (Dt.op_of (Dt.var_of rfl (Dt.c_of ⟨_, atI_0, by simp, Dt.few_lim (by simp), by simp, hz, h⟩))))
    | [a, b], _, hs, h =>
      refine seqIf_f (fun Q E q => Dt.t_of (Dt.op_of (Dt.cb1_of (Dt.var_of rfl (len_is (n := 2) rfl (Dt.c_of q)))))) ?_
      refine seqIf_t (fun Q E q => Dt.t_of (Dt.op_of (Dt.cb1_of (Dt.var_of rfl (len_is (n := 2) rfl (Dt.c_of (Dt.eqI_of q))))))) ?_
      exact Dt.ret_of (Dt.callP3 (Dt.var_of rfl (Dt.op_of (Dt.var_of rfl (Dt.c_of ⟨_, atI_0, Dt.op_of (Dt.var_of rfl (Dt.c_of ⟨_, atI_1, by simp, Dt.few_lim (by simp), by simp, hz, h⟩))⟩)))))
    | [a, b, c], _, hs, h =>
      refine seqIf_f (fun Q E q => Dt.t_of (Dt.op_of (Dt.cb1_of (Dt.var_of rfl (len_is (n := 3) rfl (Dt.c_of q)))))) ?_
      refine seqIf_f (fun Q E q => Dt.t_of (Dt.op_of (Dt.cb1_of (Dt.var_of rfl (len_is (n := 3) rfl (Dt.c_of (Dt.eqI_of q))))))) ?_
      refine seqIf_t (fun Q E q => Dt.t_of (Dt.op_of (Dt.cb1_of (Dt.var_of rfl (len_is (n := 3) rfl (Dt.c_of (Dt.eqI_of q))))))) ?_
      exact Dt.ret_of (Dt.callP4 (Dt.var_of rfl (Dt.op_of (Dt.var_of rfl (Dt.c_of ⟨_, atI_0, Dt.op_of (Dt.var_of rfl (Dt.c_of ⟨_, atI_1, Dt.op_of (Dt.var_of rfl (Dt.c_of ⟨_, atI_2, by simp, Dt.few_lim (by simp), by simp, hz, h⟩))⟩))⟩)))))
    | [a, b, c, e], _, hs, h =>
      refine seqIf_f (fun Q E q => Dt.t_of (Dt.op_of (Dt.cb1_of (Dt.var_of rfl (len_is (n := 4) rfl (Dt.c_of q)))))) ?_
      refine seqIf_f (fun Q E q => Dt.t_of (Dt.op_of (Dt.cb1_of (Dt.var_of rfl (len_is (n := 4) rfl (Dt.c_of (Dt.eqI_of q))))))) ?_
      refine seqIf_f (fun Q E q => Dt.t_of (Dt.op_of (Dt.cb1_of (Dt.var_of rfl (len_is (n := 4) rfl (Dt.c_of (Dt.eqI_of q))))))) ?_
      exact Dt.ret_of (callP5 (Dt.var_of rfl (Dt.op_of (Dt.var_of rfl (Dt.c_of ⟨_, atI_0, Dt.op_of (Dt.var_of rfl (Dt.c_of ⟨_, atI_1, Dt.op_of (Dt.var_of rfl (Dt.c_of ⟨_, atI_2, Dt.op_of (Dt.var_of rfl (Dt.c_of ⟨_, atI_nat (j := 3) rfl, by simp, Dt.few_lim (by simp), by simp, hz, h⟩))⟩))⟩))⟩)))))
    | _ :: _ :: _ :: _ :: _ :: _, hn, _, _ => simp at hn
theorem fo__law_rekinded {f : Addr} {fd : FuncData} (Fu : Fun K "_law_rekinded" "_law_rekinded" s__law_rekinded f fd) (B : Bt mg) (D_rekinded : DoS P w K mg base (L2.CX P w) 7 "rekinded" 1 (F_rekinded cNU)) : FnOk P w K mg base (L2.CX P w) 8 f fd ["_law_page_here", "_law_lot"] (spP K 2 (F__law_rekinded cNU)) :=
  fnPO (wb := w__law_rekinded cNU) Fu sc__law_rekinded rfl (fun cdv A outer s H E hr => ⟨_,
  (sd_cons (sd_if (t_lt (e_len B (ad_cons (ed_var 1) ad_nil)) ed_int) (sd_one (sd_ret (ed_if (t_eq hr (ed_var 1) (ed_new (fd_lst ad_nil))) (e_callSO D_rekinded (hr.mono (by decide)) (passT (takes_of rfl rfl rfl rfl)) (ad_cons (ed_var 0) ad_nil)) (e_callSO D_rekinded (hr.mono (by decide)) (passT (takes_of rfl rfl rfl rfl)) (ad_cons (ed_var 0) (ad_cons (e_ix (ed_var 1) ed_int) ad_nil)))))) sd_nil)
  (sd_cons (sd_if (t_eq hr (e_len B (ad_cons (ed_var 1) ad_nil)) ed_int) (sd_one (sd_ret (e_callSO D_rekinded (hr.mono (by decide)) (passT (takes_of rfl rfl rfl rfl)) (ad_cons (ed_var 0) (ad_cons (e_ix (ed_var 1) ed_int) (ad_cons (e_ix (ed_var 1) ed_int) ad_nil)))))) sd_nil)
  (sd_cons (sd_if (t_eq hr (e_len B (ad_cons (ed_var 1) ad_nil)) ed_int) (sd_one (sd_ret (e_callSO D_rekinded (hr.mono (by decide)) (passT (takes_of rfl rfl rfl rfl)) (ad_cons (ed_var 0) (ad_cons (e_ix (ed_var 1) ed_int) (ad_cons (e_ix (ed_var 1) ed_int) (ad_cons (e_ix (ed_var 1) ed_int) ad_nil))))))) sd_nil)
  (sd_one (sd_ret (e_callSO D_rekinded (hr.mono (by decide)) (passT (takes_of rfl rfl rfl rfl)) (ad_cons (ed_var 0) (ad_cons (e_ix (ed_var 1) ed_int) (ad_cons (e_ix (ed_var 1) ed_int) (ad_cons (e_ix (ed_var 1) ed_int) (ad_cons (e_ix (ed_var 1) ed_int) ad_nil)))))))))))⟩) (spec__law_rekinded cNU)
theorem ok__law_rekinded {f : Addr} {fd : FuncData} (Fu : Fun K "_law_rekinded" "_law_rekinded" s__law_rekinded f fd) (hm : mg "_law_rekinded" = some (.ref f)) (hb : Binds K fd ["_law_page_here", "_law_lot"] []) (B : Bt mg) (D_rekinded : DoS P w K mg base (L2.CX P w) 7 "rekinded" 1 (F_rekinded cNU)) : Do P w K mg base (L2.CX P w) 8 "_law_rekinded" 2 (spP K 2 (F__law_rekinded cNU)) :=
  ⟨f, fd, ["_law_page_here", "_law_lot"], rfl, hm, Fu.kp, hb, fo__law_rekinded Fu B D_rekinded⟩
/-! ## _law_signs -/
abbrev s__law_signs : Stmt := top 51
theorem sc__law_signs : FnScope ["_law_page_here", "_law_found", "_law_item_here", "_law_sign"] ["_law_page_here"] (defScope s__law_signs) := ⟨rfl, rfl, rfl, by decide +kernel, rfl, by decide +kernel, by decide +kernel⟩
abbrev F__law_signs : List PyData → (PyData → Prop) → (Er → Prop) → Prop := fun ds Q _ => match ds with
  | [.tuple xs] => (∀ x ∈ xs, isRow x = true) ∧ xs.length ≤ 100 ∧ ∀ ss : List PyData, (∀ s ∈ ss, isName s = true) → ss ≠ [] → ss.length ≤ 1000 → Q (.list ss)
  | _ => False
def w__law_signs : DS Unit :=
  (wSeq (wSetF 1 (wLst (wCons (wC (.str "q")) (wCons (wC (.str "let")) (wCons (wC (.str "num")) wNil)))))
  (wSeq (wFor (wSeqI (wVar 0)) (gN 2) (wSeq (wExt 1 (wComp (wSeqI (wSl (wVar 2) (oSome (wC (.int 1))) oNo)) (gN 3) (wTand (wT (wIsi "str" (wVar 3))) (wT (wOp dNe (wVar 3) (wC (.str ""))))) (wVar 3) [3]))
  (wIfS (wTand (wT (wOp dEq (wOp dIdx (wVar 2) (wC (.int 0))) (wC (.str "open")))) (wTand (wT (wIsi "tuple" (wOp dIdx (wVar 2) (wC (.int 1))))) (wT (wOp dNe (wOp dIdx (wOp dIdx (wVar 2) (wC (.int 1))) (wC (.int 1))) (wC (.str "")))))) (wApp 1 (wOp dIdx (wOp dIdx (wVar 2) (wC (.int 1))) (wC (.int 1)))) wNext)))
  (wFreeze 1 (wRet (wVar 1)))))
/-- a string that is not empty -/
def pS : PyData → Bool
  | .str s => !decide (s = "")
  | _ => false
theorem dNe_s {a b : Str} {Q : PyData → Prop} (h : Q (.bool (!decide (a = b)))) : dNe (.str a) (.str b) Q := ⟨rfl, rfl, by rw [eqv_ss]; exact h⟩
theorem sign_test {k : Nat} {d : PyData} {ρ : List Sl} {Q : Bool → Unit → Prop} {E : Er → Unit → Prop} (h0 : ρ[k]? = some (.d d)) (hd : (∃ s, d = .str s) ∨ ∃ xs, d = .tuple xs) (q : Q (pS d) ()) : wTand (wT (wIsi "str" (wVar k))) (wT (wOp dNe (wVar k) (wC (.str "")))) ρ () Q E := by
  refine Dt.tand_of (Dt.t_of ?_)
  rw [wIsi_str]
  refine Dt.var_of h0 ?_
  rcases hd with ⟨s, rfl⟩ | ⟨xs, rfl⟩
  · show if true = true then _ else _
    rw [if_pos rfl]
    exact Dt.t_of (Dt.op_of (Dt.var_of h0 (Dt.c_of (dNe_s q))))
  · show if false = true then _ else _
    rw [if_neg (by decide)]
    exact q
theorem kind_sign {a : Str} (h : isKind (.str a) = true) (n : pS (.str a) = true) : isName (.str a) = true := by
  have h : (isName (.str a) || decide (a.length = 0)) = true := h
  rw [Bool.or_eq_true] at h
  rcases h with h | h
  · exact h
  · have e := len0 (of_decide_eq_true h)
    subst e
    exact absurd n (by decide +kernel)
theorem cut1 {α : Type} (x : α) (r : List α) : cutD (x :: r) (some 1) none = r := by
  unfold cutD
  have e : HT.sIx (x :: r).length 0 (some ((1 : Nat) : Int)) = 1 := by
    rw [HT.sIx_nat]
    simp
  have e : HT.sIx (x :: r).length 0 (some 1) = 1 := e
  rw [HT.sIx_none, e]
  simp
/-- the signs behind the word of a row -/
theorem row_signs {x : PyData} (h : RowK x) : ∃ (w : Str) (r : List PyData), x = .tuple (.str w :: r) ∧ r.length ≤ 2 ∧ (∀ d ∈ r, (∃ s, d = .str s) ∨ ∃ xs, d = .tuple xs) ∧ (∀ d ∈ r, pS d = true → isName d = true) ∧
    ((w ≠ "open") ∨ (w = "open" ∧ ((∃ a, r = [.str a]) ∨ ∃ a, r = [.tuple [.str "fun", .str a]] ∧ isKind (.str a) = true))) := by
  cases h with
  | @one w c => exact ⟨w, [], rfl, by simp, (fun d h => by cases h), (fun d h => by cases h), .inl (by rcases c with rfl | rfl <;> decide +kernel)⟩
  | @name w a b c ha hb =>
    refine ⟨w, [.str a, .str b], rfl, by simp, fun d h => .inl ?_, fun d h _ => ?_, .inl (by rcases c with rfl | rfl <;> decide +kernel)⟩
    · simp only [List.mem_cons, List.not_mem_nil, or_false] at h
      rcases h with rfl | rfl <;> exact ⟨_, rfl⟩
    · simp only [List.mem_cons, List.not_mem_nil, or_false] at h
      rcases h with rfl | rfl <;> assumption
  | @give a ha =>
    refine ⟨_, [.str a], rfl, by simp, fun d h => .inl ?_, fun d h n => ?_, .inl (by decide +kernel)⟩
    · rw [List.mem_singleton.mp h]; exact ⟨_, rfl⟩
    · rw [List.mem_singleton.mp h] at n ⊢; exact kind_sign ha n
  | @opn a c =>
    refine ⟨_, [.str a], rfl, by simp, fun d h => .inl ?_, fun d h n => ?_, .inr ⟨rfl, .inl ⟨a, rfl⟩⟩⟩
    · rw [List.mem_singleton.mp h]; exact ⟨_, rfl⟩
    · rw [List.mem_singleton.mp h]; rcases c with rfl | rfl <;> decide +kernel
  | @fn a ha =>
    refine ⟨_, [.tuple [.str "fun", .str a]], rfl, by simp, fun d h => .inr ?_, fun d h n => ?_, .inr ⟨rfl, .inr ⟨a, rfl, ha⟩⟩⟩
    · rw [List.mem_singleton.mp h]; exact ⟨_, rfl⟩
    · rw [List.mem_singleton.mp h] at n; exact absurd n (by simp [pS])
theorem spec__law_signs : ∀ ds Qd Ed, ds.length = 1 → F__law_signs ds Qd Ed → w__law_signs (argS 1 4 (ds.map Sl.d)) () (endP Qd Ed) := by
  intro ds Qd Ed hl h
  match ds, hl, h with
  | [.tuple xs], _, h =>
    obtain ⟨hr, hn, h⟩ := h
    unfold w__law_signs
    show wSeq _ _ [.d (.tuple xs), .no, .no, .no] () _
    refine Dt.seq_of (Dt.setF_of (Dt.lst_of (Dt.cons_of (Dt.c_of (Dt.cons_of (Dt.c_of (Dt.cons_of (Dt.c_of (Dt.nil_of ⟨Dt.few_lim (by simp), fun p => ?_⟩)))))))))
    dsimp only [List.set]
    refine Dt.seq_gen fun D1 hnx hrt her => Dt.for_of (Dt.seqI_of (Dt.var_of rfl ?_))
    show wLoop _ _ xs _ _ _
    refine Dt.loop_inv (fun k ρ _ => ∃ ss z, ρ = [.d (.tuple xs), .own p ss, z, .no] ∧ (∀ s ∈ ss, isName s = true) ∧ ss ≠ [] ∧ ss.length ≤ 3 + 3 * k) xs 0 _ _ ?_ ⟨_, _, rfl, ?_, by simp, by simp⟩ ?_
    · rintro k d hd ρ s ⟨ss, z, rfl, hs, hne, hsl⟩ D' _ _ _ hx _
      rw [Nat.zero_add] at hx hsl
      have kl : k < xs.length := (List.getElem?_eq_some_iff.mp hd).1
      obtain ⟨w, r, rfl, rl, r1, r2, r3⟩ := row_signs (rowK (hr d (List.mem_of_getElem? hd)))
      dsimp only [gN, List.set]
      refine Dt.seq_of (Dt.ext_of (p := p) (xs := ss) rfl (Dt.comp_of rfl (Dt.seqI_of (Dt.sl_of (Dt.var_of rfl (Dt.os_of (Dt.c_of (Dt.oNo_of ?_))))))))
      show wCompL _ _ _ _ _ (cutD (.str w :: r) (some 1) none) _ _
      rw [cut1]
      dsimp only [wipeD, List.set]
      refine Dt.comp_fm pS id _ _ _ (fun d hd' s' Y N y => ?_) ?_
      · dsimp only [gN, List.set]
        refine ⟨rfl, sign_test rfl (r1 d hd') ?_⟩
        by_cases c : pS d = true
        · rw [if_pos c] at y ⊢
          exact Dt.var_of rfl y
        · rw [if_neg c] at y ⊢
          exact y
      rw [List.map_id]
      have fl : (r.filter pS).length ≤ 2 := Nat.le_trans (List.length_filter_le _ _) rl
      have l1 : (ss ++ r.filter pS).length ≤ 3 + 3 * k + 2 := by rw [List.length_append]; omega
      have h1 : ∀ s ∈ ss ++ r.filter pS, isName s = true := fun s hs' => by
        rcases List.mem_append.mp hs' with z | z
        · exact hs s z
        · obtain ⟨z1, z2⟩ := List.mem_filter.mp z
          exact r2 s z1 z2
      have h2 : ss ++ r.filter pS ≠ [] := fun e => hne (List.append_eq_nil_iff.mp e).1
      generalize ss ++ r.filter pS = s2 at l1 h1 h2
      refine ⟨by rw [limL_eq]; omega, ?_⟩
      have go := hx _ () ⟨s2, .d (.tuple (.str w :: r)), rfl, h1, h2, by omega⟩
      rcases r3 with r3 | ⟨rfl, ⟨a, rfl⟩ | ⟨a, rfl, ha⟩⟩
      · refine Dt.if2_f (fun Q E q => Dt.tand_of (Dt.t_of (Dt.op_of (Dt.op_of (Dt.var_of rfl (Dt.c_of ⟨_, atI_0, Dt.c_of ⟨rfl, rfl, ?_⟩⟩)))))) go
        rw [eqv_ss, decide_eq_false r3]
        show if false = true then _ else _
        rw [if_neg (by decide)]
        exact q
      · refine Dt.if2_f (fun Q E q => Dt.tand_of (Dt.t_of (Dt.op_of (Dt.op_of (Dt.var_of rfl (Dt.c_of ⟨_, atI_0, Dt.c_of (Dt.eq_self _ ?_)⟩)))))) go
        show if true = true then _ else _
        rw [if_pos rfl]
        refine Dt.tand_of (Dt.t_of ?_)
        rw [wIsi_tup]
        refine Dt.op_of (Dt.var_of rfl (Dt.c_of ⟨_, atI_1, ?_⟩))
        show if false = true then _ else _
        rw [if_neg (by decide)]
        exact q
      · by_cases n : pS (.str a) = true
        · refine if2_t (fun Q E q => Dt.tand_of (Dt.t_of (Dt.op_of (Dt.op_of (Dt.var_of rfl (Dt.c_of ⟨_, atI_0, Dt.c_of (Dt.eq_self _ ?_)⟩)))))) ?_
          · show if true = true then _ else _
            rw [if_pos rfl]
            refine Dt.tand_of (Dt.t_of ?_)
            rw [wIsi_tup]
            refine Dt.op_of (Dt.var_of rfl (Dt.c_of ⟨_, atI_1, ?_⟩))
            show if true = true then _ else _
            rw [if_pos rfl]
            refine Dt.t_of (Dt.op_of (Dt.op_of (Dt.op_of (Dt.var_of rfl (Dt.c_of ⟨_, atI_1, Dt.c_of ⟨_, atI_1, Dt.c_of (dNe_s ?_)⟩⟩)))))
            show Q (pS (.str a)) ()
            rw [n]; exact q
          · refine Dt.app_of (p := p) (xs := s2) rfl (Dt.op_of (Dt.op_of (Dt.var_of rfl (Dt.c_of ⟨_, atI_1, Dt.c_of ⟨_, atI_1, by rw [limL_eq]; omega, ?_⟩⟩))))
            refine hx _ _ ⟨s2 ++ [.str a], .d (.tuple [.str "open", .tuple [.str "fun", .str a]]), rfl, fun s hs' => ?_, by simp, by rw [List.length_append]; simp; omega⟩
            rcases List.mem_append.mp hs' with z | z
            · exact h1 s z
            · rw [List.mem_singleton.mp z]; exact kind_sign ha n
        · refine Dt.if2_f (fun Q E q => Dt.tand_of (Dt.t_of (Dt.op_of (Dt.op_of (Dt.var_of rfl (Dt.c_of ⟨_, atI_0, Dt.c_of (Dt.eq_self _ ?_)⟩)))))) go
          show if true = true then _ else _
          rw [if_pos rfl]
          refine Dt.tand_of (Dt.t_of ?_)
          rw [wIsi_tup]
          refine Dt.op_of (Dt.var_of rfl (Dt.c_of ⟨_, atI_1, ?_⟩))
          show if true = true then _ else _
          rw [if_pos rfl]
          refine Dt.t_of (Dt.op_of (Dt.op_of (Dt.op_of (Dt.var_of rfl (Dt.c_of ⟨_, atI_1, Dt.c_of ⟨_, atI_1, Dt.c_of (dNe_s ?_)⟩⟩)))))
          show Q (pS (.str a)) ()
          rw [eq_false_of_ne_true n]; exact q
    · intro s hs
      simp only [List.mem_cons, List.not_mem_nil, or_false] at hs
      rcases hs with rfl | rfl | rfl <;> decide +kernel
    · rintro ρ s ⟨ss, z, rfl, hs, hne, hsl⟩
      refine hnx _ _ ?_
      refine Dt.freeze_of (p := p) (xs := ss) rfl ?_
      dsimp only [List.set]
      exact Dt.ret_of (Dt.var_of rfl (h ss hs hne (by omega)))
theorem ok__law_signs {f : Addr} {fd : FuncData} (Fu : Fun K "_law_signs" "_law_signs" s__law_signs f fd) (hm : mg "_law_signs" = some (.ref f)) (hb : Binds K fd ["_law_page_here"] []) (B : Bt mg) : Df P w K mg base CX0 1 "_law_signs" 1 (spP K 1 F__law_signs) :=
  ⟨f, fd, ["_law_page_here"], rfl, hm, Fu.kp, hb, fnP (wb := w__law_signs) Fu sc__law_signs rfl (fun cdv A outer s H E hG hr => ⟨_,
  (sd_cons (sd_setF 1 sc__law_signs.nd rfl (by first | exact .inl rfl | exact .inr rfl) (fd_lst (ad_cons ed_str (ad_cons ed_str (ad_cons ed_str ad_nil)))))
  (sd_cons (sd_for (L2.passes_of rfl) rfl (i_seq (ed_var 0)) (gd_name 2 sc__law_signs.nd rfl (by first | exact .inl rfl | exact .inr rfl)) (sd_cons (sd_extend 1 (fd_lc rfl sc__law_signs.nd (own := [("_law_sign", 3)]) (i_seq (e_slice (ed_var 2) (od_some ed_int) od_no)) (blkOk_by (own := [("_law_sign", 3)]) (N := ["_law_page_here", "_law_found", "_law_item_here", "_law_sign"]) (sc := defScope s__law_signs) (by decide +kernel))
    (fun _ _ _ _ _ => (gd_name 3 sc__law_signs.nd rfl (by first | exact .inl rfl | exact .inr rfl))) (fun _ _ _ _ _ => (ptd_one (td_bool (tw_and (td_val (e_isi (T' := "str") B (ed_var 3) (by decide +kernel))) (tw_and1 (t_ne hr (ed_var 3) ed_str)))))) (fun _ _ _ _ _ => (ed_var 3)) (by simp)))
  (sd_one (sd_if (td_bool (tw_and (t_eq hr (e_ix (ed_var 2) ed_int) ed_str) (tw_and (td_val (e_isi (T' := "tuple") B (e_ix (ed_var 2) ed_int) (by decide +kernel))) (tw_and1 (t_ne hr (e_ix (e_ix (ed_var 2) ed_int) ed_int) ed_str))))) (sd_one (sd_append 1 (e_ix (e_ix (ed_var 2) ed_int) ed_int))) sd_nil))))
  (sd_freeze 1 (sd_one (sd_ret (ed_var 1))))))⟩) (spec__law_signs)⟩
/-! ## _law_is_right -/
abbrev s__law_is_right : Stmt := top 50
theorem sc__law_is_right : FnScope ["_law_page_here", "_law_lot", "_law_told"] ["_law_page_here", "_law_lot"] (defScope s__law_is_right) := ⟨rfl, rfl, rfl, by decide +kernel, rfl, by decide +kernel, by decide +kernel⟩
/-- a value that is turned: a page, or no text -/
def PgOk (d : PyData) : Prop := (∃ xs : List PyData, d = .tuple xs ∧ xs.length ≤ 9 ∧ ∀ y ∈ xs, GoodRow y) ∨ (∃ k, rowsFault d = some k)
def F__law_is_right : Ix → List Ag → Unit → (PyData → Unit → Prop) → (Er → Unit → Prop) → Prop := fun _ as _ Q _ => ∃ (d : PyData) (ls : List PyData), as = [.d d, .d (.list ls)] ∧ ls.length ≤ 4 ∧ shp (.list ls) = true ∧ PgOk d ∧ PyData.depth d ≤ 50 ∧ (elemsD d).length ≤ 100000 ∧ Q (.bool true) ()
def w__law_is_right (cNU cIP cIT : Addr) (i : Ix) : DS Unit :=
  (wSeq (wSetF 2 (wLst (wCons (wSaid cNU cIP cIT (wCallP (fun ds Q E => ds.length = 2 ∧ (F__law_renamed cNU) ds Q E) (wCons (wVar 0) (wCons (wVar 1) wNil)))) wNil)))
  (wSeq (wApp 2 (wSaid cNU cIP cIT (wCallP (fun ds Q E => ds.length = 2 ∧ (F__law_rekinded cNU) ds Q E) (wCons (wVar 0) (wCons (wVar 1) wNil)))))
  (wFreeze 2 (wRet (wOp dEq (wCB fRepr3 (wCons (wVar 2) wNil)) (wCB fRepr3 (wCons (wL (wLst (wCons (wCallP (fun ds Q E => ds.length = 3 ∧ F__law_due ds Q E) (wCons (wVar 0) (wCons (wVar 1) (wCons (wC (.bool false)) wNil)))) (wCons (wCallP (fun ds Q E => ds.length = 3 ∧ F__law_due ds Q E) (wCons (wVar 0) (wCons (wVar 1) (wCons (wC (.bool true)) wNil)))) wNil)))) wNil)))))))
theorem due_md {b : Bool} {d : PyData} {ls : List PyData} (h : PgOk d) : Md (dueT b d ls) := by
  unfold dueT
  rcases h with ⟨xs, rfl, hn, hg⟩ | ⟨k, e⟩
  · rw [fault_none fun x hx => (hg x hx).2.2]
    dsimp only
    cases e : scan ls 0 [] with
    | inl z =>
      obtain ⟨w, x⟩ := z
      obtain ⟨hw, hx⟩ := scan_inl _ _ _ _ _ e
      exact nu_small (by rcases hw with rfl | rfl <;> decide +kernel) hx
    | inr ps =>
      obtain ⟨rs, e1, _, hrs⟩ := scan_all _ _ _ _ e
      have e1 : ps = rs := by rw [e1]; rfl
      subst e1
      have kp := late_keep hrs
      obtain ⟨a1, a2, -⟩ := all_nz (W := 360) (D := 3) (I := 0) (xs := xs.map (turnR b (late ps))) fun y hy => by
        obtain ⟨x, hx, rfl⟩ := List.mem_map.mp hy
        exact (row_good (turn_rowK kp b (rowK (hg x hx).2.2))).1
      rw [List.length_map] at a1
      have a4 : xs.length * (360 + 2) ≤ 9 * (360 + 2) := Nat.mul_le_mul_right _ hn
      exact told_md (by show wgAll (xs.map _) ≤ _; omega) (by show PyData.depthAll (xs.map _) ≤ _; omega)
  · rw [e]
    exact nu_small (by decide +kernel) few_int
theorem said_ren {cNU cIP cIT : Addr} {a b : Nat} {ρ : List Sl} {d : PyData} {ls : List PyData} {Q : PyData → Unit → Prop} {E : Er → Unit → Prop} (ha : ρ[a]? = some (.d d)) (hb : ρ[b]? = some (.d (.list ls))) (hn : ls.length ≤ 4) (hs : shp (.list ls) = true) (hz : (elemsD d).length ≤ 100000) (h : Q (dueT false d ls) ()) :
    wSaid cNU cIP cIT (wCallP (fun ds Q E => ds.length = 2 ∧ (F__law_renamed cNU) ds Q E) (wCons (wVar a) (wCons (wVar b) wNil))) ρ () Q E := by
  show wCallP _ _ ρ () _ _
  simp only [wCallP, wCons, wVar, ha, hb, wNil, allK]
  exact ⟨rfl, hn, hs, hz, turn_due (Q := fun x => Q x ()) h⟩
theorem said_rek {cNU cIP cIT : Addr} {a b : Nat} {ρ : List Sl} {d : PyData} {ls : List PyData} {Q : PyData → Unit → Prop} {E : Er → Unit → Prop} (ha : ρ[a]? = some (.d d)) (hb : ρ[b]? = some (.d (.list ls))) (hn : ls.length ≤ 4) (hs : shp (.list ls) = true) (hz : (elemsD d).length ≤ 100000) (h : Q (dueT true d ls) ()) :
    wSaid cNU cIP cIT (wCallP (fun ds Q E => ds.length = 2 ∧ (F__law_rekinded cNU) ds Q E) (wCons (wVar a) (wCons (wVar b) wNil))) ρ () Q E := by
  show wCallP _ _ ρ () _ _
  simp only [wCallP, wCons, wVar, ha, hb, wNil, allK]
  exact ⟨rfl, hn, hs, hz, turn_due (Q := fun x => Q x ()) h⟩
theorem spec__law_is_right (cNU cIP cIT : Addr) : ∀ (i : Ix) as s Qd Ed, as.length = 2 → F__law_is_right i as s Qd Ed → w__law_is_right cNU cIP cIT i (argS 2 3 (as.map toSl)) s (endW Qd Ed) := by
  rintro i as s Qd Ed _ ⟨d, ls, rfl, hn, hs, hp, hd, hz, hq⟩
  unfold w__law_is_right
  show wSeq _ _ [.d d, .d (.list ls), .no] s _
  have m1 := due_md (b := false) (ls := ls) hp
  have m2 := due_md (b := true) (ls := ls) hp
  unfold Md at m1 m2
  refine Dt.seq_of (Dt.setF_of (Dt.lst_of (Dt.cons_of (said_ren rfl rfl hn hs hz (Dt.nil_of ⟨Dt.few_lim (by simp), fun p => ?_⟩)))))
  dsimp only [List.set]
  refine Dt.seq_of (Dt.app_of (p := p) (xs := [dueT false d ls]) rfl (said_rek rfl rfl hn hs hz ⟨by simp [limL_eq], ?_⟩))
  dsimp only [List.set]
  refine Dt.freeze_of (p := p) (xs := [dueT false d ls] ++ [dueT true d ls]) rfl ?_
  dsimp only [List.set, List.cons_append, List.nil_append]
  have l1 : PyData.depth (.list [dueT false d ls, dueT true d ls]) ≤ 60 := by simp only [PyData.depth, PyData.depthAll]; omega
  have l2 : wg (.list [dueT false d ls, dueT true d ls]) ≤ limL := by simp only [wg, wgAll, limL_eq]; omega
  have hx : ∀ xs, d = .tuple xs → xs.length ≤ 100000 := fun xs e => by subst e; exact hz
  refine Dt.ret_of (Dt.op_of (Dt.cb1_of (Dt.var_of rfl (Dt.repr3_ok l1 l2 (Dt.cb1_of (Dt.l_of (Dt.lst_of (Dt.cons_of (Dt.callP3 (Dt.var_of rfl (Dt.var_of rfl (Dt.c_of ⟨rfl, hd, hx, by omega, Dt.cons_of (Dt.callP3 (Dt.var_of rfl (Dt.var_of rfl (Dt.c_of ⟨rfl, hd, hx, by omega, Dt.nil_of ⟨Dt.few_lim (by simp), ?_⟩⟩))))⟩))))))))))))
  exact Dt.repr3_ok l1 l2 (Dt.eq_self _ hq)
theorem ok__law_is_right {f : Addr} {fd : FuncData} (Fu : Fun K "_law_is_right" "_law_is_right" s__law_is_right f fd) (hm : mg "_law_is_right" = some (.ref f)) (hb : Binds K fd ["_law_page_here", "_law_lot"] []) (B : Bt mg) (D__law_due : Df P w K mg base CX0 6 "_law_due" 3 (spP K 3 F__law_due)) (D__law_rekinded : Do P w K mg base (L2.CX P w) 8 "_law_rekinded" 2 (spP K 2 (F__law_rekinded cNU))) (D__law_renamed : Do P w K mg base (L2.CX P w) 8 "_law_renamed" 2 (spP K 2 (F__law_renamed cNU))) (Sd : SaidF P w K mg base cNU cIP cIT) {cc Pt : Addr} (hc : fd.code = .ref cc) (TB : LamX.TabB base mg cc Pt) (hT : (Pt, (("_law_is_right" : Str) ++ ".<locals>.") ++ "<lambda>") ∈ T) (hu : (T.map (·.1)).Nodup) : Df P w K mg base CX0 12 "_law_is_right" 2 (spI K (Wf T) 2 F__law_is_right) :=
  ⟨f, fd, ["_law_page_here", "_law_lot"], rfl, hm, Fu.kp, hb, fnIC (wb := w__law_is_right cNU cIP cIT) Fu hc sc__law_is_right rfl (fun i A outer s H E hG hr => ⟨_,
  (sd_cons (sd_setF 2 sc__law_is_right.nd rfl (by first | exact .inl rfl | exact .inr rfl) (fd_lst (ad_cons (e_saidF 8 Sd (hr.mono (by decide)) TB rfl (q := ("_law_is_right" : Str) ++ ".<locals>.") rfl hT hu (LamX.lamS_by (sc := defScope s__law_is_right) (by decide +kernel)) (fun A outer s H E f c' hr => (e_callO D__law_renamed (hr.mono (by decide)) (passT (takes_of rfl rfl rfl rfl)) (ad_cons (ed_var 0) (ad_cons (ed_var 1) ad_nil))))) ad_nil)))
  (sd_cons (sd_append 2 (e_saidF 8 Sd (hr.mono (by decide)) TB rfl (q := ("_law_is_right" : Str) ++ ".<locals>.") rfl hT hu (LamX.lamS_by (sc := defScope s__law_is_right) (by decide +kernel)) (fun A outer s H E f c' hr => (e_callO D__law_rekinded (hr.mono (by decide)) (passT (takes_of rfl rfl rfl rfl)) (ad_cons (ed_var 0) (ad_cons (ed_var 1) ad_nil))))))
  (sd_freeze 2 (sd_one (sd_ret (e_eq hr (e_repr3 B hr hG (ad_cons (ed_var 2) ad_nil)) (e_repr3 B hr hG (ad_cons (ed_new (fd_lst (ad_cons (e_callP D__law_due hG (hr.mono (by decide)) pass00 (ad_cons (ed_var 0) (ad_cons (ed_var 1) (ad_cons ed_bl ad_nil)))) (ad_cons (e_callP D__law_due hG (hr.mono (by decide)) pass00 (ad_cons (ed_var 0) (ad_cons (ed_var 1) (ad_cons ed_bl ad_nil)))) ad_nil)))) ad_nil))))))))⟩) (spec__law_is_right cNU cIP cIT)⟩
end
end L07

set_option Elab.async false
set_option linter.all false
set_option autoImplicit false
set_option maxRecDepth 100000
set_option maxHeartbeats 1000000
set_option pp.maxSteps 600
namespace L07
open PySem PySem.Spec Dt
open L2 hiding wT wNot
section
variable {P : Program} {w : World} {K : PySem.W.Frag} {mg : Str → Option Value} {base : Heap} {T : List (Addr × Str)} {cNU cIP cIT : Addr}
abbrev s_law : Stmt := top 52
theorem sc_law : FnScope ["_law_script", "_law_feed_here", "_law_lap", "_law_page_here", "_law_signs_here", "_law_kept", "_law_turn", "_law_lot", "_law_k", "_law_odds", "_law_one", "_law_two", "_law_swap", "_law_round_now", "_law_bad"] ["_law_script"] (defScope s_law) := ⟨rfl, rfl, rfl, by decide +kernel, rfl, by decide +kernel, by decide +kernel⟩
def w_law (cNU : Addr) (i : Ix) : DS Unit :=
  (wSeq (wFor (wRng1 (wCons (wC (.int 4)) wNil)) (gN 2) (wSeq (wAsg (wCallW (fun as s Q E => as.length = 2 ∧ F__law_page i as s Q E) (wRaw 1 (wCons (wC (.int 9)) wNil))) (gN 3))
  (wSeq (wAsg (wTup (wCons (wCallP (fun ds Q E => ds.length = 1 ∧ F__law_signs ds Q E) (wCons (wVar 3) wNil)) (wCons (wCB fRepr3 (wCons (wVar 3) wNil)) wNil))) (gT 2 (gCs (gN 4) (gCs (gN 5) gNs))))
  (wSeq (wFor (wRng1 (wCons (wC (.int 6)) wNil)) (gN 6) (wSeq (wSetF 7 (wComp (wRng1 (wCons (wCallW (fun as s Q E => as.length = 2 ∧ F__law_draw i as s Q E) (wRaw 1 (wCons (wC (.int 5)) wNil))) wNil)) (gN 8) wYes (wTup (wCons (wCallW (fun as s Q E => as.length = 2 ∧ F__law_pick i as s Q E) (wRaw 1 (wCons (wVar 4) wNil))) (wCons (wCallW (fun as s Q E => as.length = 2 ∧ F__law_pick i as s Q E) (wRaw 1 (wCons (wVar 4) wNil))) wNil))) [8]))
  (wSeq (wIfS (wTand (wOpO 7 dNe (wL (wLst wNil))) (wT (wOp dEq (wCallW (fun as s Q E => as.length = 2 ∧ F__law_draw i as s Q E) (wRaw 1 (wCons (wC (.int 3)) wNil))) (wC (.int 0))))) (wSeq (wAsg (wCallW (fun as s Q E => as.length = 2 ∧ F__law_draw i as s Q E) (wRaw 1 (wCons (wOwnE 7 fun xs Q => Q (.int xs.length)) wNil))) (gN 8))
  (wSeq (wAsg (wL (wLst (wCons (wC .none) (wCons (wC (.str "ab")) (wCons (wTup wNil) (wCons (wTup (wCons (wC (.str "a")) wNil)) (wCons (wL (wLst (wCons (wC (.str "a")) (wCons (wC (.str "b")) wNil)))) (wCons (wTup (wCons (wC (.str "a")) (wCons (wC (.str "")) wNil))) (wCons (wTup (wCons (wC (.str "")) (wCons (wC (.str "a")) wNil))) (wCons (wTup (wCons (wC (.str "a")) (wCons (wC (.str "B")) wNil))) (wCons (wTup (wCons (wC (.str "a")) (wCons (wC (.int 1)) wNil))) (wCons (wTup (wCons (wC (.str "a")) (wCons (wC (.str "b")) (wCons (wC (.str "c")) wNil)))) wNil)))))))))))) (gN 9))
  (wSto 7 (wCallW (fun as s Q E => as.length = 2 ∧ F__law_pick i as s Q E) (wRaw 1 (wCons (wVar 9) wNil))) (wVar 8)))) wNext)
  (wFreeze 7 (wIfS (wTnot (wT (wCallW (fun as s Q E => as.length = 2 ∧ F__law_is_right i as s Q E) (wCons (wVar 3) (wCons (wVar 7) wNil))))) (wRet (wC (.bool false))) wNext)))))
  (wSeq (wPar 10 11 (wCons (wCallW (fun as s Q E => as.length = 2 ∧ F__law_pick i as s Q E) (wRaw 1 (wCons (wVar 4) wNil))) (wCons (wCallW (fun as s Q E => as.length = 2 ∧ F__law_pick i as s Q E) (wRaw 1 (wCons (wVar 4) wNil))) wNil)))
  (wSeq (wAsg (wIf (wT (wOp dNe (wVar 10) (wVar 11))) (wL (wLst (wCons (wTup (wCons (wVar 10) (wCons (wVar 11) wNil))) (wCons (wTup (wCons (wVar 11) (wCons (wVar 10) wNil))) wNil)))) (wL (wLst (wCons (wTup (wCons (wVar 10) (wCons (wVar 11) wNil))) wNil)))) (gN 12))
  (wSeq (wIfS (wT (wOp dNe (wCallP (fun ds Q _ => ds.length = 2 ∧ (F__law_renamed cNU) ds Q fun _ => False) (wCons (wCallP (fun ds Q _ => ds.length = 2 ∧ (F__law_renamed cNU) ds Q fun _ => False) (wCons (wVar 3) (wCons (wVar 12) wNil))) (wCons (wVar 12) wNil))) (wVar 3))) (wRet (wC (.bool false))) wNext)
  (wSeq (wIfS (wT (wOp dNe (wCallP (fun ds Q _ => ds.length = 2 ∧ (F__law_rekinded cNU) ds Q fun _ => False) (wCons (wCallP (fun ds Q _ => ds.length = 2 ∧ (F__law_rekinded cNU) ds Q fun _ => False) (wCons (wVar 3) (wCons (wVar 12) wNil))) (wCons (wVar 12) wNil))) (wVar 3))) (wRet (wC (.bool false))) wNext)
  (wSeq (wAsg (wL (wLst (wCons (wTup (wCons (wC (.str "x")) (wCons (wC (.str "y")) wNil))) (wCons (wTup (wCons (wC (.str "y")) (wCons (wC (.str "z")) wNil))) (wCons (wTup (wCons (wC (.str "z")) (wCons (wC (.str "xy")) wNil))) (wCons (wTup (wCons (wC (.str "xy")) (wCons (wC (.str "x")) wNil))) wNil)))))) (gN 13))
  (wSeq (wIfS (wTor (wTnot (wT (wCallW (fun as s Q E => as.length = 2 ∧ F__law_is_right i as s Q E) (wCons (wVar 3) (wCons (wVar 13) wNil))))) (wTnot (wT (wCallW (fun as s Q E => as.length = 2 ∧ F__law_is_right i as s Q E) (wCons (wVar 3) (wCons (wL (wLst (wCons (wTup (wCons (wVar 10) (wCons (wC (.str "q")) wNil))) (wCons (wTup (wCons (wVar 10) (wCons (wC (.str "q")) wNil))) wNil)))) wNil)))))) (wRet (wC (.bool false))) wNext)
  (wSeq (wAsg (wCallW (fun as s Q E => as.length = 2 ∧ (F__law_bent 20) i as s Q E) (wRaw 1 (wCons (wVar 3) wNil))) (gN 14))
  (wIfS (wTor (wTand (wT (wOp dNotN (wCallP (fun ds Q E => ds.length = 1 ∧ F__law_page_fault ds Q E) (wCons (wVar 14) wNil)) (wC .none))) (wTnot (wT (wCallW (fun as s Q E => as.length = 2 ∧ F__law_is_right i as s Q E) (wCons (wVar 14) (wCons (wL (wLst (wCons (wC .none) wNil))) wNil)))))) (wT (wOp dNe (wCB fRepr3 (wCons (wVar 3) wNil)) (wVar 5)))) (wRet (wC (.bool false))) wNext))))))))))))
  (wRet (wC (.bool true))))
theorem tail_law (B : Bt mg) (D__law_bent : Df P w K mg base CX0 23 "_law_bent" 2 (spI K (Wf T) 2 (F__law_bent 20))) (D__law_draw : Df P w K mg base CX0 1 "_law_draw" 2 (spI K (Wf T) 2 F__law_draw)) (D__law_is_right : Df P w K mg base CX0 12 "_law_is_right" 2 (spI K (Wf T) 2 F__law_is_right)) (D__law_page : Df P w K mg base CX0 4 "_law_page" 2 (spI K (Wf T) 2 F__law_page)) (D__law_page_fault : Df P w K mg base CX0 5 "_law_page_fault" 1 (spP K 1 F__law_page_fault)) (D__law_pick : Df P w K mg base CX0 2 "_law_pick" 2 (spI K (Wf T) 2 F__law_pick)) (D__law_rekinded : Do P w K mg base (L2.CX P w) 8 "_law_rekinded" 2 (spP K 2 (F__law_rekinded cNU))) (D__law_renamed : Do P w K mg base (L2.CX P w) 8 "_law_renamed" 2 (spP K 2 (F__law_renamed cNU))) (D__law_signs : Df P w K mg base CX0 1 "_law_signs" 1 (spP K 1 F__law_signs)) (f : Addr) (cdv : Value) (A : Around) (outer : List PySem.Env) (s : Shared) (H : Hp) (E : XK) (hG : A.guards = some []) (hr : Room 23 (A.deeper (PyProof.Rows.envOfC "law" (defScope s_law) s.heap.objs.size f cdv))) : ∃ t, ∀ i : Ix, SSD ((Wf T) i) (cxOf CX0 P w K mg base ["_law_script", "_law_feed_here", "_law_lap", "_law_page_here", "_law_signs_here", "_law_kept", "_law_turn", "_law_lot", "_law_k", "_law_odds", "_law_one", "_law_two", "_law_swap", "_law_round_now", "_law_bad"] "law" (defScope s_law) f cdv A outer s H E) (WXE E) ((defBody s_law).drop 1) t (w_law cNU i) :=
  ⟨_, fun i => (sd_cons (sd_for (L2.passes_of rfl) rfl (i_rng1 B (ad_cons ed_int ad_nil)) (gd_name 2 sc_law.nd rfl (by first | exact .inl rfl | exact .inr rfl)) (sd_cons (sd_set 3 sc_law.nd rfl (by first | exact .inl rfl | exact .inr rfl) (e_callI D__law_page hG (hr.mono (by decide)) pass00 (ad_raw 1 (ad_cons ed_int ad_nil))))
  (sd_cons (sd_asg (ed_tup (ad_cons (e_callP D__law_signs hG (hr.mono (by decide)) pass00 (ad_cons (ed_var 3) ad_nil)) (ad_cons (e_repr3 B hr hG (ad_cons (ed_var 3) ad_nil)) ad_nil))) (g_tup rfl (gds_cons (gd_name 4 sc_law.nd rfl (by first | exact .inl rfl | exact .inr rfl)) (gds_cons (gd_name 5 sc_law.nd rfl (by first | exact .inl rfl | exact .inr rfl)) gds_nil))))
  (sd_cons (sd_for (L2.passes_of rfl) rfl (i_rng1 B (ad_cons ed_int ad_nil)) (gd_name 6 sc_law.nd rfl (by first | exact .inl rfl | exact .inr rfl)) (sd_cons (sd_setLcF 7 sc_law.nd rfl rfl (own := [("_law_k", 8)]) (i_rng1 B (ad_cons (e_callI D__law_draw hG (hr.mono (by decide)) pass00 (ad_raw 1 (ad_cons ed_int ad_nil))) ad_nil)) (blkOk_by (own := [("_law_k", 8)]) (N := ["_law_script", "_law_feed_here", "_law_lap", "_law_page_here", "_law_signs_here", "_law_kept", "_law_turn", "_law_lot", "_law_k", "_law_odds", "_law_one", "_law_two", "_law_swap", "_law_round_now", "_law_bad"]) (sc := defScope s_law) (by decide +kernel))
    (fun _ _ _ _ _ => (gd_name 8 sc_law.nd rfl (by first | exact .inl rfl | exact .inr rfl))) (fun _ _ _ _ _ => ptd_nil) (fun _ _ _ _ _ => (ed_tup (ad_cons (e_callI D__law_pick hG (hr.mono (by decide)) pass00 (ad_raw 1 (ad_cons (ed_var 4) ad_nil))) (ad_cons (e_callI D__law_pick hG (hr.mono (by decide)) pass00 (ad_raw 1 (ad_cons (ed_var 4) ad_nil))) ad_nil)))) (by simp))
  (sd_cons (sd_if (td_bool (tw_and (t_neO 7 hr (ed_new (fd_lst ad_nil))) (tw_and1 (t_eq hr (e_callI D__law_draw hG (hr.mono (by decide)) pass00 (ad_raw 1 (ad_cons ed_int ad_nil))) ed_int)))) (sd_cons (sd_set 8 sc_law.nd rfl (by first | exact .inl rfl | exact .inr rfl) (e_callI D__law_draw hG (hr.mono (by decide)) pass00 (ad_raw 1 (ad_cons (e_lenO 7 B) ad_nil))))
  (sd_cons (sd_set 9 sc_law.nd rfl (by first | exact .inl rfl | exact .inr rfl) (ed_new (fd_lst (ad_cons ed_non (ad_cons ed_str (ad_cons (ed_tup ad_nil) (ad_cons (ed_tup (ad_cons ed_str ad_nil)) (ad_cons (ed_new (fd_lst (ad_cons ed_str (ad_cons ed_str ad_nil)))) (ad_cons (ed_tup (ad_cons ed_str (ad_cons ed_str ad_nil))) (ad_cons (ed_tup (ad_cons ed_str (ad_cons ed_str ad_nil))) (ad_cons (ed_tup (ad_cons ed_str (ad_cons ed_str ad_nil))) (ad_cons (ed_tup (ad_cons ed_str (ad_cons ed_int ad_nil))) (ad_cons (ed_tup (ad_cons ed_str (ad_cons ed_str (ad_cons ed_str ad_nil)))) ad_nil)))))))))))))
  (sd_one (sd_store 7 (e_callI D__law_pick hG (hr.mono (by decide)) pass00 (ad_raw 1 (ad_cons (ed_var 9) ad_nil))) (ed_var 8))))) sd_nil)
  (sd_freeze 7 (sd_one (sd_if (td_not (td_val (e_callI D__law_is_right hG (hr.mono (by decide)) pass00 (ad_cons (ed_var 3) (ad_cons (ed_var 7) ad_nil))))) (sd_one (sd_ret ed_bl)) sd_nil))))))
  (sd_cons (sd_par 10 11 sc_law.nd rfl rfl (by decide) (ad_cons (e_callI D__law_pick hG (hr.mono (by decide)) pass00 (ad_raw 1 (ad_cons (ed_var 4) ad_nil))) (ad_cons (e_callI D__law_pick hG (hr.mono (by decide)) pass00 (ad_raw 1 (ad_cons (ed_var 4) ad_nil))) ad_nil)))
  (sd_cons (sd_set 12 sc_law.nd rfl (by first | exact .inl rfl | exact .inr rfl) (ed_if (t_ne hr (ed_var 10) (ed_var 11)) (ed_new (fd_lst (ad_cons (ed_tup (ad_cons (ed_var 10) (ad_cons (ed_var 11) ad_nil))) (ad_cons (ed_tup (ad_cons (ed_var 11) (ad_cons (ed_var 10) ad_nil))) ad_nil)))) (ed_new (fd_lst (ad_cons (ed_tup (ad_cons (ed_var 10) (ad_cons (ed_var 11) ad_nil))) ad_nil)))))
  (sd_cons (sd_if (t_ne hr (e_callN D__law_renamed (hr.mono (by decide)) (ad_cons (e_callN D__law_renamed (hr.mono (by decide)) (ad_cons (ed_var 3) (ad_cons (ed_var 12) ad_nil))) (ad_cons (ed_var 12) ad_nil))) (ed_var 3)) (sd_one (sd_ret ed_bl)) sd_nil)
  (sd_cons (sd_if (t_ne hr (e_callN D__law_rekinded (hr.mono (by decide)) (ad_cons (e_callN D__law_rekinded (hr.mono (by decide)) (ad_cons (ed_var 3) (ad_cons (ed_var 12) ad_nil))) (ad_cons (ed_var 12) ad_nil))) (ed_var 3)) (sd_one (sd_ret ed_bl)) sd_nil)
  (sd_cons (sd_set 13 sc_law.nd rfl (by first | exact .inl rfl | exact .inr rfl) (ed_new (fd_lst (ad_cons (ed_tup (ad_cons ed_str (ad_cons ed_str ad_nil))) (ad_cons (ed_tup (ad_cons ed_str (ad_cons ed_str ad_nil))) (ad_cons (ed_tup (ad_cons ed_str (ad_cons ed_str ad_nil))) (ad_cons (ed_tup (ad_cons ed_str (ad_cons ed_str ad_nil))) ad_nil)))))))
  (sd_cons (sd_if (td_bool (tw_or (td_not (td_val (e_callI D__law_is_right hG (hr.mono (by decide)) pass00 (ad_cons (ed_var 3) (ad_cons (ed_var 13) ad_nil))))) (tw_or1 (td_not (td_val (e_callI D__law_is_right hG (hr.mono (by decide)) pass00 (ad_cons (ed_var 3) (ad_cons (ed_new (fd_lst (ad_cons (ed_tup (ad_cons (ed_var 10) (ad_cons ed_str ad_nil))) (ad_cons (ed_tup (ad_cons (ed_var 10) (ad_cons ed_str ad_nil))) ad_nil)))) ad_nil)))))))) (sd_one (sd_ret ed_bl)) sd_nil)
  (sd_cons (sd_set 14 sc_law.nd rfl (by first | exact .inl rfl | exact .inr rfl) (e_callI D__law_bent hG (hr.mono (by decide)) pass00 (ad_raw 1 (ad_cons (ed_var 3) ad_nil))))
  (sd_one (sd_if (td_bool (tw_or (td_bool (tw_and (t_notN (e_callP D__law_page_fault hG (hr.mono (by decide)) pass00 (ad_cons (ed_var 14) ad_nil)) ed_non) (tw_and1 (td_not (td_val (e_callI D__law_is_right hG (hr.mono (by decide)) pass00 (ad_cons (ed_var 14) (ad_cons (ed_new (fd_lst (ad_cons ed_non ad_nil))) ad_nil)))))))) (tw_or1 (t_ne hr (e_repr3 B hr hG (ad_cons (ed_var 3) ad_nil)) (ed_var 5))))) (sd_one (sd_ret ed_bl)) sd_nil)))))))))))))
  (sd_one (sd_ret ed_bl)))⟩
def w_turn (cNU : Addr) (i : Ix) : DS Unit :=
  (wSeq (wSetF 7 (wComp (wRng1 (wCons (wCallW (fun as s Q E => as.length = 2 ∧ F__law_draw i as s Q E) (wRaw 1 (wCons (wC (.int 5)) wNil))) wNil)) (gN 8) wYes (wTup (wCons (wCallW (fun as s Q E => as.length = 2 ∧ F__law_pick i as s Q E) (wRaw 1 (wCons (wVar 4) wNil))) (wCons (wCallW (fun as s Q E => as.length = 2 ∧ F__law_pick i as s Q E) (wRaw 1 (wCons (wVar 4) wNil))) wNil))) [8]))
  (wSeq (wIfS (wTand (wOpO 7 dNe (wL (wLst wNil))) (wT (wOp dEq (wCallW (fun as s Q E => as.length = 2 ∧ F__law_draw i as s Q E) (wRaw 1 (wCons (wC (.int 3)) wNil))) (wC (.int 0))))) (wSeq (wAsg (wCallW (fun as s Q E => as.length = 2 ∧ F__law_draw i as s Q E) (wRaw 1 (wCons (wOwnE 7 fun xs Q => Q (.int xs.length)) wNil))) (gN 8))
  (wSeq (wAsg (wL (wLst (wCons (wC .none) (wCons (wC (.str "ab")) (wCons (wTup wNil) (wCons (wTup (wCons (wC (.str "a")) wNil)) (wCons (wL (wLst (wCons (wC (.str "a")) (wCons (wC (.str "b")) wNil)))) (wCons (wTup (wCons (wC (.str "a")) (wCons (wC (.str "")) wNil))) (wCons (wTup (wCons (wC (.str "")) (wCons (wC (.str "a")) wNil))) (wCons (wTup (wCons (wC (.str "a")) (wCons (wC (.str "B")) wNil))) (wCons (wTup (wCons (wC (.str "a")) (wCons (wC (.int 1)) wNil))) (wCons (wTup (wCons (wC (.str "a")) (wCons (wC (.str "b")) (wCons (wC (.str "c")) wNil)))) wNil)))))))))))) (gN 9))
  (wSto 7 (wCallW (fun as s Q E => as.length = 2 ∧ F__law_pick i as s Q E) (wRaw 1 (wCons (wVar 9) wNil))) (wVar 8)))) wNext)
  (wFreeze 7 (wIfS (wTnot (wT (wCallW (fun as s Q E => as.length = 2 ∧ F__law_is_right i as s Q E) (wCons (wVar 3) (wCons (wVar 7) wNil))))) (wRet (wC (.bool false))) wNext))))
def w_rest (cNU : Addr) (i : Ix) : DS Unit :=
  (wSeq (wPar 10 11 (wCons (wCallW (fun as s Q E => as.length = 2 ∧ F__law_pick i as s Q E) (wRaw 1 (wCons (wVar 4) wNil))) (wCons (wCallW (fun as s Q E => as.length = 2 ∧ F__law_pick i as s Q E) (wRaw 1 (wCons (wVar 4) wNil))) wNil)))
  (wSeq (wAsg (wIf (wT (wOp dNe (wVar 10) (wVar 11))) (wL (wLst (wCons (wTup (wCons (wVar 10) (wCons (wVar 11) wNil))) (wCons (wTup (wCons (wVar 11) (wCons (wVar 10) wNil))) wNil)))) (wL (wLst (wCons (wTup (wCons (wVar 10) (wCons (wVar 11) wNil))) wNil)))) (gN 12))
  (wSeq (wIfS (wT (wOp dNe (wCallP (fun ds Q _ => ds.length = 2 ∧ (F__law_renamed cNU) ds Q fun _ => False) (wCons (wCallP (fun ds Q _ => ds.length = 2 ∧ (F__law_renamed cNU) ds Q fun _ => False) (wCons (wVar 3) (wCons (wVar 12) wNil))) (wCons (wVar 12) wNil))) (wVar 3))) (wRet (wC (.bool false))) wNext)
  (wSeq (wIfS (wT (wOp dNe (wCallP (fun ds Q _ => ds.length = 2 ∧ (F__law_rekinded cNU) ds Q fun _ => False) (wCons (wCallP (fun ds Q _ => ds.length = 2 ∧ (F__law_rekinded cNU) ds Q fun _ => False) (wCons (wVar 3) (wCons (wVar 12) wNil))) (wCons (wVar 12) wNil))) (wVar 3))) (wRet (wC (.bool false))) wNext)
  (wSeq (wAsg (wL (wLst (wCons (wTup (wCons (wC (.str "x")) (wCons (wC (.str "y")) wNil))) (wCons (wTup (wCons (wC (.str "y")) (wCons (wC (.str "z")) wNil))) (wCons (wTup (wCons (wC (.str "z")) (wCons (wC (.str "xy")) wNil))) (wCons (wTup (wCons (wC (.str "xy")) (wCons (wC (.str "x")) wNil))) wNil)))))) (gN 13))
  (wSeq (wIfS (wTor (wTnot (wT (wCallW (fun as s Q E => as.length = 2 ∧ F__law_is_right i as s Q E) (wCons (wVar 3) (wCons (wVar 13) wNil))))) (wTnot (wT (wCallW (fun as s Q E => as.length = 2 ∧ F__law_is_right i as s Q E) (wCons (wVar 3) (wCons (wL (wLst (wCons (wTup (wCons (wVar 10) (wCons (wC (.str "q")) wNil))) (wCons (wTup (wCons (wVar 10) (wCons (wC (.str "q")) wNil))) wNil)))) wNil)))))) (wRet (wC (.bool false))) wNext)
  (wSeq (wAsg (wCallW (fun as s Q E => as.length = 2 ∧ (F__law_bent 20) i as s Q E) (wRaw 1 (wCons (wVar 3) wNil))) (gN 14))
  (wIfS (wTor (wTand (wT (wOp dNotN (wCallP (fun ds Q E => ds.length = 1 ∧ F__law_page_fault ds Q E) (wCons (wVar 14) wNil)) (wC .none))) (wTnot (wT (wCallW (fun as s Q E => as.length = 2 ∧ F__law_is_right i as s Q E) (wCons (wVar 14) (wCons (wL (wLst (wCons (wC .none) wNil))) wNil)))))) (wT (wOp dNe (wCB fRepr3 (wCons (wVar 3) wNil)) (wVar 5)))) (wRet (wC (.bool false))) wNext))))))))
def w_lap (cNU : Addr) (i : Ix) : DS Unit :=
  (wSeq (wAsg (wCallW (fun as s Q E => as.length = 2 ∧ F__law_page i as s Q E) (wRaw 1 (wCons (wC (.int 9)) wNil))) (gN 3))
  (wSeq (wAsg (wTup (wCons (wCallP (fun ds Q E => ds.length = 1 ∧ F__law_signs ds Q E) (wCons (wVar 3) wNil)) (wCons (wCB fRepr3 (wCons (wVar 3) wNil)) wNil))) (gT 2 (gCs (gN 4) (gCs (gN 5) gNs))))
  (wSeq (wFor (wRng1 (wCons (wC (.int 6)) wNil)) (gN 6) (wSeq (wSetF 7 (wComp (wRng1 (wCons (wCallW (fun as s Q E => as.length = 2 ∧ F__law_draw i as s Q E) (wRaw 1 (wCons (wC (.int 5)) wNil))) wNil)) (gN 8) wYes (wTup (wCons (wCallW (fun as s Q E => as.length = 2 ∧ F__law_pick i as s Q E) (wRaw 1 (wCons (wVar 4) wNil))) (wCons (wCallW (fun as s Q E => as.length = 2 ∧ F__law_pick i as s Q E) (wRaw 1 (wCons (wVar 4) wNil))) wNil))) [8]))
  (wSeq (wIfS (wTand (wOpO 7 dNe (wL (wLst wNil))) (wT (wOp dEq (wCallW (fun as s Q E => as.length = 2 ∧ F__law_draw i as s Q E) (wRaw 1 (wCons (wC (.int 3)) wNil))) (wC (.int 0))))) (wSeq (wAsg (wCallW (fun as s Q E => as.length = 2 ∧ F__law_draw i as s Q E) (wRaw 1 (wCons (wOwnE 7 fun xs Q => Q (.int xs.length)) wNil))) (gN 8))
  (wSeq (wAsg (wL (wLst (wCons (wC .none) (wCons (wC (.str "ab")) (wCons (wTup wNil) (wCons (wTup (wCons (wC (.str "a")) wNil)) (wCons (wL (wLst (wCons (wC (.str "a")) (wCons (wC (.str "b")) wNil)))) (wCons (wTup (wCons (wC (.str "a")) (wCons (wC (.str "")) wNil))) (wCons (wTup (wCons (wC (.str "")) (wCons (wC (.str "a")) wNil))) (wCons (wTup (wCons (wC (.str "a")) (wCons (wC (.str "B")) wNil))) (wCons (wTup (wCons (wC (.str "a")) (wCons (wC (.int 1)) wNil))) (wCons (wTup (wCons (wC (.str "a")) (wCons (wC (.str "b")) (wCons (wC (.str "c")) wNil)))) wNil)))))))))))) (gN 9))
  (wSto 7 (wCallW (fun as s Q E => as.length = 2 ∧ F__law_pick i as s Q E) (wRaw 1 (wCons (wVar 9) wNil))) (wVar 8)))) wNext)
  (wFreeze 7 (wIfS (wTnot (wT (wCallW (fun as s Q E => as.length = 2 ∧ F__law_is_right i as s Q E) (wCons (wVar 3) (wCons (wVar 7) wNil))))) (wRet (wC (.bool false))) wNext)))))
  (wSeq (wPar 10 11 (wCons (wCallW (fun as s Q E => as.length = 2 ∧ F__law_pick i as s Q E) (wRaw 1 (wCons (wVar 4) wNil))) (wCons (wCallW (fun as s Q E => as.length = 2 ∧ F__law_pick i as s Q E) (wRaw 1 (wCons (wVar 4) wNil))) wNil)))
  (wSeq (wAsg (wIf (wT (wOp dNe (wVar 10) (wVar 11))) (wL (wLst (wCons (wTup (wCons (wVar 10) (wCons (wVar 11) wNil))) (wCons (wTup (wCons (wVar 11) (wCons (wVar 10) wNil))) wNil)))) (wL (wLst (wCons (wTup (wCons (wVar 10) (wCons (wVar 11) wNil))) wNil)))) (gN 12))
  (wSeq (wIfS (wT (wOp dNe (wCallP (fun ds Q _ => ds.length = 2 ∧ (F__law_renamed cNU) ds Q fun _ => False) (wCons (wCallP (fun ds Q _ => ds.length = 2 ∧ (F__law_renamed cNU) ds Q fun _ => False) (wCons (wVar 3) (wCons (wVar 12) wNil))) (wCons (wVar 12) wNil))) (wVar 3))) (wRet (wC (.bool false))) wNext)
  (wSeq (wIfS (wT (wOp dNe (wCallP (fun ds Q _ => ds.length = 2 ∧ (F__law_rekinded cNU) ds Q fun _ => False) (wCons (wCallP (fun ds Q _ => ds.length = 2 ∧ (F__law_rekinded cNU) ds Q fun _ => False) (wCons (wVar 3) (wCons (wVar 12) wNil))) (wCons (wVar 12) wNil))) (wVar 3))) (wRet (wC (.bool false))) wNext)
  (wSeq (wAsg (wL (wLst (wCons (wTup (wCons (wC (.str "x")) (wCons (wC (.str "y")) wNil))) (wCons (wTup (wCons (wC (.str "y")) (wCons (wC (.str "z")) wNil))) (wCons (wTup (wCons (wC (.str "z")) (wCons (wC (.str "xy")) wNil))) (wCons (wTup (wCons (wC (.str "xy")) (wCons (wC (.str "x")) wNil))) wNil)))))) (gN 13))
  (wSeq (wIfS (wTor (wTnot (wT (wCallW (fun as s Q E => as.length = 2 ∧ F__law_is_right i as s Q E) (wCons (wVar 3) (wCons (wVar 13) wNil))))) (wTnot (wT (wCallW (fun as s Q E => as.length = 2 ∧ F__law_is_right i as s Q E) (wCons (wVar 3) (wCons (wL (wLst (wCons (wTup (wCons (wVar 10) (wCons (wC (.str "q")) wNil))) (wCons (wTup (wCons (wVar 10) (wCons (wC (.str "q")) wNil))) wNil)))) wNil)))))) (wRet (wC (.bool false))) wNext)
  (wSeq (wAsg (wCallW (fun as s Q E => as.length = 2 ∧ (F__law_bent 20) i as s Q E) (wRaw 1 (wCons (wVar 3) wNil))) (gN 14))
  (wIfS (wTor (wTand (wT (wOp dNotN (wCallP (fun ds Q E => ds.length = 1 ∧ F__law_page_fault ds Q E) (wCons (wVar 14) wNil)) (wC .none))) (wTnot (wT (wCallW (fun as s Q E => as.length = 2 ∧ F__law_is_right i as s Q E) (wCons (wVar 14) (wCons (wL (wLst (wCons (wC .none) wNil))) wNil)))))) (wT (wOp dNe (wCB fRepr3 (wCons (wVar 3) wNil)) (wVar 5)))) (wRet (wC (.bool false))) wNext)))))))))))
end
end L07

set_option Elab.async false
set_option linter.all false
set_option autoImplicit false
set_option maxRecDepth 100000
set_option maxHeartbeats 1000000
set_option pp.maxSteps 900
namespace L07
open PySem PySem.Spec Dt
open L2 hiding wT wNot
theorem opO_of {S : Type} {i : Nat} {f : PyData → PyData → (PyData → Prop) → Prop} {wb : DE S} {ρ : List Sl} {s : S} {Q : Bool → S → Prop} {E : Er → S → Prop} {p : Addr} {xs : List PyData} (h0 : ρ[i]? = some (.own p xs)) (h : wb ρ s (fun y s1 => f (.list xs) y fun z => match z with | .bool b => Q b s1 | _ => False) E) : wOpO i f wb ρ s Q E := by
  unfold wOpO
  rw [h0]; exact h
theorem ownE_of {S : Type} {i : Nat} {f : List PyData → (PyData → Prop) → Prop} {ρ : List Sl} {s : S} {Q : PyData → S → Prop} {E : Er → S → Prop} {p : Addr} {xs : List PyData} (h0 : ρ[i]? = some (.own p xs)) (h : f xs fun z => Q z s) : wOwnE i f ρ s Q E := by
  unfold wOwnE
  rw [h0]; exact h
theorem nil_ne {xs : List PyData} (hs : shp (.list xs) = true) {Q : PyData → Prop} (h : Q (.bool (!xs.isEmpty))) : dNe (.list xs) (.list []) Q := by
  refine ⟨hs, by decide +kernel, ?_⟩
  have e : PyData.eqv (.list xs) (.list []) = xs.isEmpty := by cases xs <;> rfl
  rw [e]; exact h
/-- an element of a list of pairs, good or not -/
def El (d : PyData) : Prop := PyData.depth d ≤ 3 ∧ d.hasDict = false
theorem el_shp {xs : List PyData} (h : ∀ d ∈ xs, El d) : shp (.list xs) = true := by
  have g : PyData.depthAll xs ≤ 3 ∧ PyData.hasDictAll xs = false := by
    induction xs with
    | nil => simp [PyData.depthAll, PyData.hasDictAll]
    | cons x xs ih =>
      obtain ⟨a, b⟩ := h x List.mem_cons_self
      obtain ⟨c, d⟩ := ih fun y hy => h y (List.mem_cons_of_mem _ hy)
      simp only [PyData.depthAll, PyData.hasDictAll, b, d]
      exact ⟨by omega, rfl⟩
  rw [shp_iff]
  simp only [PyData.depth, PyData.hasDict]
  exact ⟨by omega, g.2⟩
theorem el_pair (a b : Str) : El (.tuple [.str a, .str b]) := ⟨by simp only [PyData.depth, PyData.depthAll]; omega, rfl⟩
def odds : List PyData := [.none, .str "ab", .tuple [], .tuple [.str "a"], .list [.str "a", .str "b"], .tuple [.str "a", .str ""], .tuple [.str "", .str "a"], .tuple [.str "a", .str "B"], .tuple [.str "a", .int 1], .tuple [.str "a", .str "b", .str "c"]]
theorem odds_el : ∀ d ∈ odds, El d := fun d hd => by
  unfold odds at hd
  simp only [List.mem_cons, List.not_mem_nil, or_false] at hd
  rcases hd with rfl | rfl | rfl | rfl | rfl | rfl | rfl | rfl | rfl | rfl <;> exact ⟨by simp only [PyData.depth, PyData.depthAll]; omega, rfl⟩
theorem mem_setL {α : Type} {l : List α} {n : Nat} {x y : α} (h : y ∈ l.set n x) : y = x ∨ y ∈ l := by
  rcases List.mem_or_eq_of_mem_set h with h | h
  · exact .inr h
  · exact .inl h
/-- a page of a lap -/
structure Pg (ys ss : List PyData) : Prop where
  rows : ∀ y ∈ ys, GoodRow y
  len : ys.length ≤ 9
  nm : ∀ s ∈ ss, isName s = true
  ne : ss ≠ []
  sl : ss.length ≤ 1000
theorem Pg.w {ys ss : List PyData} (h : Pg ys ss) : wg (.tuple ys) ≤ 3500 ∧ PyData.depth (.tuple ys) ≤ 4 ∧ iB (.tuple ys) ≤ 0 := by
  obtain ⟨a, b, c⟩ := all_nz fun y hy => (h.rows y hy).1
  have d : ys.length * 362 ≤ 9 * 362 := Nat.mul_le_mul_right _ h.len
  simp only [wg, PyData.depth, iB]
  omega
theorem Pg.ok {ys ss : List PyData} (h : Pg ys ss) : PgOk (.tuple ys) := .inl ⟨ys, rfl, h.len, h.rows⟩
def plain (z : Sl) : Prop := z = .no ∨ ∃ d, z = .d d
theorem c_right {i : Ix} {w1 w2 : DE Unit} {ρ : List Sl} {s : Unit} {Q : PyData → Unit → Prop} {E : Er → Unit → Prop} (h : w1 ρ s (fun d s1 => w2 ρ s1 (fun l s2 => ∃ ls, l = .list ls ∧ ls.length ≤ 4 ∧ shp (.list ls) = true ∧ PgOk d ∧ PyData.depth d ≤ 50 ∧ (elemsD d).length ≤ 100000 ∧ Q (.bool true) ()) E) E) (hm : ∀ (Q1 Q2 : PyData → Unit → Prop), (∀ d s, Q1 d s → Q2 d s) → w1 ρ s Q1 E → w1 ρ s Q2 E) (hm2 : ∀ s (Q1 Q2 : PyData → Unit → Prop), (∀ d s, Q1 d s → Q2 d s) → w2 ρ s Q1 E → w2 ρ s Q2 E) :
    wCallW (fun as s Q E => as.length = 2 ∧ F__law_is_right i as s Q E) (wCons w1 (wCons w2 wNil)) ρ s Q E := by
  refine callW_of (cons_of (hm _ _ (fun d s1 h => cons_of (hm2 _ _ _ (fun l s2 h => nil_of ?_) h)) h))
  obtain ⟨ls, rfl, h1, h2, h3, h4, h5, h6⟩ := h
  exact ⟨rfl, d, ls, rfl, h1, h2, h3, h4, h5, h6⟩
theorem mono_var {j : Nat} {ρ : List Sl} {E : Er → Unit → Prop} (s : Unit) (Q1 Q2 : PyData → Unit → Prop) (h : ∀ d s, Q1 d s → Q2 d s) (q : (wVar j : DE Unit) ρ s Q1 E) : wVar j ρ s Q2 E := by
  unfold wVar at q ⊢
  split at q
  · exact h _ _ q
  · exact q.elim
theorem right_var {i : Ix} {ρ : List Sl} {s : Unit} {a b : Nat} {d : PyData} {ls : List PyData} {Q : PyData → Unit → Prop} {E : Er → Unit → Prop} (ha : ρ[a]? = some (.d d)) (hb : ρ[b]? = some (.d (.list ls))) (h1 : ls.length ≤ 4) (h2 : shp (.list ls) = true) (h3 : PgOk d) (h4 : PyData.depth d ≤ 50) (h5 : (elemsD d).length ≤ 100000) (q : Q (.bool true) ()) :
    wCallW (fun as s Q E => as.length = 2 ∧ F__law_is_right i as s Q E) (wCons (wVar a) (wCons (wVar b) wNil)) ρ s Q E :=
  callW_of (cons_of (var_of ha (cons_of (var_of hb (nil_of ⟨rfl, d, ls, rfl, h1, h2, h3, h4, h5, q⟩)))))
theorem scan_pairs : ∀ (rs : List (Str × Str)) (k : Nat) (ps : List (Str × Str)), (∀ p ∈ rs, isName (.str p.1) = true ∧ isName (.str p.2) = true) → (∀ p ∈ rs, ∀ q ∈ ps, q.1 ≠ p.1) → rs.Pairwise (fun p q => p.1 ≠ q.1) → scan (pairsD rs) k ps = .inr (ps ++ rs)
  | [], k, ps, _, _, _ => by rw [List.append_nil]; rfl
  | (a, b) :: rs, k, ps, hn, hp, hw => by
    obtain ⟨ha, hb⟩ := hn (a, b) List.mem_cons_self
    show scan (.tuple [.str a, .str b] :: pairsD rs) k ps = _
    rw [scan_ok ha hb]
    have e : ps.find? (fun p => decide (p.1 = a)) = none := List.find?_eq_none.mpr fun q hq => by simpa using hp (a, b) List.mem_cons_self q hq
    rw [e, if_neg (by decide)]
    obtain ⟨w1, w2⟩ := List.pairwise_cons.mp hw
    rw [scan_pairs rs (k + 1) _ (fun p h => hn p (List.mem_cons_of_mem _ h)) (fun p h q hq => ?_) w2, List.append_assoc]; rfl
    rcases List.mem_append.mp hq with hq | hq
    · exact hp p (List.mem_cons_of_mem _ h) q hq
    · rw [List.mem_singleton.mp hq]
      exact w1 p h
theorem turn_twice {f : Str → Str} (h : ∀ s, f (f s) = s) (b : Bool) {x : PyData} (hx : RowK x) : turnR b f (turnR b f x) = x := by
  cases hx with
  | @one w c => rfl
  | @name w a m c ha hb =>
    cases b with
    | true => show PyData.tuple [.str w, .str a, .str (f (f m))] = _; rw [h]
    | false => show PyData.tuple [.str w, .str (f (f a)), .str m] = _; rw [h]
  | @give a ha =>
    cases b with
    | true => show PyData.tuple [.str "give", .str (f (f a))] = _; rw [h]
    | false => rfl
  | @opn a c => cases b <;> rfl
  | @fn a ha =>
    cases b with
    | true => show PyData.tuple [.str "open", .tuple [.str "fun", .str (f (f a))]] = _; rw [h]
    | false => rfl
theorem eqv_row {x : PyData} (h : RowK x) : PyData.eqv x x = true := by
  cases h <;> simp [PyData.eqv, PyData.eqvAll]
theorem eqv_rows : ∀ {xs : List PyData}, (∀ x ∈ xs, RowK x) → PyData.eqvAll xs xs = true
  | [], _ => rfl
  | x :: xs, h => by
    rw [PyData.eqvAll, eqv_row (h x List.mem_cons_self), eqv_rows fun y hy => h y (List.mem_cons_of_mem _ hy)]; rfl
theorem rows_nd {xs : List PyData} (h : ∀ x ∈ xs, isRow x = true) : PyData.hasDict (.tuple xs) = false := by
  have g : ∀ ys : List PyData, (∀ x ∈ ys, isRow x = true) → PyData.hasDictAll ys = false := by
    intro ys
    induction ys with
    | nil => intro _; simp only [PyData.hasDictAll]
    | cons y ys ih =>
      intro hy
      have e : PyData.hasDict y = false := by cases rowK (hy y List.mem_cons_self) <;> rfl
      simp only [PyData.hasDictAll, e, ih fun x hx => hy x (List.mem_cons_of_mem _ hx), Bool.or_false]
  simp only [PyData.hasDict]
  exact g xs h
theorem ne_rows {xs : List PyData} (h : ∀ x ∈ xs, RowK x) (hd : PyData.depth (.tuple xs) ≤ 60) {Q : PyData → Prop} (q : Q (.bool false)) : dNe (.tuple xs) (.tuple xs) Q := by
  have hs : shp (.tuple xs) = true := by
    rw [shp_iff]
    exact ⟨by omega, rows_nd fun x hx => rowK_row (h x hx)⟩
  refine ⟨hs, hs, ?_⟩
  rw [PyData.eqv, eqv_rows h]
  exact q
/-- the pairs that exchange two names -/
def swapP (a b : Str) : List (Str × Str) := if a = b then [(a, b)] else [(a, b), (b, a)]
theorem late_swap (a b s : Str) : late (swapP a b) s = if s = a then b else if s = b then a else s := by
  unfold swapP late
  by_cases c : a = b
  · subst c
    rw [if_pos rfl]
    by_cases d : a = s
    · rw [List.find?_cons_of_pos (by simpa using d), if_pos d.symm]; rfl
    · rw [List.find?_cons_of_neg (by simpa using d), if_neg (Ne.symm d), if_neg (Ne.symm d)]; rfl
  · rw [if_neg c]
    by_cases d : a = s
    · rw [List.find?_cons_of_pos (by simpa using d), if_pos d.symm]; rfl
    · rw [List.find?_cons_of_neg (by simpa using d), if_neg (Ne.symm d)]
      by_cases e : b = s
      · rw [List.find?_cons_of_pos (by simpa using e), if_pos e.symm]; rfl
      · rw [List.find?_cons_of_neg (by simpa using e), if_neg (Ne.symm e)]; rfl
theorem swap_twice (a b s : Str) : late (swapP a b) (late (swapP a b) s) = s := by
  rw [late_swap, late_swap]
  by_cases c1 : s = a
  · rw [if_pos c1]
    by_cases c2 : b = a
    · rw [if_pos c2, c2, c1]
    · rw [if_neg c2, if_pos rfl, c1]
  · rw [if_neg c1]
    by_cases c2 : s = b
    · rw [if_pos c2, if_pos rfl, c2]
    · rw [if_neg c2, if_neg c1, if_neg c2]
theorem swap_ok {a b : Str} (ha : isName (.str a) = true) (hb : isName (.str b) = true) : (∀ p ∈ swapP a b, isName (.str p.1) = true ∧ isName (.str p.2) = true) ∧ scan (pairsD (swapP a b)) 0 [] = .inr (swapP a b) ∧ (swapP a b).length ≤ 2 := by
  have h1 : ∀ p ∈ swapP a b, isName (.str p.1) = true ∧ isName (.str p.2) = true := fun p hp => by
    unfold swapP at hp
    split at hp
    · rw [List.mem_singleton.mp hp]; exact ⟨ha, hb⟩
    · simp only [List.mem_cons, List.not_mem_nil, or_false] at hp
      rcases hp with rfl | rfl
      · exact ⟨ha, hb⟩
      · exact ⟨hb, ha⟩
  refine ⟨h1, scan_pairs _ _ _ h1 (fun _ _ _ h => by cases h) ?_, ?_⟩
  · unfold swapP
    split
    · exact List.pairwise_singleton _ _
    · rename_i c
      exact List.pairwise_cons.mpr ⟨fun q hq => by rw [List.mem_singleton.mp hq]; exact c, List.pairwise_singleton _ _⟩
  · unfold swapP
    split <;> simp
theorem pairs_el (ps : List (Str × Str)) : ∀ d ∈ pairsD ps, El d := fun d hd => by
  obtain ⟨p, _, rfl⟩ := List.mem_map.mp hd
  exact el_pair _ _
theorem turn_good {cNU : Addr} {b : Bool} {ys ls : List PyData} {ps : List (Str × Str)} {Q : PyData → Prop} {E : Er → Prop} (hy : ∀ y ∈ ys, RowK y) (hs : scan ls 0 [] = .inr ps) (q : Q (.tuple (ys.map (turnR b (late ps))))) : turnW cNU b (.tuple ys) ls Q E := by
  unfold turnW
  rw [fault_none fun y h => rowK_row (hy y h)]
  dsimp only
  rw [hs]
  exact q
theorem nm_str {s : PyData} (h : isName s = true) : ∃ a, s = .str a := isName_str h
def R (i : Ix) (ys ss : List PyData) (z2 z6 z7 z8 z9 z10 z11 z12 z13 z14 : Sl) : List Sl := [.no, .raw (.ref i.1), z2, .d (.tuple ys), .d (.list ss), .d (.str (PyData.tuple ys).shown), z6, z7, z8, z9, z10, z11, z12, z13, z14]
theorem spec_turn (cNU : Addr) (i : Ix) {ys ss : List PyData} {z2 z6 z7 z8 z9 z10 z11 z12 z13 z14 : Sl} (h : Pg ys ss) (h8 : plain z8) (D : DEnds Unit) (hx : ∀ z7 z8 z9, plain z8 → D.nx (R i ys ss z2 z6 z7 z8 z9 z10 z11 z12 z13 z14) ()) : w_turn cNU i (R i ys ss z2 z6 z7 z8 z9 z10 z11 z12 z13 z14) () D := by
  obtain ⟨p1, p2, p3⟩ := h.w
  unfold w_turn R
  have n8 : noOwn [.no, .raw (.ref i.1), z2, .d (.tuple ys), .d (.list ss), .d (.str (PyData.tuple ys).shown), z6, z7, z8, z9, z10, z11, z12, z13, z14] [8] = true := by
    rcases h8 with rfl | ⟨d, rfl⟩ <;> rfl
  refine seq_of (setF_of (comp_of n8 (rng1_of (c_drawN rfl (c_of ⟨5, rfl, by decide, by decide, fun k k0 k1 => ⟨by omega, by omega, ?_⟩⟩)))))
  dsimp only [wipeD, List.set]
  refine comp_prop (fun d => ∃ a b : Str, d = .tuple [.str a, .str b]) _ _ _ (fun d hd s Y y => ?_) fun lot s' hl hR => ?_
  · dsimp only [gN, List.set]
    refine ⟨rfl, tup_of (cons_of (c_pickN rfl (var_of rfl ⟨ss, rfl, h.ne, by have := h.sl; omega, fun x hx => cons_of (c_pickN rfl (var_of rfl ⟨ss, rfl, h.ne, by have := h.sl; omega, fun u hu => nil_of ⟨few_lim (by simp), ?_⟩⟩))⟩)))⟩
    obtain ⟨a, rfl⟩ := nm_str (h.nm x hx)
    obtain ⟨b, rfl⟩ := nm_str (h.nm u hu)
    exact y _ _ ⟨a, b, rfl⟩
  rw [rngD_len] at hl
  have ll : lot.length ≤ 4 := by omega
  have le : ∀ d ∈ lot, El d := fun d hd => by
    obtain ⟨a, b, rfl⟩ := hR d hd
    exact el_pair a b
  clear hl hR
  intro p
  have last : ∀ (l2 : List PyData) (y8 y9 : Sl), l2.length ≤ 4 → (∀ d ∈ l2, El d) → plain y8 → (wFreeze 7 (wIfS (wTnot (wT (wCallW (fun as s Q E => as.length = 2 ∧ F__law_is_right i as s Q E) (wCons (wVar 3) (wCons (wVar 7) wNil))))) (wRet (wC (.bool false))) wNext)) [.no, .raw (.ref i.1), z2, .d (.tuple ys), .d (.list ss), .d (.str (PyData.tuple ys).shown), z6, .own p l2, y8, y9, z10, z11, z12, z13, z14] () D := fun l2 y8 y9 h1 h2 h3 => by
    refine freeze_of (p := p) (xs := l2) rfl ?_
    dsimp only [List.set]
    refine ifS_f (fun Q E q => tnot_of (t_of (right_var rfl rfl h1 (el_shp h2) h.ok (by omega) (by have := h.len; show ys.length ≤ _; omega) q))) (hx _ _ _ h3)
  by_cases c : lot = []
  · refine seq_of (ifS_f (fun Q E q => tand_of (opO_of (p := p) (xs := lot) rfl (l_of (lst_of (nil_of ⟨few_lim (by simp), nil_ne (el_shp le) ?_⟩))))) ?_)
    · rw [c]
      show if false = true then _ else _
      rw [if_neg (by decide)]
      exact q
    · exact last lot _ _ ll le h8
  · have lp : 0 < lot.length := List.length_pos_iff.mpr c
    refine seq_of (ifS_any (fun Q E q => tand_of (opO_of (p := p) (xs := lot) rfl (l_of (lst_of (nil_of ⟨few_lim (by simp), nil_ne (el_shp le) ?_⟩))))) ?_ ?_)
    · have e : lot.isEmpty = false := by cases lot with | nil => exact absurd rfl c | cons _ _ => rfl
      rw [e]
      show if true = true then _ else _
      rw [if_pos rfl]
      exact t_of (op_of (c_drawN rfl (c_of ⟨3, rfl, by decide, by decide, fun k k0 k1 => c_of (eqI_of (q _))⟩)))
    · refine seq_of (asg_of (c_drawN rfl (ownE_of (p := p) (xs := lot) rfl ⟨_, rfl, by omega, by omega, fun n n0 n1 => ?_⟩)))
      dsimp only [gN, List.set]
      refine seq_of (asg_of (l_of (lst_of ?_)))
      simp only [wCons, wC, wTup, wNil, wL, wLst, allK, List.length_cons, List.length_nil, limL_eq, gN, List.set]
      repeat (refine And.intro (by omega) ?_)
      refine sto_of (p := p) (xs := lot) rfl (c_pickN rfl (var_of rfl ⟨odds, rfl, by simp [odds], by simp [odds], fun x hx => var_of rfl ⟨n.toNat, ?_, ?_⟩⟩))
      · unfold ixN
        rw [if_pos (by omega), if_pos (by omega)]
      · exact last _ _ _ (by rw [List.length_set]; exact ll) (fun d hd => by
          rcases mem_setL hd with rfl | hd
          · exact odds_el _ hx
          · exact le d hd) (.inr ⟨_, rfl⟩)
    · exact last lot _ _ ll le h8
theorem bent_len {xs : List PyData} {bad : PyData} (h : Bent (.tuple xs) bad) (hn : xs.length ≤ 14) : (elemsD bad).length ≤ 1000 := by
  obtain ⟨_, _, _, h⟩ := h
  cases bad with
  | tuple ys =>
    have t0 : tl (.tuple xs) = xs.length := rfl
    have : ys.length ≤ max (tl (.tuple xs) + 1) 4 := h
    show ys.length ≤ 1000
    omega
  | _ => exact Nat.zero_le _
theorem spec_rest (cNU : Addr) (i : Ix) {ys ss : List PyData} {z2 z6 z7 z8 z9 z10 z11 z12 z13 z14 : Sl} (h : Pg ys ss) (D : DEnds Unit) (hx : ∀ z10 z11 z12 z13 z14, D.nx (R i ys ss z2 z6 z7 z8 z9 z10 z11 z12 z13 z14) ()) : w_rest cNU i (R i ys ss z2 z6 z7 z8 z9 z10 z11 z12 z13 z14) () D := by
  obtain ⟨p1, p2, p3⟩ := h.w
  have yl := h.len
  have hk : ∀ y ∈ ys, RowK y := fun y hy => rowK (h.rows y hy).2.2
  have el : (elemsD (.tuple ys)).length ≤ 100000 := by show ys.length ≤ _; omega
  unfold w_rest R
  refine seq_of (par_of (cons_of (c_pickN rfl (var_of rfl ⟨ss, rfl, h.ne, by have := h.sl; omega, fun x hx1 => cons_of (c_pickN rfl (var_of rfl ⟨ss, rfl, h.ne, by have := h.sl; omega, fun u hu => nil_of ?_⟩))⟩))))
  obtain ⟨a, rfl⟩ := nm_str (h.nm x hx1)
  obtain ⟨b, rfl⟩ := nm_str (h.nm u hu)
  have na := h.nm _ hx1
  have nb := h.nm _ hu
  dsimp only [allK, List.set]
  obtain ⟨o1, o2, o3⟩ := swap_ok na nb
  refine seq_of (asg_of (if_of (t_of (op_of (var_of rfl (var_of rfl (dNe_s ?_)))))))
  have sw : ∀ D' : DEnds Unit, D'.nx [.no, .raw (.ref i.1), z2, .d (.tuple ys), .d (.list ss), .d (.str (PyData.tuple ys).shown), z6, z7, z8, z9, .d (.str a), .d (.str b), .d (.list (pairsD (swapP a b))), z13, z14] () → if (!decide (a = b)) = true then wL (wLst (wCons (wTup (wCons (wVar 10) (wCons (wVar 11) wNil))) (wCons (wTup (wCons (wVar 11) (wCons (wVar 10) wNil))) wNil))) [.no, .raw (.ref i.1), z2, .d (.tuple ys), .d (.list ss), .d (.str (PyData.tuple ys).shown), z6, z7, z8, z9, .d (.str a), .d (.str b), z12, z13, z14] () (fun d s1 => gN 12 d [.no, .raw (.ref i.1), z2, .d (.tuple ys), .d (.list ss), .d (.str (PyData.tuple ys).shown), z6, z7, z8, z9, .d (.str a), .d (.str b), z12, z13, z14] fun ρ' => D'.nx ρ' s1) (fun e s' => D'.er e [.no, .raw (.ref i.1), z2, .d (.tuple ys), .d (.list ss), .d (.str (PyData.tuple ys).shown), z6, z7, z8, z9, .d (.str a), .d (.str b), z12, z13, z14] s')
      else wL (wLst (wCons (wTup (wCons (wVar 10) (wCons (wVar 11) wNil))) wNil)) [.no, .raw (.ref i.1), z2, .d (.tuple ys), .d (.list ss), .d (.str (PyData.tuple ys).shown), z6, z7, z8, z9, .d (.str a), .d (.str b), z12, z13, z14] () (fun d s1 => gN 12 d [.no, .raw (.ref i.1), z2, .d (.tuple ys), .d (.list ss), .d (.str (PyData.tuple ys).shown), z6, z7, z8, z9, .d (.str a), .d (.str b), z12, z13, z14] fun ρ' => D'.nx ρ' s1) (fun e s' => D'.er e [.no, .raw (.ref i.1), z2, .d (.tuple ys), .d (.list ss), .d (.str (PyData.tuple ys).shown), z6, z7, z8, z9, .d (.str a), .d (.str b), z12, z13, z14] s') := fun D' q => by
    by_cases c : a = b
    · have e : pairsD (swapP a b) = [.tuple [.str a, .str b]] := by unfold swapP; rw [if_pos c]; rfl
      rw [e] at q
      rw [decide_eq_true c]
      show if false = true then _ else _
      rw [if_neg (by decide)]
      exact l_of (lst_of (cons_of (tup_of (cons_of (var_of rfl (cons_of (var_of rfl (nil_of ⟨few_lim (by simp), nil_of ⟨few_lim (by simp), q⟩⟩))))))))
    · have e : pairsD (swapP a b) = [.tuple [.str a, .str b], .tuple [.str b, .str a]] := by unfold swapP; rw [if_neg c]; rfl
      rw [e] at q
      rw [decide_eq_false c]
      show if true = true then _ else _
      rw [if_pos rfl]
      refine l_of (lst_of (cons_of (tup_of (cons_of (var_of rfl (cons_of (var_of rfl (nil_of ⟨few_lim (by simp), ?_⟩))))))))
      exact cons_of (tup_of (cons_of (var_of rfl (cons_of (var_of rfl (nil_of ⟨few_lim (by simp), nil_of ⟨few_lim (by simp), q⟩⟩))))))
  refine sw _ ?_
  clear sw
  dsimp only
  have so := el_shp (pairs_el (swapP a b))
  have sl : (pairsD (swapP a b)).length ≤ 4 := by unfold pairsD; rw [List.length_map]; omega
  have twice : ∀ b' : Bool, (ys.map (turnR b' (late (swapP a b)))).map (turnR b' (late (swapP a b))) = ys := fun b' => by
    rw [List.map_map]
    refine Eq.trans (List.map_congr_left fun y hy => ?_) (List.map_id ys)
    exact turn_twice (swap_twice a b) b' (hk y hy)
  have k2 : ∀ b' : Bool, ∀ y ∈ ys.map (turnR b' (late (swapP a b))), RowK y := fun b' y hy => by
    obtain ⟨x, hx, rfl⟩ := List.mem_map.mp hy
    exact turn_rowK (late_keep o1) b' (hk x hx)
  have el2 : ∀ b' : Bool, (elemsD (.tuple (ys.map (turnR b' (late (swapP a b)))))).length ≤ 100000 := fun b' => by show (ys.map _).length ≤ _; rw [List.length_map]; omega
  refine seqIf_f (fun Q E q => t_of (op_of (callP2 ?_))) ?_
  · refine callP2 (var_of rfl (var_of rfl ⟨rfl, sl, so, el, turn_good hk o2 ?_⟩))
    refine var_of rfl ⟨rfl, sl, so, el2 false, turn_good (k2 false) o2 ?_⟩
    refine var_of rfl ?_
    rw [twice]
    exact ne_rows hk (by omega) q
  refine seqIf_f (fun Q E q => t_of (op_of (callP2 ?_))) ?_
  · refine callP2 (var_of rfl (var_of rfl ⟨rfl, sl, so, el, turn_good hk o2 ?_⟩))
    refine var_of rfl ⟨rfl, sl, so, el2 true, turn_good (k2 true) o2 ?_⟩
    refine var_of rfl ?_
    rw [twice]
    exact ne_rows hk (by omega) q
  refine seq_of (asg_of (l_of (lst_of ?_)))
  simp only [wCons, wC, wTup, wNil, allK, List.length_cons, List.length_nil, limL_eq, gN, List.set]
  repeat (refine And.intro (by omega) ?_)
  have r1 : ∀ d ∈ [PyData.tuple [.str "x", .str "y"], .tuple [.str "y", .str "z"], .tuple [.str "z", .str "xy"], .tuple [.str "xy", .str "x"]], El d := fun d hd => by
    simp only [List.mem_cons, List.not_mem_nil, or_false] at hd
    rcases hd with rfl | rfl | rfl | rfl <;> exact el_pair _ _
  have r2 : ∀ d ∈ [PyData.tuple [.str a, .str "q"], .tuple [.str a, .str "q"]], El d := fun d hd => by
    simp only [List.mem_cons, List.not_mem_nil, or_false] at hd
    rcases hd with rfl | rfl <;> exact el_pair _ _
  refine seqIf_f (fun Q E q => tor_of (tnot_of (t_of (right_var rfl rfl (by simp) (el_shp r1) h.ok (by omega) el ?_)))) ?_
  · show if false = true then _ else _
    rw [if_neg (by decide)]
    refine tnot_of (t_of (callW_of (cons_of (var_of rfl (cons_of (l_of (lst_of (cons_of (tup_of (cons_of (var_of rfl (cons_of (c_of (nil_of ⟨few_lim (by simp), cons_of (tup_of (cons_of (var_of rfl (cons_of (c_of (nil_of ⟨few_lim (by simp), nil_of ⟨few_lim (by simp), nil_of ?_⟩⟩))))))⟩))))))))))))))
    exact ⟨rfl, _, _, rfl, by simp, el_shp r2, h.ok, by omega, el, q⟩
  refine seq_of (asg_of (c_bentN rfl (var_of rfl ⟨by omega, by omega, Nat.le_trans p3 (Nat.zero_le _), fun bad hb => ?_⟩)))
  dsimp only [gN, List.set]
  have bz := bent_len hb (by omega)
  obtain ⟨b1, b2, -, -⟩ := hb
  have bl : ∀ xs, bad = .tuple xs → xs.length ≤ 100000 := fun xs e => by subst e; have : xs.length ≤ 1000 := bz; omega
  refine ifS_f (fun Q E q => tor_of (tand_of (t_of (op_of (callP1 (var_of rfl ⟨rfl, by omega, bl, c_of ?_⟩)))))) (hx _ _ _ _ _)
  have ne := repr3_ok (d := .tuple ys) (by omega) (by rw [limL_eq]; omega) (Q := fun z => dNe z (.str (PyData.tuple ys).shown) fun z => match z with | .bool b => Q b () | _ => False) (ne_self _ q)
  have tail : wT (wOp dNe (wCB fRepr3 (wCons (wVar 3) wNil)) (wVar 5)) [.no, .raw (.ref i.1), z2, .d (.tuple ys), .d (.list ss), .d (.str (PyData.tuple ys).shown), z6, z7, z8, z9, .d (.str a), .d (.str b), .d (.list (pairsD (swapP a b))), .d (.list [PyData.tuple [.str "x", .str "y"], .tuple [.str "y", .str "z"], .tuple [.str "z", .str "xy"], .tuple [.str "xy", .str "x"]]), .d bad] () Q E :=
    t_of (op_of (cb1_of (var_of rfl (repr3_ok (by omega) (by rw [limL_eq]; omega) (var_of rfl (ne_self _ q))))))
  cases e : rowsFault bad with
  | none =>
    have ef : faultD bad = .none := by unfold faultD; rw [e]
    rw [ef]
    exact tail
  | some k =>
    have ef : faultD bad = nuD "text" (.int k) := by unfold faultD; rw [e]; rfl
    rw [ef]
    have r3 : ∀ d ∈ [PyData.none], El d := fun d hd => by
      rw [List.mem_singleton.mp hd]; exact ⟨by simp only [PyData.depth]; omega, rfl⟩
    have nn : ∀ {Q : PyData → Prop}, Q (.bool true) → dNotN (nuD "text" (.int k)) .none Q := fun q => q
    refine nn ?_
    dsimp only
    rw [if_pos rfl]
    refine tnot_of (t_of (callW_of (cons_of (var_of rfl (cons_of (l_of (lst_of (cons_of (c_of (nil_of ⟨few_lim (by simp), nil_of ?_⟩))))))))))
    refine ⟨rfl, _, _, rfl, by simp, el_shp r3, .inr ⟨k, e⟩, by omega, by omega, ?_⟩
    dsimp only [Bool.not_true]
    rw [if_neg (by decide)]
    exact tail
def Lap (i : Ix) (ρ : List Sl) : Prop := ∃ z2 z3 z4 z5 z6 z7 z8 z9 z10 z11 z12 z13 z14, ρ = [.no, .raw (.ref i.1), z2, z3, z4, z5, z6, z7, z8, z9, z10, z11, z12, z13, z14] ∧ plain z8
theorem spec_lap (cNU : Addr) (i : Ix) (k : Nat) (ρ : List Sl) (D : DEnds Unit) (hI : Lap i ρ) (hnx : ∀ ρ', Lap i ρ' → D.nx ρ' ()) : gN 2 (.int k) ρ fun ρ1 => w_lap cNU i ρ1 () D := by
  obtain ⟨z2, z3, z4, z5, z6, z7, z8, z9, z10, z11, z12, z13, z14, rfl, h8⟩ := hI
  simp only [gN, List.set]
  unfold w_lap
  refine seq_of (asg_of ?_)
  show _ = 2 ∧ F__law_page i [.raw (.ref i.1), .d (.int 9)] () _ _
  refine ⟨rfl, 9, rfl, by omega, by omega, fun ys yl yg => ?_⟩
  simp only [gN, List.set]
  have yl9 : ys.length ≤ 9 := by omega
  have hr : ∀ y ∈ ys, isRow y = true := fun y hy => (yg y hy).2.2
  refine seq_of (asg_of (tup_of (cons_of (callP1 (var_of rfl ⟨rfl, hr, by omega, fun ss n1 n2 n3 => ?_⟩)))))
  have hP : Pg ys ss := ⟨yg, yl9, n1, n2, n3⟩
  obtain ⟨p1, p2, p3⟩ := hP.w
  refine cons_of (cb1_of (var_of rfl (repr3_ok (by omega) (by rw [limL_eq]; omega) (nil_of ⟨few_lim (by simp), ?_⟩))))
  simp only [gT, gCs, gN, gNs, List.set]
  refine ⟨rfl, ?_⟩
  refine seq_gen fun D1 h1 => for_of (rng1_of (c_of ⟨by decide, by decide, ?_⟩))
  refine loop_inv (fun _ ρ _ => ∃ z6 z7 z8 z9, ρ = R i ys ss (.d (.int k)) z6 z7 z8 z9 z10 z11 z12 z13 z14 ∧ plain z8) _ 0 _ _ ?_ ⟨_, _, _, _, rfl, h8⟩ ?_
  · rintro m d hd ρ s ⟨y6, y7, y8, y9, rfl, q8⟩ D' _ _ _ hn _
    show w_turn cNU i (R i ys ss (.d (.int k)) (.d d) y7 y8 y9 z10 z11 z12 z13 z14) () D'
    exact spec_turn cNU i hP q8 D' fun a b c q => hn _ _ ⟨_, _, _, _, rfl, q⟩
  · rintro ρ' s' ⟨y6, y7, y8, y9, rfl, q8⟩
    refine h1 _ _ ?_
    exact spec_rest cNU i hP D fun a b c d e => hnx _ ⟨_, _, _, _, _, _, _, _, _, _, _, _, _, rfl, q8⟩
theorem spec_law (cNU : Addr) (i : Ix) (D : DEnds Unit) (h : D.rt (.bool true) ()) : w_law cNU i [.no, .raw (.ref i.1), .no, .no, .no, .no, .no, .no, .no, .no, .no, .no, .no, .no, .no] () D := by
  unfold w_law
  refine seq_gen fun D1 h1 => for_of (rng1_of (c_of ⟨by decide, by decide, ?_⟩))
  refine loop_inv (fun _ ρ _ => Lap i ρ) _ 0 _ _ ?_ ⟨_, _, _, _, _, _, _, _, _, _, _, _, _, rfl, .inl rfl⟩ ?_
  · intro k d hd ρ s hI D' _ _ _ hn _
    obtain ⟨kl, rfl⟩ := rngD_at hd
    exact spec_lap cNU i k ρ D' hI fun ρ' q => hn ρ' () q
  · rintro ρ' s' _
    exact h1 _ _ (ret_of (c_of h))
end L07

set_option Elab.async false
set_option linter.all false
set_option autoImplicit false
set_option maxRecDepth 100000
set_option maxHeartbeats 1000000
set_option pp.maxSteps 400
namespace L07
open PySem PySem.Spec Dt
open L2 hiding wT wNot
/-! ## _law_feed -/
theorem cut_ints (ns : List Int) (lo hi : Option Int) : ∃ ms : List Int, cutV (ns.map V.int) lo hi = ms.map V.int ∧ ms.length ≤ ns.length := by
  unfold cutV
  generalize HT.sIx (ns.map V.int).length 0 lo = i
  generalize HT.sIx (ns.map V.int).length (ns.map V.int).length hi - i = j
  refine ⟨(ns.drop i).take j, by rw [List.map_take, List.map_drop], ?_⟩
  rw [List.length_take, List.length_drop]
  omega
def spFeed (K : PySem.W.Frag) : Sp := fun vs H Q _ => ∃ (a : Addr) (ns : List Int), vs = [.ref a] ∧ SqL K H a (ns.map V.int) ∧ ns.length ≤ 63 ∧
  ∀ H' p L ms kvs, Same H H' → Fd "cells" "spot" "left" "turns" H' p L ms kvs 0 0 0 → Q (.ref p) H'
section
variable {P : Program} {w : World} {K : PySem.W.Frag} {mg : Str → Option Value} {base : Heap}
abbrev s_feed : Stmt := top 29
theorem sc_feed : FnScope ["_law_script", "_law_cell"] ["_law_script"] (defScope s_feed) := ⟨rfl, rfl, rfl, by decide +kernel, rfl, by decide +kernel, by decide +kernel⟩
theorem ok_feed {f : Addr} {fd : FuncData} (Fu : Fun K "_law_feed" "_law_feed" s_feed f fd) (B : Bt mg) : FnG P w K mg base CX0 1 f fd ["_law_script"] (spFeed K) := by
  refine fnG Fu sc_feed (fun vs H Q E h => by obtain ⟨a, ns, rfl, _⟩ := h; rfl) fun cdv A outer s H vs Q E hG hr h => ?_
  obtain ⟨a, ns, rfl, hS, hl, hq⟩ := h
  have mInt : mg "int" = none := B.no _ (by decide)
  refine ⟨_, pss_one (ps_ret (pe_disp (pps_cons pe_str (pe_lc rfl sc_feed.nd (pi_list (pe_slice sl_list (pv 0) po_none (po_some pe_int))) (blkOk_by (own := [("_law_cell", 1)]) (N := ["_law_script", "_law_cell"]) (sc := defScope s_feed) (by decide +kernel)) (fun _ _ _ _ _ => pg_name (i := 1) sc_feed.nd rfl (by first | exact .inl rfl | exact .inr rfl)) (fun _ _ _ _ _ => pts_nil) (fun _ _ _ _ _ => pe_callTy call_int1 (by rfl) mInt (by decide +kernel) (pa_cons (pv 1) pa_nil))) (pps_cons pe_str pe_int (pps_cons pe_str pe_int (pps_cons pe_str pe_int pps_nil)))) rfl rfl (fun h => nomatch h) (by decide))), ?_⟩
  intro p hp
  have e1 : Same H (upd H p (.dK [])) := same_upd hp
  refine ⟨.ref a, rfl, 63, rfl, a, _, rfl, e1.seq hS, fun q hq1 => ?_⟩
  obtain ⟨ms, em, lm⟩ := cut_ints ns none (some 63)
  rw [em]
  have pq : p ≠ q := ne_of_none upd_same hq1
  have eq : (upd (upd H p (.dK [])) q (.lst (ms.map V.int))) q = some (.lst (ms.map V.int)) := upd_same
  have ep : (upd (upd H p (.dK [])) q (.lst (ms.map V.int))) p = some (.dK []) := by rw [upd_ne pq]; exact upd_same
  have e2 : Same H (upd (upd H p (.dK [])) q (.lst (ms.map V.int))) := e1.trans (same_upd hq1)
  generalize upd (upd H p (.dK [])) q (.lst (ms.map V.int)) = H1 at eq ep e2 ⊢
  refine ⟨q, rfl, ⟨_, .inl (.inl eq)⟩, fun D hD => ?_⟩
  have qD : q ≠ D := ne_of_none eq hD
  have pD : p ≠ D := ne_of_none ep hD
  refine lc_list (xs := ms.map V.int) (fun i H' => H' D = some (.lst ((ms.take i).map V.int)) ∧ ∀ b o, b ≠ D → H1 b = some o → H' b = some o) ⟨by rw [upd_same]; rfl, fun b o n e => by rw [upd_ne n]; exact e⟩ (fun i H' _ h => .inl (.inl (h.2 q _ qD eq))) ?_ ?_
  · intro i x H' hx h
    obtain ⟨h1, h2⟩ := h
    rw [List.getElem?_map] at hx
    obtain ⟨m, hm, rfl⟩ := Option.map_eq_some_iff.mp hx
    refine ⟨rfl, ?_⟩
    unfold tYes
    dsimp only
    simp only [if_true]
    refine ⟨.int m, rfl, .inl ⟨m, rfl, _, h1, ?_, ?_, ?_⟩⟩
    · rw [List.length_map, List.length_take, sizeLine_eq]; omega
    · rw [upd_same, List.take_add_one, hm, List.map_append]; rfl
    · intro b o n e
      rw [upd_ne n]; exact h2 b o n e
  · intro H' h
    obtain ⟨h1, h2⟩ := h
    refine ⟨h2 p _ pD ep, [(.inr "cells", .ref D), (.inr "spot", .int 0), (.inr "left", .int 0), (.inr "turns", .int 0)], rfl, by simp, hq _ p D ms (mergeK [] [(.inr "cells", .ref D), (.inr "spot", .int 0), (.inr "left", .int 0), (.inr "turns", .int 0)]) (fun b o e => ?_) ?_⟩
    · have nb : b ≠ p := fun z => by rw [z, hp] at e; cases e
      rw [upd_ne nb]
      have e3 := e2 b o e
      exact h2 b o (ne_of_none e3 hD) e3
    · have k1 : ¬ ((.inr "cells" : Key) = .inr "spot") := by decide +kernel
      have k2 : ¬ ((.inr "cells" : Key) = .inr "left") := by decide +kernel
      have k3 : ¬ ((.inr "cells" : Key) = .inr "turns") := by decide +kernel
      have k4 : ¬ ((.inr "spot" : Key) = .inr "left") := by decide +kernel
      have k5 : ¬ ((.inr "spot" : Key) = .inr "turns") := by decide +kernel
      have k6 : ¬ ((.inr "left" : Key) = .inr "turns") := by decide +kernel
      refine ⟨upd_same, ?_, ?_, ?_, ?_, ?_, ?_⟩
      · exact Nat.le_trans (length_mergeK _ _) (by simp)
      · simp only [mergeK, List.foldl_cons, List.foldl_nil]
        rw [valV_put, if_neg k3, valV_put, if_neg k2, valV_put, if_neg k1, valV_put, if_pos rfl]
      · simp only [mergeK, List.foldl_cons, List.foldl_nil]
        rw [valV_put, if_neg k5, valV_put, if_neg k4, valV_put, if_pos rfl]
      · simp only [mergeK, List.foldl_cons, List.foldl_nil]
        rw [valV_put, if_neg k6, valV_put, if_pos rfl]
      · simp only [mergeK, List.foldl_cons, List.foldl_nil]
        rw [valV_put, if_pos rfl]
      · rw [upd_ne (Ne.symm pD), h1, List.take_of_length_le (by simp)]
end
end L07

set_option Elab.async false
set_option linter.all false
set_option autoImplicit false
set_option maxRecDepth 100000
set_option maxHeartbeats 2000000
set_option pp.maxSteps 40
namespace L07
open PySem PySem.Spec Dt
open L2 hiding wT wNot
def spLaw (K : PySem.W.Frag) (T : List (Addr × Str)) : Sp := fun vs H Q _ => ∃ (a : Addr) (ns : List Int), vs = [.ref a] ∧ SqL K H a (ns.map V.int) ∧ ns.length ≤ 63 ∧ (∀ p ∈ T, LamX.TabS H p.1 p.2) ∧ ∀ H', Q (.bl true) H'
/-- where a def of the text stands -/
structure Fct (K : PySem.W.Frag) (x : Str) (st : Stmt) : Prop where
  ex : ∃ (f : Addr) (fd : FuncData), PySem.W.nsIn K mainGlobals x = some (some (.ref f)) ∧ Fun K x x st f fd
theorem fct_mk {K : PySem.W.Frag} {x : Str} {st : Stmt} {f : Addr} {oc kV dc pm cd ct : Value} {od an : Option Addr} {sl : Array (Option Value)} (a : PySem.W.nsIn K mainGlobals x = some (some (.ref f)))
    (l : K.lookup f = some ⟨oc, od, .func (PySem.W.fnOf x x (defArgs st) (defBody st) (defScope st) .none kV dc pm an cd ct), sl⟩) (c : PySem.W.codeIn K cd x = true) (k : PySem.W.keepIn K (.ref f) = true) : Fct K x st := ⟨⟨f, _, a, fun_mk l c k⟩⟩
/-- one whose code object stands at c, its table at p -/
structure FctC (K : PySem.W.Frag) (x : Str) (st : Stmt) (c p : Addr) : Prop where
  ex : ∃ (f : Addr) (fd : FuncData), PySem.W.nsIn K mainGlobals x = some (some (.ref f)) ∧ Fun K x x st f fd ∧ fd.code = .ref c
  hd : PySem.W.codeHdIn K c p = true
theorem fctC_mk {K : PySem.W.Frag} {x : Str} {st : Stmt} {f c p : Addr} {oc kV dc pm ct oc2 : Value} {od an od2 : Option Addr} {sl sl2 : Array (Option Value)} {us : Array Value} (a : PySem.W.nsIn K mainGlobals x = some (some (.ref f)))
    (l : K.lookup f = some ⟨oc, od, .func (PySem.W.fnOf x x (defArgs st) (defBody st) (defScope st) .none kV dc pm an (.ref c) ct), sl⟩) (cd : PySem.W.codeIn K (.ref c) x = true) (k : PySem.W.keepIn K (.ref f) = true) (_ : K.lookup c = some ⟨oc2, od2, .fields us, sl2⟩) (_ : us[11]? = some (.ref p)) (h : PySem.W.codeHdIn K c p = true) : FctC K x st c p := ⟨⟨f, _, a, fun_mk l cd k, rfl⟩, h⟩
/-- the __init__ of an error -/
structure IniK (K : PySem.W.Frag) (C f : Addr) (q : Str) (st : Stmt) : Prop where
  at' : PySem.W.findIn K (.ref C) "__init__" = some (some (.ref f))
  ty : PySem.W.typeIn K (.ref f) = some (.type "function")
  fn : ∃ fd : FuncData, Fun K "__init__" q st f fd
theorem ini_mk {K : PySem.W.Frag} {C f : Addr} {q : Str} {st : Stmt} {oc kV dc pm cd ct : Value} {od an : Option Addr} {sl : Array (Option Value)} (a : PySem.W.findIn K (.ref C) "__init__" = some (some (.ref f))) (t : PySem.W.typeIn K (.ref f) = some (.type "function"))
    (l : K.lookup f = some ⟨oc, od, .func (PySem.W.fnOf "__init__" q (defArgs st) (defBody st) (defScope st) .none kV dc pm an cd ct), sl⟩) (c : PySem.W.codeIn K cd q = true) (k : PySem.W.keepIn K (.ref f) = true) : IniK K C f q st := ⟨a, t, _, fun_mk l c k⟩
theorem oex_mk {K : PySem.W.Frag} {C : Addr} {nm q : Str} {N : Addr} {bs bm : List Value} {sn : List Str} {sub : List Value} {ab : Bool} {col : Option Bool} {dd : Option Addr} {k0 k1 k2 k3 k5 : Option Value} (k : K.lookup C = some (excClassObj nm q C N bs bm true sn sub ab col dd k0 k1 k2 k3 k5 "ValueError.__new__")) (b : PySem.HandSPX.refsVE bm = true)
    (s1 : PySem.W.findIn K (.ref C) "__setattr__" = some (some (.builtin "object.__setattr__"))) (s2 : PySem.W.subIn K (.ref C) (.type "BaseException") = some true) (s3 : PySem.W.typeIn K (.ref C) = some (.type "type")) (s4 : PySem.W.keepIn K (.ref C) = true) : OexC K C := ⟨⟨_, _, _, _, _, _, _, _, _, _, _, _, _, _, _, k, b⟩, s1, s2, s3, s4⟩
section
variable {P : Program} {w : World} {K : PySem.W.Frag} {mg : Str → Option Value} {base : Heap}
theorem ok_law {T : List (Addr × Str)} {cNU f : Addr} {fd : FuncData} (Fu : Fun K "law" "law" s_law f fd) (B : Bt mg) (hu : (T.map (fun q : Addr × Str => q.1)).Nodup) {fF : Addr} {fdF : FuncData} (GF : FnG P w K mg base CX0 1 fF fdF ["_law_script"] (spFeed K)) (mF : mg "_law_feed" = some (.ref fF)) (kF : PySem.W.keepIn K (.ref fF) = true) (bF : Binds K fdF ["_law_script"] [])
    (D__law_bent : Df P w K mg base CX0 23 "_law_bent" 2 (spI K (Wf T) 2 (F__law_bent 20))) (D__law_draw : Df P w K mg base CX0 1 "_law_draw" 2 (spI K (Wf T) 2 F__law_draw)) (D__law_is_right : Df P w K mg base CX0 12 "_law_is_right" 2 (spI K (Wf T) 2 F__law_is_right)) (D__law_page : Df P w K mg base CX0 4 "_law_page" 2 (spI K (Wf T) 2 F__law_page)) (D__law_page_fault : Df P w K mg base CX0 5 "_law_page_fault" 1 (spP K 1 F__law_page_fault)) (D__law_pick : Df P w K mg base CX0 2 "_law_pick" 2 (spI K (Wf T) 2 F__law_pick)) (D__law_rekinded : Do P w K mg base (L2.CX P w) 8 "_law_rekinded" 2 (spP K 2 (F__law_rekinded cNU))) (D__law_renamed : Do P w K mg base (L2.CX P w) 8 "_law_renamed" 2 (spP K 2 (F__law_renamed cNU))) (D__law_signs : Df P w K mg base CX0 1 "_law_signs" 1 (spP K 1 F__law_signs)) :
    FnG P w K mg base CX0 24 f fd ["_law_script"] (spLaw K T) := by
  refine fnG Fu sc_law (fun vs H Q E h => by obtain ⟨a, ns, rfl, _⟩ := h; rfl) fun cdv A outer s H vs Q E hG hr h => ?_
  obtain ⟨a, ns, rfl, hS, hl, hTT, hq⟩ := h
  obtain ⟨t, ht⟩ := tail_law (P := P) (w := w) (base := base) B D__law_bent D__law_draw D__law_is_right D__law_page D__law_page_fault D__law_pick D__law_rekinded D__law_renamed D__law_signs f cdv A outer s H E hG hr
  refine ⟨_, pss_cons (ps_set (i := 1) sc_law.nd rfl (by first | exact .inl rfl | exact .inr rfl) (pe_callG (E := fun _ => E0) GF hG (hr.mono (by decide)) rfl mF kF bF (fun _ _ _ _ _ _ _ h => h.elim) (pa_cons (pv 0) pa_nil))) (ht (0, 0)).pe, ?_⟩
  refine ⟨.ref a, rfl, a, ns, rfl, hS, hl, fun H' p L ms kvs sm F => ?_⟩
  have tt : ∀ q ∈ T, LamX.TabS H' q.1 q.2 := fun q hq => (hTT q hq).ext sm
  have g : (Wf T (p, L)).G () H' := ⟨⟨ms, kvs, 0, 0, 0, F⟩, tt⟩
  have tabAt : ∀ b ∈ T.map (fun q : Addr × Str => q.1), ∃ us, H' b = some (.tbl us) := fun b hb => by
    obtain ⟨q, hq, rfl⟩ := List.mem_map.mp hb
    obtain ⟨us, e, _⟩ := tt q hq
    exact ⟨us, e⟩
  have nd : (p :: L :: T.map (fun q : Addr × Str => q.1)).Nodup := by
    refine List.nodup_cons.mpr ⟨fun z => ?_, List.nodup_cons.mpr ⟨fun z => ?_, hu⟩⟩
    · rcases List.mem_cons.mp z with e | z
      · exact F.ne e.symm
      · obtain ⟨us, e⟩ := tabAt _ z
        have := F.at'
        rw [e] at this; cases this
    · obtain ⟨us, e⟩ := tabAt _ z
      have := F.cells
      rw [e] at this; cases this
  refine (ht (p, L)).go ⟨[], fun _ => none⟩ _ H' [.no, .raw (.ref p), .no, .no, .no, .no, .no, .no, .no, .no, .no, .no, .no, .no, .no] () ⟨fun _ _ => False, fun d _ => d = .bool true, fun _ _ => False, fun _ _ => False, fun _ _ _ => False⟩ _ ?_ (spec_law cNU (p, L) _ rfl) ?_
  · refine ⟨rfl, fun i x h => ?_, ?_, fun b hb => ?_, g, (fun b o h => (nomatch h)), (fun q h => (nomatch h))⟩
    · rcases i with _ | _ | _ | _ | _ | _ | _ | _ | _ | _ | _ | _ | _ | _ | _ | i
      · cases h; exact ⟨_, rfl, trivial⟩
      · cases h; exact ⟨_, rfl, rfl⟩
      all_goals first | (cases h; exact ⟨_, rfl, trivial⟩) | (simp at h)
    · show ((p :: L :: T.map (fun q : Addr × Str => q.1)) ++ [] ++ []).Nodup
      rw [List.append_nil, List.append_nil]
      exact nd
    · have hb : b ∈ ((p :: L :: T.map (fun q : Addr × Str => q.1)) ++ [] ++ [] : List Addr) := hb
      rw [List.append_nil, List.append_nil] at hb
      exact (Wf T (p, L)).tr () H' g b hb
  · refine ⟨fun _ _ _ _ _ _ z => z.elim, fun _ _ _ _ _ _ z => z.elim, fun _ _ _ _ _ _ z => z.elim, fun v H2 d s' _ _ dv q => ?_, fun _ _ _ _ _ _ _ _ _ z => z.elim⟩
    have q : d = .bool true := q
    subst q
    cases dv
    exact hq H2
end

theorem all_mk {l : PySem.W.OpenLaw} {w : World} {K : PySem.W.Frag} {h : Heap} {mg : Str → Option Value} {fa : Addr} (X : K.In h) (G : h.Ns mainGlobals mg) (hfa : mg "law" = some (.ref fa))
    (F_is_name : Fct K "is_name" s_is_name)
    (F_is_kind : Fct K "is_kind" s_is_kind)
    (F_is_nothing : Fct K "is_nothing" s_is_nothing)
    (F_is_one_of : Fct K "is_one_of" s_is_one_of)
    (F_is_pair : Fct K "is_pair" s_is_pair)
    (F_is_sort : Fct K "is_sort" s_is_sort)
    (F_is_row : Fct K "is_row" s_is_row)
    (F_check_rows : Fct K "check_rows" s_check_rows)
    (F_check_text : Fct K "check_text" s_check_text)
    (F_renamed : Fct K "renamed" s_renamed)
    (F_rekinded : Fct K "rekinded" s_rekinded)
    (F_others_of : Fct K "others_of" s_others_of)
    (F_row_renamed : Fct K "row_renamed" s_row_renamed)
    (F_row_rekinded : Fct K "row_rekinded" s_row_rekinded)
    (F__law_feed : Fct K "_law_feed" s_feed)
    (F__law_draw : Fct K "_law_draw" s_draw)
    (F__law_pick : Fct K "_law_pick" s__law_pick)
    (F__law_item : Fct K "_law_item" s__law_item)
    (F__law_page : Fct K "_law_page" s__law_page)
    (F__law_is_number : Fct K "_law_is_number" s__law_is_number)
    (F__law_is_name : Fct K "_law_is_name" s__law_is_name)
    (F__law_is_kind : Fct K "_law_is_kind" s__law_is_kind)
    (F__law_is_sort : Fct K "_law_is_sort" s__law_is_sort)
    (F__law_is_item : Fct K "_law_is_item" s__law_is_item)
    (F__law_strange : Fct K "_law_strange" s__law_strange)
    (F__law_bent : Fct K "_law_bent" s__law_bent)
    (F__law_refusal : Fct K "_law_refusal" s_ref)
    (F__law_said : Fct K "_law_said" s_said)
    (F__law_page_fault : Fct K "_law_page_fault" s__law_page_fault)
    (F__law_late : Fct K "_law_late" s__law_late)
    (F__law_turned : Fct K "_law_turned" s__law_turned)
    (F__law_due : Fct K "_law_due" s__law_due)
    (F__law_renamed : Fct K "_law_renamed" s__law_renamed)
    (F__law_rekinded : Fct K "_law_rekinded" s__law_rekinded)
    {c1 p1 : Addr} (F__law_is_right : FctC K "_law_is_right" s__law_is_right c1 p1)
    (e1 : h.get? p1 = some noRows) (n1 : K.lookup p1 = none)
    (F__law_signs : Fct K "_law_signs" s__law_signs)
    (F_law : Fct K "law" s_law)
    {t1 t2 : Tok}
    (q1 : PySem.W.nsIn K mainGlobals "LETTERS" = some (some (.str "abcdefghijklmnopqrstuvwxyz" t1)))
    (q2 : PySem.W.nsIn K mainGlobals "LONGEST_NAME" = some (some (.int 8 t2)))
    (z_isinstance : PySem.W.nsIn K mainGlobals "isinstance" = some none)
    (z_int : PySem.W.nsIn K mainGlobals "int" = some none)
    (z_bool : PySem.W.nsIn K mainGlobals "bool" = some none)
    (z_str : PySem.W.nsIn K mainGlobals "str" = some none)
    (z_tuple : PySem.W.nsIn K mainGlobals "tuple" = some none)
    (z_list : PySem.W.nsIn K mainGlobals "list" = some none)
    (z_len : PySem.W.nsIn K mainGlobals "len" = some none)
    (z_all : PySem.W.nsIn K mainGlobals "all" = some none)
    (z_any : PySem.W.nsIn K mainGlobals "any" = some none)
    (z_zip : PySem.W.nsIn K mainGlobals "zip" = some none)
    (z_range : PySem.W.nsIn K mainGlobals "range" = some none)
    (z_repr : PySem.W.nsIn K mainGlobals "repr" = some none)
    (z_set : PySem.W.nsIn K mainGlobals "set" = some none)
    (z_sorted : PySem.W.nsIn K mainGlobals "sorted" = some none)
    (z_sum : PySem.W.nsIn K mainGlobals "sum" = some none)
    (z_min : PySem.W.nsIn K mainGlobals "min" = some none)
    (z_max : PySem.W.nsIn K mainGlobals "max" = some none)
    (z_enumerate : PySem.W.nsIn K mainGlobals "enumerate" = some none)
    (z_dict : PySem.W.nsIn K mainGlobals "dict" = some none)
    (z_ValueError : PySem.W.nsIn K mainGlobals "ValueError" = some none)
    {cSE cPE cRE cWE cTE cNU cIP cIT fNU : Addr}
    (x_SE : PySem.W.nsIn K mainGlobals "SurelyError" = some (some (.ref cSE)))
    (x_PE : PySem.W.nsIn K mainGlobals "PaperError" = some (some (.ref cPE)))
    (x_RE : PySem.W.nsIn K mainGlobals "RowError" = some (some (.ref cRE)))
    (x_WE : PySem.W.nsIn K mainGlobals "WritingError" = some (some (.ref cWE)))
    (x_TE : PySem.W.nsIn K mainGlobals "TextError" = some (some (.ref cTE)))
    (x_NU : PySem.W.nsIn K mainGlobals "NotUsable" = some (some (.ref cNU)))
    (x_IP : PySem.W.nsIn K mainGlobals "InvalidPaper" = some (some (.ref cIP)))
    (x_IT : PySem.W.nsIn K mainGlobals "InvalidText" = some (some (.ref cIT)))
    (dNU : FamD K cNU cPE cRE cWE cTE cNU cIP cIT "word" "at" false true false true false false)
    (dIP : FamD K cIP cPE cRE cWE cTE cNU cIP cIT "word" "at" true false false false true false)
    (dIT : FamD K cIT cPE cRE cWE cTE cNU cIP cIT "line" "field" false false true false false true)
    (oNU : OexC K cNU) (iNU : IniK K cNU fNU "NotUsable.__init__" s_iniNU)
    (sNU : PySem.W.exmOne K (.ref cNU) (.ref cSE) = some true) (sIP : PySem.W.exmOne K (.ref cIP) (.ref cSE) = some true) (sIT : PySem.W.exmOne K (.ref cIT) (.ref cSE) = some true)
    : ∃ (cs : List (Addr × Addr)) (fd : FuncData) (sp : Sp), (∀ q ∈ cs, h.get? q.2 = some noRows) ∧ (∀ q ∈ cs, K.lookup q.2 = none) ∧ (∀ q ∈ cs, PySem.W.codeHdIn K q.1 q.2 = true) ∧ (∀ (s : Shared) (v : Value), BindsTo s fd ⟨[v], []⟩ [("_law_script", v)]) ∧
      (∀ (H : Hp) (a : Addr) (ns : List Int), ns.length ≤ 63 → (∀ q ∈ cs, H q.2 = some (.tbl #[])) → SqL K H a (ns.map V.int) → sp [.ref a] H (fun v _ => v = .bl true) fun _ _ _ => False) ∧
      ∀ base : Heap, K.In base → base.Ns mainGlobals mg → (∀ q ∈ cs, LamX.TabB base mg q.1 q.2) → FnG l.prog w K mg base CX0 24 fa fd ["_law_script"] sp := by
  obtain ⟨f_is_name, fd_is_name, m_is_name, U_is_name⟩ := F_is_name.ex
  have m_is_name := PySem.W.mg_of X G m_is_name
  have b_is_name := U_is_name.binds (ps := ["thing"]) fun _ _ _ _ _ _ us hl => match us, hl with | [_], _ => rfl
  obtain ⟨f_is_kind, fd_is_kind, m_is_kind, U_is_kind⟩ := F_is_kind.ex
  have m_is_kind := PySem.W.mg_of X G m_is_kind
  have b_is_kind := U_is_kind.binds (ps := ["thing"]) fun _ _ _ _ _ _ us hl => match us, hl with | [_], _ => rfl
  obtain ⟨f_is_nothing, fd_is_nothing, m_is_nothing, U_is_nothing⟩ := F_is_nothing.ex
  have m_is_nothing := PySem.W.mg_of X G m_is_nothing
  have b_is_nothing := U_is_nothing.binds (ps := ["thing"]) fun _ _ _ _ _ _ us hl => match us, hl with | [_], _ => rfl
  obtain ⟨f_is_one_of, fd_is_one_of, m_is_one_of, U_is_one_of⟩ := F_is_one_of.ex
  have m_is_one_of := PySem.W.mg_of X G m_is_one_of
  have b_is_one_of := U_is_one_of.binds (ps := ["thing", "words"]) fun _ _ _ _ _ _ us hl => match us, hl with | [_, _], _ => rfl
  obtain ⟨f_is_pair, fd_is_pair, m_is_pair, U_is_pair⟩ := F_is_pair.ex
  have m_is_pair := PySem.W.mg_of X G m_is_pair
  have b_is_pair := U_is_pair.binds (ps := ["thing"]) fun _ _ _ _ _ _ us hl => match us, hl with | [_], _ => rfl
  obtain ⟨f_is_sort, fd_is_sort, m_is_sort, U_is_sort⟩ := F_is_sort.ex
  have m_is_sort := PySem.W.mg_of X G m_is_sort
  have b_is_sort := U_is_sort.binds (ps := ["thing"]) fun _ _ _ _ _ _ us hl => match us, hl with | [_], _ => rfl
  obtain ⟨f_is_row, fd_is_row, m_is_row, U_is_row⟩ := F_is_row.ex
  have m_is_row := PySem.W.mg_of X G m_is_row
  have b_is_row := U_is_row.binds (ps := ["thing"]) fun _ _ _ _ _ _ us hl => match us, hl with | [_], _ => rfl
  obtain ⟨f_check_rows, fd_check_rows, m_check_rows, U_check_rows⟩ := F_check_rows.ex
  have m_check_rows := PySem.W.mg_of X G m_check_rows
  have b_check_rows := U_check_rows.binds (ps := ["word", "rows"]) fun _ _ _ _ _ _ us hl => match us, hl with | [_, _], _ => rfl
  obtain ⟨f_check_text, fd_check_text, m_check_text, U_check_text⟩ := F_check_text.ex
  have m_check_text := PySem.W.mg_of X G m_check_text
  have b_check_text := U_check_text.binds (ps := ["text"]) fun _ _ _ _ _ _ us hl => match us, hl with | [_], _ => rfl
  obtain ⟨f_renamed, fd_renamed, m_renamed, U_renamed⟩ := F_renamed.ex
  have m_renamed := PySem.W.mg_of X G m_renamed
  obtain ⟨f_rekinded, fd_rekinded, m_rekinded, U_rekinded⟩ := F_rekinded.ex
  have m_rekinded := PySem.W.mg_of X G m_rekinded
  obtain ⟨f_others_of, fd_others_of, m_others_of, U_others_of⟩ := F_others_of.ex
  have m_others_of := PySem.W.mg_of X G m_others_of
  have b_others_of := U_others_of.binds (ps := ["pairs"]) fun _ _ _ _ _ _ us hl => match us, hl with | [_], _ => rfl
  obtain ⟨f_row_renamed, fd_row_renamed, m_row_renamed, U_row_renamed⟩ := F_row_renamed.ex
  have m_row_renamed := PySem.W.mg_of X G m_row_renamed
  have b_row_renamed := U_row_renamed.binds (ps := ["row", "others"]) fun _ _ _ _ _ _ us hl => match us, hl with | [_, _], _ => rfl
  obtain ⟨f_row_rekinded, fd_row_rekinded, m_row_rekinded, U_row_rekinded⟩ := F_row_rekinded.ex
  have m_row_rekinded := PySem.W.mg_of X G m_row_rekinded
  have b_row_rekinded := U_row_rekinded.binds (ps := ["row", "others"]) fun _ _ _ _ _ _ us hl => match us, hl with | [_, _], _ => rfl
  obtain ⟨f__law_feed, fd__law_feed, m__law_feed, U__law_feed⟩ := F__law_feed.ex
  have m__law_feed := PySem.W.mg_of X G m__law_feed
  have b__law_feed := U__law_feed.binds (ps := ["_law_script"]) fun _ _ _ _ _ _ us hl => match us, hl with | [_], _ => rfl
  obtain ⟨f__law_draw, fd__law_draw, m__law_draw, U__law_draw⟩ := F__law_draw.ex
  have m__law_draw := PySem.W.mg_of X G m__law_draw
  have b__law_draw := U__law_draw.binds (ps := ["_law_feed_here", "_law_size"]) fun _ _ _ _ _ _ us hl => match us, hl with | [_, _], _ => rfl
  obtain ⟨f__law_pick, fd__law_pick, m__law_pick, U__law_pick⟩ := F__law_pick.ex
  have m__law_pick := PySem.W.mg_of X G m__law_pick
  have b__law_pick := U__law_pick.binds (ps := ["_law_feed_here", "_law_some"]) fun _ _ _ _ _ _ us hl => match us, hl with | [_, _], _ => rfl
  obtain ⟨f__law_item, fd__law_item, m__law_item, U__law_item⟩ := F__law_item.ex
  have m__law_item := PySem.W.mg_of X G m__law_item
  have b__law_item := U__law_item.binds (ps := ["_law_feed_here", "_law_names", "_law_kinds", "_law_lean"]) fun _ _ _ _ _ _ us hl => match us, hl with | [_, _, _, _], _ => rfl
  obtain ⟨f__law_page, fd__law_page, m__law_page, U__law_page⟩ := F__law_page.ex
  have m__law_page := PySem.W.mg_of X G m__law_page
  have b__law_page := U__law_page.binds (ps := ["_law_feed_here", "_law_most"]) fun _ _ _ _ _ _ us hl => match us, hl with | [_, _], _ => rfl
  obtain ⟨f__law_is_number, fd__law_is_number, m__law_is_number, U__law_is_number⟩ := F__law_is_number.ex
  have m__law_is_number := PySem.W.mg_of X G m__law_is_number
  have b__law_is_number := U__law_is_number.binds (ps := ["_law_item_here"]) fun _ _ _ _ _ _ us hl => match us, hl with | [_], _ => rfl
  obtain ⟨f__law_is_name, fd__law_is_name, m__law_is_name, U__law_is_name⟩ := F__law_is_name.ex
  have m__law_is_name := PySem.W.mg_of X G m__law_is_name
  have b__law_is_name := U__law_is_name.binds (ps := ["_law_item_here"]) fun _ _ _ _ _ _ us hl => match us, hl with | [_], _ => rfl
  obtain ⟨f__law_is_kind, fd__law_is_kind, m__law_is_kind, U__law_is_kind⟩ := F__law_is_kind.ex
  have m__law_is_kind := PySem.W.mg_of X G m__law_is_kind
  have b__law_is_kind := U__law_is_kind.binds (ps := ["_law_item_here"]) fun _ _ _ _ _ _ us hl => match us, hl with | [_], _ => rfl
  obtain ⟨f__law_is_sort, fd__law_is_sort, m__law_is_sort, U__law_is_sort⟩ := F__law_is_sort.ex
  have m__law_is_sort := PySem.W.mg_of X G m__law_is_sort
  have b__law_is_sort := U__law_is_sort.binds (ps := ["_law_item_here"]) fun _ _ _ _ _ _ us hl => match us, hl with | [_], _ => rfl
  obtain ⟨f__law_is_item, fd__law_is_item, m__law_is_item, U__law_is_item⟩ := F__law_is_item.ex
  have m__law_is_item := PySem.W.mg_of X G m__law_is_item
  have b__law_is_item := U__law_is_item.binds (ps := ["_law_item_here"]) fun _ _ _ _ _ _ us hl => match us, hl with | [_], _ => rfl
  obtain ⟨f__law_strange, fd__law_strange, m__law_strange, U__law_strange⟩ := F__law_strange.ex
  have m__law_strange := PySem.W.mg_of X G m__law_strange
  have b__law_strange := U__law_strange.binds (ps := ["_law_feed_here"]) fun _ _ _ _ _ _ us hl => match us, hl with | [_], _ => rfl
  obtain ⟨f__law_bent, fd__law_bent, m__law_bent, U__law_bent⟩ := F__law_bent.ex
  have m__law_bent := PySem.W.mg_of X G m__law_bent
  have b__law_bent := U__law_bent.binds (ps := ["_law_feed_here", "_law_item_here"]) fun _ _ _ _ _ _ us hl => match us, hl with | [_, _], _ => rfl
  obtain ⟨f__law_refusal, fd__law_refusal, m__law_refusal, U__law_refusal⟩ := F__law_refusal.ex
  have m__law_refusal := PySem.W.mg_of X G m__law_refusal
  have b__law_refusal := U__law_refusal.binds (ps := ["_law_e"]) fun _ _ _ _ _ _ us hl => match us, hl with | [_], _ => rfl
  obtain ⟨f__law_said, fd__law_said, m__law_said, U__law_said⟩ := F__law_said.ex
  have m__law_said := PySem.W.mg_of X G m__law_said
  have b__law_said := U__law_said.binds (ps := ["_law_ask"]) fun _ _ _ _ _ _ us hl => match us, hl with | [_], _ => rfl
  obtain ⟨f__law_page_fault, fd__law_page_fault, m__law_page_fault, U__law_page_fault⟩ := F__law_page_fault.ex
  have m__law_page_fault := PySem.W.mg_of X G m__law_page_fault
  have b__law_page_fault := U__law_page_fault.binds (ps := ["_law_item_here"]) fun _ _ _ _ _ _ us hl => match us, hl with | [_], _ => rfl
  obtain ⟨f__law_late, fd__law_late, m__law_late, U__law_late⟩ := F__law_late.ex
  have m__law_late := PySem.W.mg_of X G m__law_late
  have b__law_late := U__law_late.binds (ps := ["_law_lot", "_law_sign"]) fun _ _ _ _ _ _ us hl => match us, hl with | [_, _], _ => rfl
  obtain ⟨f__law_turned, fd__law_turned, m__law_turned, U__law_turned⟩ := F__law_turned.ex
  have m__law_turned := PySem.W.mg_of X G m__law_turned
  have b__law_turned := U__law_turned.binds (ps := ["_law_lot", "_law_item_here", "_law_are_kinds"]) fun _ _ _ _ _ _ us hl => match us, hl with | [_, _, _], _ => rfl
  obtain ⟨f__law_due, fd__law_due, m__law_due, U__law_due⟩ := F__law_due.ex
  have m__law_due := PySem.W.mg_of X G m__law_due
  have b__law_due := U__law_due.binds (ps := ["_law_page_here", "_law_lot", "_law_are_kinds"]) fun _ _ _ _ _ _ us hl => match us, hl with | [_, _, _], _ => rfl
  obtain ⟨f__law_renamed, fd__law_renamed, m__law_renamed, U__law_renamed⟩ := F__law_renamed.ex
  have m__law_renamed := PySem.W.mg_of X G m__law_renamed
  have b__law_renamed := U__law_renamed.binds (ps := ["_law_page_here", "_law_lot"]) fun _ _ _ _ _ _ us hl => match us, hl with | [_, _], _ => rfl
  obtain ⟨f__law_rekinded, fd__law_rekinded, m__law_rekinded, U__law_rekinded⟩ := F__law_rekinded.ex
  have m__law_rekinded := PySem.W.mg_of X G m__law_rekinded
  have b__law_rekinded := U__law_rekinded.binds (ps := ["_law_page_here", "_law_lot"]) fun _ _ _ _ _ _ us hl => match us, hl with | [_, _], _ => rfl
  obtain ⟨f__law_is_right, fd__law_is_right, m__law_is_right, U__law_is_right, y__law_is_right⟩ := F__law_is_right.ex
  have m__law_is_right := PySem.W.mg_of X G m__law_is_right
  have b__law_is_right := U__law_is_right.binds (ps := ["_law_page_here", "_law_lot"]) fun _ _ _ _ _ _ us hl => match us, hl with | [_, _], _ => rfl
  obtain ⟨f__law_signs, fd__law_signs, m__law_signs, U__law_signs⟩ := F__law_signs.ex
  have m__law_signs := PySem.W.mg_of X G m__law_signs
  have b__law_signs := U__law_signs.binds (ps := ["_law_page_here"]) fun _ _ _ _ _ _ us hl => match us, hl with | [_], _ => rfl
  obtain ⟨f_law, fd_law, m_law, U_law⟩ := F_law.ex
  have m_law := PySem.W.mg_of X G m_law
  have b_law := U_law.binds (ps := ["_law_script"]) fun _ _ _ _ _ _ us hl => match us, hl with | [_], _ => rfl
  have e := hfa.symm.trans m_law
  cases e
  have B : Bt mg := ⟨fun x hx => by
    simp only [List.mem_cons, List.not_mem_nil, or_false] at hx
    rcases hx with rfl | rfl | rfl | rfl | rfl | rfl | rfl | rfl | rfl | rfl | rfl | rfl | rfl | rfl | rfl | rfl | rfl | rfl | rfl
    · exact PySem.W.mg_none_of X G z_isinstance
    · exact PySem.W.mg_none_of X G z_int
    · exact PySem.W.mg_none_of X G z_bool
    · exact PySem.W.mg_none_of X G z_str
    · exact PySem.W.mg_none_of X G z_tuple
    · exact PySem.W.mg_none_of X G z_list
    · exact PySem.W.mg_none_of X G z_len
    · exact PySem.W.mg_none_of X G z_all
    · exact PySem.W.mg_none_of X G z_any
    · exact PySem.W.mg_none_of X G z_zip
    · exact PySem.W.mg_none_of X G z_range
    · exact PySem.W.mg_none_of X G z_repr
    · exact PySem.W.mg_none_of X G z_set
    · exact PySem.W.mg_none_of X G z_sorted
    · exact PySem.W.mg_none_of X G z_sum
    · exact PySem.W.mg_none_of X G z_min
    · exact PySem.W.mg_none_of X G z_max
    · exact PySem.W.mg_none_of X G z_enumerate
    · exact PySem.W.mg_none_of X G z_dict⟩
  have C_LETTERS : Gc K mg "LETTERS" (.str "abcdefghijklmnopqrstuvwxyz") (.str "abcdefghijklmnopqrstuvwxyz") := ⟨⟨_, PySem.W.mg_of X G q1, ⟨t1, rfl⟩⟩, fun _ => .str ⟨by decide +kernel, by decide +kernel⟩⟩
  have C_LONGEST_NAME : Gc K mg "LONGEST_NAME" (.int 8) (.int 8) := ⟨⟨_, PySem.W.mg_of X G q2, ⟨t2, rfl⟩⟩, fun _ => .int (by unfold okI; decide)⟩
  have y_SE := PySem.W.mg_of X G x_SE
  have y_PE := PySem.W.mg_of X G x_PE
  have y_RE := PySem.W.mg_of X G x_RE
  have y_WE := PySem.W.mg_of X G x_WE
  have y_TE := PySem.W.mg_of X G x_TE
  have y_NU := PySem.W.mg_of X G x_NU
  have y_IP := PySem.W.mg_of X G x_IP
  have y_IT := PySem.W.mg_of X G x_IT
  obtain ⟨fd_NU, U_NU⟩ := iNU.fn
  have b_NU := U_NU.binds (ps := ["self", "word", "at"]) fun _ _ _ _ _ _ us hl => match us, hl with | [_, _, _], _ => rfl
  have Fa : Fam mg cPE cRE cWE cTE cNU cIP cIT := ⟨y_PE, y_RE, y_WE, y_TE, y_NU, y_IP, y_IT⟩
  have hu : ((([(p1, (("_law_is_right" : Str) ++ ".<locals>.") ++ "<lambda>")] : List (Addr × Str))).map (fun q : Addr × Str => q.1)).Nodup := by
    show [p1].Nodup
    simp
  generalize hT : ([(p1, (("_law_is_right" : Str) ++ ".<locals>.") ++ "<lambda>")] : List (Addr × Str)) = T at hu
  have hT1 : (p1, (("_law_is_right" : Str) ++ ".<locals>.") ++ "<lambda>") ∈ T := by rw [← hT]; simp
  have two : ∀ {R : Addr × Addr → Prop}, R (c1, p1) → ∀ q ∈ [(c1, p1)], R q := fun r1 q hq => by
    simp only [List.mem_cons, List.not_mem_nil, or_false] at hq
    rcases hq with rfl
    · exact r1
  refine ⟨[(c1, p1)], fd_law, spLaw K T, two e1, two n1, two F__law_is_right.hd, fun s v => ?_, fun H a ns hl hH hS => ⟨a, ns, rfl, hS, hl, fun q hq => ?_, fun _ => rfl⟩, fun base hK hN hB => ?_⟩
  · obtain ⟨_, _, _, _, _, _, _, _, _, e, _⟩ := U_law.ex
    rw [e]
    exact .of_eq rfl
  · rw [← hT] at hq
    simp only [List.mem_cons, List.not_mem_nil, or_false] at hq
    rcases hq with rfl
    · exact LamX.TabS.nil (hH (c1, p1) (by simp))
  have TB1 := hB (c1, p1) (by simp)
  have R_NotUsable : Ec l.prog w K mg base "NotUsable" cNU "word" "at" := ⟨y_NU, oNU, fNU, fd_NU, _, iNU.at', iNU.ty, ok_iniNU (P := l.prog) (w := w) (mg := mg) (base := base) U_NU oNU dNU.n1 dNU.n2, b_NU⟩
  have Sd : SaidF l.prog w K mg base cNU cIP cIT := ⟨f__law_said, f__law_refusal, cSE, fd__law_said, fd__law_refusal, U__law_said, m__law_said, b__law_said, y_SE, sNU, sIP, sIT, ok_ref (P := l.prog) (w := w) (base := base) U__law_refusal B (PySem.W.mg_none_of X G z_ValueError) Fa dNU dIP dIT, m__law_refusal, U__law_refusal.kp, b__law_refusal⟩
  have D_is_name := ok_is_name (P := l.prog) (w := w) (base := base) U_is_name m_is_name b_is_name B C_LETTERS C_LONGEST_NAME
  have D_is_nothing := ok_is_nothing (P := l.prog) (w := w) (base := base) U_is_nothing m_is_nothing b_is_nothing B 
  have D_is_kind := ok_is_kind (P := l.prog) (w := w) (base := base) U_is_kind m_is_kind b_is_kind B D_is_name D_is_nothing
  have D_is_one_of := ok_is_one_of (P := l.prog) (w := w) (base := base) U_is_one_of m_is_one_of b_is_one_of B 
  have D_is_pair := ok_is_pair (P := l.prog) (w := w) (base := base) U_is_pair m_is_pair b_is_pair B 
  have D_is_sort := ok_is_sort (P := l.prog) (w := w) (base := base) U_is_sort m_is_sort b_is_sort B D_is_kind D_is_one_of D_is_pair
  have D_is_row := ok_is_row (P := l.prog) (w := w) (base := base) U_is_row m_is_row b_is_row B D_is_kind D_is_name D_is_one_of D_is_sort
  have D_check_rows := ok_check_rows (P := l.prog) (w := w) (base := base) U_check_rows m_check_rows b_check_rows B D_is_row R_NotUsable
  have D_check_text := ok_check_text (P := l.prog) (w := w) (base := base) U_check_text m_check_text b_check_text B D_check_rows
  have D_others_of := ok_others_of (P := l.prog) (w := w) (base := base) U_others_of m_others_of b_others_of B D_is_name D_is_pair R_NotUsable
  have D_row_renamed := ok_row_renamed (P := l.prog) (w := w) (base := base) U_row_renamed m_row_renamed b_row_renamed B 
  have D_renamed := ok_renamed (P := l.prog) (w := w) (base := base) U_renamed m_renamed B D_check_text D_others_of D_row_renamed
  have D_row_rekinded := ok_row_rekinded (P := l.prog) (w := w) (base := base) U_row_rekinded m_row_rekinded b_row_rekinded B D_is_pair
  have D_rekinded := ok_rekinded (P := l.prog) (w := w) (base := base) U_rekinded m_rekinded B D_check_text D_others_of D_row_rekinded
  have D__law_draw := ok_draw (P := l.prog) (w := w) (base := base) (T := T) U__law_draw m__law_draw b__law_draw B
  have D__law_pick := ok__law_pick (P := l.prog) (w := w) (base := base) U__law_pick m__law_pick b__law_pick B D__law_draw
  have D__law_item := ok__law_item (P := l.prog) (w := w) (base := base) U__law_item m__law_item b__law_item B D__law_draw D__law_pick
  have D__law_page := ok__law_page (P := l.prog) (w := w) (base := base) U__law_page m__law_page b__law_page B D__law_draw D__law_item D__law_pick
  have D__law_is_number := ok__law_is_number (P := l.prog) (w := w) (base := base) U__law_is_number m__law_is_number b__law_is_number B 
  have D__law_is_name := ok__law_is_name (P := l.prog) (w := w) (base := base) U__law_is_name m__law_is_name b__law_is_name B 
  have D__law_is_kind := ok__law_is_kind (P := l.prog) (w := w) (base := base) U__law_is_kind m__law_is_kind b__law_is_kind B D__law_is_name
  have D__law_is_sort := ok__law_is_sort (P := l.prog) (w := w) (base := base) U__law_is_sort m__law_is_sort b__law_is_sort B D__law_is_kind
  have D__law_is_item := ok__law_is_item (P := l.prog) (w := w) (base := base) U__law_is_item m__law_is_item b__law_is_item B D__law_is_kind D__law_is_name D__law_is_sort
  have D__law_strange := ok__law_strange (P := l.prog) (w := w) (base := base) U__law_strange m__law_strange b__law_strange B D__law_pick
  have D__law_bent := bents (P := l.prog) (w := w) (base := base) (T := T) U__law_bent m__law_bent b__law_bent B D__law_draw D__law_is_number D__law_pick D__law_strange 20
  have D__law_page_fault := ok__law_page_fault (P := l.prog) (w := w) (base := base) U__law_page_fault m__law_page_fault b__law_page_fault B D__law_is_item
  have D__law_late := ok__law_late (P := l.prog) (w := w) (base := base) U__law_late m__law_late b__law_late B 
  have D__law_turned := ok__law_turned (P := l.prog) (w := w) (base := base) U__law_turned m__law_turned b__law_turned B D__law_late
  have D__law_due := ok__law_due (P := l.prog) (w := w) (base := base) U__law_due m__law_due b__law_due B D__law_is_name D__law_page_fault D__law_turned
  have D__law_renamed := ok__law_renamed (P := l.prog) (w := w) (base := base) U__law_renamed m__law_renamed b__law_renamed B D_renamed
  have D__law_rekinded := ok__law_rekinded (P := l.prog) (w := w) (base := base) U__law_rekinded m__law_rekinded b__law_rekinded B D_rekinded
  have D__law_is_right := ok__law_is_right (P := l.prog) (w := w) (base := base) U__law_is_right m__law_is_right b__law_is_right B D__law_due D__law_rekinded D__law_renamed Sd y__law_is_right TB1 hT1 hu
  have D__law_signs := ok__law_signs (P := l.prog) (w := w) (base := base) U__law_signs m__law_signs b__law_signs B 
  exact ok_law U_law B hu (ok_feed U__law_feed B) m__law_feed U__law_feed.kp b__law_feed D__law_bent D__law_draw D__law_is_right D__law_page D__law_page_fault D__law_pick D__law_rekinded D__law_renamed D__law_signs
end L07

set_option Elab.async false
set_option linter.all false
set_option pp.maxSteps 60
open PySem PySem.W PyProof.Rows
set_option maxRecDepth 100000 in
set_option maxHeartbeats 0 in
theorem PySem.Challenge.cw_surelywrong_k07_whole_names_and_kinds_tu_holds : PySem.Challenge.rw_surelywrong_k07_whole_names_and_kinds_tu.Holds := by
  w_on; o_law; k_head; (case hw => w_witness2)
  k_fill
  refine Dt.walkT (l := PySem.Challenge.rw_surelywrong_k07_whole_names_and_kinds_tu) (n := 63) (k := 24) (x := "_law_script") rfl (by decide) rfl ⟨rfl, by decide, by decide⟩ (fun w h Y => PySem.W.km_in_of Y) ?F
  case F =>
    intro w mg fa h Y KX G hmg
    have TY := PySem.W.km_tabs_of Y
    refine' L07.all_mk KX G hmg ?F_is_name ?F_is_kind ?F_is_nothing ?F_is_one_of ?F_is_pair ?F_is_sort ?F_is_row ?F_check_rows ?F_check_text ?F_renamed ?F_rekinded ?F_others_of ?F_row_renamed ?F_row_rekinded ?F__law_feed ?F__law_draw ?F__law_pick ?F__law_item ?F__law_page ?F__law_is_number ?F__law_is_name ?F__law_is_kind ?F__law_is_sort ?F__law_is_item ?F__law_strange ?F__law_bent ?F__law_refusal ?F__law_said ?F__law_page_fault ?F__law_late ?F__law_turned ?F__law_due ?F__law_renamed ?F__law_rekinded ?F__law_is_right ?e1 ?n1 ?F__law_signs ?F_law ?q1 ?q2 ?z_isinstance ?z_int ?z_bool ?z_str ?z_tuple ?z_list ?z_len ?z_all ?z_any ?z_zip ?z_range ?z_repr ?z_set ?z_sorted ?z_sum ?z_min ?z_max ?z_enumerate ?z_dict ?z_ValueError ?x_SE ?x_PE ?x_RE ?x_WE ?x_TE ?x_NU ?x_IP ?x_IT ?dNU ?dIP ?dIT ?oNU ?iNU ?sNU ?sIP ?sIT
    (case F_is_name => (refine' L07.fct_mk ?a ?l ?c ?k; (case a => k_is); (case l => k_is); (case c => k_is); (case k => k_is)))
    (case F_is_kind => (refine' L07.fct_mk ?a ?l ?c ?k; (case a => k_is); (case l => k_is); (case c => k_is); (case k => k_is)))
    (case F_is_nothing => (refine' L07.fct_mk ?a ?l ?c ?k; (case a => k_is); (case l => k_is); (case c => k_is); (case k => k_is)))
    (case F_is_one_of => (refine' L07.fct_mk ?a ?l ?c ?k; (case a => k_is); (case l => k_is); (case c => k_is); (case k => k_is)))
    (case F_is_pair => (refine' L07.fct_mk ?a ?l ?c ?k; (case a => k_is); (case l => k_is); (case c => k_is); (case k => k_is)))
    (case F_is_sort => (refine' L07.fct_mk ?a ?l ?c ?k; (case a => k_is); (case l => k_is); (case c => k_is); (case k => k_is)))
    (case F_is_row => (refine' L07.fct_mk ?a ?l ?c ?k; (case a => k_is); (case l => k_is); (case c => k_is); (case k => k_is)))
    (case F_check_rows => (refine' L07.fct_mk ?a ?l ?c ?k; (case a => k_is); (case l => k_is); (case c => k_is); (case k => k_is)))
    (case F_check_text => (refine' L07.fct_mk ?a ?l ?c ?k; (case a => k_is); (case l => k_is); (case c => k_is); (case k => k_is)))
    (case F_renamed => (refine' L07.fct_mk ?a ?l ?c ?k; (case a => k_is); (case l => k_is); (case c => k_is); (case k => k_is)))
    (case F_rekinded => (refine' L07.fct_mk ?a ?l ?c ?k; (case a => k_is); (case l => k_is); (case c => k_is); (case k => k_is)))
    (case F_others_of => (refine' L07.fct_mk ?a ?l ?c ?k; (case a => k_is); (case l => k_is); (case c => k_is); (case k => k_is)))
    (case F_row_renamed => (refine' L07.fct_mk ?a ?l ?c ?k; (case a => k_is); (case l => k_is); (case c => k_is); (case k => k_is)))
    (case F_row_rekinded => (refine' L07.fct_mk ?a ?l ?c ?k; (case a => k_is); (case l => k_is); (case c => k_is); (case k => k_is)))
    (case F__law_feed => (refine' L07.fct_mk ?a ?l ?c ?k; (case a => k_is); (case l => k_is); (case c => k_is); (case k => k_is)))
    (case F__law_draw => (refine' L07.fct_mk ?a ?l ?c ?k; (case a => k_is); (case l => k_is); (case c => k_is); (case k => k_is)))
    (case F__law_pick => (refine' L07.fct_mk ?a ?l ?c ?k; (case a => k_is); (case l => k_is); (case c => k_is); (case k => k_is)))
    (case F__law_item => (refine' L07.fct_mk ?a ?l ?c ?k; (case a => k_is); (case l => k_is); (case c => k_is); (case k => k_is)))
    (case F__law_page => (refine' L07.fct_mk ?a ?l ?c ?k; (case a => k_is); (case l => k_is); (case c => k_is); (case k => k_is)))
    (case F__law_is_number => (refine' L07.fct_mk ?a ?l ?c ?k; (case a => k_is); (case l => k_is); (case c => k_is); (case k => k_is)))
    (case F__law_is_name => (refine' L07.fct_mk ?a ?l ?c ?k; (case a => k_is); (case l => k_is); (case c => k_is); (case k => k_is)))
    (case F__law_is_kind => (refine' L07.fct_mk ?a ?l ?c ?k; (case a => k_is); (case l => k_is); (case c => k_is); (case k => k_is)))
    (case F__law_is_sort => (refine' L07.fct_mk ?a ?l ?c ?k; (case a => k_is); (case l => k_is); (case c => k_is); (case k => k_is)))
    (case F__law_is_item => (refine' L07.fct_mk ?a ?l ?c ?k; (case a => k_is); (case l => k_is); (case c => k_is); (case k => k_is)))
    (case F__law_strange => (refine' L07.fct_mk ?a ?l ?c ?k; (case a => k_is); (case l => k_is); (case c => k_is); (case k => k_is)))
    (case F__law_bent => (refine' L07.fct_mk ?a ?l ?c ?k; (case a => k_is); (case l => k_is); (case c => k_is); (case k => k_is)))
    (case F__law_refusal => (refine' L07.fct_mk ?a ?l ?c ?k; (case a => k_is); (case l => k_is); (case c => k_is); (case k => k_is)))
    (case F__law_said => (refine' L07.fct_mk ?a ?l ?c ?k; (case a => k_is); (case l => k_is); (case c => k_is); (case k => k_is)))
    (case F__law_page_fault => (refine' L07.fct_mk ?a ?l ?c ?k; (case a => k_is); (case l => k_is); (case c => k_is); (case k => k_is)))
    (case F__law_late => (refine' L07.fct_mk ?a ?l ?c ?k; (case a => k_is); (case l => k_is); (case c => k_is); (case k => k_is)))
    (case F__law_turned => (refine' L07.fct_mk ?a ?l ?c ?k; (case a => k_is); (case l => k_is); (case c => k_is); (case k => k_is)))
    (case F__law_due => (refine' L07.fct_mk ?a ?l ?c ?k; (case a => k_is); (case l => k_is); (case c => k_is); (case k => k_is)))
    (case F__law_renamed => (refine' L07.fct_mk ?a ?l ?c ?k; (case a => k_is); (case l => k_is); (case c => k_is); (case k => k_is)))
    (case F__law_rekinded => (refine' L07.fct_mk ?a ?l ?c ?k; (case a => k_is); (case l => k_is); (case c => k_is); (case k => k_is)))
    (case F__law_is_right => (refine' L07.fctC_mk ?a ?l ?c ?k ?lc ?t ?h; (case a => k_is); (case l => k_is); (case c => k_is); (case k => k_is); (case lc => k_is); (case t => exact rfl); (case h => kernel_rfl)))
    (case F__law_signs => (refine' L07.fct_mk ?a ?l ?c ?k; (case a => k_is); (case l => k_is); (case c => k_is); (case k => k_is)))
    (case F_law => (refine' L07.fct_mk ?a ?l ?c ?k; (case a => k_is); (case l => k_is); (case c => k_is); (case k => k_is)))
    (case e1 => exact TY _ (by decide))
    (case n1 => kernel_rfl)
    (case q1 => k_is)
    (case q2 => k_is)
    (case z_isinstance => k_is)
    (case z_int => k_is)
    (case z_bool => k_is)
    (case z_str => k_is)
    (case z_tuple => k_is)
    (case z_list => k_is)
    (case z_len => k_is)
    (case z_all => k_is)
    (case z_any => k_is)
    (case z_zip => k_is)
    (case z_range => k_is)
    (case z_repr => k_is)
    (case z_set => k_is)
    (case z_sorted => k_is)
    (case z_sum => k_is)
    (case z_min => k_is)
    (case z_max => k_is)
    (case z_enumerate => k_is)
    (case z_dict => k_is)
    (case z_ValueError => k_is)
    (case x_SE => k_is)
    (case x_PE => k_is)
    (case x_RE => k_is)
    (case x_WE => k_is)
    (case x_TE => k_is)
    (case x_NU => k_is)
    (case x_IP => k_is)
    (case x_IT => k_is)
    (case dNU => (refine ⟨⟨?_, ?_, ?_, ?_, ?_, ?_, ?_, ?_⟩, ⟨?_, ?_, ?_, ?_⟩, ?_, ?_, ?_, ?_, ?_, ?_, ?_, ?_, ?_, ?_⟩ <;> kernel_rfl))
    (case dIP => (refine ⟨⟨?_, ?_, ?_, ?_, ?_, ?_, ?_, ?_⟩, ⟨?_, ?_, ?_, ?_⟩, ?_, ?_, ?_, ?_, ?_, ?_, ?_, ?_, ?_, ?_⟩ <;> kernel_rfl))
    (case dIT => (refine ⟨⟨?_, ?_, ?_, ?_, ?_, ?_, ?_, ?_⟩, ⟨?_, ?_, ?_, ?_⟩, ?_, ?_, ?_, ?_, ?_, ?_, ?_, ?_, ?_, ?_⟩ <;> kernel_rfl))
    (case oNU => (refine' L07.oex_mk ?k ?b ?s1 ?s2 ?s3 ?s4; (case k => k_is); (case b => kernel_rfl); (case s1 => kernel_rfl); (case s2 => kernel_rfl); (case s3 => kernel_rfl); (case s4 => kernel_rfl)))
    (case iNU => (refine' L07.ini_mk ?a ?t ?l ?c ?k; (case a => k_is); (case t => kernel_rfl); (case l => k_is); (case c => k_is); (case k => k_is)))
    (case sNU => kernel_rfl)
    (case sIP => kernel_rfl)
    (case sIT => kernel_rfl)
