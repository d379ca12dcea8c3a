import PyProof.Rows.All
import Wide.All
import OpenK.AllK
import Wide.FinOn
import HandS.ForMost
import HandS.ExcOwn
import HandS.IsInst
import HandS.TupAny
import HandS.TupMul
import HandS.Deep
import HandS.Zip
import HandS.WordsExc
import HandS.SetFor
import HandS.Strs
import HandS.Text
import KE.KRevSl
import HandS.SortInts
import HandS.Ends
import HandS.ExcInit
import HandS.ExcField
import HandS.ExcIs
import HandS.HotCalls
import HandS.Lambda
import KE.GoesMore
import PyProof.EnumMake
import HandS.Iter
import HandS.Conv
import HandS.Star
import HandS.Flow
import HandS.FStr
import HandS.Style
import HandS.CallLocal
import HandS.DictComp
import PySem.Challenge.RW_surelywrong_k34_segments_and_layers
set_option Elab.async false
set_option linter.all false
set_option autoImplicit false
set_option maxRecDepth 100000
/-! Data judgements over the hand layer: what an expression, a statement of a def does, told by PyData alone. -/
namespace Dt
open PySem PySem.Spec L2

def okI (i : Int) : Prop := i.natAbs < 2 ^ 250
def limL : Nat := 4194304
def okS (x : Str) : Prop := x.length ≤ limL ∧ PyData.strOk x = true

/-- a key of a dict, as data -/
def kD : Key → PyData
  | .inl i => .int i
  | .inr x => .str x
def okK : Key → Prop
  | .inl i => okI i
  | .inr x => okS x
/-- the entries of a dict, as data -/
def kvD (es : List (Key × PyData)) : List (PyData × PyData) := es.map fun e => (kD e.1, e.2)
mutual
inductive Dv (K : PySem.W.Frag) (H : Hp) : V → PyData → Prop
  | non : Dv K H .non .none
  | bl (b : Bool) : Dv K H (.bl b) (.bool b)
  | int {i : Int} : okI i → Dv K H (.int i) (.int i)
  | str {x : Str} : okS x → Dv K H (.str x) (.str x)
  | lst {a : Addr} {xs : List V} {ds : List PyData} : H a = some (.lst xs) → ds.length ≤ limL → DvAll K H xs ds → Dv K H (.ref a) (.list ds)
  | tup {a : Addr} {xs : List V} {ds : List PyData} : SqT K H a xs → ds.length ≤ limL → DvAll K H xs ds → Dv K H (.ref a) (.tuple ds)
  | dct {a : Addr} {kvs : List (Key × V)} {ps : List (PyData × PyData)} : H a = some (.dK kvs) → ps.length ≤ limL → DvP K H kvs ps → Dv K H (.ref a) (.dict ps)
inductive DvAll (K : PySem.W.Frag) (H : Hp) : List V → List PyData → Prop
  | nil : DvAll K H [] []
  | cons {v : V} {vs : List V} {d : PyData} {ds : List PyData} : Dv K H v d → DvAll K H vs ds → DvAll K H (v :: vs) (d :: ds)
inductive DvP (K : PySem.W.Frag) (H : Hp) : List (Key × V) → List (PyData × PyData) → Prop
  | nil : DvP K H [] []
  | cons {k : Key} {v : V} {kvs : List (Key × V)} {d : PyData} {ps : List (PyData × PyData)} : okK k → Dv K H v d → DvP K H kvs ps → DvP K H ((k, v) :: kvs) ((kD k, d) :: ps)
end

theorem same_seqT {K : PySem.W.Frag} {H H' : Hp} {a : Addr} {xs : List V} (e : Same H H') (h : SqT K H a xs) : SqT K H' a xs := by
  rcases h with (h | ⟨o, h⟩) | h
  · exact .inl (.inl (e _ _ h))
  · exact .inl (.inr ⟨o, e _ _ h⟩)
  · exact .inr h
section
variable {K : PySem.W.Frag} {H H' : Hp}
mutual
theorem Dv.same (e : Same H H') : ∀ (d : PyData) (v : V), Dv K H v d → Dv K H' v d
  | .none, _, h => by cases h; exact .non
  | .bool b, _, h => by cases h; exact .bl b
  | .int i, _, h => by cases h with | int q => exact .int q
  | .str x, _, h => by cases h with | str q => exact .str q
  | .list ds, _, h => by cases h with | lst a n b => exact .lst (e _ _ a) n (DvAll.same e ds _ b)
  | .tuple ds, _, h => by cases h with | tup a n b => exact .tup (same_seqT e a) n (DvAll.same e ds _ b)
  | .dict ps, _, h => by cases h with | dct a n b => exact .dct (e _ _ a) n (DvP.same e ps _ b)
theorem DvAll.same (e : Same H H') : ∀ (ds : List PyData) (vs : List V), DvAll K H vs ds → DvAll K H' vs ds
  | [], _, h => by cases h; exact .nil
  | d :: ds, _, h => by cases h with | cons a b => exact .cons (Dv.same e d _ a) (DvAll.same e ds _ b)
theorem DvP.same (e : Same H H') : ∀ (ps : List (PyData × PyData)) (kvs : List (Key × V)), DvP K H kvs ps → DvP K H' kvs ps
  | [], _, h => by cases h; exact .nil
  | (_, d) :: ps, _, h => by cases h with | cons o a b => exact .cons o (Dv.same e d _ a) (DvP.same e ps _ b)
end
theorem hd_cons {d : PyData} {ds : List PyData} (h : PyData.hasDictAll (d :: ds) = false) : d.hasDict = false ∧ PyData.hasDictAll ds = false := by
  simpa only [PyData.hasDictAll, Bool.or_eq_false_iff] using h
mutual
theorem Dv.dp : ∀ (d : PyData) (v : V), d.hasDict = false → Dv K H v d → Dp K H v d
  | .none, _, _, h => by cases h; exact .non
  | .bool b, _, _, h => by cases h; exact .bl b
  | .int i, _, _, h => by cases h with | int q => exact .int _
  | .str x, _, _, h => by cases h with | str q => exact .str _
  | .list ds, _, z, h => by cases h with | lst a n b => exact .lst (SqL.of a) (DvAll.dp ds _ (by simpa only [PyData.hasDict] using z) b)
  | .tuple ds, _, z, h => by cases h with | tup a n b => exact .tup a (DvAll.dp ds _ (by simpa only [PyData.hasDict] using z) b)
  | .dict _, _, z, h => by simp only [PyData.hasDict] at z; cases z
theorem DvAll.dp : ∀ (ds : List PyData) (vs : List V), PyData.hasDictAll ds = false → DvAll K H vs ds → DpAll K H vs ds
  | [], _, _, h => by cases h; exact .nil
  | d :: ds, _, z, h => by cases h with | cons a b => exact .cons (Dv.dp d _ (hd_cons z).1 a) (DvAll.dp ds _ (hd_cons z).2 b)
end
theorem DvAll.length : ∀ {vs : List V} {ds : List PyData}, DvAll K H vs ds → vs.length = ds.length
  | _, [], h => by cases h; rfl
  | _, d :: ds, h => by cases h with | cons a b => simp [DvAll.length b]
theorem DvAll.get : ∀ {vs : List V} {ds : List PyData} {i : Nat} {x : V}, DvAll K H vs ds → vs[i]? = some x → ∃ d, ds[i]? = some d ∧ Dv K H x d
  | _, [], _, _, h, e => by cases h; simp at e
  | _, d :: ds, 0, x, h, e => by cases h with | cons a b => (simp at e; subst e; exact ⟨d, rfl, a⟩)
  | _, d :: ds, i + 1, x, h, e => by cases h with | cons a b => (obtain ⟨y, h1, h2⟩ := DvAll.get (i := i) b (by simpa using e); exact ⟨y, by simpa using h1, h2⟩)
theorem DvAll.get' {vs : List V} {ds : List PyData} {i : Nat} {d : PyData} (h : DvAll K H vs ds) (e : ds[i]? = some d) : ∃ x, vs[i]? = some x ∧ Dv K H x d := by
  have hl := h.length
  have hi : i < vs.length := by
    have := (List.getElem?_eq_some_iff.mp e).1
    omega
  obtain ⟨d', h1, h2⟩ := h.get (List.getElem?_eq_getElem hi)
  rw [e] at h1; cases h1
  exact ⟨_, List.getElem?_eq_getElem hi, h2⟩
theorem DvAll.append : ∀ {vs ws : List V} {ds es : List PyData}, DvAll K H vs ds → DvAll K H ws es → DvAll K H (vs ++ ws) (ds ++ es)
  | _, _, [], _, h, h2 => by cases h; exact h2
  | _, _, d :: ds, _, h, h2 => by cases h with | cons a b => exact .cons a (DvAll.append b h2)
theorem DvAll.take : ∀ {vs : List V} {ds : List PyData} (n : Nat), DvAll K H vs ds → DvAll K H (vs.take n) (ds.take n)
  | _, _, 0, _ => .nil
  | _, [], n + 1, h => by cases h; exact .nil
  | _, d :: ds, n + 1, h => by cases h with | cons a b => exact .cons a (DvAll.take n b)
theorem DvAll.drop : ∀ {vs : List V} {ds : List PyData} (n : Nat), DvAll K H vs ds → DvAll K H (vs.drop n) (ds.drop n)
  | _, _, 0, h => h
  | _, [], n + 1, h => by cases h; exact .nil
  | _, d :: ds, n + 1, h => by cases h with | cons a b => exact DvAll.drop n b
theorem DvAll.reverse : ∀ {vs : List V} {ds : List PyData}, DvAll K H vs ds → DvAll K H vs.reverse ds.reverse
  | _, [], h => by cases h; exact .nil
  | _, d :: ds, h => by cases h with | cons a b => (simp only [List.reverse_cons]; exact (DvAll.reverse b).append (.cons a .nil))
end

/-! ### hidden addresses -/
def hd (H : Hp) (l : List Addr) : Hp := fun a => if a ∈ l then none else H a
theorem hd_in {H : Hp} {l : List Addr} {a : Addr} (h : a ∈ l) : hd H l a = none := by unfold hd; rw [if_pos h]
theorem hd_out {H : Hp} {l : List Addr} {a : Addr} (h : a ∉ l) : hd H l a = H a := by unfold hd; rw [if_neg h]
theorem hd_some {H : Hp} {l : List Addr} {a : Addr} {o : HO} : hd H l a = some o ↔ a ∉ l ∧ H a = some o := by
  by_cases h : a ∈ l
  · rw [hd_in h]; simp [h]
  · rw [hd_out h]; simp [h]
theorem hd_to (H : Hp) (l : List Addr) : Same (hd H l) H := fun b o h => (hd_some.mp h).2
theorem hd_same {H H' : Hp} (l : List Addr) (e : ∀ b o, b ∉ l → H b = some o → H' b = some o) : Same (hd H l) (hd H' l) := fun b o h =>
  let ⟨n, q⟩ := hd_some.mp h
  hd_some.mpr ⟨n, e b o n q⟩
theorem hd_sub {H : Hp} {l l' : List Addr} (h : ∀ a ∈ l', a ∈ l) : Same (hd H l) (hd H l') := fun b o q =>
  let ⟨n, q⟩ := hd_some.mp q
  hd_some.mpr ⟨fun z => n (h b z), q⟩
theorem same_upd {H : Hp} {p : Addr} {o : HO} (h : H p = none) : Same H (upd H p o) := fun b u q => by rw [upd_ne (ne_of_none q h)]; exact q

/-! ### the world, the context, the environment -/
structure Wd (S : Type) where
  G : S → Hp → Prop
  wa : List Addr
  tr : ∀ s H, G s H → ∀ a ∈ wa, H a ≠ none
  st : ∀ s H H', G s H → (∀ a ∈ wa, H' a = H a) → (∀ b o, H b = some o → (∀ xs, o ≠ .lst xs) → (∀ xs, o ≠ .dK xs) → (∀ xs, o ≠ .dT xs) → H' b = some o) → G s H'
/-- no world -/
def W0 : Wd Unit := ⟨fun _ _ => True, [], (fun _ _ _ _ h => nomatch h), fun _ _ _ _ _ _ => trivial⟩
structure Cn {S : Type} (Wo : Wd S) where
  R : List Addr
  H0 : Hp
abbrev Cn.W {S : Type} {Wo : Wd S} (_ : Cn Wo) : Wd S := Wo
inductive Sl where
  | no
  | d (x : PyData)
  | own (p : Addr) (xs : List PyData)
  | raw (v : V)
  /-- a dict of its own: keys ints and texts; keys tuples of them -/
  | ownK (p : Addr) (es : List (Key × PyData))
  | ownT (p : Addr) (es : List (List Key × PyData))
def own1 : Sl → List Addr
  | .own p _ => [p]
  | .ownK p _ => [p]
  | .ownT p _ => [p]
  | _ => []
/-- the entries of a dict whose keys are tuples -/
def DvT (K : PySem.W.Frag) (H : Hp) : List (List Key × V) → List (List Key × PyData) → Prop
  | [], [] => True
  | (k, v) :: r, (l, d) :: t => k = l ∧ Dv K H v d ∧ DvT K H r t
  | _, _ => False
theorem DvT.same {K : PySem.W.Frag} {H H' : Hp} (e : Same H H') : ∀ (r : List (List Key × V)) (t : List (List Key × PyData)), DvT K H r t → DvT K H' r t
  | [], [], _ => trivial
  | (_, _) :: r, (_, d) :: t, h => ⟨h.1, Dv.same e d _ h.2.1, DvT.same e r t h.2.2⟩
  | [], _ :: _, h => h.elim
  | _ :: _, [], h => h.elim
def owns : List Sl → List Addr
  | [] => []
  | x :: r => own1 x ++ owns r
def SlotOk (K : PySem.W.Frag) (Hh H : Hp) : Sl → Option V → Prop
  | .no, _ => True
  | .d x, o => ∃ v, o = some v ∧ Dv K Hh v x
  | .own p xs, o => o = some (.ref p) ∧ xs.length ≤ limL ∧ ∃ vs, H p = some (.lst vs) ∧ DvAll K Hh vs xs
  | .raw v, o => o = some v
  | .ownK p es, o => o = some (.ref p) ∧ es.length ≤ limL ∧ ∃ kvs, H p = some (.dK kvs) ∧ DvP K Hh kvs (kvD es)
  | .ownT p es, o => o = some (.ref p) ∧ es.length ≤ limL ∧ ∃ kvs, H p = some (.dT kvs) ∧ DvT K Hh kvs es
abbrev Cn.hs {S : Type} {Wo : Wd S} (c : Cn Wo) (ρ : List Sl) : List Addr := (c.W.wa ++ c.R) ++ owns ρ
structure EnvD {S : Type} {Wo : Wd S} (K : PySem.W.Frag) (c : Cn Wo) (σ : St) (H : Hp) (ρ : List Sl) (s : S) : Prop where
  len : σ.length = ρ.length
  slot : ∀ (i : Nat) (x : Sl), ρ[i]? = some x → ∃ o, σ[i]? = some o ∧ SlotOk K (hd H (c.hs ρ)) H x o
  nd : (c.hs ρ).Nodup
  tr : ∀ a ∈ c.hs ρ, H a ≠ none
  g : c.W.G s H
  ext : ∀ b o, c.H0 b = some o → b ∉ c.W.wa → H b = some o
  new : ∀ p ∈ owns ρ, c.H0 p = none
/-- what was seen as data is so still -/
abbrev Stp {S : Type} {Wo : Wd S} (c : Cn Wo) (ρ ρ' : List Sl) (H H' : Hp) : Prop := Same (hd H (c.hs ρ)) (hd H' (c.hs ρ'))

section
variable {S : Type} {Wo : Wd S} {K : PySem.W.Frag} {c : Cn Wo} {σ : St} {H H' : Hp} {ρ : List Sl} {s : S}
theorem SlotOk.same {Hh Hh' H H' : Hp} {x : Sl} {o : Option V} (h : SlotOk K Hh H x o) (e : Same Hh Hh') (e2 : ∀ p, own1 x = [p] → H p ≠ none → H' p = H p) : SlotOk K Hh' H' x o := by
  cases x with
  | no => trivial
  | d x => exact (let ⟨v, q, r⟩ := h; ⟨v, q, Dv.same e _ _ r⟩)
  | own p xs => exact (let ⟨q, n, vs, r, t⟩ := h; ⟨q, n, vs, (e2 p rfl (by rw [r]; exact fun z => nomatch z)).trans r, DvAll.same e _ _ t⟩)
  | raw v => exact h
  | ownK p es => exact (let ⟨q, n, vs, r, t⟩ := h; ⟨q, n, vs, (e2 p rfl (by rw [r]; exact fun z => nomatch z)).trans r, DvP.same e _ _ t⟩)
  | ownT p es => exact (let ⟨q, n, vs, r, t⟩ := h; ⟨q, n, vs, (e2 p rfl (by rw [r]; exact fun z => nomatch z)).trans r, DvT.same e _ _ t⟩)
/-- the heap grows by what is not hidden -/
theorem EnvD.grow (E : EnvD K c σ H ρ s) (e : Same H H') : EnvD K c σ H' ρ s where
  len := E.len
  slot := fun i x h => by
    obtain ⟨o, h1, h2⟩ := E.slot i x h
    refine ⟨o, h1, h2.same (hd_same _ fun b u _ q => e b u q) fun p _ z => ?_⟩
    cases r : H p with
    | none => exact absurd r z
    | some u => exact e _ _ r
  nd := E.nd
  tr := fun a ha z => by
    cases q : H a with
    | none => exact E.tr a ha q
    | some o => rw [e _ _ q] at z; cases z
  g := c.W.st s H H' E.g (fun a ha => by
    cases q : H a with
    | none => exact absurd q (E.tr a (List.mem_append_left _ (List.mem_append_left _ ha)))
    | some o => exact e _ _ q) fun b o h _ _ _ => e b o h
  ext := fun b o h n => e _ _ (E.ext b o h n)
  new := E.new
theorem stp_grow (e : Same H H') : Stp c ρ ρ H H' := hd_same _ fun b u _ q => e b u q
theorem own_memG : ∀ {ρ : List Sl} {i : Nat} {p : Addr} {x : Sl}, ρ[i]? = some x → own1 x = [p] → p ∈ owns ρ
  | [], _, _, _, h, _ => by simp at h
  | x :: r, 0, p, y, h, o => by
    simp at h; subst h
    exact List.mem_append_left _ (by rw [o]; simp)
  | x :: r, i + 1, p, y, h, o => List.mem_append_right _ (own_memG (i := i) (by simpa using h) o)
theorem own_mem {ρ : List Sl} {i : Nat} {p : Addr} {xs : List PyData} (h : ρ[i]? = some (.own p xs)) : p ∈ owns ρ := own_memG h rfl
theorem owns_set_sub : ∀ {ρ : List Sl} {i : Nat} {x : Sl}, own1 x = [] → (owns (ρ.set i x)).Sublist (owns ρ)
  | [], _, _, _ => List.Sublist.refl _
  | y :: r, 0, x, h => by
    show (own1 x ++ owns r).Sublist (own1 y ++ owns r)
    rw [h]
    exact List.sublist_append_right _ _
  | y :: r, i + 1, x, h => List.Sublist.append (List.Sublist.refl _) (owns_set_sub (ρ := r) (i := i) h)
/-- a slot is given data -/
theorem EnvD.setD (E : EnvD K c σ H ρ s) {i : Nat} {v : V} {x : Sl} (hx : own1 x = []) (h : SlotOk K (hd H (c.hs ρ)) H x (some v)) : EnvD K c (σ.set i (some v)) H (ρ.set i x) s ∧ Stp c ρ (ρ.set i x) H H := by
  have sub : ∀ a ∈ c.hs (ρ.set i x), a ∈ c.hs ρ := fun a ha => by
    rcases List.mem_append.mp ha with z | z
    · exact List.mem_append_left _ z
    · exact List.mem_append_right _ ((owns_set_sub hx).subset z)
  have st : Stp c ρ (ρ.set i x) H H := hd_sub sub
  refine ⟨⟨by simp [E.len], fun j y hy => ?_, ?_, fun a ha => E.tr a (sub a ha), E.g, E.ext, fun p hp => E.new p ((owns_set_sub hx).subset hp)⟩, st⟩
  · by_cases hj : i = j
    · subst hj
      have hi : i < ρ.length := by
        have := (List.getElem?_eq_some_iff.mp hy).1
        simpa using this
      rw [List.getElem?_set_self hi] at hy
      cases hy
      exact ⟨some v, by rw [List.getElem?_set_self (by rw [E.len]; exact hi)], h.same st fun p z _ => rfl⟩
    · rw [List.getElem?_set_ne hj] at hy
      obtain ⟨o, h1, h2⟩ := E.slot j y hy
      exact ⟨o, by rw [List.getElem?_set_ne hj]; exact h1, h2.same st fun _ _ _ => rfl⟩
  · exact E.nd.sublist (List.Sublist.append (List.Sublist.refl _) (owns_set_sub hx))
end

/-! ### judgements -/
/-- an exception's class and fields -/
structure Er where
  cls : Addr
  fs : List (Str × PyData)
def FsOk (K : PySem.W.Frag) (H : Hp) : List (Str × V) → List (Str × PyData) → Prop
  | [], [] => True
  | (a, v) :: r, (b, d) :: t => a = b ∧ Dv K H v d ∧ FsOk K H r t
  | _, _ => False
def ErIs (K : PySem.W.Frag) (Hh H : Hp) (e : Er) (cls : Value) (dd : Option Addr) : Prop :=
  cls = .ref e.cls ∧ ∃ (d : Addr) (fs : List (Str × V)), dd = some d ∧ H d = some (.xd fs) ∧ FsOk K Hh fs e.fs
abbrev DE (S : Type) := List Sl → S → (PyData → S → Prop) → (Er → S → Prop) → Prop
abbrev DT (S : Type) := List Sl → S → (Bool → S → Prop) → (Er → S → Prop) → Prop
inductive Ag where
  | d (x : PyData)
  | raw (v : V)
def toSl : Ag → Sl
  | .d x => .d x
  | .raw v => .raw v
abbrev DA (S : Type) := List Sl → S → (List Ag → S → Prop) → (Er → S → Prop) → Prop
structure DEnds (S : Type) where
  nx : List Sl → S → Prop
  rt : PyData → S → Prop
  bk : List Sl → S → Prop
  ct : List Sl → S → Prop
  er : Er → List Sl → S → Prop
abbrev DS (S : Type) := List Sl → S → DEnds S → Prop

section
variable {S : Type} {Wo : Wd S}
/-- what an error asks -/
def ErTo (K : PySem.W.Frag) (c : Cn Wo) (σ : St) (ρ : List Sl) (Ed : Er → S → Prop) (W : WX) : Prop :=
  ∀ e cls dd H' s', EnvD K c σ H' ρ s' → ErIs K (hd H' (c.hs ρ)) H' e cls dd → Ed e s' → W cls dd σ H'
def VTo (K : PySem.W.Frag) (c : Cn Wo) (σ : St) (H : Hp) (ρ : List Sl) (Qd : PyData → S → Prop) (Q : VK) : Prop :=
  ∀ v H' d s', EnvD K c σ H' ρ s' → Stp c ρ ρ H H' → Dv K (hd H' (c.hs ρ)) v d → Qd d s' → Q v H'
def BTo (K : PySem.W.Frag) (c : Cn Wo) (σ : St) (H : Hp) (ρ : List Sl) (Qd : Bool → S → Prop) (Q : Bool → Hp → Prop) : Prop :=
  ∀ b H' s', EnvD K c σ H' ρ s' → Stp c ρ ρ H H' → Qd b s' → Q b H'
def AgOk (K : PySem.W.Frag) (Hh : Hp) : List V → List Ag → Prop
  | [], [] => True
  | v :: r, .d x :: t => Dv K Hh v x ∧ AgOk K Hh r t
  | v :: r, .raw u :: t => v = u ∧ AgOk K Hh r t
  | _, _ => False
def ATo (K : PySem.W.Frag) (c : Cn Wo) (σ : St) (H : Hp) (ρ : List Sl) (Qd : List Ag → S → Prop) (Q : List V → Hp → Prop) : Prop :=
  ∀ vs H' as s', EnvD K c σ H' ρ s' → Stp c ρ ρ H H' → AgOk K (hd H' (c.hs ρ)) vs as → Qd as s' → Q vs H'
structure STo (K : PySem.W.Frag) (c : Cn Wo) (H : Hp) (ρ : List Sl) (Dd : DEnds S) (D : Ends) (W : WX) : Prop where
  nx : ∀ σ' H' ρ' s', EnvD K c σ' H' ρ' s' → Stp c ρ ρ' H H' → Dd.nx ρ' s' → D.nx σ' H'
  bk : ∀ σ' H' ρ' s', EnvD K c σ' H' ρ' s' → Stp c ρ ρ' H H' → Dd.bk ρ' s' → D.bk σ' H'
  ct : ∀ σ' H' ρ' s', EnvD K c σ' H' ρ' s' → Stp c ρ ρ' H H' → Dd.ct ρ' s' → D.ct σ' H'
  rt : ∀ v H' d s', c.W.G s' H' → (∀ b o, c.H0 b = some o → b ∉ c.W.wa → H' b = some o) → Dv K (hd H' (c.W.wa ++ c.R)) v d → Dd.rt d s' → D.rt v H'
  er : ∀ e cls dd σ' H' ρ' s', EnvD K c σ' H' ρ' s' → ErIs K (hd H' (c.hs ρ')) H' e cls dd → Dd.er e ρ' s' → W cls dd σ' H'

structure ED (Wo : Wd S) (X : Cx) (W : WX) (e : Expr) (t : TE) (w : DE S) : Prop where
  pe : PE X e t
  go : ∀ (c : Cn Wo) σ H ρ s Qd Ed Q, EnvD X.K c σ H ρ s → w ρ s Qd Ed → VTo X.K c σ H ρ Qd Q → ErTo X.K c σ ρ Ed W → t σ H Q
structure TD (Wo : Wd S) (X : Cx) (W : WX) (e : Expr) (t : TT) (w : DT S) : Prop where
  pe : PT X e t
  go : ∀ (c : Cn Wo) σ H ρ s Qd Ed Q, EnvD X.K c σ H ρ s → w ρ s Qd Ed → BTo X.K c σ H ρ Qd Q → ErTo X.K c σ ρ Ed W → t σ H Q
structure TWD (Wo : Wd S) (X : Cx) (W : WX) (e : Expr) (t : TT) (w : DT S) : Prop where
  pe : PW X e t
  go : ∀ (c : Cn Wo) σ H ρ s Qd Ed Q, EnvD X.K c σ H ρ s → w ρ s Qd Ed → BTo X.K c σ H ρ Qd Q → ErTo X.K c σ ρ Ed W → t σ H Q
structure AD (Wo : Wd S) (X : Cx) (W : WX) (es : List Expr) (t : TA) (w : DA S) : Prop where
  pe : PA X es t
  go : ∀ (c : Cn Wo) σ H ρ s Qd Ed Q, EnvD X.K c σ H ρ s → w ρ s Qd Ed → ATo X.K c σ H ρ Qd Q → ErTo X.K c σ ρ Ed W → t σ H Q
structure SD (Wo : Wd S) (X : Cx) (W : WX) (st : Stmt) (t : TS) (w : DS S) : Prop where
  pe : PS X st t
  go : ∀ (c : Cn Wo) σ H ρ s Dd D, EnvD X.K c σ H ρ s → w ρ s Dd → STo X.K c H ρ Dd D W → t D σ H
structure SSD (Wo : Wd S) (X : Cx) (W : WX) (st : List Stmt) (t : TS) (w : DS S) : Prop where
  pe : PSs X st t
  go : ∀ (c : Cn Wo) σ H ρ s Dd D, EnvD X.K c σ H ρ s → w ρ s Dd → STo X.K c H ρ Dd D W → t D σ H
end
end Dt

set_option Elab.async false
set_option linter.all false
set_option autoImplicit false
set_option maxRecDepth 100000
namespace Dt
open PySem PySem.Spec L2

section
variable {S : Type} {Wo : Wd S} {X : Cx} {W : WX} {ta tb tc : TE} {tA tB' tC' : TT}
/-! ### names, constants -/
def wVar {S : Type} (i : Nat) : DE S := fun ρ s Q _ => match ρ[i]? with
  | some (.d x) => Q x s
  | _ => False
theorem ed_var (i : Nat) {x : Str} {pos : Pos} (hN : X.N[i]? = some x := by rfl) (hv : Vis X.env.scope x := by first | exact Or.inl rfl | exact Or.inr (Or.inl rfl) | exact Or.inr (Or.inr rfl)) (hd : (x == ("__debug__" : Str)) = false := by decide)
    (hcd : (x == ("__classdict__" : Str)) = false := by decide) : ED Wo X W (.Name x pos) (tVar i) (wVar i) :=
  ⟨pe_var hN hv hd hcd, fun c σ H ρ s Qd Ed Q E hw hv he => by
    unfold wVar at hw
    split at hw
    · rename_i y hy
      obtain ⟨o, h1, v, rfl, dv⟩ := E.slot i _ hy
      exact ⟨v, h1, hv v H y s E (Same.refl _) dv hw⟩
    · exact hw.elim⟩
def wC {S : Type} (d : PyData) : DE S := fun _ s Q _ => Q d s
theorem ed_c {e : Expr} {v : V} {d : PyData} (hp : PE X e (tC v)) (hd : ∀ H, Dv X.K H v d) : ED Wo X W e (tC v) (wC d) :=
  ⟨hp, fun c σ H ρ s Qd Ed Q E hw hv he => hv v H d s E (Same.refl _) (hd _) hw⟩
theorem ed_int {i : Int} {j pos} (h : okI i := by unfold okI; decide) : ED Wo X W (.Constant (.int i) j pos) (tC (.int i)) (wC (.int i)) := ed_c pe_int fun _ => .int h
theorem ed_str {x : Str} {j pos} (h : okS x := by exact ⟨by decide +kernel, by decide +kernel⟩) : ED Wo X W (.Constant (.str x) j pos) (tC (.str x)) (wC (.str x)) := ed_c pe_str fun _ => .str h
theorem ed_bl {b : Bool} {j pos} : ED Wo X W (.Constant (.bool b) j pos) (tC (.bl b)) (wC (.bool b)) := ed_c pe_bl fun _ => .bl b
theorem ed_non {j pos} : ED Wo X W (.Constant .none j pos) (tC .non) (wC .none) := ed_c pe_non fun _ => .non
theorem ed_glob {x : Str} {v : V} {u : Value} {d : PyData} {pos : Pos} (hg : Gl X x) (hm : X.mg x = some u) (r : RelV v u) (hd : ∀ H, Dv X.K H v d) (hdb : (x == ("__debug__" : Str)) = false := by decide) : ED Wo X W (.Name x pos) (tC v) (wC d) := ed_c (pe_glob hg hm r hdb) hd

/-! ### operators by data -/
def OpD (K : PySem.W.Frag) (r : R2) (f : PyData → PyData → (PyData → Prop) → Prop) : Prop :=
  ∀ (H : Hp) (l : List Addr) (x y : V) (d e : PyData) (Qd : PyData → Prop) (Q : VK), (∀ a ∈ l, H a ≠ none) → Dv K (hd H l) x d → Dv K (hd H l) y e → f d e Qd →
    (∀ v H' z, Same H H' → Dv K (hd H' l) v z → Qd z → Q v H') → r x y H Q
def UnD (K : PySem.W.Frag) (r : V → Hp → VK → Prop) (f : PyData → (PyData → Prop) → Prop) : Prop :=
  ∀ (H : Hp) (l : List Addr) (x : V) (d : PyData) (Qd : PyData → Prop) (Q : VK), (∀ a ∈ l, H a ≠ none) → Dv K (hd H l) x d → f d Qd →
    (∀ v H' z, Same H H' → Dv K (hd H' l) v z → Qd z → Q v H') → r x H Q
def wOp {S : Type} (f : PyData → PyData → (PyData → Prop) → Prop) (wa wb : DE S) : DE S := fun ρ s Q E => wa ρ s (fun x s1 => wb ρ s1 (fun y s2 => f x y fun z => Q z s2) E) E
def wUn {S : Type} (f : PyData → (PyData → Prop) → Prop) (wa : DE S) : DE S := fun ρ s Q E => wa ρ s (fun x s1 => f x fun z => Q z s1) E
theorem tOp_go {r : R2} {f : PyData → PyData → (PyData → Prop) → Prop} {ta tb : TE} {wa wb : DE S} {c : Cn Wo} {σ : St} {H : Hp} {ρ : List Sl} {s : S} {Qd : PyData → S → Prop} {Ed : Er → S → Prop} {Q : VK} (hf : OpD X.K r f)
    (ha : ∀ (c : Cn Wo) σ H ρ s Qd Ed Q, EnvD X.K c σ H ρ s → wa ρ s Qd Ed → VTo X.K c σ H ρ Qd Q → ErTo X.K c σ ρ Ed W → ta σ H Q)
    (hb : ∀ (c : Cn Wo) σ H ρ s Qd Ed Q, EnvD X.K c σ H ρ s → wb ρ s Qd Ed → VTo X.K c σ H ρ Qd Q → ErTo X.K c σ ρ Ed W → tb σ H Q)
    (E : EnvD X.K c σ H ρ s) (hw : wOp f wa wb ρ s Qd Ed) (hv : VTo X.K c σ H ρ Qd Q) (he : ErTo X.K c σ ρ Ed W) : tOp r ta tb σ H Q :=
  ha c σ H ρ s _ Ed _ E hw (fun x H1 d s1 E1 st1 d1 q1 => hb c σ H1 ρ s1 _ Ed _ E1 q1 (fun y H2 e s2 E2 st2 d2 q2 =>
    hf H2 (c.hs ρ) x y d e _ _ E2.tr (Dv.same st2 _ _ d1) d2 q2 fun v H' z sm dz qz => hv v H' z s2 (E2.grow sm) (st1.trans (st2.trans (stp_grow sm))) dz qz) he) he
theorem ed_op {a b : Expr} {pos : Pos} {op : Operator} {r : R2} {f : PyData → PyData → (PyData → Prop) → Prop} {wa wb : DE S} (ho : OpR X (binaryOp op) r) (hf : OpD X.K r f) (ha : ED Wo X W a ta wa) (hb : ED Wo X W b tb wb) : ED Wo X W (.BinOp a op b pos) (tOp r ta tb) (wOp f wa wb) := by
  obtain ⟨pa, ha⟩ := ha
  obtain ⟨pb, hb⟩ := hb
  exact ⟨pe_op ho pa pb, fun c σ H ρ s Qd Ed Q E hw hv he => tOp_go hf ha hb E hw hv he⟩
theorem ed_un {a : Expr} {pos : Pos} {op : UnaryOp} {r : V → Hp → VK → Prop} {f : PyData → (PyData → Prop) → Prop} {wa : DE S} (ho : UnR X (unaryOp op) r) (hf : UnD X.K r f) (ha : ED Wo X W a ta wa) : ED Wo X W (.UnaryOp op a pos) (tUn r ta) (wUn f wa) := by
  obtain ⟨pa, ha⟩ := ha
  exact ⟨pe_un ho pa, fun c σ H ρ s Qd Ed Q E hw hv he =>
    ha c σ H ρ s _ Ed _ E hw (fun x H1 d s1 E1 st1 d1 q1 => hf H1 (c.hs ρ) x d _ _ E1.tr d1 q1 fun v H' z sm dz qz => hv v H' z s1 (E1.grow sm) (st1.trans (stp_grow sm)) dz qz) he⟩
theorem ed_cmp {a b : Expr} {pos : Pos} {op : CmpOp} {r : R2} {f : PyData → PyData → (PyData → Prop) → Prop} {wa wb : DE S} (ho : OpR X (compareOp op) r) (hf : OpD X.K r f) (ha : ED Wo X W a ta wa) (hb : ED Wo X W b tb wb) (hm : behindInMarks op b = false) :
    ED Wo X W (.Compare a [op] [b] pos) (tOp r ta tb) (wOp f wa wb) := by
  obtain ⟨pa, ha⟩ := ha
  obtain ⟨pb, hb⟩ := hb
  exact ⟨pe_cmpR ho pa pb hm, fun c σ H ρ s Qd Ed Q E hw hv he => tOp_go hf ha hb E hw hv he⟩
/-- a value that must be a bool, as a test -/
def wT {S : Type} (w : DE S) : DT S := fun ρ s Q E => w ρ s (fun x s1 => match x with | .bool b => Q b s1 | _ => False) E
theorem Dv.of_bool {K : PySem.W.Frag} {H : Hp} {v : V} {b : Bool} (h : Dv K H v (.bool b)) : v = .bl b := by cases h; rfl
theorem td_cmp {a b : Expr} {pos : Pos} {op : CmpOp} {r : R2} {f : PyData → PyData → (PyData → Prop) → Prop} {wa wb : DE S} (ho : OpR X (compareOp op) r) (hf : OpD X.K r f) (ha : ED Wo X W a ta wa) (hb : ED Wo X W b tb wb) (hm : behindInMarks op b = false) :
    TD Wo X W (.Compare a [op] [b] pos) (tTest (tOp r ta tb)) (wT (wOp f wa wb)) := by
  obtain ⟨pa, ha⟩ := ha
  obtain ⟨pb, hb⟩ := hb
  exact ⟨pt_cmpR ho pa pb hm, fun c σ H ρ s Qd Ed Q E hw hv he => tOp_go hf ha hb E hw (fun v H' d s' E' st' dv q => by
    cases d with
    | bool b => exact ⟨b, dv.of_bool, hv b H' s' E' st' q⟩
    | _ => exact q.elim) he⟩
theorem td_val {e : Expr} {w : DE S} (h : ED Wo X W e ta w) (he : ∀ whole, isTrue e X.env whole = (do let v ← whole; standAt e.pos; holding [v] (truthy v)) := by intro _; rfl) : TD Wo X W e (tB ta) (wT w) := by
  obtain ⟨pa, ha⟩ := h
  exact ⟨pt_val pa he, fun c σ H ρ s Qd Ed Q E hw hv he => ha c σ H ρ s _ Ed _ E hw (fun v H' d s' E' st' dv q => by
    cases d with
    | bool b => exact ⟨b, dv.of_bool, hv b H' s' E' st' q⟩
    | _ => exact q.elim) he⟩
/-! ### chains of two comparisons -/
def wChain {S : Type} (f g : PyData → PyData → (PyData → Prop) → Prop) (wa wb wc : DE S) : DE S := fun ρ s Q E => wa ρ s (fun x s1 => wb ρ s1 (fun y s2 => f x y fun z => match z with
  | .bool true => wc ρ s2 (fun u s3 => g y u fun z => Q z s3) E
  | .bool false => Q (.bool false) s2
  | _ => False) E) E
theorem tChain_go {a b e' : Expr} {r r' : R2} {f g : PyData → PyData → (PyData → Prop) → Prop} {ta tb tc : TE} {wa wb wc : DE S} {c : Cn Wo} {σ : St} {H : Hp} {ρ : List Sl} {s : S} {Qd : PyData → S → Prop} {Ed : Er → S → Prop} {Q : VK} (hf : OpD X.K r f) (hg : OpD X.K r' g)
    (ha : ∀ (c : Cn Wo) σ H ρ s Qd Ed Q, EnvD X.K c σ H ρ s → wa ρ s Qd Ed → VTo X.K c σ H ρ Qd Q → ErTo X.K c σ ρ Ed W → ta σ H Q)
    (hb : ∀ (c : Cn Wo) σ H ρ s Qd Ed Q, EnvD X.K c σ H ρ s → wb ρ s Qd Ed → VTo X.K c σ H ρ Qd Q → ErTo X.K c σ ρ Ed W → tb σ H Q)
    (hc : ∀ (c : Cn Wo) σ H ρ s Qd Ed Q, EnvD X.K c σ H ρ s → wc ρ s Qd Ed → VTo X.K c σ H ρ Qd Q → ErTo X.K c σ ρ Ed W → tc σ H Q)
    (E : EnvD X.K c σ H ρ s) (hw : wChain f g wa wb wc ρ s Qd Ed) (hv : VTo X.K c σ H ρ Qd Q) (he : ErTo X.K c σ ρ Ed W) : tChain r r' ta tb tc σ H Q :=
  ha c σ H ρ s _ Ed _ E hw (fun x H1 d s1 E1 st1 d1 q1 => hb c σ H1 ρ s1 _ Ed _ E1 q1 (fun y H2 e s2 E2 st2 d2 q2 =>
    hf H2 (c.hs ρ) x y d e _ _ E2.tr (Dv.same st2 _ _ d1) d2 q2 fun v H3 z sm dz qz => by
      have E3 := E2.grow sm
      have st3 : Stp c ρ ρ H2 H3 := stp_grow sm
      cases z with
      | bool k =>
        refine ⟨k, dz.of_bool, ?_⟩
        cases k with
        | false =>
          rw [if_neg Bool.false_ne_true]
          exact hv (.bl false) H3 (.bool false) s2 E3 (st1.trans (st2.trans st3)) (.bl _) qz
        | true =>
          rw [if_pos rfl]
          exact hc c σ H3 ρ s2 _ Ed _ E3 qz (fun u H4 w s3 E4 st4 d4 q4 => hg H4 (c.hs ρ) y u e w _ _ E4.tr (Dv.same (st3.trans st4) _ _ d2) d4 q4 fun v H' z sm dz qz =>
            hv v H' z s3 (E4.grow sm) (st1.trans (st2.trans (st3.trans (st4.trans (stp_grow sm))))) dz qz) he
      | _ => exact qz.elim) he) he
theorem ed_chain {a b e' : Expr} {pos : Pos} {op op' : CmpOp} {r r' : R2} {f g : PyData → PyData → (PyData → Prop) → Prop} {wa wb wc : DE S} (ho : OpR X (compareOp op) r) (hf : OpD X.K r f) (ho' : OpR X (compareOp op') r') (hg : OpD X.K r' g)
    (ha : ED Wo X W a ta wa) (hb : ED Wo X W b tb wb) (hc : ED Wo X W e' tc wc) (hm : lastMarks [op, op'] [b, e'] = false := by rfl) : ED Wo X W (.Compare a [op, op'] [b, e'] pos) (tChain r r' ta tb tc) (wChain f g wa wb wc) := by
  obtain ⟨pa, ha⟩ := ha
  obtain ⟨pb, hb⟩ := hb
  obtain ⟨pc, hc⟩ := hc
  exact ⟨pe_chain ho ho' pa pb pc hm, fun c σ H ρ s Qd Ed Q E hw hv he => tChain_go (a := a) (b := b) (e' := e') hf hg ha hb hc E hw hv he⟩
theorem td_chain {a b e' : Expr} {pos : Pos} {op op' : CmpOp} {r r' : R2} {f g : PyData → PyData → (PyData → Prop) → Prop} {wa wb wc : DE S} (ho : OpR X (compareOp op) r) (hf : OpD X.K r f) (ho' : OpR X (compareOp op') r') (hg : OpD X.K r' g)
    (ha : ED Wo X W a ta wa) (hb : ED Wo X W b tb wb) (hc : ED Wo X W e' tc wc) (hm : lastMarks [op, op'] [b, e'] = false := by rfl) : TD Wo X W (.Compare a [op, op'] [b, e'] pos) (tTest (tChain r r' ta tb tc)) (wT (wChain f g wa wb wc)) := by
  obtain ⟨pa, ha⟩ := ha
  obtain ⟨pb, hb⟩ := hb
  obtain ⟨pc, hc⟩ := hc
  exact ⟨pt_chain ho ho' pa pb pc hm, fun c σ H ρ s Qd Ed Q E hw hv he => tChain_go (a := a) (b := b) (e' := e') hf hg ha hb hc E hw (fun v H' d s' E' st' dv q => by
    cases d with
    | bool b => exact ⟨b, dv.of_bool, hv b H' s' E' st' q⟩
    | _ => exact q.elim) he⟩
/-! ### and, or, not -/
def wAnd {S : Type} (wa wb : DE S) : DE S := fun ρ s Q E => wa ρ s (fun x s1 => match x with | .bool true => wb ρ s1 Q E | .bool false => Q (.bool false) s1 | _ => False) E
def wOr {S : Type} (wa wb : DE S) : DE S := fun ρ s Q E => wa ρ s (fun x s1 => match x with | .bool false => wb ρ s1 Q E | .bool true => Q (.bool true) s1 | _ => False) E
def wNot {S : Type} (wa : DE S) : DE S := fun ρ s Q E => wa ρ s (fun x s1 => match x with | .bool b => Q (.bool !b) s1 | _ => False) E
theorem ed_one {a : Expr} {pos : Pos} {op} {wa : DE S} (ha : ED Wo X W a ta wa) : ED Wo X W (.BoolOp op [a] pos) ta wa := by
  obtain ⟨pa, ha⟩ := ha
  exact ⟨pe_one pa, ha⟩
theorem ed_and {a b : Expr} {rest : List Expr} {pos : Pos} {wa wb : DE S} (ha : ED Wo X W a ta wa) (hb : ED Wo X W (.BoolOp .And (b :: rest) pos) tb wb) : ED Wo X W (.BoolOp .And (a :: b :: rest) pos) (tAndV ta tb) (wAnd wa wb) := by
  obtain ⟨pa, ha⟩ := ha
  obtain ⟨pb, hb⟩ := hb
  refine ⟨pe_and pa pb, fun c σ H ρ s Qd Ed Q E hw hv he => ha c σ H ρ s _ Ed _ E hw (fun v H' d s' E' st' dv q => ?_) he⟩
  cases d with
  | bool k =>
    refine ⟨k, dv.of_bool, ?_⟩
    cases k with
    | true => rw [if_pos rfl]; exact hb c σ H' ρ s' _ Ed _ E' q (fun v H2 d s2 E2 st2 => hv v H2 d s2 E2 (st'.trans st2)) he
    | false => rw [if_neg Bool.false_ne_true]; exact hv _ H' _ s' E' st' (.bl _) q
  | _ => exact q.elim
theorem ed_or {a b : Expr} {rest : List Expr} {pos : Pos} {wa wb : DE S} (ha : ED Wo X W a ta wa) (hb : ED Wo X W (.BoolOp .Or (b :: rest) pos) tb wb) : ED Wo X W (.BoolOp .Or (a :: b :: rest) pos) (tOrV ta tb) (wOr wa wb) := by
  obtain ⟨pa, ha⟩ := ha
  obtain ⟨pb, hb⟩ := hb
  refine ⟨pe_or pa pb, fun c σ H ρ s Qd Ed Q E hw hv he => ha c σ H ρ s _ Ed _ E hw (fun v H' d s' E' st' dv q => ?_) he⟩
  cases d with
  | bool k =>
    refine ⟨k, dv.of_bool, ?_⟩
    cases k with
    | false => rw [if_neg Bool.false_ne_true]; exact hb c σ H' ρ s' _ Ed _ E' q (fun v H2 d s2 E2 st2 => hv v H2 d s2 E2 (st'.trans st2)) he
    | true => rw [if_pos rfl]; exact hv _ H' _ s' E' st' (.bl _) q
  | _ => exact q.elim
theorem ed_not {a : Expr} {pos : Pos} {wa : DE S} (ha : ED Wo X W a ta wa) : ED Wo X W (.UnaryOp .Not a pos) (tNotV ta) (wNot wa) := by
  obtain ⟨pa, ha⟩ := ha
  refine ⟨pe_not pa, fun c σ H ρ s Qd Ed Q E hw hv he => ha c σ H ρ s _ Ed _ E hw (fun v H' d s' E' st' dv q => ?_) he⟩
  cases d with
  | bool k => exact ⟨k, dv.of_bool, hv _ H' _ s' E' st' (.bl _) q⟩
  | _ => exact q.elim
def wTand {S : Type} (wa wb : DT S) : DT S := fun ρ s Q E => wa ρ s (fun b s1 => if b = true then wb ρ s1 Q E else Q false s1) E
def wTor {S : Type} (wa wb : DT S) : DT S := fun ρ s Q E => wa ρ s (fun b s1 => if b = true then Q true s1 else wb ρ s1 Q E) E
def wTnot {S : Type} (wa : DT S) : DT S := fun ρ s Q E => wa ρ s (fun b s1 => Q (!b) s1) E
theorem tw_and1 {a : Expr} {pos : Pos} {wa : DT S} (ha : TD Wo X W a tA wa) : TWD Wo X W (.BoolOp .And [a] pos) tA wa := by
  obtain ⟨pa, ha⟩ := ha
  exact ⟨pw_and1 pa, ha⟩
theorem tw_or1 {a : Expr} {pos : Pos} {wa : DT S} (ha : TD Wo X W a tA wa) : TWD Wo X W (.BoolOp .Or [a] pos) tA wa := by
  obtain ⟨pa, ha⟩ := ha
  exact ⟨pw_or1 pa, ha⟩
theorem tw_and {a b : Expr} {rest : List Expr} {pos : Pos} {wa wb : DT S} (ha : TD Wo X W a tA wa) (hb : TWD Wo X W (.BoolOp .And (b :: rest) pos) tB' wb) : TWD Wo X W (.BoolOp .And (a :: b :: rest) pos) (tAnd tA tB') (wTand wa wb) := by
  obtain ⟨pa, ha⟩ := ha
  obtain ⟨pb, hb⟩ := hb
  refine ⟨pw_and pa pb, fun c σ H ρ s Qd Ed Q E hw hv he => ha c σ H ρ s _ Ed _ E hw (fun k H' s' E' st' q => ?_) he⟩
  cases k with
  | true => rw [if_pos rfl] at q ⊢; exact hb c σ H' ρ s' _ Ed _ E' q (fun k H2 s2 E2 st2 => hv k H2 s2 E2 (st'.trans st2)) he
  | false => rw [if_neg Bool.false_ne_true] at q ⊢; exact hv _ H' s' E' st' q
theorem tw_or {a b : Expr} {rest : List Expr} {pos : Pos} {wa wb : DT S} (ha : TD Wo X W a tA wa) (hb : TWD Wo X W (.BoolOp .Or (b :: rest) pos) tB' wb) : TWD Wo X W (.BoolOp .Or (a :: b :: rest) pos) (tOr tA tB') (wTor wa wb) := by
  obtain ⟨pa, ha⟩ := ha
  obtain ⟨pb, hb⟩ := hb
  refine ⟨pw_or pa pb, fun c σ H ρ s Qd Ed Q E hw hv he => ha c σ H ρ s _ Ed _ E hw (fun k H' s' E' st' q => ?_) he⟩
  cases k with
  | true => rw [if_pos rfl] at q ⊢; exact hv _ H' s' E' st' q
  | false => rw [if_neg Bool.false_ne_true] at q ⊢; exact hb c σ H' ρ s' _ Ed _ E' q (fun k H2 s2 E2 st2 => hv k H2 s2 E2 (st'.trans st2)) he
theorem td_bool {e : Expr} {w : DT S} (h : TWD Wo X W e tA w) : TD Wo X W e tA w := by
  obtain ⟨p, h⟩ := h
  exact ⟨p.pt, h⟩
theorem td_not {a : Expr} {pos : Pos} {wa : DT S} (ha : TD Wo X W a tA wa) : TD Wo X W (.UnaryOp .Not a pos) (tNot tA) (wTnot wa) := by
  obtain ⟨pa, ha⟩ := ha
  exact ⟨pt_not pa, fun c σ H ρ s Qd Ed Q E hw hv he => ha c σ H ρ s _ Ed _ E hw (fun k H' s' E' st' q => hv _ H' s' E' st' q) he⟩
def wIf {S : Type} (wc : DT S) (wa wb : DE S) : DE S := fun ρ s Q E => wc ρ s (fun b s1 => if b = true then wa ρ s1 Q E else wb ρ s1 Q E) E
theorem ed_if {k a b : Expr} {pos : Pos} {wc : DT S} {wa wb : DE S} (hc : TD Wo X W k tC' wc) (ha : ED Wo X W a ta wa) (hb : ED Wo X W b tb wb) : ED Wo X W (.IfExp k a b pos) (tIf tC' ta tb) (wIf wc wa wb) := by
  obtain ⟨pc, hc⟩ := hc
  obtain ⟨pa, ha⟩ := ha
  obtain ⟨pb, hb⟩ := hb
  refine ⟨pe_ifExp pc pa pb, fun c σ H ρ s Qd Ed Q E hw hv he => hc c σ H ρ s _ Ed _ E hw (fun k H' s' E' st' q => ?_) he⟩
  cases k with
  | true => rw [if_pos rfl] at q ⊢; exact ha c σ H' ρ s' _ Ed _ E' q (fun v H2 d s2 E2 st2 => hv v H2 d s2 E2 (st'.trans st2)) he
  | false => rw [if_neg Bool.false_ne_true] at q ⊢; exact hb c σ H' ρ s' _ Ed _ E' q (fun v H2 d s2 E2 st2 => hv v H2 d s2 E2 (st'.trans st2)) he
end
end Dt

set_option Elab.async false
set_option linter.all false
set_option autoImplicit false
set_option maxRecDepth 100000
namespace Dt
open PySem PySem.Spec L2

/-! ### heaps -/
theorem limL_size : limL ≤ sizeLine := by rw [sizeLine_eq]; unfold limL; decide
theorem hd_new {H : Hp} {l : List Addr} {p : Addr} {o : HO} (ht : ∀ a ∈ l, H a ≠ none) (hp : H p = none) : hd (upd H p o) l p = some o := by
  rw [hd_out (fun h => ht p h hp), upd_same]
theorem Dv.newT {K : PySem.W.Frag} {H : Hp} {l : List Addr} {p : Addr} {vs : List V} {ds : List PyData} (ht : ∀ a ∈ l, H a ≠ none) (hp : H p = none) (h : DvAll K (hd H l) vs ds) (n : ds.length ≤ limL) : Dv K (hd (upd H p (.tup vs)) l) (.ref p) (.tuple ds) :=
  .tup (SqT.of (hd_new ht hp)) n (DvAll.same (hd_same l fun b u _ q => same_upd hp b u q) _ _ h)
theorem Dv.newL {K : PySem.W.Frag} {H : Hp} {l : List Addr} {p : Addr} {vs : List V} {ds : List PyData} (ht : ∀ a ∈ l, H a ≠ none) (hp : H p = none) (h : DvAll K (hd H l) vs ds) (n : ds.length ≤ limL) : Dv K (hd (upd H p (.lst vs)) l) (.ref p) (.list ds) :=
  .lst (hd_new ht hp) n (DvAll.same (hd_same l fun b u _ q => same_upd hp b u q) _ _ h)
theorem Dv.all {K : PySem.W.Frag} {H H' : Hp} {l : List Addr} {vs : List V} {ds : List PyData} (s : Same H H') (h : DvAll K (hd H l) vs ds) : DvAll K (hd H' l) vs ds := DvAll.same (hd_same l fun b u _ q => s b u q) _ _ h

/-! ### operators -/
abbrev Dop := PyData → PyData → (PyData → Prop) → Prop
theorem strOk_iff {x : Str} : PyData.strOk x = true ↔ ∀ c ∈ x.cps.toList, c < 1114112 := by
  unfold PyData.strOk
  rw [Array.all_eq_true_iff_forall_mem]
  constructor
  · intro h c hc
    simpa using h c (Array.mem_toList_iff.mp hc)
  · intro h c hc
    simpa using h c (Array.mem_toList_iff.mpr hc)
theorem strOk_lit (s : String) : PyData.strOk (Str.ofString s) = true := by
  rw [strOk_iff, Str.ofString_eq_toList]
  intro c hc
  simp only [List.mem_map] at hc
  obtain ⟨ch, _, rfl⟩ := hc
  have := ch.valid
  rcases this with h | ⟨_, h⟩
  · show ch.val.toNat < _
    have : ch.val.toNat < 0xd800 := h
    omega
  · exact h
theorem strOk_app {x y : Str} (hx : PyData.strOk x = true) (hy : PyData.strOk y = true) : PyData.strOk (x ++ y) = true := by
  rw [strOk_iff] at hx hy ⊢
  intro c hc
  have e : (x ++ y).cps.toList = x.cps.toList ++ y.cps.toList := by
    show (x.cps ++ y.cps).toList = _
    exact Array.toList_append
  rw [e] at hc
  rcases List.mem_append.mp hc with h | h
  · exact hx c h
  · exact hy c h
theorem strOk_join {sep : Str} (hs : PyData.strOk sep = true) : ∀ {ts : List Str}, (∀ t ∈ ts, PyData.strOk t = true) → PyData.strOk (Str.join sep ts) = true
  | [], _ => by show PyData.strOk Str.empty = true; decide +kernel
  | [x], h => h x (by simp)
  | x :: y :: r, h => by
    show PyData.strOk (x ++ sep ++ Str.join sep (y :: r)) = true
    exact strOk_app (strOk_app (h x (by simp)) hs) (strOk_join hs fun t ht => h t (List.mem_cons_of_mem _ ht))
def dAdd : Dop
  | .int i, .int j, Q => okI (i + j) ∧ Q (.int (i + j))
  | .str x, .str y, Q => x.length + y.length ≤ limL ∧ Q (.str (x ++ y))
  | .tuple xs, .tuple ys, Q => (xs ++ ys).length ≤ limL ∧ Q (.tuple (xs ++ ys))
  | .list xs, .list ys, Q => (xs ++ ys).length ≤ limL ∧ Q (.list (xs ++ ys))
  | _, _, _ => False
def rAddD (K : PySem.W.Frag) : R2 := fun x y H Q => (rI0 fun i j => .int (i + j)) x y H Q ∨ (∃ i j, x = .str i ∧ y = .str j ∧ i.length + j.length ≤ sizeLine ∧ Q (.str (i ++ j)) H) ∨ rCatA K x y H Q ∨ rCat x y H Q
theorem or_add {X : Cx} : OpR X (binaryOp .Add) (rAddD X.K) := op_add.or (op_add_str.or (op_catA.or op_cat))
theorem str_app_len (x y : Str) : (x ++ y).length = x.length + y.length := by
  show (x.cps ++ y.cps).size = _
  rw [Array.size_append]; rfl
theorem od_add {K : PySem.W.Frag} : OpD K (rAddD K) dAdd := by
  intro H l x y d e Qd Q ht hx hy hf hq
  cases d with
  | int i =>
    cases e with
    | int j =>
      cases hx; cases hy
      exact .inl ⟨i, j, rfl, rfl, hq _ H _ (Same.refl _) (.int hf.1) hf.2⟩
    | _ => exact hf.elim
  | str i =>
    cases e with
    | str j =>
      cases hx with
      | str o1 =>
        cases hy with
        | str o2 => exact .inr (.inl ⟨i, j, rfl, rfl, Nat.le_trans hf.1 limL_size, hq _ H _ (Same.refl _) (.str ⟨by rw [str_app_len]; exact hf.1, strOk_app o1.2 o2.2⟩) hf.2⟩)
    | _ => exact hf.elim
  | tuple xs =>
    cases e with
    | tuple ys =>
      cases hx with
      | tup h1 n1 a1 =>
        cases hy with
        | tup h2 n2 a2 =>
          rename_i a vs b ws
          refine .inr (.inr (.inl ⟨a, b, vs, ws, rfl, rfl, same_seqT (hd_to _ _) h1, same_seqT (hd_to _ _) h2, ?_, ?_⟩))
          · have := hf.1
            rw [List.length_append, ← a1.length, ← a2.length] at this
            exact Nat.le_trans this limL_size
          · have A := a1.append a2
            refine ⟨fun e => ?_, fun _ e => ?_, fun n1 n2 p hp => hq _ _ _ (same_upd hp) (Dv.newT ht hp A hf.1) hf.2⟩
            · subst e
              cases a1
              exact hq _ H _ (Same.refl _) (.tup h2 n2 a2) hf.2
            · subst e
              cases a2
              have := hf.2
              rw [List.append_nil] at this
              exact hq _ H _ (Same.refl _) (.tup h1 n1 a1) this
    | _ => exact hf.elim
  | list xs =>
    cases e with
    | list ys =>
      cases hx with
      | lst h1 n1 a1 =>
        cases hy with
        | lst h2 n2 a2 =>
          rename_i a vs b ws
          refine .inr (.inr (.inr ⟨a, b, vs, ws, rfl, rfl, hd_to _ _ _ _ h1, hd_to _ _ _ _ h2, ?_, fun p hp => hq _ _ _ (same_upd hp) (Dv.newL ht hp (a1.append a2) hf.1) hf.2⟩))
          have := hf.1
          rw [List.length_append, ← a1.length, ← a2.length] at this
          exact Nat.le_trans this limL_size
    | _ => exact hf.elim
  | _ => exact hf.elim
/-! ### ints -/
def dI2 (C : Int → Int → Prop) (g : Int → Int → Int) : Dop
  | .int i, .int j, Q => C i j ∧ okI (g i j) ∧ Q (.int (g i j))
  | _, _, _ => False
theorem od_int {K : PySem.W.Frag} {C : Int → Int → Prop} {g : Int → Int → Int} : OpD K (rI C fun i j => .int (g i j)) (dI2 C g) := by
  intro H l x y d e Qd Q ht hx hy hf hq
  cases d with
  | int i =>
    cases e with
    | int j =>
      cases hx; cases hy
      exact ⟨i, j, rfl, rfl, hf.1, hq _ H _ (Same.refl _) (.int hf.2.1) hf.2.2⟩
    | _ => exact hf.elim
  | _ => exact hf.elim
def dI0 (g : Int → Int → Int) : Dop
  | .int i, .int j, Q => okI (g i j) ∧ Q (.int (g i j))
  | _, _, _ => False
theorem od_int0 {K : PySem.W.Frag} {g : Int → Int → Int} : OpD K (rI0 fun i j => .int (g i j)) (dI0 g) := by
  intro H l x y d e Qd Q ht hx hy hf hq
  cases d with
  | int i =>
    cases e with
    | int j =>
      cases hx; cases hy
      exact ⟨i, j, rfl, rfl, hq _ H _ (Same.refl _) (.int hf.1) hf.2⟩
    | _ => exact hf.elim
  | _ => exact hf.elim
def dCm (g : Int → Int → Bool) : Dop
  | .int i, .int j, Q => Q (.bool (g i j))
  | _, _, _ => False
theorem od_cm {K : PySem.W.Frag} {g : Int → Int → Bool} : OpD K (rI0 fun i j => .bl (g i j)) (dCm g) := by
  intro H l x y d e Qd Q ht hx hy hf hq
  cases d with
  | int i =>
    cases e with
    | int j =>
      cases hx; cases hy
      exact ⟨i, j, rfl, rfl, hq _ H _ (Same.refl _) (.bl _) hf⟩
    | _ => exact hf.elim
  | _ => exact hf.elim
abbrev dLt := dCm fun i j => decide (i < j)
abbrev dLe := dCm fun i j => decide (i ≤ j)
abbrev dGt := dCm fun i j => decide (j < i)
abbrev dGe := dCm fun i j => decide (j ≤ i)
def dMul : Dop
  | .int i, .int j, Q => CMul i j ∧ okI (i * j) ∧ Q (.int (i * j))
  | .tuple xs, .int k, Q => xs ≠ [] ∧ 2 ≤ k ∧ k ≤ 1000 ∧ xs.length ≤ 1000 ∧ Q (.tuple (List.replicate k.toNat xs).flatten)
  | _, _, _ => False
def rMulD (K : PySem.W.Frag) : R2 := fun x y H Q => (rI CMul fun i j => .int (i * j)) x y H Q ∨ rRepT K x y H Q
theorem or_mul {X : Cx} : OpR X (binaryOp .Mult) (rMulD X.K) := op_mul.or op_repT
theorem DvAll.rep {K : PySem.W.Frag} {H : Hp} {vs : List V} {ds : List PyData} (h : DvAll K H vs ds) : ∀ k : Nat, DvAll K H (List.replicate k vs).flatten (List.replicate k ds).flatten
  | 0 => .nil
  | k + 1 => by
    simp only [List.replicate_succ, List.flatten_cons]
    exact h.append (DvAll.rep h k)
theorem od_mul {K : PySem.W.Frag} : OpD K (rMulD K) dMul := by
  intro H l x y d e Qd Q ht hx hy hf hq
  cases d with
  | int i =>
    cases e with
    | int j =>
      cases hx; cases hy
      exact .inl ⟨i, j, rfl, rfl, hf.1, hq _ H _ (Same.refl _) (.int hf.2.1) hf.2.2⟩
    | _ => exact hf.elim
  | tuple xs =>
    cases e with
    | int k =>
      cases hy
      cases hx with
      | tup h1 n1 a1 =>
        rename_i a vs
        obtain ⟨g1, g2, g3, g4, g5⟩ := hf
        refine .inr ⟨a, k, vs, rfl, rfl, same_seqT (hd_to _ _) h1, ?_, g2, g3, by rw [a1.length]; exact g4, fun p hp => hq _ _ _ (same_upd hp) (Dv.newT ht hp (a1.rep _) ?_) g5⟩
        · intro z; subst z; cases a1; exact g1 rfl
        · have e : ∀ n : Nat, ((List.replicate n xs).flatten).length = n * xs.length := fun n => by simp
          rw [e]
          have h1 : k.toNat ≤ 1000 := by omega
          exact Nat.le_trans (Nat.mul_le_mul h1 g4) (by unfold limL; decide)
    | _ => exact hf.elim
  | _ => exact hf.elim
/-! ### == -/
mutual
theorem Dv.lay {K : PySem.W.Frag} {H : Hp} : ∀ (d : PyData) (v : V), d.hasDict = false → Dv K H v d → PyData.canLay0 d = true
  | .none, _, _, h => by simp only [PyData.canLay0]
  | .bool b, _, _, h => by simp only [PyData.canLay0]
  | .int i, _, _, h => by simp only [PyData.canLay0]
  | .str x, _, _, h => by cases h with | str q => simp only [PyData.canLay0, q.2]
  | .list ds, _, z, h => by cases h with | lst a n b => simp only [PyData.canLay0, DvAll.lay ds _ (by simpa only [PyData.hasDict] using z) b]
  | .tuple ds, _, z, h => by cases h with | tup a n b => simp only [PyData.canLay0, DvAll.lay ds _ (by simpa only [PyData.hasDict] using z) b]
  | .dict _, _, z, h => by simp only [PyData.hasDict] at z; cases z
theorem DvAll.lay {K : PySem.W.Frag} {H : Hp} : ∀ (ds : List PyData) (vs : List V), PyData.hasDictAll ds = false → DvAll K H vs ds → PyData.canLayAll0 ds = true
  | [], _, _, h => by simp only [PyData.canLayAll0]
  | d :: ds, _, z, h => by cases h with | cons a b => simp only [PyData.canLayAll0, Dv.lay d _ (hd_cons z).1 a, DvAll.lay ds _ (hd_cons z).2 b, Bool.and_true]
end
/-- no deeper than what == looks through -/
def shp (d : PyData) : Bool := decide (PyData.depth d ≤ 64) && !d.hasDict
theorem shp_iff {d : PyData} : shp d = true ↔ PyData.depth d ≤ 64 ∧ d.hasDict = false := by
  unfold shp
  rw [Bool.and_eq_true, decide_eq_true_eq, Bool.not_eq_true']
theorem shp_nd {d : PyData} (h : shp d = true) : d.hasDict = false := (shp_iff.mp h).2
theorem Dv.shaped {K : PySem.W.Frag} {H : Hp} {d : PyData} {v : V} (h : Dv K H v d) (s : shp d = true) : SeqAt.shaped d = true := by
  show (PyData.canLay0 d && decide (PyData.depth d ≤ 64)) = true
  rw [Dv.lay d v (shp_nd s) h]
  exact decide_eq_true (shp_iff.mp s).1
def dEq : Dop := fun d e Q => shp d = true ∧ shp e = true ∧ Q (.bool (PyData.eqv d e))
def dNe : Dop := fun d e Q => shp d = true ∧ shp e = true ∧ Q (.bool (!PyData.eqv d e))
theorem od_eq {K : PySem.W.Frag} : OpD K (rEqD K) dEq := by
  intro H l x y d e Qd Q ht hx hy hf hq
  exact ⟨d, e, Dv.dp _ _ (shp_nd hf.1) (Dv.same (hd_to _ _) _ _ hx), Dv.dp _ _ (shp_nd hf.2.1) (Dv.same (hd_to _ _) _ _ hy), hx.shaped hf.1, hy.shaped hf.2.1, hq _ H _ (Same.refl _) (.bl _) hf.2.2⟩
theorem od_ne {K : PySem.W.Frag} : OpD K (rNeD K) dNe := by
  intro H l x y d e Qd Q ht hx hy hf hq
  exact ⟨d, e, Dv.dp _ _ (shp_nd hf.1) (Dv.same (hd_to _ _) _ _ hx), Dv.dp _ _ (shp_nd hf.2.1) (Dv.same (hd_to _ _) _ _ hy), hx.shaped hf.1, hy.shaped hf.2.1, hq _ H _ (Same.refl _) (.bl _) hf.2.2⟩
/-! ### is None -/
def dIsN : Dop
  | d, .none, Q => Q (.bool (match d with | .none => true | _ => false))
  | _, _, _ => False
def dNotN : Dop
  | d, .none, Q => Q (.bool (match d with | .none => false | _ => true))
  | _, _, _ => False
theorem od_isN {K : PySem.W.Frag} : OpD K (fun x y H Q => y = .non ∧ Q (.bl (decide (x = .non))) H) dIsN := by
  intro H l x y d e Qd Q ht hx hy hf hq
  cases e with
  | none =>
    cases hy
    refine ⟨rfl, ?_⟩
    cases d <;> cases hx <;> exact hq _ H _ (Same.refl _) (.bl _) hf
  | _ => exact hf.elim
theorem od_notN {K : PySem.W.Frag} : OpD K (fun x y H Q => y = .non ∧ Q (.bl (!decide (x = .non))) H) dNotN := by
  intro H l x y d e Qd Q ht hx hy hf hq
  cases e with
  | none =>
    cases hy
    refine ⟨rfl, ?_⟩
    cases d <;> cases hx <;> exact hq _ H _ (Same.refl _) (.bl _) hf
  | _ => exact hf.elim
/-! ### in -/
def flatD : PyData → Bool
  | .none | .bool _ | .int _ | .str _ => true
  | _ => false
theorem Dv.flat {K : PySem.W.Frag} {H : Hp} {v : V} {d : PyData} (h : Dv K H v d) (f : flatD d = true) : flatV v = true := by
  cases d <;> simp [flatD] at f <;> cases h <;> rfl
theorem Dv.eqV {K : PySem.W.Frag} {H : Hp} {v w : V} {d e : PyData} (h : Dv K H v d) (g : Dv K H w e) (f : flatD d = true) (f' : flatD e = true) : L2.eqV v w = PyData.eqv d e := by
  cases d <;> simp [flatD] at f <;> cases e <;> simp [flatD] at f' <;> cases h <;> cases g <;> simp [L2.eqV, PyData.eqv]
theorem DvAll.flat {K : PySem.W.Frag} {H : Hp} : ∀ {vs : List V} {ds : List PyData}, DvAll K H vs ds → ds.all flatD = true → vs.all flatV = true
  | _, [], h, _ => by cases h; rfl
  | _, d :: ds, h, f => by
    cases h with
    | cons a b =>
      simp only [List.all_cons, Bool.and_eq_true] at f ⊢
      exact ⟨a.flat f.1, DvAll.flat b f.2⟩
theorem DvAll.inV {K : PySem.W.Frag} {H : Hp} {w : V} {e : PyData} (g : Dv K H w e) (f' : flatD e = true) : ∀ {vs : List V} {ds : List PyData}, DvAll K H vs ds → ds.all flatD = true → L2.inV w vs = ds.any fun y => PyData.eqv y e
  | _, [], h, _ => by cases h; rfl
  | _, d :: ds, h, f => by
    cases h with
    | cons a b =>
      simp only [List.all_cons, Bool.and_eq_true] at f
      show (L2.eqV _ w || L2.inV w _) = (PyData.eqv d e || _)
      rw [a.eqV g f.1 f', DvAll.inV g f' b f.2]
def strIn (x y : Str) : Bool := !(Builtin.Str.occurrences y x 0 y.length 1).isEmpty
def dInG (g : Bool → Bool) : Dop
  | .str x, .str y, Q => Q (.bool (g (strIn x y)))
  | d, .tuple ys, Q => flatD d = true ∧ ys.all flatD = true ∧ Q (.bool (g (ys.any fun y => PyData.eqv y d)))
  | d, .list ys, Q => shp d = true ∧ shp (.list ys) = true ∧ Q (.bool (g (ys.any fun y => PyData.eqv y d)))
  | _, _, _ => False
abbrev dIn : Dop := dInG id
abbrev dNotIn : Dop := dInG not
def rInG (K : PySem.W.Frag) : R2 := fun x y H Q => (∃ i j, x = .str i ∧ y = .str j ∧ Q (.bl (!(Builtin.Str.occurrences j i 0 j.length 1).isEmpty)) H) ∨ rIn K false x y H Q ∨ rInD K x y H Q
def rNotInG (K : PySem.W.Frag) : R2 := fun x y H Q => (∃ i j, x = .str i ∧ y = .str j ∧ Q (.bl (!(!(Builtin.Str.occurrences j i 0 j.length 1).isEmpty))) H) ∨ rIn K true x y H Q ∨ rNotInD K x y H Q
theorem or_in {X : Cx} {k : Nat} (hr : Room k X.A) : OpR X (compareOp .In) (rInG X.K) := op_in_str.or (op_in_seq.or (op_inD (by have := hr.un; omega)))
theorem or_notIn {X : Cx} {k : Nat} (hr : Room k X.A) : OpR X (compareOp .NotIn) (rNotInG X.K) := op_notIn_str.or (op_notIn_seq.or (op_notInD (by have := hr.un; omega)))
theorem od_in {K : PySem.W.Frag} : OpD K (rInG K) dIn := by
  intro H l x y d e Qd Q ht hx hy hf hq
  have up := hd_to H l
  cases e with
  | str j =>
    cases d with
    | str i => cases hx; cases hy; exact .inl ⟨i, j, rfl, rfl, hq _ H _ (Same.refl _) (.bl _) hf⟩
    | _ => exact hf.elim
  | tuple ys =>
    have hf : flatD d = true ∧ ys.all flatD = true ∧ Qd (.bool (ys.any fun y => PyData.eqv y d)) := by cases d <;> exact hf
    cases hy with
    | tup h2 n2 a2 =>
      refine .inr (.inl ⟨_, _, rfl, .inr (same_seqT up h2), hx.flat hf.1, a2.flat hf.2.1, ?_⟩)
      rw [a2.inV hx hf.1 hf.2.1]
      exact hq _ H _ (Same.refl _) (.bl _) hf.2.2
  | list ys =>
    have hf : shp d = true ∧ shp (.list ys) = true ∧ Qd (.bool (ys.any fun y => PyData.eqv y d)) := by cases d <;> exact hf
    exact .inr (.inr ⟨d, ys, Dv.dp _ _ (shp_nd hf.1) (Dv.same up _ _ hx), Dv.dp _ _ (shp_nd hf.2.1) (Dv.same up _ _ hy), hx.shaped hf.1, hy.shaped hf.2.1, hq _ H _ (Same.refl _) (.bl _) hf.2.2⟩)
  | _ => cases d <;> exact hf.elim
theorem od_notIn {K : PySem.W.Frag} : OpD K (rNotInG K) dNotIn := by
  intro H l x y d e Qd Q ht hx hy hf hq
  have up := hd_to H l
  cases e with
  | str j =>
    cases d with
    | str i => cases hx; cases hy; exact .inl ⟨i, j, rfl, rfl, hq _ H _ (Same.refl _) (.bl _) hf⟩
    | _ => exact hf.elim
  | tuple ys =>
    have hf : flatD d = true ∧ ys.all flatD = true ∧ Qd (.bool (!ys.any fun y => PyData.eqv y d)) := by cases d <;> exact hf
    cases hy with
    | tup h2 n2 a2 =>
      refine .inr (.inl ⟨_, _, rfl, .inr (same_seqT up h2), hx.flat hf.1, a2.flat hf.2.1, ?_⟩)
      rw [a2.inV hx hf.1 hf.2.1]
      exact hq _ H _ (Same.refl _) (.bl _) hf.2.2
  | list ys =>
    have hf : shp d = true ∧ shp (.list ys) = true ∧ Qd (.bool (!ys.any fun y => PyData.eqv y d)) := by cases d <;> exact hf
    exact .inr (.inr ⟨d, ys, Dv.dp _ _ (shp_nd hf.1) (Dv.same up _ _ hx), Dv.dp _ _ (shp_nd hf.2.1) (Dv.same up _ _ hy), hx.shaped hf.1, hy.shaped hf.2.1, hq _ H _ (Same.refl _) (.bl _) hf.2.2⟩)
  | _ => cases d <;> exact hf.elim
/-! ### an item -/
def dIdx : Dop
  | .list xs, .int i, Q => ∃ z, atI xs i = some z ∧ Q z
  | .tuple xs, .int i, Q => ∃ z, atI xs i = some z ∧ Q z
  | .str x, .int i, Q => ∃ c, atI x.cps.toList i = some c ∧ Q (.str ⟨#[c]⟩)
  | _, _, _ => False
theorem DvAll.at {K : PySem.W.Frag} {H : Hp} {vs : List V} {ds : List PyData} {i : Int} {z : PyData} (h : DvAll K H vs ds) (e : atI ds i = some z) : ∃ v, atI vs i = some v ∧ Dv K H v z := by
  unfold atI at e ⊢
  rw [h.length]
  cases q : ixN ds.length i with
  | none => rw [q] at e; cases e
  | some j =>
    rw [q] at e
    exact h.get' e
theorem strOk_all {x : Str} (h : PyData.strOk x = true) : ∀ c ∈ x.cps.toList, c < 0x110000 := by
  unfold PyData.strOk at h
  rw [Array.all_eq_true] at h
  intro c hc
  obtain ⟨i, hi, e⟩ := List.getElem_of_mem hc
  have := h i (by simpa using hi)
  simp at this
  rw [← e]
  simpa using this
theorem strOk_of {x : Str} (h : ∀ c ∈ x.cps.toList, c < 0x110000) : PyData.strOk x = true := by
  unfold PyData.strOk
  rw [Array.all_eq_true]
  intro i hi
  have := h (x.cps[i]) (by simp)
  simpa using this
theorem okS_sign {x : Str} {c : Nat} (h : okS x) (hc : c ∈ x.cps.toList) : okS ⟨#[c]⟩ := ⟨by show 1 ≤ limL; unfold limL; decide, strOk_of fun d hd => by
  have : d = c := by simpa using hd
  subst this
  exact strOk_all h.2 _ hc⟩
theorem atI_mem {α : Type} {xs : List α} {i : Int} {z : α} (h : atI xs i = some z) : z ∈ xs := by
  obtain ⟨j, _, h2, _⟩ := atI_get h
  exact List.mem_of_getElem? h2
theorem od_idx {K : PySem.W.Frag} : OpD K (rIx K) dIdx := by
  intro H l x y d e Qd Q ht hx hy hf hq
  cases d with
  | list xs =>
    cases e with
    | int i =>
      obtain ⟨z, hz, q⟩ := hf
      cases hy
      cases hx with
      | lst h1 n1 a1 =>
        obtain ⟨v, hv, dv⟩ := a1.at hz
        exact .inl ⟨_, _, i, v, rfl, rfl, SqL.of (hd_to _ _ _ _ h1), hv, hq _ H _ (Same.refl _) dv q⟩
    | _ => exact hf.elim
  | tuple xs =>
    cases e with
    | int i =>
      obtain ⟨z, hz, q⟩ := hf
      cases hy
      cases hx with
      | tup h1 n1 a1 =>
        obtain ⟨v, hv, dv⟩ := a1.at hz
        exact .inr (.inl ⟨_, _, i, v, rfl, rfl, same_seqT (hd_to _ _) h1, hv, hq _ H _ (Same.refl _) dv q⟩)
    | _ => exact hf.elim
  | str x =>
    cases e with
    | int i =>
      obtain ⟨z, hz, q⟩ := hf
      cases hy
      cases hx with
      | str ok => exact .inr (.inr ⟨x, i, z, rfl, rfl, Nat.le_trans ok.1 limL_size, hz, hq _ H _ (Same.refl _) (.str (okS_sign ok (atI_mem hz))) q⟩)
    | _ => exact hf.elim
  | _ => exact hf.elim
section
variable {S : Type} {Wo : Wd S} {X : Cx} {W : WX} {ta tb tc : TE}
theorem ed_ix {a b : Expr} {pos : Pos} {wa wb : DE S} (ha : ED Wo X W a ta wa) (hb : ED Wo X W b tb wb) (hs : PlainIx b) : ED Wo X W (.Subscript a b pos) (tOp (rIx X.K) ta tb) (wOp dIdx wa wb) :=
  ⟨pe_ix ix_seq ha.pe hb.pe hs, fun c σ H ρ s Qd Ed Q E hw hv he => tOp_go od_idx ha.go hb.go E hw hv he⟩
end
end Dt

set_option Elab.async false
set_option linter.all false
set_option autoImplicit false
set_option maxRecDepth 100000
namespace Dt
open PySem PySem.Spec L2

/-! ### arguments -/
def wNil {S : Type} : DA S := fun _ s Q _ => Q [] s
def wCons {S : Type} (w : DE S) (r : DA S) : DA S := fun ρ s Q E => w ρ s (fun x s1 => r ρ s1 (fun as s2 => Q (.d x :: as) s2) E) E
def wRaw {S : Type} (i : Nat) (r : DA S) : DA S := fun ρ s Q E => match ρ[i]? with
  | some (.raw v) => r ρ s (fun as s2 => Q (.raw v :: as) s2) E
  | _ => False
def allK : List Ag → (List PyData → Prop) → Prop
  | [], k => k []
  | .d x :: r, k => allK r fun ds => k (x :: ds)
  | .raw _ :: _, _ => False
theorem AgOk.same {K : PySem.W.Frag} {H H' : Hp} (e : Same H H') : ∀ {vs : List V} {as : List Ag}, AgOk K H vs as → AgOk K H' vs as
  | [], [], _ => trivial
  | v :: r, .d x :: t, h => ⟨Dv.same e _ _ h.1, AgOk.same e h.2⟩
  | v :: r, .raw u :: t, h => ⟨h.1, AgOk.same e h.2⟩
  | [], .d _ :: _, h => h.elim
  | [], .raw _ :: _, h => h.elim
  | _ :: _, [], h => h.elim
theorem AgOk.all {K : PySem.W.Frag} {H : Hp} : ∀ {vs : List V} {as : List Ag} {k : List PyData → Prop}, AgOk K H vs as → allK as k → ∃ ds, DvAll K H vs ds ∧ k ds
  | [], [], k, _, h => ⟨[], .nil, h⟩
  | v :: r, .d x :: t, k, h, q => by
    obtain ⟨ds, h1, h2⟩ := AgOk.all (k := fun ds => k (x :: ds)) h.2 q
    exact ⟨_, .cons h.1 h1, h2⟩
  | v :: r, .raw u :: t, k, h, q => q.elim
  | [], .d _ :: _, _, h, _ => h.elim
  | [], .raw _ :: _, _, h, _ => h.elim
  | _ :: _, [], _, h, _ => h.elim
section
variable {S : Type} {Wo : Wd S} {X : Cx} {W : WX} {ta tb tc : TE} {tl : TA} {e : Expr} {es : List Expr} {pos : Pos}
theorem ad_nil : AD Wo X W [] tNil wNil := ⟨pa_nil, fun c σ H ρ s Qd Ed Q E hw hv he => hv [] H [] s E (Same.refl _) trivial hw⟩
theorem ad_cons {w : DE S} {r : DA S} (ha : ED Wo X W e ta w) (hr : AD Wo X W es tl r) (hs : starEach (e :: es) X.env = (false, eval e X.env) :: starEach es X.env := by rfl) : AD Wo X W (e :: es) (tCons ta tl) (wCons w r) :=
  ⟨pa_cons ha.pe hr.pe hs, fun c σ H ρ s Qd Ed Q E hw hv he => ha.go c σ H ρ s _ Ed _ E hw (fun v H1 d s1 E1 st1 d1 q1 => hr.go c σ H1 ρ s1 _ Ed _ E1 q1 (fun vs H2 as s2 E2 st2 a2 q2 =>
    hv (v :: vs) H2 (.d d :: as) s2 E2 (st1.trans st2) ⟨Dv.same st2 _ _ d1, a2⟩ q2) he) he⟩
theorem ad_raw (i : Nat) {x : Str} {p : Pos} {r : DA S} (hr : AD Wo X W es tl r) (hN : X.N[i]? = some x := by rfl) (hv : Vis X.env.scope x := by first | exact Or.inl rfl | exact Or.inr (Or.inl rfl) | exact Or.inr (Or.inr rfl))
    (hd : (x == ("__debug__" : Str)) = false := by decide) (hcd : (x == ("__classdict__" : Str)) = false := by decide) (hs : starEach (.Name x p :: es) X.env = (false, eval (.Name x p) X.env) :: starEach es X.env := by rfl) : AD Wo X W (.Name x p :: es) (tCons (tVar i) tl) (wRaw i r) :=
  ⟨pa_cons (pe_var hN hv hd hcd) hr.pe hs, fun c σ H ρ s Qd Ed Q E hw hv he => by
    unfold wRaw at hw
    split at hw
    · rename_i v hy
      obtain ⟨o, h1, h2⟩ := E.slot i _ hy
      have h2 : o = some v := h2
      subst h2
      exact ⟨v, h1, hr.go c σ H ρ s _ Ed _ E hw (fun vs H2 as s2 E2 st2 a2 q2 => hv (v :: vs) H2 (.raw v :: as) s2 E2 st2 ⟨rfl, a2⟩ q2) he⟩
    · exact hw.elim⟩
/-! ### tuples -/
def wTup {S : Type} (w : DA S) : DE S := fun ρ s Q E => w ρ s (fun as s1 => allK as fun ds => ds.length ≤ limL ∧ Q (.tuple ds) s1) E
theorem ed_tup {x1} {w : DA S} (h : AD Wo X W es tl w) : ED Wo X W (.Tuple es x1 pos) (tTup tl) (wTup w) :=
  ⟨pe_tup h.pe, fun c σ H ρ s Qd Ed Q E hw hv he => h.go c σ H ρ s _ Ed _ E hw (fun vs H1 as s1 E1 st1 a1 q1 => by
    obtain ⟨ds, h1, h2, h3⟩ := a1.all q1
    have n : vs.length ≤ sizeLine := by rw [h1.length]; exact Nat.le_trans h2 limL_size
    exact ⟨n, fun p hp => hv _ _ _ s1 (E1.grow (same_upd hp)) (st1.trans (stp_grow (same_upd hp))) (Dv.newT E1.tr hp h1 h2) h3⟩) he⟩
/-! ### new lists -/
abbrev Cn.hide {S : Type} {Wo : Wd S} (c : Cn Wo) (p : Addr) : Cn Wo := { c with R := p :: c.R }
theorem hs_hide_sub {c : Cn Wo} {p : Addr} {ρ : List Sl} : ∀ a ∈ c.hs ρ, a ∈ (c.hide p).hs ρ := fun a h => by
  rcases List.mem_append.mp h with h | h
  · rcases List.mem_append.mp h with h | h
    · exact List.mem_append_left _ (List.mem_append_left _ h)
    · exact List.mem_append_left _ (List.mem_append_right _ (List.mem_cons_of_mem _ h))
  · exact List.mem_append_right _ h
theorem hs_hide_mem {c : Cn Wo} {p : Addr} {ρ : List Sl} {a : Addr} : a ∈ (c.hide p).hs ρ ↔ a = p ∨ a ∈ c.hs ρ := by
  simp only [Cn.hs, List.mem_append, List.mem_cons]
  constructor
  · rintro ((h | h | h) | h)
    · exact .inr (.inl (.inl h))
    · exact .inl h
    · exact .inr (.inl (.inr h))
    · exact .inr (.inr h)
  · rintro (h | ((h | h) | h))
    · exact .inl (.inr (.inl h))
    · exact .inl (.inl h)
    · exact .inl (.inr (.inr h))
    · exact .inr h
theorem nodup_mid {α : Type} {a b c : List α} {p : α} : (a ++ (p :: b) ++ c).Nodup ↔ p ∉ a ++ b ++ c ∧ (a ++ b ++ c).Nodup := by
  have : (a ++ (p :: b) ++ c).Perm (p :: (a ++ b ++ c)) := by
    rw [List.append_assoc, List.append_assoc]
    exact List.perm_middle
  rw [this.nodup_iff, List.nodup_cons]
theorem EnvD.unhide {K : PySem.W.Frag} {c : Cn Wo} {p : Addr} {σ : St} {H : Hp} {ρ : List Sl} {s : S} (E : EnvD K (c.hide p) σ H ρ s) : EnvD K c σ H ρ s where
  len := E.len
  slot := fun i x h => by
    obtain ⟨o, h1, h2⟩ := E.slot i x h
    exact ⟨o, h1, h2.same (hd_sub hs_hide_sub) fun _ _ _ => rfl⟩
  nd := (nodup_mid.mp E.nd).2
  tr := fun a h => E.tr a (hs_hide_sub a h)
  g := E.g
  ext := E.ext
  new := E.new
theorem EnvD.hideNew {K : PySem.W.Frag} {c : Cn Wo} {p : Addr} {σ : St} {H : Hp} {ρ : List Sl} {s : S} {o : HO} (E : EnvD K c σ H ρ s) (hp : H p = none) : EnvD K (c.hide p) σ (upd H p o) ρ s ∧ Same (hd H (c.hs ρ)) (hd (upd H p o) ((c.hide p).hs ρ)) := by
  have E1 := E.grow (same_upd (o := o) hp)
  have np : p ∉ c.hs ρ := fun h => E.tr p h hp
  have sm : Same (hd H (c.hs ρ)) (hd (upd H p o) ((c.hide p).hs ρ)) := fun b u h => by
    obtain ⟨n, q⟩ := hd_some.mp h
    refine hd_some.mpr ⟨fun z => ?_, same_upd hp _ _ q⟩
    rcases hs_hide_mem.mp z with z | z
    · subst z; rw [hp] at q; cases q
    · exact n z
  refine ⟨⟨E.len, fun i x h => ?_, nodup_mid.mpr ⟨np, E.nd⟩, fun a h => ?_, E1.g, E1.ext, E.new⟩, sm⟩
  · obtain ⟨v, h1, h2⟩ := E.slot i x h
    refine ⟨v, h1, h2.same sm fun q z _ => ?_⟩
    exact upd_ne fun e => np (List.mem_append_right _ (e ▸ own_memG h z))
  · rcases hs_hide_mem.mp h with z | z
    · subst z; rw [upd_same]; exact fun q => nomatch q
    · exact E1.tr a z
abbrev DL (S : Type) := List Sl → S → (List PyData → S → Prop) → (Er → S → Prop) → Prop
/-- an expression that makes a new list -/
structure FD {S : Type} (Wo : Wd S) (X : Cx) (W : WX) (e : Expr) (t : TE) (w : DL S) : Prop where
  pe : PE X e t
  go : ∀ (c : Cn Wo) σ H ρ s Qd Ed Q, EnvD X.K c σ H ρ s → w ρ s Qd Ed →
    (∀ p vs H' ds s', EnvD X.K (c.hide p) σ H' ρ s' → Same (hd H (c.hs ρ)) (hd H' ((c.hide p).hs ρ)) → H' p = some (.lst vs) → DvAll X.K (hd H' ((c.hide p).hs ρ)) vs ds → ds.length ≤ limL → H p = none → Qd ds s' → Q (.ref p) H') →
    ErTo X.K c σ ρ Ed W → t σ H Q
def wL {S : Type} (w : DL S) : DE S := fun ρ s Q E => w ρ s (fun ds s1 => Q (.list ds) s1) E
theorem ed_new {w : DL S} (h : FD Wo X W e ta w) : ED Wo X W e ta (wL w) :=
  ⟨h.pe, fun c σ H ρ s Qd Ed Q E hw hv he => h.go c σ H ρ s _ Ed _ E hw (fun p vs H' ds s' E' sm hp a n _ q => by
    have np : p ∉ c.hs ρ := (nodup_mid.mp E'.nd).1
    have s2 : Same (hd H' ((c.hide p).hs ρ)) (hd H' (c.hs ρ)) := hd_sub hs_hide_sub
    exact hv _ H' _ s' E'.unhide (sm.trans s2) (.lst (by rw [hd_out np]; exact hp) n (DvAll.same s2 _ _ a)) q) he⟩
def wLst {S : Type} (w : DA S) : DL S := fun ρ s Q E => w ρ s (fun as s1 => allK as fun ds => ds.length ≤ limL ∧ Q ds s1) E
theorem fd_lst {w : DA S} (h : AD Wo X W es tl w) : FD Wo X W (.List es pos) (tLst tl) (wLst w) :=
  ⟨pe_lst h.pe, fun c σ H ρ s Qd Ed Q E hw hv he => h.go c σ H ρ s _ Ed _ E hw (fun vs H1 as s1 E1 st1 a1 q1 => by
    obtain ⟨ds, h1, h2, h3⟩ := a1.all q1
    have n : vs.length ≤ sizeLine := by rw [h1.length]; exact Nat.le_trans h2 limL_size
    refine ⟨n, fun p hp => ?_⟩
    obtain ⟨E2, sm⟩ := E1.hideNew (o := .lst vs) hp
    refine hv p vs _ ds s1 E2 (st1.trans sm) upd_same (DvAll.same sm _ _ h1) h2 ?_ h3
    cases q : H p with
    | none => rfl
    | some u =>
      by_cases z : p ∈ c.hs ρ
      · exact absurd hp (E1.tr p z)
      · have := hd_to _ _ _ _ (st1 p u (hd_some.mpr ⟨z, q⟩))
        rw [hp] at this; cases this) he⟩
/-! ### calls of built-ins -/
def CallD (K : PySem.W.Frag) (r : List V → Hp → VK → Prop) (f : List PyData → (PyData → Prop) → Prop) : Prop :=
  ∀ (H : Hp) (l : List Addr) (vs : List V) (ds : List PyData) (Qd : PyData → Prop) (Q : VK), (∀ a ∈ l, H a ≠ none) → DvAll K (hd H l) vs ds → f ds Qd →
    (∀ v H' z, Same H H' → Dv K (hd H' l) v z → Qd z → Q v H') → r vs H Q
def wCB {S : Type} (f : List PyData → (PyData → Prop) → Prop) (w : DA S) : DE S := fun ρ s Q E => w ρ s (fun as s1 => allK as fun ds => f ds fun z => Q z s1) E
section
variable {r : List V → Hp → VK → Prop} {f : List PyData → (PyData → Prop) → Prop} {id T : String} {x : Str} {p : Pos}
theorem tCB_go {w : DA S} (hf : CallD X.K r f) (h : AD Wo X W es tl w) {c : Cn Wo} {σ : St} {H : Hp} {ρ : List Sl} {s : S} {Qd : PyData → S → Prop} {Ed : Er → S → Prop} {Q : VK}
    (E : EnvD X.K c σ H ρ s) (hw : wCB f w ρ s Qd Ed) (hv : VTo X.K c σ H ρ Qd Q) (he : ErTo X.K c σ ρ Ed W) : tCB r tl σ H Q :=
  h.go c σ H ρ s _ Ed _ E hw (fun vs H1 as s1 E1 st1 a1 q1 => by
    obtain ⟨ds, h1, h2⟩ := a1.all q1
    exact hf H1 (c.hs ρ) vs ds _ _ E1.tr h1 h2 fun v H' z sm dz qz => hv v H' z s1 (E1.grow sm) (st1.trans (stp_grow sm)) dz qz) he
theorem ed_callB {w : DA S} (hc : CallR X (.builtin id) r) (hf : CallD X.K r f) (hg : Gl X x) (hm : X.mg x = none) (hv : bootBuiltins x = some (.builtin id)) (ha : AD Wo X W (e :: es) tl w) (hn : x ≠ "__name__" := by decide) (hdb : (x == ("__debug__" : Str)) = false := by decide)
    (he : starEach (e :: es) X.env = (false, eval e X.env) :: starEach es X.env := by rfl) (hpl : (backTo pos (starEach es X.env)).any (·.1) = false := by rfl) : ED Wo X W (.Call (.Name x p) (e :: es) [] pos) (tCB r tl) (wCB f w) :=
  ⟨pe_callB hc hg hm hv ha.pe hn hdb he hpl, fun c σ H ρ s Qd Ed Q E hw hv he => tCB_go hf ha E hw hv he⟩
theorem ed_callTy {w : DA S} (hc : CallR X (.type T) r) (hf : CallD X.K r f) (hg : Gl X x) (hm : X.mg x = none) (hv : bootBuiltins x = some (.type T)) (ha : AD Wo X W (e :: es) tl w) (hn : x ≠ "__name__" := by decide) (hdb : (x == ("__debug__" : Str)) = false := by decide)
    (he : starEach (e :: es) X.env = (false, eval e X.env) :: starEach es X.env := by rfl) (hpl : (backTo pos (starEach es X.env)).any (·.1) = false := by rfl) : ED Wo X W (.Call (.Name x p) (e :: es) [] pos) (tCB r tl) (wCB f w) :=
  ⟨pe_callTy hc hg hm hv ha.pe hn hdb he hpl, fun c σ H ρ s Qd Ed Q E hw hv he => tCB_go hf ha E hw hv he⟩
end
/-! isinstance(e, T), T a written built-in class -/
def tyD : PyData → String
  | .none => "NoneType" | .bool _ => "bool" | .int _ => "int" | .str _ => "str" | .list _ => "list" | .tuple _ => "tuple" | .dict _ => "dict"
theorem Dv.ty {K : PySem.W.Frag} {H : Hp} {v : V} {d : PyData} (h : Dv K H v d) : TyX K H v (.type (tyD d)) := by
  cases d with
  | none => cases h; exact .base .non
  | bool b => cases h; exact .base (.bl b)
  | int i => cases h; exact .base (.int i)
  | str x => cases h; exact .base (.str x)
  | list ds => cases h with | lst h n a => exact .base (.lst h)
  | tuple ds =>
    cases h with
    | tup h n a =>
      rcases h with (h | ⟨o, h⟩) | ⟨o, its, k, h1, h2, _⟩
      · exact .base (.tup h)
      · exact .fTuple h
      · exact .kTuple h1 h2
  | dict _ => cases h with | dct h n a => exact .base (.dK h)
def isT (T : String) (d : PyData) : Bool := (kitB (tyD d) T).getD false
def tIsi (T : String) (K : PySem.W.Frag) (ta : TE) : TE := tCB (rIsi K) (tCons ta (tCons (tC (.ty T)) tNil))
def wIsi {S : Type} (T : String) (w : DE S) : DE S := fun ρ s Q E => w ρ s (fun d s1 => (kitB (tyD d) T).isSome = true ∧ Q (.bool (isT T d)) s1) E
theorem ed_isi {a : Expr} {w : DE S} {x : Str} {T : String} {p q pos : Pos} (ha : ED Wo X W a ta w) (hm : X.mg "isinstance" = none) (hT : X.mg x = none) (hb : bootBuiltins x = some (.type T)) (hg : Gl X "isinstance" := by rfl) (hgT : Gl X x := by rfl) (hn : x ≠ "__name__" := by decide) (hdb : (x == ("__debug__" : Str)) = false := by decide)
    (he : starEach (a :: [.Name x q]) X.env = (false, eval a X.env) :: starEach [.Name x q] X.env := by rfl) (he2 : starEach (.Name x q :: []) X.env = (false, eval (.Name x q) X.env) :: starEach [] X.env := by rfl) (hpl : (backTo pos (starEach [.Name x q] X.env)).any (·.1) = false := by rfl) :
    ED Wo X W (.Call (.Name "isinstance" p) [a, .Name x q] [] pos) (tIsi T X.K ta) (wIsi T w) :=
  ⟨pe_callB call_isi hg hm (by decide +kernel) (pa_cons ha.pe (pa_cons (pe_bltn hgT hT hb rfl hn hdb) pa_nil he2) he) (by decide) (by decide) he hpl, fun c σ H ρ s Qd Ed Q E hw hv he =>
    ha.go c σ H ρ s _ Ed _ E hw (fun v H1 d s1 E1 st1 d1 q1 => by
      obtain ⟨h1, h2⟩ := q1
      obtain ⟨b, hb⟩ := Option.isSome_iff_exists.mp h1
      have e1 : isT T d = b := by unfold isT; rw [hb]; rfl
      refine ⟨v, .ty T, .type (tyD d), .type T, b, rfl, .ty T, (Dv.same (hd_to _ _) _ _ d1).ty, kit_ty hb, ?_⟩
      rw [e1] at h2
      exact hv _ H1 _ s1 E1 st1 (.bl b) h2) he⟩
end
end Dt

set_option Elab.async false
set_option linter.all false
set_option autoImplicit false
set_option maxRecDepth 100000
namespace Dt
open PySem PySem.Spec PyProof.Rows L2

/-! ### defs and calls where it is known that no repr is under way -/
structure FnG (P : Program) (w : World) (K : PySem.W.Frag) (mg : Str → Option Value) (base : Heap) (CX : CXT) (k : Nat) (f : Addr) (fd : FuncData) (ps : List Str) (sp : Sp) : Prop where
  len : ∀ vs H Q E, sp vs H Q E → vs.length = ps.length
  go : ∀ (A : Around), A.guards = some [] → ∀ (outer : List Env) (s : Shared) (H : Hp) (args : Args) (us : List Value) (vs : List V) (Q : VK) (E : XK),
    Room k A → Env0 P w K mg base A outer s H → BindsTo s fd args (ps.zip us) → Vals vs us → sp vs H Q E → codeAny (model P w) A (.call (.ref f) args) (CR CX outer P w H s Q E) s
section
variable {P : Program} {w : World} {K : PySem.W.Frag} {mg : Str → Option Value} {base : Heap} {CX : CXT} {k : Nat} {f : Addr} {fd : FuncData} {ps : List Str} {sp sp' : Sp}
theorem FnG.of (F : FnOk P w K mg base CX k f fd ps sp) : FnG P w K mg base CX k f fd ps sp := ⟨F.len, fun A _ outer s H args us vs Q E => F.run A outer s H args us vs Q E⟩
theorem FnG.mono {j : Nat} (F : FnG P w K mg base CX j f fd ps sp) (h : j ≤ k) : FnG P w K mg base CX k f fd ps sp := ⟨F.len, fun A g outer s H args us vs Q E hr => F.go A g outer s H args us vs Q E (hr.mono h)⟩
theorem FnG.imp (F : FnG P w K mg base CX k f fd ps sp) (h : ∀ vs H Q E, sp' vs H Q E → sp vs H Q E) : FnG P w K mg base CX k f fd ps sp' :=
  ⟨fun vs H Q E q => F.len vs H Q E (h _ _ _ _ q), fun A g outer s H args us vs Q E hr he hb hv hs => F.go A g outer s H args us vs Q E hr he hb hv (h _ _ _ _ hs)⟩
theorem guards_deeper {A : Around} {env : Env} (h : A.guards = some []) : (A.deeper env).guards = some [] := h
/-- a def by its body -/
theorem fnG {x qual : Str} {st : Stmt} {N : List Str} (F : Fun K x qual st f fd) (S : FnScope N ps (defScope st)) (len : ∀ vs H Q E, sp vs H Q E → vs.length = ps.length)
    (hbody : ∀ (cdv : Value) (A : Around) (outer : List Env) (s : Shared) (H : Hp) (vs : List V) (Q : VK) (E : XK), A.guards = some [] → Room k (A.deeper (envOfC qual (defScope st) s.heap.objs.size f cdv)) → sp vs H Q E →
      ∃ t, PSs (cxOf CX P w K mg base N qual (defScope st) f cdv A outer s H E) (defBody st) t ∧ t ⟨fun _ H' => Q .non H', Q, fun _ _ => False, fun _ _ => False⟩ (start N vs) H) : FnG P w K mg base CX (k + 1) f fd ps sp := by
  obtain ⟨oc, od, kV, doc, pm, an, cdv, ct, osl, rfl, lk, hcd⟩ := F.ex
  constructor
  · exact len
  intro A hgd outer s H args us vs Q E hr e0 hb r hsp
  have old : ∀ b o, base.get? b = some o → s.heap.get? b = some o := fun b o e => (e0.bs b o e).1
  have nl : s.heap.NoLimit := e0.mod.nolimit.keeps old
  have par : ∀ y ∈ ps.zip us, (defScope st).names.lookup y.1 = some .local ∨ ((defScope st).names.lookup y.1 = some .cell ∧ ((cellsFrom (s.heap.objs.size + 1) (defScope st).names []).lookup y.1).isSome = true) := by
    rintro ⟨n, v⟩ hy
    have hn := (List.of_mem_zip hy).1
    cases S.par n hn with
    | inl q => exact .inl q
    | inr q => exact .inr ⟨q, PySem.W.cellsFrom_some _ _ _ (.inl q)⟩
  apply codeAny_call_function hr.depth (e0.mod.kin.keeps old _ _ lk) rfl S.co S.gen rfl (PySem.W.codeRec_of (e0.mod.kin.keeps old) hcd)
  apply hb
  apply wpAny_newFunctionEnv_cells S.kind par
  intro env he s1 x1
  subst he
  refine ⟨nl.keeps x1.toInCall.keep, codeAny_func ?_⟩
  have hR := hr.deeper (envOfC qual (defScope st) s.heap.objs.size f cdv)
  obtain ⟨t, ht, hq⟩ := hbody cdv A outer s H vs Q E hgd hR hsp
  have J0 := inv_start (CX := CX) (E := E) S hr.hd e0 (len _ _ _ _ hsp) r x1
  refine wpAny_mono (ht.run [] s1 (start N vs) H _ J0 hq) ?_ ?_
  · intro fl s' hs
    cases fl with
    | next =>
      obtain ⟨σ', H', J, q⟩ := hs
      exact ⟨V.non, H', J.os, J.bare, J.base, J.hok, rfl, q⟩
    | ret u =>
      obtain ⟨v, σ', H', J, rv, q⟩ := hs
      exact ⟨v, H', J.os, J.bare, J.base, J.hok, rv, q⟩
    | brk =>
      obtain ⟨_, _, _, q⟩ := hs
      cases q
    | cont =>
      obtain ⟨_, _, _, q⟩ := hs
      cases q
  · intro e s' hs
    exact hs
end
section
variable {X : Cx} {CX : CXT} {k : Nat} {f : Addr} {fd : FuncData} {ps : List Str} {sp : Sp} {E : L2.St → XK} {x : Str} {p pos : Pos} {e : Expr} {es : List Expr} {t : TA}
theorem run_fnG {pins : List (Addr × Obj)} {σ : L2.St} {H : Hp} {s : Shared} {Q : VK} {us : List Value} {vs : List V} (F : FnG X.prog X.w X.K X.mg X.base CX k f fd ps sp) (hG : X.A.guards = some []) (hr : Room k X.A) (hb : Binds X.K fd ps [])
    (hx : PassesAt CX X σ (E σ)) (I : Inv X pins σ H s) (r : Vals vs us) (h : sp vs H Q (E σ)) : wpAny (model X.prog X.w) X.A (call (.ref f) us) (EP X pins σ Q) X.xe s := by
  have b := hb s us I.kIn (by rw [List.append_nil, ← r.length]; exact F.len _ _ _ _ h)
  rw [List.append_nil] at b
  apply wpAny_call
  refine codeAny_mono (F.go X.A hG X.stack s H ⟨us, []⟩ us vs Q (E σ) hr I.env0 b r h) ?_
  intro r s' hq
  cases r with
  | ok fl =>
    cases fl with
    | ret u => exact I.after hq
    | next => cases hq
    | brk => cases hq
    | cont => cases hq
  | error e => exact hx pins H s e s' I hq
theorem pe_callG (F : FnG X.prog X.w X.K X.mg X.base CX k f fd ps sp) (hG : X.A.guards = some []) (hr : Room k X.A) (hg : Gl X x) (hm : X.mg x = some (.ref f)) (hk : PySem.W.keepIn X.K (.ref f) = true) (hb : Binds X.K fd ps []) (hx : ∀ σ, PassesAt CX X σ (E σ))
    (ha : PA X (e :: es) t) (hdb : (x == ("__debug__" : Str)) = false := by decide) (he : starEach (e :: es) X.env = (false, eval e X.env) :: starEach es X.env := by rfl) (hpl : (backTo pos (starEach es X.env)).any (·.1) = false := by rfl) :
    PE X (.Call (.Name x p) (e :: es) [] pos) (tCallS sp E t) := by
  constructor
  intro pins s σ H Q I h
  apply wpAny_Call_Name_kw
  apply ld_glob I hg hm _ hdb
  apply PySem.W.callWith_K (h₀ := X.base) I.ok.mod.kin hk _ he hpl
  refine thn (ha.run pos pins s σ H _ I h) ?_
  rintro us s1 ⟨vs, H1, I1, r, q⟩
  exact ⟨I1.kIn, run_fnG F hG hr hb (hx σ) I1 r q⟩
end
end Dt

set_option Elab.async false
set_option linter.all false
set_option autoImplicit false
set_option maxRecDepth 100000
namespace Dt
open PySem PySem.Spec L2

/-! ### promises by data -/
/-- of a def without effects: n arguments -/
def spP (K : PySem.W.Frag) (n : Nat) (f : List PyData → (PyData → Prop) → (Er → Prop) → Prop) : Sp := fun vs H Q E =>
  vs.length = n ∧ ∃ (l : List Addr) (ds : List PyData) (Qd : PyData → Prop) (Ed : Er → Prop), l.Nodup ∧ (∀ a ∈ l, H a ≠ none) ∧ DvAll K (hd H l) vs ds ∧ f ds Qd Ed ∧
    (∀ v H' d, Same H H' → Dv K (hd H' l) v d → Qd d → Q v H') ∧ ∀ e cls dd H', Same H H' → ErIs K (hd H' l) H' e cls dd → Ed e → E cls dd H'
/-- of a def over the world W -/
def spW {S : Type} (K : PySem.W.Frag) (W : Wd S) (n : Nat) (f : List Ag → S → (PyData → S → Prop) → (Er → S → Prop) → Prop) : Sp := fun vs H Q E =>
  vs.length = n ∧ ∃ (R : List Addr) (as : List Ag) (s : S) (Qd : PyData → S → Prop) (Ed : Er → S → Prop), (W.wa ++ R).Nodup ∧ (∀ a ∈ W.wa ++ R, H a ≠ none) ∧ W.G s H ∧ AgOk K (hd H (W.wa ++ R)) vs as ∧ f as s Qd Ed ∧
    (∀ v H' d s', W.G s' H' → (∀ b o, H b = some o → b ∉ W.wa → H' b = some o) → Dv K (hd H' (W.wa ++ R)) v d → Qd d s' → Q v H') ∧
    ∀ e cls dd H' s', W.G s' H' → (∀ b o, H b = some o → b ∉ W.wa → H' b = some o) → ErIs K (hd H' (W.wa ++ R)) H' e cls dd → Ed e s' → E cls dd H'
def wCallP {S : Type} (f : List PyData → (PyData → Prop) → (Er → Prop) → Prop) (w : DA S) : DE S := fun ρ s Q E => w ρ s (fun as s1 => allK as fun ds => f ds (fun d => Q d s1) (fun e => E e s1)) E
def wCallW {S : Type} (f : List Ag → S → (PyData → S → Prop) → (Er → S → Prop) → Prop) (w : DA S) : DE S := fun ρ s Q E => w ρ s (fun as s1 => f as s1 Q E) E
/-- a world's step: what stands outside of it stays, so does what is seen -/
theorem EnvD.step {S : Type} {Wo : Wd S} {K : PySem.W.Frag} {c : Cn Wo} {σ : St} {H H' : Hp} {ρ : List Sl} {s s' : S} (E : EnvD K c σ H ρ s) (g : c.W.G s' H') (e : ∀ b o, H b = some o → b ∉ c.W.wa → H' b = some o) : EnvD K c σ H' ρ s' ∧ Stp c ρ ρ H H' := by
  have nw : ∀ b, b ∉ c.hs ρ → b ∉ c.W.wa := fun b h z => h (List.mem_append_left _ (List.mem_append_left _ z))
  have st : Stp c ρ ρ H H' := hd_same _ fun b o n q => e b o q (nw b n)
  have ow : ∀ p, p ∈ owns ρ → p ∉ c.W.wa := fun p h z => by
    have := List.nodup_append.mp E.nd
    exact this.2.2 p (List.mem_append_left _ z) p h rfl
  have oR : ∀ p, p ∈ c.R → p ∉ c.W.wa := fun p h z => by
    have := List.nodup_append.mp (List.nodup_append.mp E.nd).1
    exact this.2.2 p z p h rfl
  refine ⟨⟨E.len, fun i x h => ?_, E.nd, fun a h => ?_, g, fun b o h n => e b o (E.ext b o h n) n, E.new⟩, st⟩
  · obtain ⟨o, h1, h2⟩ := E.slot i x h
    refine ⟨o, h1, h2.same st fun p z n => ?_⟩
    cases r : H p with
    | none => exact absurd r n
    | some u => exact e _ _ r (ow p (own_memG h z))
  · rcases List.mem_append.mp h with h | h
    · rcases List.mem_append.mp h with h | h
      · exact c.W.tr s' H' g a h
      · cases q : H a with
        | none => exact absurd q (E.tr a (List.mem_append_left _ (List.mem_append_right _ h)))
        | some o => rw [e a o q (oR a h)]; exact fun z => nomatch z
    · cases q : H a with
      | none => exact absurd q (E.tr a (List.mem_append_right _ h))
      | some o => rw [e a o q (ow a h)]; exact fun z => nomatch z
theorem AgOk.length {K : PySem.W.Frag} {H : Hp} : ∀ {vs : List V} {as : List Ag}, AgOk K H vs as → vs.length = as.length
  | [], [], _ => rfl
  | v :: r, .d x :: t, h => by simp [AgOk.length h.2]
  | v :: r, .raw u :: t, h => by simp [AgOk.length h.2]
  | [], .d _ :: _, h => h.elim
  | [], .raw _ :: _, h => h.elim
  | _ :: _, [], h => h.elim
section
variable {S : Type} {Wo : Wd S} {X : Cx} {W : WX} {ta tb tc : TE} {tl : TA} {e : Expr} {es : List Expr} {pos p : Pos} {CX : CXT} {k n : Nat} {f : Addr} {fd : FuncData} {ps : List Str} {x : Str}
theorem ed_callP {F : List PyData → (PyData → Prop) → (Er → Prop) → Prop} {w : DA S} (hF : FnG X.prog X.w X.K X.mg X.base CX k f fd ps (spP X.K n F)) (hG : X.A.guards = some []) (hr : Room k X.A) (hm : X.mg x = some (.ref f)) (hk : PySem.W.keepIn X.K (.ref f) = true) (hb : Binds X.K fd ps [])
    (hx : ∀ σ, PassesAt CX X σ (WE W σ)) (ha : AD Wo X W (e :: es) tl w) (hn : ps.length = n := by rfl) (hg : Gl X x := by rfl) (hdb : (x == ("__debug__" : Str)) = false := by decide) (he : starEach (e :: es) X.env = (false, eval e X.env) :: starEach es X.env := by rfl)
    (hpl : (backTo pos (starEach es X.env)).any (·.1) = false := by rfl) : ED Wo X W (.Call (.Name x p) (e :: es) [] pos) (tCallS (spP X.K n F) (WE W) tl) (wCallP (fun ds Q E => ds.length = n ∧ F ds Q E) w) :=
  ⟨pe_callG hF hG hr hg hm hk hb hx ha.pe hdb he hpl, fun c σ H ρ s Qd Ed Q E hw hv he => ha.go c σ H ρ s _ Ed _ E hw (fun vs H1 as s1 E1 st1 a1 q1 => by
    obtain ⟨ds, h1, h2, h3⟩ := a1.all q1
    exact ⟨by rw [h1.length]; exact h2, c.hs ρ, ds, _, _, E1.nd, E1.tr, h1, h3, fun v H' d sm dv q => hv v H' d s1 (E1.grow sm) (st1.trans (stp_grow sm)) dv q,
      fun e cls dd H' sm ei q => he e cls dd H' s1 (E1.grow sm) ei q⟩) he⟩
/-- a promise over a family of worlds -/
def spI {ι S : Type} (K : PySem.W.Frag) (Wf : ι → Wd S) (n : Nat) (f : ι → List Ag → S → (PyData → S → Prop) → (Er → S → Prop) → Prop) : Sp := fun vs H Q E => ∃ i, spW K (Wf i) n (f i) vs H Q E
theorem ed_callI {ι : Type} {Wf : ι → Wd S} {i : ι} {F : ι → List Ag → S → (PyData → S → Prop) → (Er → S → Prop) → Prop} {w : DA S} (hF : FnG X.prog X.w X.K X.mg X.base CX k f fd ps (spI X.K Wf n F)) (hG : X.A.guards = some []) (hr : Room k X.A) (hm : X.mg x = some (.ref f)) (hk : PySem.W.keepIn X.K (.ref f) = true) (hb : Binds X.K fd ps [])
    (hx : ∀ σ, PassesAt CX X σ (WE W σ)) (ha : AD (Wf i) X W (e :: es) tl w) (hn : ps.length = n := by rfl) (hg : Gl X x := by rfl) (hdb : (x == ("__debug__" : Str)) = false := by decide) (he : starEach (e :: es) X.env = (false, eval e X.env) :: starEach es X.env := by rfl)
    (hpl : (backTo pos (starEach es X.env)).any (·.1) = false := by rfl) : ED (Wf i) X W (.Call (.Name x p) (e :: es) [] pos) (tCallS (spI X.K Wf n F) (WE W) tl) (wCallW (fun as s Q E => as.length = n ∧ F i as s Q E) w) :=
  ⟨pe_callG hF hG hr hg hm hk hb hx ha.pe hdb he hpl, fun c σ H ρ s Qd Ed Q E hw hv he => ha.go c σ H ρ s _ Ed _ E hw (fun vs H1 as s1 E1 st1 a1 q1 => by
    have e1 : c.W.wa ++ (c.R ++ owns ρ) = c.hs ρ := (List.append_assoc _ _ _).symm
    refine ⟨i, a1.length.trans q1.1, c.R ++ owns ρ, as, s1, Qd, Ed, ?_, ?_, E1.g, ?_, q1.2, fun v H' d s' g sm dv q => ?_, fun e cls dd H' s' g sm ei q => ?_⟩
    · rw [e1]; exact E1.nd
    · rw [e1]; exact E1.tr
    · rw [e1]; exact a1
    · rw [e1] at dv
      obtain ⟨E2, st2⟩ := E1.step g sm
      exact hv v H' d s' E2 (st1.trans st2) dv q
    · rw [e1] at ei
      exact he e cls dd H' s' (E1.step g sm).1 ei q) he⟩
end
end Dt

set_option Elab.async false
set_option linter.all false
set_option autoImplicit false
set_option maxRecDepth 100000
namespace Dt
open PySem PySem.Spec L2

/-! ### blocks and statements -/
section
variable {S : Type} {Wo : Wd S} {X : Cx} {W : WX} {ta tb tc : TE} {tA : TT} {t u : TS} {st : Stmt} {rest body orelse : List Stmt} {e : Expr} {pos : Pos}
theorem STo.from {K : PySem.W.Frag} {c : Cn Wo} {H H1 : Hp} {ρ ρ1 : List Sl} {Dd : DEnds S} {D : Ends} (h : STo K c H ρ Dd D W) (st : Stp c ρ ρ1 H H1) : STo K c H1 ρ1 Dd D W :=
  ⟨fun σ' H' ρ' s' E st' => h.nx σ' H' ρ' s' E (st.trans st'), fun σ' H' ρ' s' E st' => h.bk σ' H' ρ' s' E (st.trans st'), fun σ' H' ρ' s' E st' => h.ct σ' H' ρ' s' E (st.trans st'), h.rt, h.er⟩
theorem STo.err {K : PySem.W.Frag} {c : Cn Wo} {H : Hp} {ρ : List Sl} {Dd : DEnds S} {D : Ends} (h : STo K c H ρ Dd D W) (σ : St) (ρ' : List Sl) : ErTo K c σ ρ' (fun e s => Dd.er e ρ' s) W := fun e cls dd H' s' E ei q => h.er e cls dd σ H' ρ' s' E ei q
def wNext {S : Type} : DS S := fun ρ s D => D.nx ρ s
theorem sd_nil : SSD Wo X W [] tNext wNext := ⟨pss_nil, fun c σ H ρ s Dd D E hw h => h.nx σ H ρ s E (Same.refl _) hw⟩
def wSeq {S : Type} (w v : DS S) : DS S := fun ρ s D => w ρ s { D with nx := fun ρ' s' => v ρ' s' D }
theorem sd_cons {w v : DS S} (h : SD Wo X W st t w) (g : SSD Wo X W rest u v) : SSD Wo X W (st :: rest) (tSeq t u) (wSeq w v) :=
  ⟨pss_cons h.pe g.pe, fun c σ H ρ s Dd D E hw to => h.go c σ H ρ s _ { D with nx := u D } E hw
    ⟨fun σ' H' ρ' s' E' st' q => g.go c σ' H' ρ' s' Dd D E' q (to.from st'), to.bk, to.ct, to.rt, to.er⟩⟩
theorem sd_one {w : DS S} (h : SD Wo X W st t w) : SSD Wo X W [st] t w := ⟨pss_one h.pe, h.go⟩
theorem sd_pass : SD Wo X W (.Pass pos) tNext wNext := ⟨ps_pass, fun c σ H ρ s Dd D E hw h => h.nx σ H ρ s E (Same.refl _) hw⟩
def wBreak {S : Type} : DS S := fun ρ s D => D.bk ρ s
def wCont {S : Type} : DS S := fun ρ s D => D.ct ρ s
theorem sd_break : SD Wo X W (.Break pos) tBreak wBreak := ⟨ps_break, fun c σ H ρ s Dd D E hw h => h.bk σ H ρ s E (Same.refl _) hw⟩
theorem sd_continue : SD Wo X W (.Continue pos) tCont wCont := ⟨ps_continue, fun c σ H ρ s Dd D E hw h => h.ct σ H ρ s E (Same.refl _) hw⟩
def wRet {S : Type} (w : DE S) : DS S := fun ρ s D => w ρ s D.rt fun e s' => D.er e ρ s'
theorem sd_ret {w : DE S} (h : ED Wo X W e ta w) : SD Wo X W (.Return (some e) pos) (tRet ta) (wRet w) :=
  ⟨ps_ret h.pe, fun c σ H ρ s Dd D E hw to => h.go c σ H ρ s _ _ _ E hw (fun v H' d s' E' st' dv q => to.rt v H' d s' E'.g E'.ext (Dv.same (hd_sub fun a h => List.mem_append_left _ h) _ _ dv) q) (to.err σ ρ)⟩
def wRetN {S : Type} : DS S := fun ρ s D => D.rt .none s
theorem sd_retN : SD Wo X W (.Return none pos) tRetN wRetN := ⟨ps_retN, fun c σ H ρ s Dd D E hw to => to.rt .non H .none s E.g E.ext .non hw⟩
def wIfS {S : Type} (w : DT S) (a b : DS S) : DS S := fun ρ s D => w ρ s (fun k s1 => if k = true then a ρ s1 D else b ρ s1 D) fun e s' => D.er e ρ s'
theorem sd_if {k : Expr} {w : DT S} {a b : DS S} (hc : TD Wo X W k tA w) (ha : SSD Wo X W body t a) (hb : SSD Wo X W orelse u b) : SD Wo X W (.If k body orelse pos) (tIfS tA t u) (wIfS w a b) :=
  ⟨ps_if hc.pe ha.pe hb.pe, fun c σ H ρ s Dd D E hw to => hc.go c σ H ρ s _ _ _ E hw (fun k H' s' E' st' q => by
    cases k with
    | true => rw [if_pos rfl] at q ⊢; exact ha.go c σ H' ρ s' Dd D E' q (to.from st')
    | false => rw [if_neg Bool.false_ne_true] at q ⊢; exact hb.go c σ H' ρ s' Dd D E' q (to.from st')) (to.err σ ρ)⟩
def wExpr {S : Type} (w : DE S) : DS S := fun ρ s D => w ρ s (fun _ s1 => D.nx ρ s1) fun e s' => D.er e ρ s'
theorem sd_expr {w : DE S} (h : ED Wo X W e ta w) (hs : swapsWith e none pos.line X.env = pure false := by rfl) : SD Wo X W (.Expr e pos) (tDrop ta) (wExpr w) :=
  ⟨ps_expr h.pe hs, fun c σ H ρ s Dd D E hw to => h.go c σ H ρ s _ _ _ E hw (fun v H' d s' E' st' dv q => to.nx σ H' ρ s' E' st' q) (to.err σ ρ)⟩
/-! ### targets -/
def wipeD (ρ : List Sl) : List Nat → List Sl
  | [] => ρ
  | v :: vs => (wipeD ρ vs).set v .no
theorem wipe_set {σ : St} {i : Nat} {v : Option V} : ∀ {vs : List Nat}, i ∈ vs → wipe (σ.set i v) vs = wipe σ vs
  | a :: vs, h => by
    unfold wipe
    by_cases hi : i ∈ vs
    · rw [wipe_set hi]
    · have e : a = i := by rcases List.mem_cons.mp h with h | h; exact h.symm; exact absurd h hi
      subst e
      have q : ∀ (ws : List Nat), a ∉ ws → wipe (σ.set a v) ws = (wipe σ ws).set a v := by
        intro ws
        induction ws with
        | nil => intro _; rfl
        | cons b ws ih =>
          intro hb
          simp only [List.mem_cons, not_or] at hb
          unfold wipe
          rw [ih hb.2, List.set_comm _ _ hb.1]
      rw [q vs hi, List.set_set]
theorem wipeD_set {ρ : List Sl} {i : Nat} {v : Sl} : ∀ {vs : List Nat}, i ∈ vs → wipeD (ρ.set i v) vs = wipeD ρ vs
  | a :: vs, h => by
    unfold wipeD
    by_cases hi : i ∈ vs
    · rw [wipeD_set hi]
    · have e : a = i := by rcases List.mem_cons.mp h with h | h; exact h.symm; exact absurd h hi
      subst e
      have q : ∀ (ws : List Nat), a ∉ ws → wipeD (ρ.set a v) ws = (wipeD ρ ws).set a v := by
        intro ws
        induction ws with
        | nil => intro _; rfl
        | cons b ws ih =>
          intro hb
          simp only [List.mem_cons, not_or] at hb
          unfold wipeD
          rw [ih hb.2, List.set_comm _ _ hb.1]
      rw [q vs hi, List.set_set]
/-- what a target changes: the slots ns alone -/
def Only1 (ns : List Nat) (σ σ' : St) (ρ ρ' : List Sl) : Prop := ∀ vs : List Nat, (∀ i ∈ ns, i ∈ vs) → wipe σ' vs = wipe σ vs ∧ wipeD ρ' vs = wipeD ρ vs
abbrev DG := PyData → List Sl → (List Sl → Prop) → Prop
structure GD (Wo : Wd S) (X : Cx) (tg : Expr) (t : TG) (ns : List Nat) (g : DG) : Prop where
  pe : PG X tg t
  go : ∀ (c : Cn Wo) σ H ρ s v d Qd Q, EnvD X.K c σ H ρ s → Dv X.K (hd H (c.hs ρ)) v d → g d ρ Qd → (∀ σ' ρ', EnvD X.K c σ' H ρ' s → Stp c ρ ρ' H H → Only1 ns σ σ' ρ ρ' → Qd ρ' → Q σ' H) → t v σ H Q
def gN (i : Nat) : DG := fun d ρ Q => Q (ρ.set i (.d d))
theorem gd_name (i : Nat) {x : Str} (hN : X.N.Nodup) (hi : X.N[i]? = some x) (hx : Loc X.env.scope x) (hf : X.fn x = true ∨ X.env.scope.names.lookup x = some .local := by first | exact .inl rfl | exact .inr rfl | assumption) : GD Wo X (.Name x pos) (gName i) [i] (gN i) :=
  ⟨pg_name hN hi hx hf, fun c σ H ρ s v d Qd Q E dv hw hq => by
    obtain ⟨E1, st⟩ := E.setD (i := i) (x := .d d) (v := v) rfl ⟨v, rfl, dv⟩
    exact hq _ _ E1 st (fun vs h => ⟨wipe_set (h i (by simp)), wipeD_set (h i (by simp))⟩) hw⟩
structure GDs (Wo : Wd S) (X : Cx) (tgs : List Expr) (t : TGs) (ns : List Nat) (g : List PyData → List Sl → (List Sl → Prop) → Prop) : Prop where
  pe : PGs X tgs t
  go : ∀ (c : Cn Wo) σ H ρ s vs ds Qd Q, EnvD X.K c σ H ρ s → DvAll X.K (hd H (c.hs ρ)) vs ds → g ds ρ Qd → (∀ σ' ρ', EnvD X.K c σ' H ρ' s → Stp c ρ ρ' H H → Only1 ns σ σ' ρ ρ' → Qd ρ' → Q σ' H) → t vs σ H Q
def gNs : List PyData → List Sl → (List Sl → Prop) → Prop
  | [], ρ, Q => Q ρ
  | _ :: _, _, _ => False
def gCs (g : DG) (r : List PyData → List Sl → (List Sl → Prop) → Prop) : List PyData → List Sl → (List Sl → Prop) → Prop
  | d :: ds, ρ, Q => g d ρ fun ρ' => r ds ρ' Q
  | [], _, _ => False
theorem gds_nil : GDs Wo X [] gNil [] gNs := ⟨pgs_nil, fun c σ H ρ s vs ds Qd Q E dv hw hq => by
  cases ds with
  | nil => cases dv; exact ⟨rfl, hq σ ρ E (Same.refl _) (fun _ _ => ⟨rfl, rfl⟩) hw⟩
  | cons _ _ => exact hw.elim⟩
theorem gds_cons {tg : Expr} {tgs : List Expr} {t : TG} {ts : TGs} {n1 n2 : List Nat} {g : DG} {r : List PyData → List Sl → (List Sl → Prop) → Prop} (h1 : GD Wo X tg t n1 g) (h2 : GDs Wo X tgs ts n2 r) (hs : (assignEach (tg :: tgs) X.env).map (·.2) = assign tg X.env :: (assignEach tgs X.env).map (·.2) := by rfl) :
    GDs Wo X (tg :: tgs) (gCons t ts) (n1 ++ n2) (gCs g r) := ⟨pgs_cons h1.pe h2.pe hs, fun c σ H ρ s vs ds Qd Q E dv hw hq => by
  cases ds with
  | nil => exact hw.elim
  | cons d ds =>
    cases dv with
    | cons a b => exact ⟨_, _, rfl, h1.go c σ H ρ s _ d _ _ E a hw fun σ1 ρ1 E1 st1 o1 q1 => h2.go c σ1 H ρ1 s _ ds _ _ E1 (DvAll.same st1 _ _ b) q1 fun σ2 ρ2 E2 st2 o2 q2 => hq σ2 ρ2 E2 (st1.trans st2) (fun vs h => by
      obtain ⟨a1, b1⟩ := o1 vs fun i hi => h i (List.mem_append_left _ hi)
      obtain ⟨a2, b2⟩ := o2 vs fun i hi => h i (List.mem_append_right _ hi)
      exact ⟨a2.trans a1, b2.trans b1⟩) q2⟩⟩
def gT (n : Nat) (r : List PyData → List Sl → (List Sl → Prop) → Prop) : DG := fun d ρ Q => match d with
  | .tuple ds => ds.length = n ∧ r ds ρ Q
  | _ => False
theorem gd_tup {tgs : List Expr} {k n : Nat} {ts : TGs} {r : List PyData → List Sl → (List Sl → Prop) → Prop} {ns : List Nat} (hc : X.calm = true) (h : GDs Wo X tgs ts ns r) 
    (hn : (assignEach tgs X.env).length = n := by rfl) (hst : (assignEach tgs X.env).findIdx? (·.1) = none := by rfl) : GD Wo X (.Tuple tgs k pos) (gTup X.K n ts) ns (gT n r) :=
  ⟨pg_tup hc h.pe hn hst, fun c σ H ρ s v d Qd Q E dv hw hq => by
    cases d with
    | tuple ds =>
      cases dv with
      | tup h1 n1 a1 => exact ⟨_, _, rfl, same_seqT (hd_to _ _) h1, by rw [a1.length]; exact hw.1, h.go c σ H ρ s _ ds Qd Q E a1 hw.2 hq⟩
    | _ => exact hw.elim⟩
def wAsg {S : Type} (w : DE S) (g : DG) : DS S := fun ρ s D => w ρ s (fun d s1 => g d ρ fun ρ' => D.nx ρ' s1) fun e s' => D.er e ρ s'
theorem sd_asg {tg : Expr} {w : DE S} {t : TG} {ns : List Nat} {g : DG} (h : ED Wo X W e ta w) (hg : GD Wo X tg t ns g) (hs : swapsWithSole [tg] e pos.line X.env = pure false := by rfl) (hw : swappedStores [tg] e X.env = pure none := by rfl)
    (h1 : (assignEach [tg] X.env).map (·.2) = [assign tg X.env] := by rfl) : SD Wo X W (.Assign [tg] e pos) (tAsg ta t) (wAsg w g) :=
  ⟨ps_asg h.pe hg.pe hs hw h1, fun c σ H ρ s Dd D E hw to => h.go c σ H ρ s _ _ _ E hw (fun v H' d s' E' st' dv q => hg.go c σ H' ρ s' v d _ _ E' dv q fun σ2 ρ2 E2 st2 _ q2 => to.nx σ2 H' ρ2 s' E2 (st'.trans st2) q2) (to.err σ ρ)⟩
theorem sd_set (i : Nat) {x : Str} {pos' : Pos} {w : DE S} (hN : X.N.Nodup) (hi : X.N[i]? = some x) (hx : Loc X.env.scope x) (h : ED Wo X W e ta w) (hs : swapsWith e (some (.Name x pos')) pos.line X.env = pure false := by rfl) (hf : X.fn x = true ∨ X.env.scope.names.lookup x = some .local := by first | exact .inl rfl | exact .inr rfl | assumption) :
    SD Wo X W (.Assign [.Name x pos'] e pos) (tAsg ta (gName i)) (wAsg w (gN i)) :=
  ⟨ps_set hN hi hx h.pe hs hf, fun c σ H ρ s Dd D E hw to => h.go c σ H ρ s _ _ _ E hw (fun v H' d s' E' st' dv q => by
    obtain ⟨E1, st⟩ := E'.setD (i := i) (x := .d d) (v := v) rfl ⟨v, rfl, dv⟩
    exact to.nx _ H' _ s' E1 (st'.trans st) q) (to.err σ ρ)⟩
end
end Dt

set_option Elab.async false
set_option linter.all false
set_option autoImplicit false
set_option maxRecDepth 100000
namespace Dt
open PySem PySem.Spec L2

/-! ### what is walked -/
structure ItD (K : PySem.W.Frag) (l : List Addr) (H1 : Hp) (J : It) (ds : List PyData) : Prop where
  go : ∀ (l' : List Addr) (H : Hp) (i : Nat), Same (hd H1 l) (hd H l') → i < ds.length → J.go i H
  stop : ∀ (l' : List Addr) (H : Hp) (i : Nat), Same (hd H1 l) (hd H l') → ds.length ≤ i → J.stop i H
  yld : ∀ (l' : List Addr) (H : Hp) (i : Nat) (x : V) (H' : Hp) (d : PyData), Same (hd H1 l) (hd H l') → (∀ a ∈ l', H a ≠ none) → J.yld i H x H' → ds[i]? = some d → Same H H' ∧ Dv K (hd H' l') x d
structure ID {S : Type} (Wo : Wd S) (X : Cx) (W : WX) (tg iter : Expr) (wi : TI) (w : DL S) : Prop where
  pe : PI X tg iter wi
  go : ∀ (c : Cn Wo) σ H ρ s Qd Ed R, EnvD X.K c σ H ρ s → w ρ s Qd Ed →
    (∀ J H1 ds s1, EnvD X.K c σ H1 ρ s1 → Stp c ρ ρ H H1 → ItD X.K (c.hs ρ) H1 J ds → ds.length ≤ limL → Qd ds s1 → R J H1) → ErTo X.K c σ ρ Ed W → wi σ H R
/-! ### for -/
def wLoop {S : Type} (g : DG) (b : DS S) : List PyData → DS S
  | [], ρ, s, D => D.nx ρ s
  | d :: ds, ρ, s, D => g d ρ fun ρ1 => b ρ1 s { D with nx := fun ρ2 s2 => wLoop g b ds ρ2 s2 D, ct := fun ρ2 s2 => wLoop g b ds ρ2 s2 D, bk := D.nx }
def wFor {S : Type} (w : DL S) (g : DG) (b : DS S) : DS S := fun ρ s D => w ρ s (fun ds s1 => wLoop g b ds ρ s1 D) fun e s' => D.er e ρ s'
theorem drop_cons {α : Type} {l : List α} {i : Nat} (h : i < l.length) : l.drop i = l[i] :: l.drop (i + 1) := List.drop_eq_getElem_cons h
section
variable {S : Type} {Wo : Wd S} {X : Cx} {W : WX} {ta tb tc te : TE} {tt : TT} {t u : TS} {wi : TI} {tg iter e elt : Expr} {body : List Stmt} {pos : Pos}
theorem sd_for {w : DL S} {g : TG} {ns : List Nat} {gd : DG} {b : DS S} (hp : PassesOwn (model X.prog X.w) X.A X.env X.xe) (hc : X.calm = true) (hi : ID Wo X W tg iter wi w) (hg : GD Wo X tg g ns gd) (hb : SSD Wo X W body t b)
    (hs : ∀ x, foldedSetIterable iter X.env x = pure x := by intro _; rfl) : SD Wo X W (.For tg iter body [] pos) (tFor wi g t) (wFor w gd b) :=
  ⟨ps_for hp hc hi.pe hg.pe hb.pe hs, fun c σ H ρ s Dd D E hw to => hi.go c σ H ρ s _ _ _ E hw (fun J H1 ds s1 E1 st1 it n1 q1 => by
    refine ⟨fun i m σ' H' => m = ds.length - i ∧ i ≤ ds.length ∧ ∃ ρ' s', EnvD X.K c σ' H' ρ' s' ∧ Stp c ρ ρ' H1 H' ∧ wLoop gd b (ds.drop i) ρ' s' Dd, ⟨_, rfl, Nat.zero_le _, ρ, s1, E1, Same.refl _, q1⟩, ?_⟩
    rintro i m σ' H' ⟨rfl, hi', ρ', s', E', st', q'⟩
    by_cases hlt : i < ds.length
    · refine .inr ⟨it.go _ _ _ st' hlt, fun σ2 H2 => ∃ ρ2 s2, EnvD X.K c σ2 H2 ρ2 s2 ∧ Stp c ρ ρ2 H1 H2 ∧ wLoop gd b (ds.drop (i + 1)) ρ2 s2 Dd, fun σ2 H2 ⟨ρ2, s2, E2, st2, q2⟩ => ⟨ds.length - (i + 1), by omega, rfl, hlt, ρ2, s2, E2, st2, q2⟩, fun x H2 y => ?_⟩
      obtain ⟨sm, dv⟩ := it.yld _ _ _ _ _ ds[i] st' E'.tr y (List.getElem?_eq_getElem hlt)
      rw [drop_cons hlt] at q'
      refine hg.go c σ' H2 ρ' s' x ds[i] _ _ (E'.grow sm) dv q' fun σ3 ρ3 E3 st3 _ q3 => ?_
      have stA : Stp c ρ ρ3 H1 H2 := st'.trans ((stp_grow sm).trans st3)
      have stB : Stp c ρ ρ3 H H2 := st1.trans stA
      exact hb.go c σ3 H2 ρ3 s' _ _ E3 q3 ⟨fun σ4 H4 ρ4 s4 E4 st4 q4 => ⟨ρ4, s4, E4, stA.trans st4, q4⟩, fun σ4 H4 ρ4 s4 E4 st4 q4 => to.nx σ4 H4 ρ4 s4 E4 (stB.trans st4) q4, fun σ4 H4 ρ4 s4 E4 st4 q4 => ⟨ρ4, s4, E4, stA.trans st4, q4⟩, to.rt, to.er⟩
    · have e : i = ds.length := by omega
      subst e
      rw [List.drop_length] at q'
      exact .inl ⟨it.stop _ _ _ st' (Nat.le_refl _), to.nx σ' H' ρ' s' E' (st1.trans st') q'⟩) (to.err σ ρ)⟩
/-! ### comprehensions -/
def noOwn (ρ : List Sl) (vs : List Nat) : Bool := vs.all fun i => match ρ[i]? with
  | some (.own _ _) => false
  | some (.ownK _ _) => false
  | some (.ownT _ _) => false
  | _ => true
def noE {S : Type} : Er → S → Prop := fun _ _ => False
def wCompL {S : Type} (g : DG) (wt : DT S) (we : DE S) (vs : List Nat) (ρ : List Sl) : List PyData → S → (List PyData → S → Prop) → Prop
  | [], s, Q => Q [] s
  | d :: ds, s, Q => g d ρ fun ρ1 => noOwn ρ1 vs = true ∧ wt ρ1 s (fun b s1 => if b = true then we ρ1 s1 (fun y s2 => wCompL g wt we vs ρ ds s2 fun ys s3 => Q (y :: ys) s3) noE else wCompL g wt we vs ρ ds s1 Q) noE
def wComp {S : Type} (w : DL S) (g : DG) (wt : DT S) (we : DE S) (vs : List Nat) : DL S := fun ρ s Q E => noOwn ρ vs = true ∧ w ρ s (fun ds s1 => wCompL g wt we vs (wipeD ρ vs) ds s1 Q) E
theorem owns_set {ρ : List Sl} {i : Nat} {x : Sl} (h : ∀ y, ρ[i]? = some y → own1 y = []) (hx : own1 x = []) : owns (ρ.set i x) = owns ρ := by
  induction ρ generalizing i with
  | nil => rfl
  | cons y r ih =>
    cases i with
    | zero =>
      have := h y rfl
      show own1 x ++ owns r = own1 y ++ owns r
      rw [hx, this]
    | succ i =>
      show own1 y ++ owns (r.set i x) = own1 y ++ owns r
      rw [ih fun z hz => h z (by simpa using hz)]
theorem noOwn_at {ρ : List Sl} {vs : List Nat} (h : noOwn ρ vs = true) {i : Nat} (hi : i ∈ vs) : ∀ y, ρ[i]? = some y → own1 y = [] := fun y e => by
  have := List.all_eq_true.mp h i hi
  rw [e] at this
  cases y <;> first | rfl | cases this
theorem wipeD_at {ρ : List Sl} : ∀ {vs : List Nat} {i : Nat} {y : Sl}, (wipeD ρ vs)[i]? = some y → y = .no ∨ (ρ[i]? = some y ∧ i ∉ vs)
  | [], i, y, h => .inr ⟨h, by simp⟩
  | v :: vs, i, y, h => by
    unfold wipeD at h
    by_cases e : v = i
    · subst e
      by_cases hl : v < (wipeD ρ vs).length
      · rw [List.getElem?_set_self hl] at h; cases h; exact .inl rfl
      · rw [List.getElem?_eq_none (by simpa using hl)] at h; cases h
    · rw [List.getElem?_set_ne e] at h
      rcases wipeD_at h with z | ⟨z, n⟩
      · exact .inl z
      · exact .inr ⟨z, by simp only [List.mem_cons, not_or]; exact ⟨fun q => e q.symm, n⟩⟩
theorem wipeD_out {ρ : List Sl} {i : Nat} : ∀ {vs : List Nat}, i ∉ vs → (wipeD ρ vs)[i]? = ρ[i]?
  | [], _ => rfl
  | v :: vs, h => by
    simp only [List.mem_cons, not_or] at h
    unfold wipeD
    rw [List.getElem?_set_ne (fun e => h.1 e.symm)]
    exact wipeD_out h.2
theorem wipeD_len {ρ : List Sl} : ∀ {vs : List Nat}, (wipeD ρ vs).length = ρ.length
  | [] => rfl
  | v :: vs => by unfold wipeD; rw [List.length_set, wipeD_len]
theorem owns_wipe {ρ : List Sl} : ∀ {vs : List Nat}, noOwn ρ vs = true → owns (wipeD ρ vs) = owns ρ
  | [], _ => rfl
  | v :: vs, h => by
    have h2 : noOwn ρ vs = true := by
      unfold noOwn at h ⊢
      rw [List.all_cons, Bool.and_eq_true] at h
      exact h.2
    unfold wipeD
    rw [owns_set _ rfl, owns_wipe h2]
    intro y e
    rcases wipeD_at e with z | ⟨z, _⟩
    · subst z; rfl
    · exact noOwn_at h List.mem_cons_self y z
theorem EnvD.wipe {K : PySem.W.Frag} {c : Cn Wo} {σ : St} {H : Hp} {ρ : List Sl} {s : S} (E : EnvD K c σ H ρ s) {vs : List Nat} (h : noOwn ρ vs = true) : EnvD K c (wipe σ vs) H (wipeD ρ vs) s := by
  have eo := owns_wipe h
  have eh : c.hs (wipeD ρ vs) = c.hs ρ := by show _ ++ owns _ = _; rw [eo]
  refine ⟨by rw [wipe_length, wipeD_len, E.len], fun i x hx => ?_, by rw [eh]; exact E.nd, by rw [eh]; exact E.tr, E.g, E.ext, by rw [eo]; exact E.new⟩
  rcases wipeD_at hx with z | ⟨z, n⟩
  · subst z
    have hl : i < (L2.wipe σ vs).length := by
      rw [wipe_length, E.len, ← wipeD_len (vs := vs)]
      exact (List.getElem?_eq_some_iff.mp hx).1
    exact ⟨_, List.getElem?_eq_getElem hl, trivial⟩
  · obtain ⟨o, h1, h2⟩ := E.slot i x z
    refine ⟨o, by rw [wipe_out n]; exact h1, ?_⟩
    rw [eh]
    exact h2
/-- back from the block: the slots that it had forgotten stand as data -/
theorem EnvD.unwipe {K : PySem.W.Frag} {c : Cn Wo} {c' : Cn Wo} {σ : St} {H H' : Hp} {ρ : List Sl} {s s' : S} {vs : List Nat} (E : EnvD K c σ H ρ s) (h : noOwn ρ vs = true) (E' : EnvD K c' (L2.wipe σ vs) H' (wipeD ρ vs) s') (st : Same (hd H (c.hs ρ)) (hd H' (c'.hs ρ))) : EnvD K c' σ H' ρ s' := by
  have eo := owns_wipe h
  have eh : c'.hs (wipeD ρ vs) = c'.hs ρ := by show _ ++ owns _ = _; rw [eo]
  refine ⟨E.len, fun i x hx => ?_, by rw [← eh]; exact E'.nd, by rw [← eh]; exact E'.tr, E'.g, E'.ext, by rw [← eo]; exact E'.new⟩
  by_cases hv : i ∈ vs
  · obtain ⟨o, h1, h2⟩ := E.slot i x hx
    exact ⟨o, h1, h2.same st fun p z _ => absurd (noOwn_at h hv _ hx) (by rw [z]; simp)⟩
  · obtain ⟨o, h1, h2⟩ := E'.slot i x (by rw [wipeD_out hv]; exact hx)
    rw [wipe_out hv] at h1
    rw [eh] at h2
    exact ⟨o, h1, h2⟩
/-- what a body may change: a list, a dict -/
def Chg (o : HO) : Prop := (∃ xs, o = .lst xs) ∨ (∃ xs, o = .dK xs) ∨ ∃ xs, o = .dT xs
theorem upd_same_orG {H : Hp} {p b : Addr} {o o2 : HO} (hl : ∃ u, H p = some u ∧ Chg u) (q : H b = some o2) (n : ∀ xs, o2 ≠ .lst xs) (n2 : ∀ xs, o2 ≠ .dK xs) (n3 : ∀ xs, o2 ≠ .dT xs) : upd H p o b = some o2 := by
  obtain ⟨u, hl, hc⟩ := hl
  have : b ≠ p := fun e => by
    rw [e, hl] at q
    cases q
    rcases hc with ⟨xs, z⟩ | ⟨xs, z⟩ | ⟨xs, z⟩
    · exact n xs z
    · exact n2 xs z
    · exact n3 xs z
  rw [upd_ne this]; exact q
theorem upd_same_or {H : Hp} {p b : Addr} {o o2 : HO} (hl : ∃ xs, H p = some (.lst xs)) (q : H b = some o2) (n : ∀ xs, o2 ≠ .lst xs) (n2 : ∀ xs, o2 ≠ .dK xs) (n3 : ∀ xs, o2 ≠ .dT xs) : upd H p o b = some o2 :=
  upd_same_orG (let ⟨xs, e⟩ := hl; ⟨_, e, .inl ⟨xs, rfl⟩⟩) q n n2 n3
/-- a hidden list that is no variable's is changed -/
theorem EnvD.updHidG {K : PySem.W.Frag} {c : Cn Wo} {σ : St} {H : Hp} {ρ : List Sl} {s : S} {p : Addr} {o : HO} (E : EnvD K (c.hide p) σ H ρ s) (h0 : c.H0 p = none) (hl : ∃ u, H p = some u ∧ Chg u) : EnvD K (c.hide p) σ (upd H p o) ρ s ∧ hd (upd H p o) ((c.hide p).hs ρ) = hd H ((c.hide p).hs ρ) := by
  have hin : p ∈ (c.hide p).hs ρ := hs_hide_mem.mpr (.inl rfl)
  have np : p ∉ c.hs ρ := (nodup_mid.mp E.nd).1
  have eh : hd (upd H p o) ((c.hide p).hs ρ) = hd H ((c.hide p).hs ρ) := by
    funext b
    by_cases hb : b ∈ (c.hide p).hs ρ
    · rw [hd_in hb, hd_in hb]
    · rw [hd_out hb, hd_out hb, upd_ne (fun (e : b = p) => hb (by rw [e]; exact hin))]
  refine ⟨⟨E.len, fun i x hx => ?_, E.nd, fun a ha => ?_, Wo.st s H _ E.g (fun a ha => upd_ne fun e => np (List.mem_append_left _ (List.mem_append_left _ (e ▸ ha)))) (fun b o2 q n n2 n3 => upd_same_orG (o := o) hl q n n2 n3), fun b u hb n => ?_, E.new⟩, eh⟩
  · obtain ⟨v, h1, h2⟩ := E.slot i x hx
    refine ⟨v, h1, ?_⟩
    rw [eh]
    exact h2.same (Same.refl _) fun q z _ => upd_ne fun e => np (List.mem_append_right _ (e ▸ own_memG hx z))
  · by_cases e : a = p
    · subst e; rw [upd_same]; exact fun z => nomatch z
    · rw [upd_ne e]; exact E.tr a ha
  · have e : b ≠ p := fun e => by subst e; have hb : c.H0 b = some u := hb; rw [h0] at hb; cases hb
    rw [upd_ne e]
    exact E.ext b u hb n
theorem EnvD.updHid {K : PySem.W.Frag} {c : Cn Wo} {σ : St} {H : Hp} {ρ : List Sl} {s : S} {p : Addr} {o : HO} (E : EnvD K (c.hide p) σ H ρ s) (h0 : c.H0 p = none) (hl : ∃ xs, H p = some (.lst xs)) : EnvD K (c.hide p) σ (upd H p o) ρ s ∧ hd (upd H p o) ((c.hide p).hs ρ) = hd H ((c.hide p).hs ρ) :=
  E.updHidG h0 (let ⟨xs, e⟩ := hl; ⟨_, e, .inl ⟨xs, rfl⟩⟩)
/-- the context of a turn: what is hidden now must stay -/
def Cn.base (c : Cn Wo) (H : Hp) (ρ : List Sl) : Cn Wo := ⟨c.R, fun b => if b ∈ owns ρ then none else H b⟩
theorem EnvD.rebase {K : PySem.W.Frag} {c : Cn Wo} {σ : St} {H : Hp} {ρ : List Sl} {s : S} (E : EnvD K c σ H ρ s) : EnvD K (c.base H ρ) σ H ρ s :=
  ⟨E.len, E.slot, E.nd, E.tr, E.g, fun b o h _ => by
    have h : (if b ∈ owns ρ then none else H b) = some o := h
    split at h
    · cases h
    · exact h, fun p hp => if_pos hp⟩
theorem EnvD.unbase {K : PySem.W.Frag} {c : Cn Wo} {σ σ' : St} {H H' : Hp} {ρ : List Sl} {s s' : S} (E : EnvD K c σ H ρ s) (E' : EnvD K (c.base H ρ) σ' H' ρ s') : EnvD K c σ' H' ρ s' :=
  ⟨E'.len, E'.slot, E'.nd, E'.tr, E'.g, fun b o h n => E'.ext b o (by
    show (if b ∈ owns ρ then none else H b) = some o
    rw [if_neg fun z => by have := E.new b z; rw [h] at this; cases this]
    exact E.ext b o h n) n, E.new⟩
theorem Cn.hs_base (c : Cn Wo) (H : Hp) (ρ ρ' : List Sl) : (c.base H ρ).hs ρ' = c.hs ρ' := rfl
def WF : WX := fun _ _ _ _ => False
structure PTD (Wo : Wd S) (X : Cx) (W : WX) (ifs : List Expr) (t : TT) (w : DT S) : Prop where
  pe : PTs X ifs t
  go : ∀ (c : Cn Wo) σ H ρ s Qd Ed Q, EnvD X.K c σ H ρ s → w ρ s Qd Ed → BTo X.K c σ H ρ Qd Q → ErTo X.K c σ ρ Ed W → t σ H Q
def wYes {S : Type} : DT S := fun _ s Q _ => Q true s
theorem ptd_nil : PTD Wo X W [] tYes wYes := ⟨pts_nil, fun c σ H ρ s Qd Ed Q E hw hq he => hq true H s E (Same.refl _) hw⟩
theorem ptd_one {k : Expr} {w : DT S} (h : TD Wo X W k tt w) : PTD Wo X W [k] tt w := ⟨pts_one h.pe, h.go⟩
theorem tLc_go {w : DL S} {g : TG} {ns : List Nat} {gd : DG} {wt : DT S} {we : DE S} {vs : List Nat} {X' : Cx} (hK : X'.K = X.K) (hns : ∀ i ∈ ns, i ∈ vs)
    (hi : ID Wo X W tg iter wi w) (hg : ∀ (c : Cn Wo) σ H ρ s v d Qd Q, EnvD X.K c σ H ρ s → Dv X.K (hd H (c.hs ρ)) v d → gd d ρ Qd → (∀ σ' ρ', EnvD X.K c σ' H ρ' s → Stp c ρ ρ' H H → Only1 ns σ σ' ρ ρ' → Qd ρ' → Q σ' H) → g v σ H Q)
    (ht : ∀ (c : Cn Wo) σ H ρ s Qd Ed Q, EnvD X.K c σ H ρ s → wt ρ s Qd Ed → BTo X.K c σ H ρ Qd Q → ErTo X.K c σ ρ Ed WF → tt σ H Q)
    (he : ∀ (c : Cn Wo) σ H ρ s Qd Ed Q, EnvD X.K c σ H ρ s → we ρ s Qd Ed → VTo X.K c σ H ρ Qd Q → ErTo X.K c σ ρ Ed WF → te σ H Q)
    {c : Cn Wo} {σ : St} {H : Hp} {ρ : List Sl} {s : S} {Qd : List PyData → S → Prop} {Ed : Er → S → Prop} {Q : VK} (E : EnvD X.K c σ H ρ s) (hw : wComp w gd wt we vs ρ s Qd Ed)
    (hq : ∀ p ws H' ds s', EnvD X.K (c.hide p) σ H' ρ s' → Same (hd H (c.hs ρ)) (hd H' ((c.hide p).hs ρ)) → H' p = some (.lst ws) → DvAll X.K (hd H' ((c.hide p).hs ρ)) ws ds → ds.length ≤ limL → H p = none → Qd ds s' → Q (.ref p) H')
    (her : ErTo X.K c σ ρ Ed W) : tLc wi g tt te vs σ H Q := by
  obtain ⟨hno, hw⟩ := hw
  refine hi.go c σ H ρ s _ _ _ E hw (fun J H1 ds s1 E1 st1 it n1 q1 => fun D hD => ?_) her
  have hDH : H D = none := by
    cases q : H D with
    | none => rfl
    | some u =>
      by_cases z : D ∈ c.hs ρ
      · exact absurd hD (E1.tr D z)
      · have := hd_to _ _ _ _ (st1 D u (hd_some.mpr ⟨z, q⟩))
        rw [hD] at this; cases this
  have hD0 : c.H0 D = none := by
    cases q : c.H0 D with
    | none => rfl
    | some u =>
      by_cases z : D ∈ c.W.wa
      · exact absurd hD (E1.tr D (List.mem_append_left _ (List.mem_append_left _ z)))
      · have := E1.ext D u q z
        rw [hD] at this; cases this
  obtain ⟨E2, sm2⟩ := E1.hideNew (o := .lst []) hD
  have eo := owns_wipe hno
  have eh : (c.hide D).hs (wipeD ρ vs) = (c.hide D).hs ρ := by show _ ++ owns _ = _; rw [eo]
  have E3 := E2.wipe hno
  refine ⟨fun i m H' => m = ds.length - i ∧ i ≤ ds.length ∧ ∃ s' acc ws, EnvD X.K (c.hide D) (wipe σ vs) H' (wipeD ρ vs) s' ∧ Same (hd H1 (c.hs ρ)) (hd H' ((c.hide D).hs ρ)) ∧ H' D = some (.lst ws) ∧ DvAll X.K (hd H' ((c.hide D).hs ρ)) ws acc ∧ acc.length ≤ i ∧
    wCompL gd wt we vs (wipeD ρ vs) (ds.drop i) s' (fun ys s'' => Qd (acc ++ ys) s''), ⟨_, rfl, Nat.zero_le _, s1, [], [], E3, sm2, upd_same, .nil, Nat.zero_le _, q1⟩, ?_⟩
  rintro i m H' ⟨rfl, hi', s', acc, ws, E', sm', hDl, hacc, hlen, q'⟩
  by_cases hlt : i < ds.length
  · refine .inr ⟨it.go _ _ _ sm' hlt, fun H2 => ∃ s2 acc2 ws2, EnvD X.K (c.hide D) (wipe σ vs) H2 (wipeD ρ vs) s2 ∧ Same (hd H1 (c.hs ρ)) (hd H2 ((c.hide D).hs ρ)) ∧ H2 D = some (.lst ws2) ∧ DvAll X.K (hd H2 ((c.hide D).hs ρ)) ws2 acc2 ∧ acc2.length ≤ i + 1 ∧
      wCompL gd wt we vs (wipeD ρ vs) (ds.drop (i + 1)) s2 (fun ys s'' => Qd (acc2 ++ ys) s''), fun H2 ⟨s2, acc2, ws2, a, b, c', d, e, f⟩ => ⟨ds.length - (i + 1), by omega, rfl, hlt, s2, acc2, ws2, a, b, c', d, e, f⟩, fun x H2 y => ?_⟩
    have tr' : ∀ a ∈ (c.hide D).hs ρ, H' a ≠ none := fun a ha => E'.tr a (eh ▸ ha)
    obtain ⟨sm, dv⟩ := it.yld _ _ _ _ _ ds[i] sm' tr' y (List.getElem?_eq_getElem hlt)
    rw [drop_cons hlt] at q'
    have E4 := E'.grow sm
    have hDl2 : H2 D = some (.lst ws) := sm _ _ hDl
    have st4 : Same (hd H' ((c.hide D).hs ρ)) (hd H2 ((c.hide D).hs ρ)) := hd_same _ fun b u _ q => sm b u q
    refine hg (c.hide D) (wipe σ vs) H2 (wipeD ρ vs) s' x ds[i] _ _ E4 (by rw [eh]; exact dv) q' fun σ5 ρ5 E5 st5 o5 q5 => ?_
    obtain ⟨hno5, q5⟩ := q5
    obtain ⟨w5, d5⟩ := o5 vs hns
    have w5' : wipe σ5 vs = wipe σ vs := by
      rw [w5]
      have : ∀ us : List Nat, (∀ i ∈ us, i ∈ vs) → wipe (wipe σ us) vs = wipe σ vs := by
        intro us
        induction us with
        | nil => intro _; rfl
        | cons a us ih =>
          intro h
          show wipe ((wipe σ us).set a none) vs = _
          rw [wipe_set (h a List.mem_cons_self), ih fun i hi => h i (List.mem_cons_of_mem _ hi)]
      exact this vs fun _ h => h
    have d5' : wipeD ρ5 vs = wipeD ρ vs := by
      rw [d5]
      have : ∀ us : List Nat, (∀ i ∈ us, i ∈ vs) → wipeD (wipeD ρ us) vs = wipeD ρ vs := by
        intro us
        induction us with
        | nil => intro _; rfl
        | cons a us ih =>
          intro h
          show wipeD ((wipeD ρ us).set a .no) vs = _
          rw [wipeD_set (h a List.mem_cons_self), ih fun i hi => h i (List.mem_cons_of_mem _ hi)]
      exact this vs fun _ h => h
    refine ⟨by rw [w5'], ?_⟩
    have eo5 : owns ρ5 = owns ρ := by rw [← owns_wipe hno5, d5', eo]
    have eh5 : (c.hide D).hs ρ5 = (c.hide D).hs ρ := by show _ ++ owns _ = _; rw [eo5]
    have DR : D ∉ owns ρ5 := fun z => by
      rw [eo5] at z
      exact (nodup_mid.mp E2.nd).1 (List.mem_append_right _ z)
    have Dw : D ∉ Wo.wa := fun z => (nodup_mid.mp E2.nd).1 (List.mem_append_left _ (List.mem_append_left _ z))
    -- the heap behind an evaluation within the turn
    have back : ∀ {H6 : Hp} {s6 : S}, EnvD X.K ((c.hide D).base H2 ρ5) σ5 H6 ρ5 s6 → Stp ((c.hide D).base H2 ρ5) ρ5 ρ5 H2 H6 → H6 D = some (.lst ws) ∧ EnvD X.K (c.hide D) σ5 H6 ρ5 s6 ∧ Same (hd H2 ((c.hide D).hs ρ)) (hd H6 ((c.hide D).hs ρ)) := fun {H6 s6} E6 st6 => by
      refine ⟨E6.ext D _ ?_ Dw, E5.unbase E6, ?_⟩
      · show (if D ∈ owns ρ5 then none else H2 D) = some (.lst ws)
        rw [if_neg DR]; exact hDl2
      · have := st6
        unfold Stp at this
        rw [Cn.hs_base, eh5] at this
        exact this
    refine ht ((c.hide D).base H2 ρ5) σ5 H2 ρ5 s' _ _ _ E5.rebase q5 (fun b H6 s6 E6 st6 q6 => ?_) fun _ _ _ _ _ _ _ z => z.elim
    cases b with
    | true =>
      rw [if_pos rfl] at q6 ⊢
      refine he ((c.hide D).base H2 ρ5) σ5 H6 ρ5 s6 _ _ _ E6 q6 (fun v H7 d7 s7 E7 st7 dv7 q7 => ?_) fun _ _ _ _ _ _ _ z => z.elim
      obtain ⟨hD7, E7', sm7⟩ := back E7 (st6.trans st7)
      have n7 : acc.length < sizeLine := Nat.lt_of_le_of_lt hlen (Nat.lt_of_lt_of_le hlt (Nat.le_trans n1 limL_size))
      have dv7 : Dv X.K (hd H7 ((c.hide D).hs ρ)) v d7 := by
        rw [Cn.hs_base, eh5] at dv7
        exact dv7
      obtain ⟨E8, e8⟩ := E7'.updHid (o := .lst (ws ++ [v])) hD0 ⟨_, hD7⟩
      rw [eh5] at e8
      have E9 := E8.wipe hno5
      rw [w5', d5'] at E9
      refine ⟨ws, hD7, by rw [hacc.length]; exact n7, s7, acc ++ [d7], ws ++ [v], E9, ?_, upd_same, ?_, by rw [List.length_append, List.length_singleton]; omega, ?_⟩
      · rw [e8]; exact sm'.trans (st4.trans sm7)
      · rw [e8]; exact (DvAll.same (st4.trans sm7) _ _ hacc).append (.cons dv7 .nil)
      · have e : (fun (ys : List PyData) (s'' : S) => Qd ((acc ++ [d7]) ++ ys) s'') = fun ys s'' => Qd (acc ++ (d7 :: ys)) s'' := by
          funext ys s''
          rw [List.append_assoc]; rfl
        rw [e]
        exact q7
    | false =>
      rw [if_neg Bool.false_ne_true] at q6 ⊢
      obtain ⟨hD7, E7', sm7⟩ := back E6 st6
      have E9 := E7'.wipe hno5
      rw [w5', d5'] at E9
      exact ⟨s6, acc, ws, E9, sm'.trans (st4.trans sm7), hD7, DvAll.same (st4.trans sm7) _ _ hacc, Nat.le_succ_of_le hlen, q6⟩
  · have e : i = ds.length := by omega
    subst e
    rw [List.drop_length] at q'
    have q' : Qd (acc ++ []) s' := q'
    rw [List.append_nil] at q'
    refine .inl ⟨it.stop _ _ _ sm' (Nat.le_refl _), hq D ws H' acc s' (E1.unwipe hno E' sm') (st1.trans sm') hDl hacc (Nat.le_trans hlen n1) hDH q'⟩
/-- [elt for tg in iter if ..] -/
theorem fd_lc {ifs : List Expr} {scope : Scope} {own : List (Str × Nat)} {w : DL S} {g : TG} {ns : List Nat} {gd : DG} {wt : DT S} {we : DE S} (hc : X.calm = true) (hN : X.N.Nodup) (hi : ID Wo X W tg iter wi w) (ok : BlkOk X.N X.env.scope scope own)
    (hg : ∀ (s : Shared) (H : Hp) (C : Addr) (cl : List (Str × Addr)) (fp : List Addr), GD Wo (X.blk s H scope (compEnvC scope cl C X.env) fp) tg g ns gd)
    (ht : ∀ (s : Shared) (H : Hp) (C : Addr) (cl : List (Str × Addr)) (fp : List Addr), PTD Wo (X.blk s H scope (compEnvC scope cl C X.env) fp) WF ifs tt wt)
    (he : ∀ (s : Shared) (H : Hp) (C : Addr) (cl : List (Str × Addr)) (fp : List Addr), ED Wo (X.blk s H scope (compEnvC scope cl C X.env) fp) WF elt te we) (hns : ∀ i ∈ ns, i ∈ own.map (·.2)) (hs : ∀ x, foldedSetIterable iter X.env x = pure x := by intro _; rfl) :
    FD Wo X W (.ListComp elt [⟨tg, iter, ifs, 0⟩] scope pos) (tLc wi g tt te (own.map (·.2))) (wComp w gd wt we (own.map (·.2))) :=
  ⟨pe_lc hc hN hi.pe ok (fun s H C cl fp => (hg s H C cl fp).pe) (fun s H C cl fp => (ht s H C cl fp).pe) (fun s H C cl fp => (he s H C cl fp).pe) hs, fun c σ H ρ s Qd Ed Q E hw hq her =>
    tLc_go (X' := X) rfl hns hi (hg X.s_0 (fun _ => none) 0 [] []).go (ht X.s_0 (fun _ => none) 0 [] []).go (he X.s_0 (fun _ => none) 0 [] []).go E hw hq her⟩
end
end Dt

set_option Elab.async false
set_option linter.all false
set_option autoImplicit false
set_option maxRecDepth 100000
namespace Dt
open PySem PySem.Spec L2

/-! ### a list, a tuple, a text, walked -/
def iSeq (K : PySem.W.Frag) (tl : TE) : TI := fun σ H R => tl σ H fun x H1 =>
  (∃ a, x = .ref a ∧ (∃ xs, SqL K H1 a xs) ∧ R (Itl K a) H1) ∨ (∃ a, x = .ref a ∧ (∃ xs, SqT K H1 a xs) ∧ R (Itt K a) H1) ∨ ∃ z, x = .str z ∧ R (Its z) H1
section
variable {X : Cx} {tg l : Expr} {tl : TE}
theorem pi_seq (hl : PE X l tl) : PI X tg l (iSeq X.K tl) := by
  constructor
  intro pins s σ H R I h
  apply thn (hl.run pins s σ H _ I h)
  rintro v s1 ⟨x, H1, I1, r1, q1⟩
  have new : ∀ (o : Obj), ∀ b ∈ [s1.heap.objs.size], FpOk X pins H1 b := by
    intro o b hb
    obtain rfl : b = s1.heap.objs.size := by simpa using hb
    exact I1.fpOk (Nat.le_refl _) (I1.hok.fresh (Nat.le_refl _))
  rcases q1 with ⟨a, rfl, ⟨xs, hq⟩, q⟩ | ⟨a, rfl, ⟨xs, hq⟩, q⟩ | ⟨z, rfl, q⟩
  · cases r1
    obtain ⟨its, rv, p, hz⟩ := I1.list hq
    apply wpAny_pyIter_list p.isList
    exact ⟨_, [s1.heap.objs.size], _, _, H1, rfl, I1.kept (t' := s1.toks) (fun b o e => Heap.get?_push_of_some _ e), turn_list a _, ⟨_, Heap.get?_push_size _ rfl, rfl, rfl⟩, new { cls := .none, data := .cell none }, q⟩
  · cases r1
    obtain ⟨its, rv, p, hz⟩ := I1.tuple hq
    apply wpAny_pyIter_tuple (show s1.heap.IsTuple a its.toArray from p)
    exact ⟨_, [s1.heap.objs.size], _, _, H1, rfl, I1.kept (t' := s1.toks) (fun b o e => Heap.get?_push_of_some _ e), turn_tuple a _, ⟨_, Heap.get?_push_size _ rfl, rfl, rfl⟩, new { cls := .none, data := .cell none }, q⟩
  · obtain ⟨t, rfl⟩ := r1
    by_cases ha : z.cps.all (· < 128) = true
    · apply wpAny_pyIter_ascii ha
      apply pi_one (tk := s1.toks) I1 _ (turn_str _ z t "str_ascii_iterator" (.inl rfl)) _ q
      exact ⟨_, Heap.get?_push_size _ rfl, rfl, rfl⟩
    · apply wpAny_pyIter_wide (by simpa using ha)
      apply pi_one (tk := s1.toks) I1 _ (turn_str _ z t "str_iterator" (.inr rfl)) _ q
      exact ⟨_, Heap.get?_push_size _ rfl, rfl, rfl⟩
end
def signs (x : Str) : List PyData := x.cps.toList.map fun c => .str ⟨#[c]⟩
def seqOf : PyData → (List PyData → Prop) → Prop
  | .list xs, Q => Q xs
  | .tuple xs, Q => Q xs
  | .str x, Q => Q (signs x)
  | _, _ => False
def wSeqI {S : Type} (w : DE S) : DL S := fun ρ s Q E => w ρ s (fun d s1 => seqOf d fun ds => Q ds s1) E
theorem itd_list {K : PySem.W.Frag} {l : List Addr} {H1 : Hp} {a : Addr} {vs : List V} {ds : List PyData} (h : hd H1 l a = some (.lst vs)) (dv : DvAll K (hd H1 l) vs ds) : ItD K l H1 (Itl K a) ds where
  go := fun l' H i st hi => by
    obtain ⟨x, hx, _⟩ := dv.get' (List.getElem?_eq_getElem hi)
    exact ⟨vs, x, SqL.of (hd_to _ _ _ _ (st _ _ h)), hx⟩
  stop := fun l' H i st hi => ⟨vs, SqL.of (hd_to _ _ _ _ (st _ _ h)), by rw [dv.length]; exact hi⟩
  yld := fun l' H i x H' d st tr y hd' => by
    obtain ⟨rfl, y⟩ := y
    have hx := y vs (SqL.of (hd_to _ _ _ _ (st _ _ h)))
    obtain ⟨d2, h2, dv2⟩ := dv.get hx
    rw [hd'] at h2; cases h2
    exact ⟨Same.refl _, Dv.same st _ _ dv2⟩
theorem itd_tup {K : PySem.W.Frag} {l : List Addr} {H1 : Hp} {a : Addr} {vs : List V} {ds : List PyData} (h : SqT K (hd H1 l) a vs) (dv : DvAll K (hd H1 l) vs ds) : ItD K l H1 (Itt K a) ds where
  go := fun l' H i st hi => by
    obtain ⟨x, hx, _⟩ := dv.get' (List.getElem?_eq_getElem hi)
    exact ⟨vs, x, same_seqT (st.trans (hd_to _ _)) h, hx⟩
  stop := fun l' H i st hi => ⟨vs, same_seqT (st.trans (hd_to _ _)) h, by rw [dv.length]; exact hi⟩
  yld := fun l' H i x H' d st tr y hd' => by
    obtain ⟨rfl, y⟩ := y
    have hx := y vs (same_seqT (st.trans (hd_to _ _)) h)
    obtain ⟨d2, h2, dv2⟩ := dv.get hx
    rw [hd'] at h2; cases h2
    exact ⟨Same.refl _, Dv.same st _ _ dv2⟩
theorem itd_str {K : PySem.W.Frag} {l : List Addr} {H1 : Hp} {z : Str} (ok : okS z) : ItD K l H1 (Its z) (signs z) where
  go := fun l' H i st hi => by
    show i < z.cps.size
    simpa [signs] using hi
  stop := fun l' H i st hi => by
    show z.cps.size ≤ i
    simpa [signs] using hi
  yld := fun l' H i x H' d st tr y hd' => by
    obtain ⟨rfl, c, hc, rfl⟩ := y
    have e : z.cps.toList[i]? = some c := by simpa using hc
    unfold signs at hd'
    rw [List.getElem?_map, e] at hd'
    cases hd'
    exact ⟨Same.refl _, .str (okS_sign ok (List.mem_of_getElem? e))⟩
section
variable {S : Type} {Wo : Wd S} {X : Cx} {W : WX} {ta tb tc te : TE} {tl : TA} {tt : TT} {t u : TS} {wi : TI} {tg iter e elt : Expr} {es : List Expr} {body : List Stmt} {pos p : Pos}
theorem id_seq {w : DE S} (h : ED Wo X W e ta w) : ID Wo X W tg e (iSeq X.K ta) (wSeqI w) :=
  ⟨pi_seq h.pe, fun c σ H ρ s Qd Ed R E hw hq he => h.go c σ H ρ s _ Ed _ E hw (fun v H1 d s1 E1 st1 dv q => by
    cases d with
    | list ds => cases dv with | lst a n b => exact .inl ⟨_, rfl, ⟨_, SqL.of (hd_to _ _ _ _ a)⟩, hq _ H1 ds s1 E1 st1 (itd_list a b) n q⟩
    | tuple ds => cases dv with | tup a n b => exact .inr (.inl ⟨_, rfl, ⟨_, same_seqT (hd_to _ _) a⟩, hq _ H1 ds s1 E1 st1 (itd_tup a b) n q⟩)
    | str z => cases dv with | str ok => exact .inr (.inr ⟨z, rfl, hq _ H1 _ s1 E1 st1 (itd_str ok) (by unfold signs; rw [List.length_map]; exact ok.1) q⟩)
    | _ => exact q.elim) he⟩
/-! ### range -/
def rngD (lo : Int) (n : Nat) : List PyData := (List.range n).map fun i => .int (lo + (i : Nat))
theorem itd_rng {K : PySem.W.Frag} {l : List Addr} {H1 : Hp} {lo : Int} {n : Nat} (h : ∀ i : Nat, i < n → okI (lo + (i : Nat))) : ItD K l H1 (Itr lo n) (rngD lo n) where
  go := fun l' H i st hi => by
    show i < n
    simpa [rngD] using hi
  stop := fun l' H i st hi => by
    show n ≤ i
    simpa [rngD] using hi
  yld := fun l' H i x H' d st tr y hd' => by
    obtain ⟨rfl, rfl⟩ := y
    unfold rngD at hd'
    rw [List.getElem?_map] at hd'
    by_cases hi : i < n
    · rw [List.getElem?_range hi] at hd'
      cases hd'
      exact ⟨Same.refl _, .int (h i hi)⟩
    · rw [List.getElem?_eq_none (by simpa using hi)] at hd'
      cases hd'
theorem okI_small {i : Int} (h : i.natAbs < 2 ^ 64) : okI i := Nat.lt_of_lt_of_le h (by decide)
def wRng1 {S : Type} (w : DA S) : DL S := fun ρ s Q E => w ρ s (fun as s1 => allK as fun ds => match ds with
  | [.int j] => j ≤ 4194304 ∧ -(2 ^ 62) ≤ j ∧ Q (rngD 0 j.toNat) s1
  | _ => False) E
theorem id_rng1 {w : DA S} (hm : X.mg "range" = none) (h : AD Wo X W [e] tl w) (hg : Gl X "range" := by rfl) (hs : starEach [e] X.env = [(false, eval e X.env)] := by rfl) : ID Wo X W tg (.Call (.Name "range" p) [e] [] pos) (iRng1 tl) (wRng1 w) :=
  ⟨pi_range1 hg hm h.pe hs, fun c σ H ρ s Qd Ed R E hw hq he => h.go c σ H ρ s _ Ed _ E hw (fun vs H1 as s1 E1 st1 a1 q1 => by
    obtain ⟨ds, h1, h2⟩ := a1.all q1
    split at h2
    · rename_i j
      obtain ⟨g1, g2, g3⟩ := h2
      cases h1 with
      | cons a b =>
        cases b
        cases a
        refine ⟨j, rfl, g2, by omega, hq _ H1 _ s1 E1 st1 (itd_rng fun i hi => okI_small (by omega)) (by unfold rngD limL; simp; omega) g3⟩
    · exact h2.elim) he⟩
/-! ### zip -/
def zipD : List PyData → List PyData → List PyData
  | a :: x, b :: y => .tuple [a, b] :: zipD x y
  | _, _ => []
theorem zipD_len : ∀ x y, (zipD x y).length = min x.length y.length
  | [], y => by simp [zipD]
  | a :: x, [] => by simp [zipD]
  | a :: x, b :: y => by simp only [zipD, List.length_cons, zipD_len x y]; omega
theorem zipD_get : ∀ (x y : List PyData) (i : Nat) (d : PyData), (zipD x y)[i]? = some d → ∃ a b, x[i]? = some a ∧ y[i]? = some b ∧ d = .tuple [a, b]
  | [], y, i, d, h => by simp [zipD] at h
  | a :: x, [], i, d, h => by simp [zipD] at h
  | a :: x, b :: y, 0, d, h => by simp [zipD] at h; exact ⟨a, b, rfl, rfl, h.symm⟩
  | a :: x, b :: y, i + 1, d, h => by
    obtain ⟨a', b', h1, h2, h3⟩ := zipD_get x y i d (by simpa [zipD] using h)
    exact ⟨a', b', by simpa using h1, by simpa using h2, h3⟩
theorem dv_pair {K : PySem.W.Frag} {l' : List Addr} {H : Hp} {T : Addr} {v w : V} {a b : PyData} (tr : ∀ a ∈ l', H a ≠ none) (hT : H T = none) (h1 : Dv K (hd H l') v a) (h2 : Dv K (hd H l') w b) : Same H (upd H T (.tup [v, w])) ∧ Dv K (hd (upd H T (.tup [v, w])) l') (.ref T) (.tuple [a, b]) :=
  ⟨same_upd hT, Dv.newT tr hT (.cons h1 (.cons h2 .nil)) (by show 2 ≤ limL; unfold limL; decide)⟩
def zipS : List PyData → (List PyData → Prop) → Prop
  | [.list x, .list y], Q => Q (zipD x y)
  | [.tuple x, .tuple y], Q => Q (zipD x y)
  | _, _ => False
def wZip {S : Type} (w : DA S) : DL S := fun ρ s Q E => w ρ s (fun as s1 => allK as fun ds => zipS ds fun z => Q z s1) E
theorem id_zip {e2 : Expr} {w : DA S} {elts : List Expr} {kk : Nat} {tpos : Pos} (hm : X.mg "zip" = none) (h : AD Wo X W [e, e2] tl w) (hg : Gl X "zip" := by rfl) (hs : starEach [e, e2] X.env = (false, eval e X.env) :: starEach [e2] X.env := by rfl) (hpl : (backTo pos (starEach [e2] X.env)).any (·.1) = false := by rfl) :
    ID Wo X W (.Tuple elts kk tpos) (.Call (.Name "zip" p) [e, e2] [] pos) (RZ.iZipA X.K tl) (wZip w) :=
  ⟨RZ.pi_zipA hg hm h.pe hs hpl, fun c σ H ρ s Qd Ed R E hw hq he => h.go c σ H ρ s _ Ed _ E hw (fun vs H1 as s1 E1 st1 a1 q1 => by
    obtain ⟨ds, h1, h2⟩ := a1.all q1
    unfold zipS at h2
    split at h2
    · rename_i x y
      cases h1 with
      | cons a b =>
        cases b with
        | cons b n =>
          cases n
          cases a with
          | lst ha na da =>
            cases b with
            | lst hb nb db =>
              rename_i pa va pb vb
              refine ⟨pa, pb, va, vb, rfl, .inl ⟨SqL.of (hd_to _ _ _ _ ha), SqL.of (hd_to _ _ _ _ hb), hq _ H1 _ s1 E1 st1 ⟨fun l' H i st hi => ?_, fun l' H i st hi => ?_, fun l' H i x' H' d st tr yl hd' => ?_⟩ (by rw [zipD_len]; omega) h2⟩⟩
              · rw [zipD_len] at hi
                obtain ⟨u, hu, _⟩ := da.get' (List.getElem?_eq_getElem (show i < x.length by omega))
                obtain ⟨u2, hu2, _⟩ := db.get' (List.getElem?_eq_getElem (show i < y.length by omega))
                exact ⟨va, vb, u, u2, SqL.of (hd_to _ _ _ _ (st _ _ ha)), SqL.of (hd_to _ _ _ _ (st _ _ hb)), hu, hu2⟩
              · rw [zipD_len] at hi
                have l1 := da.length
                have l2 := db.length
                exact ⟨va, vb, SqL.of (hd_to _ _ _ _ (st _ _ ha)), SqL.of (hd_to _ _ _ _ (st _ _ hb)), by omega⟩
              · obtain ⟨T, u, u2, rfl, hT, rfl, k1, k2⟩ := yl
                obtain ⟨d1, d2, g1, g2, rfl⟩ := zipD_get _ _ _ _ hd'
                obtain ⟨e1, f1, f2⟩ := da.get (k1 va (SqL.of (hd_to _ _ _ _ (st _ _ ha))))
                obtain ⟨e2', f3, f4⟩ := db.get (k2 vb (SqL.of (hd_to _ _ _ _ (st _ _ hb))))
                rw [g1] at f1; cases f1
                rw [g2] at f3; cases f3
                exact dv_pair tr hT (Dv.same st _ _ f2) (Dv.same st _ _ f4)
    · rename_i x y
      cases h1 with
      | cons a b =>
        cases b with
        | cons b n =>
          cases n
          cases a with
          | tup ha na da =>
            cases b with
            | tup hb nb db =>
              rename_i pa va pb vb
              have up : ∀ {l' : List Addr} {H : Hp}, Same (hd H1 (c.hs ρ)) (hd H l') → Same (hd H1 (c.hs ρ)) H := fun st => st.trans (hd_to _ _)
              refine ⟨pa, pb, va, vb, rfl, .inr ⟨same_seqT (hd_to _ _) ha, same_seqT (hd_to _ _) hb, hq _ H1 _ s1 E1 st1 ⟨fun l' H i st hi => ?_, fun l' H i st hi => ?_, fun l' H i x' H' d st tr yl hd' => ?_⟩ (by rw [zipD_len]; omega) h2⟩⟩
              · rw [zipD_len] at hi
                obtain ⟨u, hu, _⟩ := da.get' (List.getElem?_eq_getElem (show i < x.length by omega))
                obtain ⟨u2, hu2, _⟩ := db.get' (List.getElem?_eq_getElem (show i < y.length by omega))
                exact ⟨va, vb, u, u2, same_seqT (up st) ha, same_seqT (up st) hb, hu, hu2⟩
              · rw [zipD_len] at hi
                have l1 := da.length
                have l2 := db.length
                exact ⟨va, vb, same_seqT (up st) ha, same_seqT (up st) hb, by omega⟩
              · obtain ⟨T, u, u2, rfl, hT, rfl, k1, k2⟩ := yl
                obtain ⟨d1, d2, g1, g2, rfl⟩ := zipD_get _ _ _ _ hd'
                obtain ⟨e1, f1, f2⟩ := da.get (k1 va (same_seqT (up st) ha))
                obtain ⟨e2', f3, f4⟩ := db.get (k2 vb (same_seqT (up st) hb))
                rw [g1] at f1; cases f1
                rw [g2] at f3; cases f3
                exact dv_pair tr hT (Dv.same st _ _ f2) (Dv.same st _ _ f4)
    · exact h2.elim) he⟩
end
end Dt

set_option Elab.async false
set_option linter.all false
set_option autoImplicit false
set_option maxRecDepth 100000
namespace Dt
open PySem PySem.Spec L2

/-! ### variables that hold a list of their own -/
theorem owns_sameG {ρ : List Sl} {i : Nat} {p : Addr} {x y : Sl} (hx : own1 x = [p]) (hy : own1 y = [p]) (h : ρ[i]? = some x) : owns (ρ.set i y) = owns ρ := by
  induction ρ generalizing i with
  | nil => rfl
  | cons z r ih =>
    cases i with
    | zero =>
      simp at h; subst h
      show own1 y ++ owns r = own1 z ++ owns r
      rw [hx, hy]
    | succ i =>
      show own1 z ++ owns (r.set i _) = own1 z ++ owns r
      rw [ih (by simpa using h)]
theorem owns_same {ρ : List Sl} {i : Nat} {p : Addr} {xs ys : List PyData} (h : ρ[i]? = some (.own p xs)) : owns (ρ.set i (.own p ys)) = owns ρ := owns_sameG rfl rfl h
theorem owns_own_memG {ρ : List Sl} {i : Nat} {p a : Addr} {x : Sl} (hx : own1 x = [p]) (h : a ∈ owns (ρ.set i x)) : a = p ∨ a ∈ owns ρ := by
  induction ρ generalizing i with
  | nil => exact .inr h
  | cons y r ih =>
    cases i with
    | zero =>
      have h : a ∈ own1 x ++ owns r := h
      rw [hx] at h
      rcases List.mem_append.mp h with h | h
      · exact .inl (by simpa using h)
      · exact .inr (List.mem_append_right _ h)
    | succ i =>
      have h : a ∈ own1 y ++ owns (r.set i x) := h
      rcases List.mem_append.mp h with h | h
      · exact .inr (List.mem_append_left _ h)
      · rcases ih h with h | h
        · exact .inl h
        · exact .inr (List.mem_append_right _ h)
theorem owns_own_mem {ρ : List Sl} {i : Nat} {p a : Addr} {xs : List PyData} (h : a ∈ owns (ρ.set i (.own p xs))) : a = p ∨ a ∈ owns ρ := owns_own_memG rfl h
theorem owns_own_nodupG {l : List Addr} {ρ : List Sl} {i : Nat} {p : Addr} {x : Sl} (hx : own1 x = [p]) (h : (l ++ owns ρ).Nodup) (hp : p ∉ l ++ owns ρ) : (l ++ owns (ρ.set i x)).Nodup := by
  induction ρ generalizing i l with
  | nil => exact h
  | cons y r ih =>
    cases i with
    | zero =>
      have h : (l ++ (own1 y ++ owns r)).Nodup := h
      show (l ++ (own1 x ++ owns r)).Nodup
      rw [hx]
      show (l ++ (p :: owns r)).Nodup
      have h2 : (l ++ owns r).Nodup := h.sublist (List.Sublist.append (List.Sublist.refl _) (List.sublist_append_right _ _))
      have hp2 : p ∉ l ++ owns r := fun z => hp (by
        rcases List.mem_append.mp z with z | z
        · exact List.mem_append_left _ z
        · exact List.mem_append_right _ (List.mem_append_right _ z))
      exact (List.perm_middle.nodup_iff).mpr (List.nodup_cons.mpr ⟨hp2, h2⟩)
    | succ i =>
      show (l ++ (own1 y ++ owns (r.set i x))).Nodup
      rw [← List.append_assoc]
      have h : (l ++ (own1 y ++ owns r)).Nodup := h
      have hp : p ∉ l ++ (own1 y ++ owns r) := hp
      rw [← List.append_assoc] at h hp
      exact ih h hp
section
variable {S : Type} {Wo : Wd S} {X : Cx} {W : WX} {ta tb tc te : TE} {tl : TA} {t u : TS} {e : Expr} {es : List Expr} {pos p : Pos}
/-- a variable is given a list, a dict that was made here -/
theorem EnvD.setOwnG {K : PySem.W.Frag} {c : Cn Wo} {q : Addr} {σ : St} {H : Hp} {ρ : List Sl} {s : S} {x : Sl} {i : Nat} (hx : own1 x = [q]) (E : EnvD K (c.hide q) σ H ρ s) (so : ∀ Hh, Same (hd H ((c.hide q).hs ρ)) Hh → SlotOk K Hh H x (some (.ref q))) (h0 : c.H0 q = none) :
    EnvD K c (σ.set i (some (.ref q))) H (ρ.set i x) s ∧ Same (hd H ((c.hide q).hs ρ)) (hd H (c.hs (ρ.set i x))) := by
  have nq : q ∉ c.hs ρ := (nodup_mid.mp E.nd).1
  have sub : ∀ a ∈ c.hs (ρ.set i x), a ∈ (c.hide q).hs ρ := fun a ha => hs_hide_mem.mpr (by
    rcases List.mem_append.mp ha with z | z
    · exact .inr (List.mem_append_left _ z)
    · rcases owns_own_memG hx z with z | z
      · exact .inl z
      · exact .inr (List.mem_append_right _ z))
  have st := hd_sub (H := H) sub
  refine ⟨⟨by simp [E.len], fun j y hy => ?_, owns_own_nodupG hx (nodup_mid.mp E.nd).2 nq, fun a ha => E.tr a (sub a ha), E.g, E.ext, fun b hb => ?_⟩, st⟩
  · by_cases hj : i = j
    · subst hj
      have hi : i < ρ.length := by
        have := (List.getElem?_eq_some_iff.mp hy).1
        simpa using this
      rw [List.getElem?_set_self hi] at hy
      cases hy
      exact ⟨some (.ref q), by rw [List.getElem?_set_self (by rw [E.len]; exact hi)], so _ st⟩
    · rw [List.getElem?_set_ne hj] at hy
      obtain ⟨o, h1, h2⟩ := E.slot j y hy
      exact ⟨o, by rw [List.getElem?_set_ne hj]; exact h1, h2.same st fun _ _ _ => rfl⟩
  · rcases owns_own_memG hx hb with z | z
    · subst z; exact h0
    · exact E.new b z
theorem EnvD.setOwn {K : PySem.W.Frag} {c : Cn Wo} {q : Addr} {σ : St} {H : Hp} {ρ : List Sl} {s : S} {vs : List V} {ds : List PyData} {i : Nat} (E : EnvD K (c.hide q) σ H ρ s) (hq : H q = some (.lst vs)) (a : DvAll K (hd H ((c.hide q).hs ρ)) vs ds) (n : ds.length ≤ limL) (h0 : c.H0 q = none) :
    EnvD K c (σ.set i (some (.ref q))) H (ρ.set i (.own q ds)) s ∧ Same (hd H ((c.hide q).hs ρ)) (hd H (c.hs (ρ.set i (.own q ds)))) :=
  E.setOwnG rfl (fun Hh st => ⟨rfl, n, vs, hq, DvAll.same st _ _ a⟩) h0
def wSetF {S : Type} (i : Nat) (w : DL S) : DS S := fun ρ s D => w ρ s (fun ds s1 => ∀ p, D.nx (ρ.set i (.own p ds)) s1) fun e s' => D.er e ρ s'
theorem setF_go {c : Cn Wo} {σ : St} {H : Hp} {ρ : List Sl} {s : S} {Dd : DEnds S} {D : Ends} {i : Nat} {w : DL S} (h : FD Wo X W e ta w) (E : EnvD X.K c σ H ρ s) (hw : wSetF i w ρ s Dd) (to : STo X.K c H ρ Dd D W) : tAsg ta (gName i) D σ H :=
  h.go c σ H ρ s _ _ _ E hw (fun q vs H' ds s' E' sm hq a n hn qd => by
    have h0 : c.H0 q = none := by
      cases z : c.H0 q with
      | none => rfl
      | some o =>
        by_cases hw : q ∈ c.W.wa
        · exact absurd hn (E.tr q (List.mem_append_left _ (List.mem_append_left _ hw)))
        · have := E.ext q o z hw
          rw [hn] at this; cases this
    obtain ⟨E1, st⟩ := E'.setOwn (i := i) hq a n h0
    exact to.nx _ H' _ s' E1 (sm.trans st) (qd q)) (to.err σ ρ)
theorem sd_setF (i : Nat) {x : Str} {pos' : Pos} {w : DL S} (hN : X.N.Nodup) (hi : X.N[i]? = some x) (hx : Loc X.env.scope x) (h : FD Wo X W e ta w) (hs : swapsWith e (some (.Name x pos')) pos.line X.env = pure false := by rfl) (hf : X.fn x = true ∨ X.env.scope.names.lookup x = some .local := by first | exact .inl rfl | exact .inr rfl | assumption) :
    SD Wo X W (.Assign [.Name x pos'] e pos) (tAsg ta (gName i)) (wSetF i w) := ⟨ps_set hN hi hx h.pe hs hf, fun c σ H ρ s Dd D E hw to => setF_go h E hw to⟩
/-- what a variable owns is changed -/
theorem EnvD.updOwnG {K : PySem.W.Frag} {c : Cn Wo} {σ : St} {H : Hp} {ρ : List Sl} {s : S} {i : Nat} {q : Addr} {x y : Sl} {o : HO} (hx : own1 x = [q]) (hy : own1 y = [q]) (E : EnvD K c σ H ρ s) (hi : ρ[i]? = some x) (hv : σ[i]? = some (some (.ref q))) (hl : ∃ u, H q = some u ∧ Chg u)
    (so : SlotOk K (hd H (c.hs ρ)) (upd H q o) y (some (.ref q))) : EnvD K c σ (upd H q o) (ρ.set i y) s ∧ Stp c ρ (ρ.set i y) H (upd H q o) := by
  have eo : owns (ρ.set i y) = owns ρ := owns_sameG hx hy hi
  have eh : c.hs (ρ.set i y) = c.hs ρ := by show _ ++ owns _ = _; rw [eo]
  have hm : q ∈ owns ρ := own_memG hi hx
  have hin : q ∈ c.hs ρ := List.mem_append_right _ hm
  have nw : q ∉ Wo.wa ++ c.R := fun z => (List.nodup_append.mp E.nd).2.2 q z q hm rfl
  have ehd : hd (upd H q o) (c.hs ρ) = hd H (c.hs ρ) := by
    funext b
    by_cases hb : b ∈ c.hs ρ
    · rw [hd_in hb, hd_in hb]
    · rw [hd_out hb, hd_out hb, upd_ne (fun (e : b = q) => hb (by rw [e]; exact hin))]
  refine ⟨⟨by simp [E.len], fun j z hz => ?_, by rw [eh]; exact E.nd, fun b hb => ?_, Wo.st s H _ E.g (fun b hb => upd_ne fun e => nw (List.mem_append_left _ (e ▸ hb))) (fun b o2 q2 n n2 n3 => upd_same_orG hl q2 n n2 n3), fun b u hb nb => ?_, by rw [eo]; exact E.new⟩, ?_⟩
  · rw [eh, ehd]
    by_cases hj : i = j
    · subst hj
      have hl : i < ρ.length := (List.getElem?_eq_some_iff.mp hi).1
      rw [List.getElem?_set_self hl] at hz
      cases hz
      exact ⟨_, hv, so⟩
    · rw [List.getElem?_set_ne hj] at hz
      obtain ⟨o', g1, g2⟩ := E.slot j z hz
      refine ⟨o', g1, g2.same (Same.refl _) fun r hr _ => ?_⟩
      -- two variables own two things
      have apart : ∀ {ρ : List Sl} {i j : Nat} {q r : Addr} {x z : Sl}, (owns ρ).Nodup → i ≠ j → ρ[i]? = some x → own1 x = [q] → ρ[j]? = some z → own1 z = [r] → r ≠ q := by
        intro ρ
        induction ρ with
        | nil => intro i j q r x z _ _ h; simp at h
        | cons y l ih =>
          intro i j q r x z nd ne h ox h' oz
          have nd : (own1 y ++ owns l).Nodup := nd
          cases i with
          | zero =>
            simp at h; subst h
            cases j with
            | zero => exact absurd rfl ne
            | succ j =>
              intro e
              subst e
              exact (List.nodup_append.mp nd).2.2 r (by rw [ox]; simp) r (own_memG (i := j) (by simpa using h') oz) rfl
          | succ i =>
            cases j with
            | zero =>
              simp at h'; subst h'
              intro e
              subst e
              exact (List.nodup_append.mp nd).2.2 r (by rw [oz]; simp) r (own_memG (i := i) (by simpa using h) ox) rfl
            | succ j => exact ih (List.nodup_append.mp nd).2.1 (fun (e : i = j) => ne (by rw [e])) (by simpa using h) ox (by simpa using h') oz
      exact upd_ne (apart (List.nodup_append.mp E.nd).2.1 hj hi hx hz hr)
  · rw [eh] at hb
    by_cases e : b = q
    · subst e; rw [upd_same]; exact fun z => nomatch z
    · rw [upd_ne e]; exact E.tr b hb
  · have e : b ≠ q := fun e => by subst e; have := E.new b hm; rw [hb] at this; cases this
    rw [upd_ne e]
    exact E.ext b u hb nb
  · show Same (hd H (c.hs ρ)) (hd (upd H q o) (c.hs (ρ.set i y)))
    rw [eh, ehd]
    exact Same.refl _
/-- x.append(e) -/
theorem EnvD.updOwn {K : PySem.W.Frag} {c : Cn Wo} {σ : St} {H : Hp} {ρ : List Sl} {s : S} {i : Nat} {q : Addr} {xs ys : List PyData} {ws : List V} (E : EnvD K c σ H ρ s) (hi : ρ[i]? = some (.own q xs)) (a : DvAll K (hd H (c.hs ρ)) ws ys) (n : ys.length ≤ limL) :
    EnvD K c σ (upd H q (.lst ws)) (ρ.set i (.own q ys)) s ∧ Stp c ρ (ρ.set i (.own q ys)) H (upd H q (.lst ws)) := by
  obtain ⟨o, h1, rfl, n1, vs, h2, _⟩ := E.slot i _ hi
  exact E.updOwnG rfl rfl hi h1 ⟨_, h2, .inl ⟨_, rfl⟩⟩ ⟨rfl, n, ws, upd_same, a⟩
def wApp {S : Type} (i : Nat) (w : DE S) : DS S := fun ρ s D => match ρ[i]? with
  | some (.own p xs) => w ρ s (fun d s1 => xs.length < limL ∧ D.nx (ρ.set i (.own p (xs ++ [d]))) s1) fun e s' => D.er e ρ s'
  | _ => False
theorem sd_append (i : Nat) {x : Str} {px pa : Pos} {w : DE S} (h : ED Wo X W e ta w) (hN : X.N[i]? = some x := by rfl) (hv : Vis X.env.scope x := by first | exact Or.inl rfl | exact Or.inr (Or.inl rfl) | exact Or.inr (Or.inr rfl)) (hdb : (x == ("__debug__" : Str)) = false := by decide) (hcd : (x == ("__classdict__" : Str)) = false := by decide)
    (he : starEach (e :: []) X.env = (false, eval e X.env) :: starEach [] X.env := by rfl) (hpl : (backTo pos (starEach [] X.env)).any (·.1) = false := by rfl) (hbase : attributeBase (.Name x px) "append" X.env (eval (.Name x px) X.env) = eval (.Name x px) X.env := by rfl)
    (hfew : ((backTo pos (starEach (e :: []) X.env)).all (fun x => !x.1) && (backToKw pos (keywordEach [] X.env)).all (fun x => x.1.isSome) && decide ((e :: []).length + ([] : List Keyword).length + (if ([] : List Keyword).isEmpty then 0 else 1) < 30)) = true := by rfl)
    (hline : (pa.endLine == pos.line) = true := by rfl) (hs : swapsWith (.Call (.Attribute (.Name x px) "append" pa) [e] [] pos) none p.line X.env = pure false := by rfl) :
    SD Wo X W (.Expr (.Call (.Attribute (.Name x px) "append" pa) [e] [] pos) p) (tDrop (tBM X.K "list" rAppend (tVar i) (tCons ta tNil))) (wApp i w) :=
  ⟨ps_expr (pe_bm PySem.F.plainAttrs_list PySem.F.slot_list_append PySem.F.type_list_append mt_append (pe_var hN hv hdb hcd) (pa_cons h.pe pa_nil he) hbase hfew hline he hpl) hs, fun c σ H ρ s Dd D E hw to => by
    unfold wApp at hw
    split at hw
    · rename_i q xs hq
      obtain ⟨o, h1, rfl, n, vs, hH, hA⟩ := E.slot i _ hq
      refine ⟨_, h1, .inl ⟨rfl, _, SqL.of hH⟩, ?_⟩
      refine h.go c σ H ρ s _ _ _ E hw (fun v H1 d s1 E1 st1 dv q1 => ?_) (to.err σ ρ)
      obtain ⟨n1, q1⟩ := q1
      obtain ⟨o, g1, g2, n2, vs1, hH1, hA1⟩ := E1.slot i _ hq
      refine ⟨q, vs1, v, rfl, rfl, hH1, by rw [hA1.length]; exact Nat.lt_of_lt_of_le n1 limL_size, ?_⟩
      obtain ⟨E2, st2⟩ := E1.updOwn (ys := xs ++ [d]) hq (hA1.append (.cons dv .nil)) (by rw [List.length_append]; exact n1)
      have e2 : σ.set i (some (.ref q)) = σ := by
        apply List.ext_getElem?
        intro j
        by_cases hj : i = j
        · subst hj
          rw [List.getElem?_set_self (List.getElem?_eq_some_iff.mp h1).1, h1]
        · rw [List.getElem?_set_ne hj]
      exact to.nx σ _ _ s1 E2 (st1.trans st2) q1
    · exact hw.elim⟩
/-- x.extend([..]) -/
def wExt {S : Type} (i : Nat) (w : DL S) : DS S := fun ρ s D => match ρ[i]? with
  | some (.own p xs) => w ρ s (fun ds s1 => (xs ++ ds).length ≤ limL ∧ D.nx (ρ.set i (.own p (xs ++ ds))) s1) fun e s' => D.er e ρ s'
  | _ => False
theorem sd_extend (i : Nat) {x : Str} {px pa : Pos} {w : DL S} (h : FD Wo X W e ta w) (hN : X.N[i]? = some x := by rfl) (hv : Vis X.env.scope x := by first | exact Or.inl rfl | exact Or.inr (Or.inl rfl) | exact Or.inr (Or.inr rfl)) (hdb : (x == ("__debug__" : Str)) = false := by decide) (hcd : (x == ("__classdict__" : Str)) = false := by decide)
    (he : starEach (e :: []) X.env = (false, eval e X.env) :: starEach [] X.env := by rfl) (hpl : (backTo pos (starEach [] X.env)).any (·.1) = false := by rfl) (hbase : attributeBase (.Name x px) "extend" X.env (eval (.Name x px) X.env) = eval (.Name x px) X.env := by rfl)
    (hfew : ((backTo pos (starEach (e :: []) X.env)).all (fun x => !x.1) && (backToKw pos (keywordEach [] X.env)).all (fun x => x.1.isSome) && decide ((e :: []).length + ([] : List Keyword).length + (if ([] : List Keyword).isEmpty then 0 else 1) < 30)) = true := by rfl)
    (hline : (pa.endLine == pos.line) = true := by rfl) (hs : swapsWith (.Call (.Attribute (.Name x px) "extend" pa) [e] [] pos) none p.line X.env = pure false := by rfl) :
    SD Wo X W (.Expr (.Call (.Attribute (.Name x px) "extend" pa) [e] [] pos) p) (tDrop (tBM X.K "list" rExtend (tVar i) (tCons ta tNil))) (wExt i w) :=
  ⟨ps_expr (pe_bm PySem.F.plainAttrs_list PySem.F.slot_list_extend PySem.F.type_list_extend mt_extend (pe_var hN hv hdb hcd) (pa_cons h.pe pa_nil he) hbase hfew hline he hpl) hs, fun c σ H ρ s Dd D E hw to => by
    unfold wExt at hw
    split at hw
    · rename_i q xs hq
      obtain ⟨o, h1, rfl, n, vs, hH, hA⟩ := E.slot i _ hq
      refine ⟨_, h1, .inl ⟨rfl, _, SqL.of hH⟩, ?_⟩
      refine h.go c σ H ρ s _ _ _ E hw (fun b ws H1 ds s1 E1 sm hb a n' hn q1 => ?_) (to.err σ ρ)
      obtain ⟨n1, q1⟩ := q1
      have st2 : Same (hd H1 ((c.hide b).hs ρ)) (hd H1 (c.hs ρ)) := hd_sub hs_hide_sub
      have E1' := E1.unhide
      obtain ⟨o, g1, g2, n2, vs1, hH1, hA1⟩ := E1'.slot i _ hq
      refine ⟨q, b, vs1, ws, rfl, rfl, hH1, hb, by rw [hA1.length, a.length, ← List.length_append]; exact Nat.le_trans n1 limL_size, ?_⟩
      obtain ⟨E2, st3⟩ := E1'.updOwn (ys := xs ++ ds) hq (hA1.append (DvAll.same st2 _ _ a)) n1
      exact to.nx σ _ _ s1 E2 (sm.trans (st2.trans st3)) q1
    · exact hw.elim⟩
/-- return x, x a list of its own -/
def wRetO {S : Type} (i : Nat) : DS S := fun ρ s D => match ρ[i]? with
  | some (.own _ xs) => D.rt (.list xs) s
  | _ => False
theorem sd_retO (i : Nat) {x : Str} {px : Pos} (hN : X.N[i]? = some x := by rfl) (hv : Vis X.env.scope x := by first | exact Or.inl rfl | exact Or.inr (Or.inl rfl) | exact Or.inr (Or.inr rfl)) (hdb : (x == ("__debug__" : Str)) = false := by decide) (hcd : (x == ("__classdict__" : Str)) = false := by decide) :
    SD Wo X W (.Return (some (.Name x px)) pos) (tRet (tVar i)) (wRetO i) :=
  ⟨ps_ret (pe_var hN hv hdb hcd), fun c σ H ρ s Dd D E hw to => by
    unfold wRetO at hw
    split at hw
    · rename_i q xs hq
      obtain ⟨o, h1, rfl, n, vs, hH, hA⟩ := E.slot i _ hq
      have nw : q ∉ Wo.wa ++ c.R := fun z => (List.nodup_append.mp E.nd).2.2 q z q (own_mem hq) rfl
      exact ⟨_, h1, to.rt _ H _ s E.g E.ext (.lst (by rw [hd_out nw]; exact hH) n (DvAll.same (hd_sub fun a h => List.mem_append_left _ h) _ _ hA)) hw⟩
    · exact hw.elim⟩
/-- e(x), x a list of its own, read by a rule over the list's place -/
def wOwnE {S : Type} (i : Nat) (f : List PyData → (PyData → Prop) → Prop) : DE S := fun ρ s Q _ => match ρ[i]? with
  | some (.own _ xs) => f xs fun z => Q z s
  | _ => False
/-- tuple(x), x a list of its own -/
theorem ed_tupO (i : Nat) {x : Str} {px : Pos} (hm : X.mg "tuple" = none) (hN : X.N[i]? = some x := by rfl) (hv : Vis X.env.scope x := by first | exact Or.inl rfl | exact Or.inr (Or.inl rfl) | exact Or.inr (Or.inr rfl)) (hdb : (x == ("__debug__" : Str)) = false := by decide) (hcd : (x == ("__classdict__" : Str)) = false := by decide)
    (hg : Gl X "tuple" := by rfl) (he : starEach (.Name x px :: []) X.env = (false, eval (.Name x px) X.env) :: starEach [] X.env := by rfl) (hpl : (backTo pos (starEach [] X.env)).any (·.1) = false := by rfl) :
    ED Wo X W (.Call (.Name "tuple" p) [.Name x px] [] pos) (tCB (fun xs H Q => ∃ p ys, xs = [.ref p] ∧ ((SqL X.K H p ys ∧ ∀ l, H l = none → Q (.ref l) (upd H l (.tup ys))) ∨ (SqT X.K H p ys ∧ Q (.ref p) H))) (tCons (tVar i) tNil)) (wOwnE i fun xs Q => Q (.tuple xs)) :=
  ⟨pe_callTy call_tuple_of hg hm (by decide +kernel) (pa_cons (pe_var hN hv hdb hcd) pa_nil he) (by decide) (by decide) he hpl, fun c σ H ρ s Qd Ed Q E hw hv he => by
    unfold wOwnE at hw
    split at hw
    · rename_i q xs hq
      obtain ⟨o, h1, rfl, n, vs, hH, hA⟩ := E.slot i _ hq
      exact ⟨_, h1, q, vs, rfl, .inl ⟨SqL.of hH, fun l hl => hv _ _ _ s (E.grow (same_upd hl)) (stp_grow (same_upd hl)) (Dv.newT E.tr hl hA n) hw⟩⟩
    · exact hw.elim⟩
end
end Dt

set_option Elab.async false
set_option linter.all false
set_option autoImplicit false
set_option maxRecDepth 100000
namespace Dt
open PySem PySem.Spec L2

/-! ### built-ins -/
def fLen : List PyData → (PyData → Prop) → Prop
  | [.list xs], Q => Q (.int xs.length)
  | [.tuple xs], Q => Q (.int xs.length)
  | [.str x], Q => Q (.int x.length)
  | _, _ => False
def rLenG (K : PySem.W.Frag) : List V → Hp → VK → Prop := fun xs H Q => (∃ p ys, xs = [.ref p] ∧ (SqL K H p ys ∨ SqT K H p ys) ∧ Q (.int ys.length) H) ∨ ∃ z, xs = [.str z] ∧ z.length ≤ sizeLine ∧ Q (.int z.length) H
theorem cr_lenG {X : Cx} : CallR X (.builtin "len") (rLenG X.K) := call_len_seq.or call_len_str
theorem okI_len {n : Nat} (h : n ≤ limL) : okI (n : Int) := okI_small (by unfold limL at h; omega)
theorem cd_len {K : PySem.W.Frag} : CallD K (rLenG K) fLen := by
  intro H l vs ds Qd Q ht ha hf hq
  unfold fLen at hf
  split at hf
  · cases ha with
    | cons a b =>
      cases b
      cases a with
      | lst h n a =>
        refine .inl ⟨_, _, rfl, .inl (SqL.of (hd_to _ _ _ _ h)), ?_⟩
        rw [a.length]
        exact hq _ H _ (Same.refl _) (.int (okI_len n)) hf
  · cases ha with
    | cons a b =>
      cases b
      cases a with
      | tup h n a =>
        refine .inl ⟨_, _, rfl, .inr (same_seqT (hd_to _ _) h), ?_⟩
        rw [a.length]
        exact hq _ H _ (Same.refl _) (.int (okI_len n)) hf
  · cases ha with
    | cons a b =>
      cases b
      cases a with
      | str ok => exact .inr ⟨_, rfl, Nat.le_trans ok.1 limL_size, hq _ H _ (Same.refl _) (.int (okI_len ok.1)) hf⟩
  · exact hf.elim
def fAll (g : List Bool → Bool) : List PyData → (PyData → Prop) → Prop
  | [.list xs], Q => ∃ bs : List Bool, xs = bs.map PyData.bool ∧ Q (.bool (g bs))
  | _, _ => False
theorem DvAll.bools {K : PySem.W.Frag} {H : Hp} : ∀ {bs : List Bool} {vs : List V}, DvAll K H vs (bs.map PyData.bool) → vs = bs.map V.bl
  | [], _, h => by cases h; rfl
  | b :: bs, _, h => by
    cases h with
    | cons a r => cases a; rw [DvAll.bools r]; rfl
theorem cd_all {K : PySem.W.Frag} : CallD K (rAll K) (fAll fun bs => bs.all id) := by
  intro H l vs ds Qd Q ht ha hf hq
  unfold fAll at hf
  split at hf
  · obtain ⟨bs, rfl, q⟩ := hf
    cases ha with
    | cons a b =>
      cases b
      cases a with
      | lst h n a => exact ⟨_, bs, rfl, by rw [← a.bools]; exact SqL.of (hd_to _ _ _ _ h), hq _ H _ (Same.refl _) (.bl _) q⟩
  · exact hf.elim
theorem cd_any {K : PySem.W.Frag} : CallD K (rAny K) (fAll fun bs => bs.any id) := by
  intro H l vs ds Qd Q ht ha hf hq
  unfold fAll at hf
  split at hf
  · obtain ⟨bs, rfl, q⟩ := hf
    cases ha with
    | cons a b =>
      cases b
      cases a with
      | lst h n a => exact ⟨_, bs, rfl, by rw [← a.bools]; exact SqL.of (hd_to _ _ _ _ h), hq _ H _ (Same.refl _) (.bl _) q⟩
  · exact hf.elim
def fTuple : List PyData → (PyData → Prop) → Prop
  | [.list xs], Q => Q (.tuple xs)
  | [.tuple xs], Q => Q (.tuple xs)
  | _, _ => False
theorem cd_tuple {K : PySem.W.Frag} : CallD K (fun xs H Q => ∃ p ys, xs = [.ref p] ∧ ((SqL K H p ys ∧ ∀ l, H l = none → Q (.ref l) (upd H l (.tup ys))) ∨ (SqT K H p ys ∧ Q (.ref p) H))) fTuple := by
  intro H l vs ds Qd Q ht ha hf hq
  unfold fTuple at hf
  split at hf
  · cases ha with
    | cons a b =>
      cases b
      cases a with
      | lst h n a => exact ⟨_, _, rfl, .inl ⟨SqL.of (hd_to _ _ _ _ h), fun l hl => hq _ _ _ (same_upd hl) (Dv.newT ht hl a n) hf⟩⟩
  · cases ha with
    | cons a b =>
      cases b
      cases a with
      | tup h n a => exact ⟨_, _, rfl, .inr ⟨same_seqT (hd_to _ _) h, hq _ H _ (Same.refl _) (.tup h n a) hf⟩⟩
  · exact hf.elim
def fInt : List PyData → (PyData → Prop) → Prop
  | [.int i], Q => Q (.int i)
  | [.bool b], Q => Q (.int (if b then 1 else 0))
  | _, _ => False
theorem cd_int {K : PySem.W.Frag} : CallD K (fun xs H Q => (∃ i, xs = [.int i] ∧ Q (.int i) H) ∨ ∃ k, xs = [.bl k] ∧ Q (.int (if k then 1 else 0)) H) fInt := by
  intro H l vs ds Qd Q ht ha hf hq
  unfold fInt at hf
  split at hf
  · cases ha with
    | cons a b =>
      cases b
      cases a with
      | int h => exact .inl ⟨_, rfl, hq _ H _ (Same.refl _) (.int h) hf⟩
  · cases ha with
    | cons a b =>
      cases b
      cases a
      exact .inr ⟨_, rfl, hq _ H _ (Same.refl _) (.int (by split <;> exact okI_small (by decide))) hf⟩
  · exact hf.elim
def fStr : List PyData → (PyData → Prop) → Prop
  | [.int i], Q => Q (.str (toString i : String))
  | _, _ => False
theorem cd_str {K : PySem.W.Frag} : CallD K (fun xs H Q => ∃ i, xs = [.int i] ∧ i.natAbs.log2 < 1920 ∧ Q (.str (toString i)) H) fStr := by
  intro H l vs ds Qd Q ht ha hf hq
  unfold fStr at hf
  split at hf
  · cases ha with
    | cons a b =>
      cases b
      cases a with
      | int h =>
        rename_i i
        have e := int_text_length_le10 (a := i) (k := 76) (by decide) (Nat.lt_of_lt_of_le h (by decide))
        refine ⟨i, rfl, ?_, hq _ H _ (Same.refl _) (.str ⟨by rw [ofString_length]; unfold limL; omega, strOk_lit _⟩) hf⟩
        by_cases z : i.natAbs = 0
        · rw [z]; decide
        · exact (Nat.log2_lt z).mpr (Nat.lt_of_lt_of_le h (by exact Nat.pow_le_pow_right (by decide) (by decide)))
  · exact hf.elim
/-! ### repr -/
def rRepr (K : PySem.W.Frag) : List V → Hp → VK → Prop := fun xs H Q => ∃ a d, xs = [.ref a] ∧ Dp K H (.ref a) d ∧ d.showable = true ∧ d.depth ≤ 60 ∧ d.shown.length ≤ sizeLine ∧ Q (.str d.shown) H
theorem Dp.noDict {K : PySem.W.Frag} {H : Hp} : ∀ (d : PyData) (v : V), Dp K H v d → d.hasDict = false
  | .none, _, _ => by simp only [PyData.hasDict]
  | .bool _, _, _ => by simp only [PyData.hasDict]
  | .int _, _, _ => by simp only [PyData.hasDict]
  | .str _, _, _ => by simp only [PyData.hasDict]
  | .list ds, _, h => by
    simp only [PyData.hasDict]
    cases h with | lst a b => exact all ds _ b
  | .tuple ds, _, h => by
    simp only [PyData.hasDict]
    cases h with | tup a b => exact all ds _ b
  | .dict _, _, h => by cases h
where all : ∀ (ds : List PyData) (vs : List V), DpAll K H vs ds → PyData.hasDictAll ds = false
  | [], _, _ => by simp only [PyData.hasDictAll]
  | d :: ds, _, h => by
    cases h with
    | cons a b => simp only [PyData.hasDictAll, Dp.noDict d _ a, all ds _ b, Bool.or_false]
theorem cr_repr {X : Cx} {k : Nat} (hr : Room k X.A) (hG : X.A.guards = some []) : CallR X (.builtin "repr") (rRepr X.K) := by
  intro pins s σ H xs us Q I r h
  obtain ⟨a, d, rfl, hd, hs, hdep, hz, q⟩ := h
  obtain rfl := r.ref1
  obtain ⟨as, rd⟩ := Dp.reads I d _ _ hd (show RelV (.ref a) (.ref a) from rfl)
  refine repr_of_reads' rd hs (PyData.noDict_hsm (Dp.noDict d _ hd)) hG (by have := hr.un; omega) (fun _ _ e => e) (fun h' u tk hk => ?_) hz
  exact ⟨.str d.shown, H, I.kept (t' := tk) hk, ⟨u, rfl⟩, q⟩
def fRepr : List PyData → (PyData → Prop) → Prop
  | [d], Q => (match d with | .list _ => True | .tuple _ => True | _ => False) ∧ d.depth ≤ 60 ∧ d.hasDict = false ∧ okS d.shown ∧ Q (.str d.shown)
  | _, _ => False
theorem okI_show {i : Int} (h : okI i) : i.natAbs.log2 < 1920 := by
  by_cases z : i.natAbs = 0
  · rw [z]; decide
  · exact (Nat.log2_lt z).mpr (Nat.lt_of_lt_of_le h (by exact Nat.pow_le_pow_right (by decide) (by decide)))
theorem Dv.showable {K : PySem.W.Frag} {H : Hp} : ∀ (d : PyData) (v : V), d.hasDict = false → Dv K H v d → d.showable = true
  | .none, _, _, _ => by simp only [PyData.showable]
  | .bool _, _, _, _ => by simp only [PyData.showable]
  | .int i, _, _, h => by
    cases h with | int h => simp only [PyData.showable]; exact decide_eq_true (okI_show h)
  | .str _, _, _, _ => by simp only [PyData.showable]
  | .list ds, _, z, h => by
    simp only [PyData.showable]
    cases h with | lst a n b => exact all ds _ (by simpa only [PyData.hasDict] using z) b
  | .tuple ds, _, z, h => by
    simp only [PyData.showable]
    cases h with | tup a n b => exact all ds _ (by simpa only [PyData.hasDict] using z) b
  | .dict _, _, z, h => by simp only [PyData.hasDict] at z; cases z
where all : ∀ (ds : List PyData) (vs : List V), PyData.hasDictAll ds = false → DvAll K H vs ds → PyData.showableAll ds = true
  | [], _, _, _ => by simp only [PyData.showableAll]
  | d :: ds, _, z, h => by
    cases h with
    | cons a b => simp only [PyData.showableAll, Dv.showable d _ (hd_cons z).1 a, all ds _ (hd_cons z).2 b, Bool.and_true]
theorem cd_repr {K : PySem.W.Frag} : CallD K (rRepr K) fRepr := by
  intro H l vs ds Qd Q ht ha hf hq
  unfold fRepr at hf
  split at hf
  · rename_i d
    obtain ⟨h1, h2, h0, h3, h4⟩ := hf
    cases ha with
    | cons a b =>
      cases b
      have up := Dv.same (hd_to H l) _ _ a
      cases d with
      | list ds => cases a with | lst _ _ _ => exact ⟨_, _, rfl, Dv.dp _ _ h0 up, Dv.showable _ _ h0 up, h2, Nat.le_trans h3.1 limL_size, hq _ H _ (Same.refl _) (.str h3) h4⟩
      | tuple ds => cases a with | tup _ _ _ => exact ⟨_, _, rfl, Dv.dp _ _ h0 up, Dv.showable _ _ h0 up, h2, Nat.le_trans h3.1 limL_size, hq _ H _ (Same.refl _) (.str h3) h4⟩
      | _ => exact h1.elim
  · exact hf.elim
/-! ### defs -/
def argS (n m : Nat) (as : List Sl) : List Sl := as ++ List.replicate (m - n) .no
theorem env_start {S : Type} {Wo : Wd S} {K : PySem.W.Frag} {H : Hp} {N : List Str} {R : List Addr} {vs : List V} {as : List Ag} {s : S} (nd : (Wo.wa ++ R).Nodup) (tr : ∀ a ∈ Wo.wa ++ R, H a ≠ none) (g : Wo.G s H) (ok : AgOk K (hd H (Wo.wa ++ R)) vs as) :
    EnvD K (⟨R, H⟩ : Cn Wo) (L2.start N vs) H (argS vs.length N.length (as.map toSl)) s := by
  have ow : ∀ (as : List Ag) (k : Nat), owns ((as.map toSl) ++ List.replicate k .no) = [] := by
    intro as k
    induction as with
    | nil =>
      induction k with
      | zero => rfl
      | succ k ih => exact ih
    | cons a as ih =>
      cases a with
      | d x => exact ih
      | raw v => exact ih
  have eh : (⟨R, H⟩ : Cn Wo).hs (argS vs.length N.length (as.map toSl)) = Wo.wa ++ R := by
    show (Wo.wa ++ R) ++ owns _ = _
    unfold argS
    rw [ow, List.append_nil]
  have at' : ∀ {vs : List V} {as : List Ag} {i : Nat} {x : Sl}, AgOk K (hd H (Wo.wa ++ R)) vs as → (as.map toSl)[i]? = some x → ∃ v, vs[i]? = some v ∧ SlotOk K (hd H (Wo.wa ++ R)) H x (some v) := by
    intro vs
    induction vs with
    | nil =>
      intro as i x h e
      cases as with
      | nil => simp at e
      | cons a _ => cases a <;> exact h.elim
    | cons v vs ih =>
      intro as i x h e
      cases as with
      | nil => exact h.elim
      | cons a as =>
        cases i with
        | zero =>
          simp at e
          subst e
          cases a with
          | d x => exact ⟨v, rfl, v, rfl, h.1⟩
          | raw u => exact ⟨v, rfl, congrArg some h.1⟩
        | succ i =>
          have h2 : AgOk K (hd H (Wo.wa ++ R)) vs as := by cases a <;> exact h.2
          obtain ⟨w, h3, h4⟩ := ih (i := i) h2 (by simpa using e)
          exact ⟨w, by simpa using h3, h4⟩
  have len := AgOk.length ok
  refine ⟨?_, fun i x hx => ?_, by rw [eh]; exact nd, by rw [eh]; exact tr, g, fun b o h _ => h, fun p hp => ?_⟩
  · unfold L2.start argS
    simp only [List.length_append, List.length_map, List.length_replicate]
    omega
  · rw [eh]
    unfold argS at hx
    by_cases hi : i < as.length
    · rw [List.getElem?_append_left (by simpa using hi)] at hx
      obtain ⟨v, h1, h2⟩ := at' ok hx
      refine ⟨some v, ?_, h2⟩
      unfold L2.start
      rw [List.getElem?_append_left (by rw [List.length_map]; omega), List.getElem?_map, h1]; rfl
    · rw [List.getElem?_append_right (by simpa using hi), List.getElem?_replicate] at hx
      split at hx
      · rename_i hlt
        cases hx
        rw [List.length_map] at hlt
        refine ⟨none, ?_, trivial⟩
        unfold L2.start
        rw [List.getElem?_append_right (by rw [List.length_map]; omega), List.getElem?_replicate, if_pos (by rw [List.length_map]; omega)]
      · cases hx
  · unfold argS at hp
    rw [ow] at hp
    cases hp
def endP (Qd : PyData → Prop) (Ed : Er → Prop) : DEnds Unit := ⟨fun _ _ => Qd .none, fun d _ => Qd d, fun _ _ => False, fun _ _ => False, fun e _ _ => Ed e⟩
def WXE (E : XK) : WX := fun cls d _ H => E cls d H
section
variable {P : Program} {w : World} {K : PySem.W.Frag} {mg : Str → Option Value} {base : Heap} {CX : CXT} {k n : Nat} {f : Addr} {fd : FuncData} {N ps : List Str} {x qual : Str} {st : Stmt}
/-- a def without effects, by its body -/
theorem fnP {F : List PyData → (PyData → Prop) → (Er → Prop) → Prop} {wb : DS Unit} (Fu : Fun K x qual st f fd) (Sc : FnScope N ps (defScope st)) (hn : ps.length = n)
    (hbody : ∀ (cdv : Value) (A : Around) (outer : List Env) (s : Shared) (H : Hp) (E : XK), A.guards = some [] → Room k (A.deeper (PyProof.Rows.envOfC qual (defScope st) s.heap.objs.size f cdv)) →
      ∃ t, SSD W0 (cxOf CX P w K mg base N qual (defScope st) f cdv A outer s H E) (WXE E) (defBody st) t wb)
    (spec : ∀ ds Qd Ed, ds.length = n → F ds Qd Ed → wb (argS n N.length (ds.map Sl.d)) () (endP Qd Ed)) : FnG P w K mg base CX (k + 1) f fd ps (spP K n F) := by
  refine fnG Fu Sc (fun vs H Q E h => by rw [h.1, hn]) fun cdv A outer s H vs Q E hG hr h => ?_
  obtain ⟨hl, l, ds, Qd, Ed, nd, tr, da, hf, hq, he⟩ := h
  obtain ⟨t, B⟩ := hbody cdv A outer s H E hG hr
  refine ⟨t, B.pe, ?_⟩
  have hdl : ds.length = n := by rw [← da.length]; exact hl
  have ag : ∀ {vs : List V} {ds : List PyData}, DvAll K (hd H l) vs ds → AgOk K (hd H l) vs (ds.map Ag.d) := by
    intro vs ds h
    induction ds generalizing vs with
    | nil => cases h; trivial
    | cons d ds ih => cases h with | cons a b => exact ⟨a, ih b⟩
  have e1 : (ds.map Ag.d).map toSl = ds.map Sl.d := by rw [List.map_map]; rfl
  have E0 := env_start (Wo := W0) (N := N) (R := l) (s := ()) (by simpa [W0] using nd) (by simpa [W0] using tr) trivial (by simpa [W0] using ag da)
  rw [e1, hl] at E0
  refine B.go _ _ H _ () (endP Qd Ed) _ E0 (spec ds Qd Ed hdl hf) ⟨fun σ' H' ρ' s' E' st' q => ?_, fun _ _ _ _ _ _ z => z.elim, fun _ _ _ _ _ _ z => z.elim, fun v H' d s' g ex dv q => ?_, fun e cls dd σ' H' ρ' s' E' ei q => ?_⟩
  · exact hq .non H' .none (fun b o h => E'.ext b o h (by simp [W0, Cn.W])) .non q
  · exact hq v H' d (fun b o h => ex b o h (by simp [W0, Cn.W])) (by have dv2 : Dv K (hd H' (([] : List Addr) ++ l)) v d := dv; simpa using dv2) q
  · refine he e cls dd H' (fun b o h => E'.ext b o h (by simp [W0, Cn.W])) ?_ q
    have sub : Same (hd H' ((⟨l, H⟩ : Cn W0).hs ρ')) (hd H' l) := hd_sub fun a ha => List.mem_append_left _ (by simpa [W0, Cn.W] using ha)
    obtain ⟨c1, d, fs, c2, c3, c4⟩ := ei
    refine ⟨c1, d, fs, c2, c3, ?_⟩
    have go : ∀ (fs : List (Str × V)) (es : List (Str × PyData)), FsOk K (hd H' ((⟨l, H⟩ : Cn W0).hs ρ')) fs es → FsOk K (hd H' l) fs es := by
      intro fs
      induction fs with
      | nil => intro es h; cases es with | nil => trivial | cons _ _ => exact h.elim
      | cons y fs ih =>
        intro es h
        cases es with
        | nil => exact h.elim
        | cons z es => exact ⟨h.1, Dv.same sub _ _ h.2.1, ih es h.2.2⟩
    exact go _ _ c4
end
end Dt

set_option Elab.async false
set_option linter.all false
set_option autoImplicit false
set_option maxRecDepth 100000
namespace Dt
open PySem PySem.Spec L2

/-- a def of the text, ready to be called -/
structure Df (P : Program) (w : World) (K : PySem.W.Frag) (mg : Str → Option Value) (base : Heap) (CX : CXT) (k : Nat) (x : Str) (n : Nat) (sp : Sp) : Prop where
  ex : ∃ (f : Addr) (fd : FuncData) (ps : List Str), ps.length = n ∧ mg x = some (.ref f) ∧ PySem.W.keepIn K (.ref f) = true ∧ Binds K fd ps [] ∧ FnG P w K mg base CX k f fd ps sp
/-- the built-ins' names stand for the built-ins -/
structure Bt (mg : Str → Option Value) : Prop where
  no : ∀ x ∈ (["isinstance", "int", "bool", "str", "tuple", "list", "len", "all", "any", "zip", "range", "repr", "set", "sorted", "sum", "min", "max", "enumerate", "dict"] : List Str), mg x = none
/-- a constant of the module -/
structure Gc (K : PySem.W.Frag) (mg : Str → Option Value) (x : Str) (v : V) (d : PyData) : Prop where
  ex : ∃ u, mg x = some u ∧ RelV v u
  dv : ∀ H, Dv K H v d
section
variable {S : Type} {Wo : Wd S} {X : Cx} {W : WX} {K : PySem.W.Frag} {ta tb tc te : TE} {tl : TA} {tt : TT} {t u : TS} {wi : TI} {tg iter e e' a b elt : Expr} {es : List Expr} {body : List Stmt} {pos p q : Pos} {wa wb : DE S} {wl : DA S} {k n : Nat}
theorem e_glob {x : Str} {v : V} {d : PyData} (g : Gc K X.mg x v d) (hK : X.K = K := by rfl) (hg : Gl X x := by rfl) (hdb : (x == ("__debug__" : Str)) = false := by decide) : ED Wo X W (.Name x pos) (tC v) (wC d) := by
  subst hK
  obtain ⟨u, h1, h2⟩ := g.ex
  exact ed_glob hg h1 h2 g.dv hdb
theorem e_add (ha : ED Wo X W a ta wa) (hb : ED Wo X W b tb wb) (hK : X.K = K := by rfl) : ED Wo X W (.BinOp a .Add b pos) (tOp (rAddD K) ta tb) (wOp dAdd wa wb) := by subst hK; exact ed_op or_add od_add ha hb
theorem e_sub (ha : ED Wo X W a ta wa) (hb : ED Wo X W b tb wb) : ED Wo X W (.BinOp a .Sub b pos) (tOp (rI0 fun i j => .int (i - j)) ta tb) (wOp (dI0 fun i j => i - j) wa wb) := ed_op op_sub od_int0 ha hb
theorem e_mul (ha : ED Wo X W a ta wa) (hb : ED Wo X W b tb wb) (hK : X.K = K := by rfl) : ED Wo X W (.BinOp a .Mult b pos) (tOp (rMulD K) ta tb) (wOp dMul wa wb) := by subst hK; exact ed_op or_mul od_mul ha hb
theorem e_mod (ha : ED Wo X W a ta wa) (hb : ED Wo X W b tb wb) : ED Wo X W (.BinOp a .Mod b pos) (tOp (rI (fun _ j => 0 < j) fun i j => .int (i % j)) ta tb) (wOp (dI2 (fun _ j => 0 < j) fun i j => i % j) wa wb) := ed_op op_mod od_int ha hb
theorem e_fdiv (ha : ED Wo X W a ta wa) (hb : ED Wo X W b tb wb) : ED Wo X W (.BinOp a .FloorDiv b pos) (tOp (rI CDiv fun i j => .int (i / j)) ta tb) (wOp (dI2 CDiv fun i j => i / j) wa wb) := ed_op op_fdiv od_int ha hb
theorem e_pow (ha : ED Wo X W a ta wa) (hb : ED Wo X W b tb wb) : ED Wo X W (.BinOp a .Pow b pos) (tOp (rI CPow fun i j => .int (i ^ j.toNat)) ta tb) (wOp (dI2 CPow fun i j => i ^ j.toNat) wa wb) := ed_op op_pow od_int ha hb
def dNeg : PyData → (PyData → Prop) → Prop
  | .int i, Q => Q (.int (-i))
  | _, _ => False
theorem ud_neg : UnD K (rU fun i => .int (-i)) dNeg := by
  intro H l x d Qd Q ht hx hf hq
  cases d with
  | int i => cases hx with | int h => exact ⟨i, rfl, hq _ H _ (Same.refl _) (.int (by unfold okI at h ⊢; omega)) hf⟩
  | _ => exact hf.elim
theorem e_neg (ha : ED Wo X W a ta wa) : ED Wo X W (.UnaryOp .USub a pos) (tUn (rU fun i => .int (-i)) ta) (wUn dNeg wa) := ed_un un_neg ud_neg ha
/-! comparisons: as a value (e_), as a test (t_) -/
theorem e_lt (ha : ED Wo X W a ta wa) (hb : ED Wo X W b tb wb) : ED Wo X W (.Compare a [.Lt] [b] pos) (tOp (rI0 fun i j => .bl (decide (i < j))) ta tb) (wOp dLt wa wb) := ed_cmp op_lt od_cm ha hb (nomark _)
theorem e_le (ha : ED Wo X W a ta wa) (hb : ED Wo X W b tb wb) : ED Wo X W (.Compare a [.LtE] [b] pos) (tOp (rI0 fun i j => .bl (decide (i ≤ j))) ta tb) (wOp dLe wa wb) := ed_cmp op_le od_cm ha hb (nomark _)
theorem e_gt (ha : ED Wo X W a ta wa) (hb : ED Wo X W b tb wb) : ED Wo X W (.Compare a [.Gt] [b] pos) (tOp (rI0 fun i j => .bl (decide (j < i))) ta tb) (wOp dGt wa wb) := ed_cmp op_gt od_cm ha hb (nomark _)
theorem e_ge (ha : ED Wo X W a ta wa) (hb : ED Wo X W b tb wb) : ED Wo X W (.Compare a [.GtE] [b] pos) (tOp (rI0 fun i j => .bl (decide (j ≤ i))) ta tb) (wOp dGe wa wb) := ed_cmp op_ge od_cm ha hb (nomark _)
theorem t_lt (ha : ED Wo X W a ta wa) (hb : ED Wo X W b tb wb) : TD Wo X W (.Compare a [.Lt] [b] pos) (tTest (tOp (rI0 fun i j => .bl (decide (i < j))) ta tb)) (wT (wOp dLt wa wb)) := td_cmp op_lt od_cm ha hb (nomark _)
theorem t_le (ha : ED Wo X W a ta wa) (hb : ED Wo X W b tb wb) : TD Wo X W (.Compare a [.LtE] [b] pos) (tTest (tOp (rI0 fun i j => .bl (decide (i ≤ j))) ta tb)) (wT (wOp dLe wa wb)) := td_cmp op_le od_cm ha hb (nomark _)
theorem t_gt (ha : ED Wo X W a ta wa) (hb : ED Wo X W b tb wb) : TD Wo X W (.Compare a [.Gt] [b] pos) (tTest (tOp (rI0 fun i j => .bl (decide (j < i))) ta tb)) (wT (wOp dGt wa wb)) := td_cmp op_gt od_cm ha hb (nomark _)
theorem t_ge (ha : ED Wo X W a ta wa) (hb : ED Wo X W b tb wb) : TD Wo X W (.Compare a [.GtE] [b] pos) (tTest (tOp (rI0 fun i j => .bl (decide (j ≤ i))) ta tb)) (wT (wOp dGe wa wb)) := td_cmp op_ge od_cm ha hb (nomark _)
theorem e_eq (hr : Room k X.A) (ha : ED Wo X W a ta wa) (hb : ED Wo X W b tb wb) (hK : X.K = K := by rfl) : ED Wo X W (.Compare a [.Eq] [b] pos) (tOp (rEqD K) ta tb) (wOp dEq wa wb) := by subst hK; exact ed_cmp (op_eqD hr.units) od_eq ha hb (nomark _)
theorem e_ne (hr : Room k X.A) (ha : ED Wo X W a ta wa) (hb : ED Wo X W b tb wb) (hK : X.K = K := by rfl) : ED Wo X W (.Compare a [.NotEq] [b] pos) (tOp (rNeD K) ta tb) (wOp dNe wa wb) := by subst hK; exact ed_cmp (op_neD hr.units) od_ne ha hb (nomark _)
theorem t_eq (hr : Room k X.A) (ha : ED Wo X W a ta wa) (hb : ED Wo X W b tb wb) (hK : X.K = K := by rfl) : TD Wo X W (.Compare a [.Eq] [b] pos) (tTest (tOp (rEqD K) ta tb)) (wT (wOp dEq wa wb)) := by subst hK; exact td_cmp (op_eqD hr.units) od_eq ha hb (nomark _)
theorem t_ne (hr : Room k X.A) (ha : ED Wo X W a ta wa) (hb : ED Wo X W b tb wb) (hK : X.K = K := by rfl) : TD Wo X W (.Compare a [.NotEq] [b] pos) (tTest (tOp (rNeD K) ta tb)) (wT (wOp dNe wa wb)) := by subst hK; exact td_cmp (op_neD hr.units) od_ne ha hb (nomark _)
theorem e_in (hr : Room k X.A) (ha : ED Wo X W a ta wa) (hb : ED Wo X W b tb wb) (hm : behindInMarks .In b = false := by rfl) (hK : X.K = K := by rfl) : ED Wo X W (.Compare a [.In] [b] pos) (tOp (rInG K) ta tb) (wOp dIn wa wb) := by subst hK; exact ed_cmp (or_in hr) od_in ha hb hm
theorem e_notIn (hr : Room k X.A) (ha : ED Wo X W a ta wa) (hb : ED Wo X W b tb wb) (hm : behindInMarks .NotIn b = false := by rfl) (hK : X.K = K := by rfl) : ED Wo X W (.Compare a [.NotIn] [b] pos) (tOp (rNotInG K) ta tb) (wOp dNotIn wa wb) := by subst hK; exact ed_cmp (or_notIn hr) od_notIn ha hb hm
theorem t_in (hr : Room k X.A) (ha : ED Wo X W a ta wa) (hb : ED Wo X W b tb wb) (hm : behindInMarks .In b = false := by rfl) (hK : X.K = K := by rfl) : TD Wo X W (.Compare a [.In] [b] pos) (tTest (tOp (rInG K) ta tb)) (wT (wOp dIn wa wb)) := by subst hK; exact td_cmp (or_in hr) od_in ha hb hm
theorem t_notIn (hr : Room k X.A) (ha : ED Wo X W a ta wa) (hb : ED Wo X W b tb wb) (hm : behindInMarks .NotIn b = false := by rfl) (hK : X.K = K := by rfl) : TD Wo X W (.Compare a [.NotIn] [b] pos) (tTest (tOp (rNotInG K) ta tb)) (wT (wOp dNotIn wa wb)) := by subst hK; exact td_cmp (or_notIn hr) od_notIn ha hb hm
theorem e_isN (ha : ED Wo X W a ta wa) (hb : ED Wo X W b tb wb) : ED Wo X W (.Compare a [.Is] [b] pos) (tOp (fun x y H Q => y = .non ∧ Q (.bl (decide (x = .non))) H) ta tb) (wOp dIsN wa wb) := ed_cmp op_isN od_isN ha hb (nomark _)
theorem e_notN (ha : ED Wo X W a ta wa) (hb : ED Wo X W b tb wb) : ED Wo X W (.Compare a [.IsNot] [b] pos) (tOp (fun x y H Q => y = .non ∧ Q (.bl (!decide (x = .non))) H) ta tb) (wOp dNotN wa wb) := ed_cmp op_notN od_notN ha hb (nomark _)
theorem t_isN (ha : ED Wo X W a ta wa) (hb : ED Wo X W b tb wb) : TD Wo X W (.Compare a [.Is] [b] pos) (tTest (tOp (fun x y H Q => y = .non ∧ Q (.bl (decide (x = .non))) H) ta tb)) (wT (wOp dIsN wa wb)) := td_cmp op_isN od_isN ha hb (nomark _)
theorem t_notN (ha : ED Wo X W a ta wa) (hb : ED Wo X W b tb wb) : TD Wo X W (.Compare a [.IsNot] [b] pos) (tTest (tOp (fun x y H Q => y = .non ∧ Q (.bl (!decide (x = .non))) H) ta tb)) (wT (wOp dNotN wa wb)) := td_cmp op_notN od_notN ha hb (nomark _)
theorem e_leLe {wc : DE S} (ha : ED Wo X W a ta wa) (hb : ED Wo X W b tb wb) (hc : ED Wo X W e' tc wc) (hm : lastMarks [.LtE, .LtE] [b, e'] = false := by rfl) : ED Wo X W (.Compare a [.LtE, .LtE] [b, e'] pos) (tChain (rI0 fun i j => .bl (decide (i ≤ j))) (rI0 fun i j => .bl (decide (i ≤ j))) ta tb tc) (wChain dLe dLe wa wb wc) := ed_chain op_le od_cm op_le od_cm ha hb hc hm
theorem t_leLe {wc : DE S} (ha : ED Wo X W a ta wa) (hb : ED Wo X W b tb wb) (hc : ED Wo X W e' tc wc) (hm : lastMarks [.LtE, .LtE] [b, e'] = false := by rfl) : TD Wo X W (.Compare a [.LtE, .LtE] [b, e'] pos) (tTest (tChain (rI0 fun i j => .bl (decide (i ≤ j))) (rI0 fun i j => .bl (decide (i ≤ j))) ta tb tc)) (wT (wChain dLe dLe wa wb wc)) := td_chain op_le od_cm op_le od_cm ha hb hc hm
theorem e_ix (ha : ED Wo X W a ta wa) (hb : ED Wo X W b tb wb) (hs : PlainIx b := by exact fun _ _ => rfl) (hK : X.K = K := by rfl) : ED Wo X W (.Subscript a b pos) (tOp (rIx K) ta tb) (wOp dIdx wa wb) := by subst hK; exact ed_ix ha hb hs
theorem e_isi {x : Str} {T' : String} (B : Bt X.mg) (ha : ED Wo X W a ta wa) (hb : bootBuiltins x = some (.type T')) (hx : x ∈ (["isinstance", "int", "bool", "str", "tuple", "list", "len", "all", "any", "zip", "range", "repr", "set", "sorted", "sum", "min", "max", "enumerate", "dict"] : List Str) := by decide) (hK : X.K = K := by rfl) (hg : Gl X "isinstance" := by rfl) (hgT : Gl X x := by rfl) (hn : x ≠ "__name__" := by decide) (hdb : (x == ("__debug__" : Str)) = false := by decide)
    (he : starEach (a :: [.Name x q]) X.env = (false, eval a X.env) :: starEach [.Name x q] X.env := by rfl) (he2 : starEach (.Name x q :: []) X.env = (false, eval (.Name x q) X.env) :: starEach [] X.env := by rfl) (hpl : (backTo pos (starEach [.Name x q] X.env)).any (·.1) = false := by rfl) :
    ED Wo X W (.Call (.Name "isinstance" p) [a, .Name x q] [] pos) (tIsi T' K ta) (wIsi T' wa) := by
  subst hK
  exact ed_isi ha (B.no _ (by decide)) (B.no _ hx) hb hg hgT hn hdb he he2 hpl
theorem e_len (B : Bt X.mg) (ha : AD Wo X W [a] tl wl) (hK : X.K = K := by rfl) (hg : Gl X "len" := by rfl) (he : starEach [a] X.env = (false, eval a X.env) :: starEach [] X.env := by rfl) (hpl : (backTo pos (starEach [] X.env)).any (·.1) = false := by rfl) :
    ED Wo X W (.Call (.Name "len" p) [a] [] pos) (tCB (rLenG K) tl) (wCB fLen wl) := by subst hK; exact ed_callB cr_lenG cd_len hg (B.no _ (by decide)) (by decide +kernel) ha (by decide) (by decide) he hpl
theorem e_all (B : Bt X.mg) (hc : X.calm = true) (ha : AD Wo X W [a] tl wl) (hK : X.K = K := by rfl) (hg : Gl X "all" := by rfl) (he : starEach [a] X.env = (false, eval a X.env) :: starEach [] X.env := by rfl) (hpl : (backTo pos (starEach [] X.env)).any (·.1) = false := by rfl) :
    ED Wo X W (.Call (.Name "all" p) [a] [] pos) (tCB (rAll K) tl) (wCB (fAll fun bs => bs.all id) wl) := by subst hK; exact ed_callB (cr_all hc) cd_all hg (B.no _ (by decide)) (by decide +kernel) ha (by decide) (by decide) he hpl
theorem e_tupleOf (B : Bt X.mg) (ha : AD Wo X W [a] tl wl) (hK : X.K = K := by rfl) (hg : Gl X "tuple" := by rfl) (he : starEach [a] X.env = (false, eval a X.env) :: starEach [] X.env := by rfl) (hpl : (backTo pos (starEach [] X.env)).any (·.1) = false := by rfl) :
    ED Wo X W (.Call (.Name "tuple" p) [a] [] pos) (tCB (fun xs H Q => ∃ p ys, xs = [.ref p] ∧ ((SqL K H p ys ∧ ∀ l, H l = none → Q (.ref l) (upd H l (.tup ys))) ∨ (SqT K H p ys ∧ Q (.ref p) H))) tl) (wCB fTuple wl) := by subst hK; exact ed_callTy call_tuple_of cd_tuple hg (B.no _ (by decide)) (by decide +kernel) ha (by decide) (by decide) he hpl
theorem e_int (B : Bt X.mg) (ha : AD Wo X W [a] tl wl) (hg : Gl X "int" := by rfl) (he : starEach [a] X.env = (false, eval a X.env) :: starEach [] X.env := by rfl) (hpl : (backTo pos (starEach [] X.env)).any (·.1) = false := by rfl) :
    ED Wo X W (.Call (.Name "int" p) [a] [] pos) (tCB (fun xs H Q => (∃ i, xs = [.int i] ∧ Q (.int i) H) ∨ ∃ k, xs = [.bl k] ∧ Q (.int (if k then 1 else 0)) H) tl) (wCB fInt wl) := ed_callTy call_int1 cd_int hg (B.no _ (by decide)) (by decide +kernel) ha (by decide) (by decide) he hpl
theorem e_str (B : Bt X.mg) (ha : AD Wo X W [a] tl wl) (hg : Gl X "str" := by rfl) (he : starEach [a] X.env = (false, eval a X.env) :: starEach [] X.env := by rfl) (hpl : (backTo pos (starEach [] X.env)).any (·.1) = false := by rfl) :
    ED Wo X W (.Call (.Name "str" p) [a] [] pos) (tCB (fun xs H Q => ∃ i, xs = [.int i] ∧ i.natAbs.log2 < 1920 ∧ Q (.str (toString i)) H) tl) (wCB fStr wl) := ed_callTy call_str_int cd_str hg (B.no _ (by decide)) (by decide +kernel) ha (by decide) (by decide) he hpl
theorem e_repr (B : Bt X.mg) (hr : Room k X.A) (hG : X.A.guards = some []) (ha : AD Wo X W [a] tl wl) (hK : X.K = K := by rfl) (hg : Gl X "repr" := by rfl) (he : starEach [a] X.env = (false, eval a X.env) :: starEach [] X.env := by rfl) (hpl : (backTo pos (starEach [] X.env)).any (·.1) = false := by rfl) :
    ED Wo X W (.Call (.Name "repr" p) [a] [] pos) (tCB (rRepr K) tl) (wCB fRepr wl) := by subst hK; exact ed_callB (cr_repr hr hG) cd_repr hg (B.no _ (by decide)) (by decide +kernel) ha (by decide) (by decide) he hpl
/-! calls of the text's defs -/
theorem e_callP {CX : CXT} {j : Nat} {x : Str} {F : List PyData → (PyData → Prop) → (Er → Prop) → Prop} (D : Df X.prog X.w K X.mg X.base CX j x n (spP K n F)) (hG : X.A.guards = some []) (hr : Room j X.A) (hx : ∀ σ, PassesAt CX X σ (WE W σ)) (ha : AD Wo X W (e :: es) tl wl) (hK : X.K = K := by rfl)
    (hg : Gl X x := by rfl) (hdb : (x == ("__debug__" : Str)) = false := by decide) (he : starEach (e :: es) X.env = (false, eval e X.env) :: starEach es X.env := by rfl) (hpl : (backTo pos (starEach es X.env)).any (·.1) = false := by rfl) :
    ED Wo X W (.Call (.Name x p) (e :: es) [] pos) (tCallS (spP K n F) (WE W) tl) (wCallP (fun ds Q E => ds.length = n ∧ F ds Q E) wl) := by
  subst hK
  obtain ⟨f, fd, ps, h1, h2, h3, h4, h5⟩ := D.ex
  exact ed_callP h5 hG hr h2 h3 h4 hx ha h1 hg hdb he hpl
theorem e_callI {CX : CXT} {j : Nat} {x : Str} {ι : Type} {Wf : ι → Wd S} {i : ι} {F : ι → List Ag → S → (PyData → S → Prop) → (Er → S → Prop) → Prop} (D : Df X.prog X.w K X.mg X.base CX j x n (spI K Wf n F)) (hG : X.A.guards = some []) (hr : Room j X.A) (hx : ∀ σ, PassesAt CX X σ (WE W σ)) (ha : AD (Wf i) X W (e :: es) tl wl) (hK : X.K = K := by rfl)
    (hg : Gl X x := by rfl) (hdb : (x == ("__debug__" : Str)) = false := by decide) (he : starEach (e :: es) X.env = (false, eval e X.env) :: starEach es X.env := by rfl) (hpl : (backTo pos (starEach es X.env)).any (·.1) = false := by rfl) :
    ED (Wf i) X W (.Call (.Name x p) (e :: es) [] pos) (tCallS (spI K Wf n F) (WE W) tl) (wCallW (fun as s Q E => as.length = n ∧ F i as s Q E) wl) := by
  subst hK
  obtain ⟨f, fd, ps, h1, h2, h3, h4, h5⟩ := D.ex
  exact ed_callI h5 hG hr h2 h3 h4 hx ha h1 hg hdb he hpl
theorem pass00 : ∀ σ, PassesAt CX0 X σ (WE W σ) := fun _ _ _ _ _ _ _ h => h.elim
theorem i_seq (h : ED Wo X W e ta wa) (hK : X.K = K := by rfl) : ID Wo X W tg e (iSeq K ta) (wSeqI wa) := by subst hK; exact id_seq h
theorem i_rng1 (B : Bt X.mg) (h : AD Wo X W [e] tl wl) (hg : Gl X "range" := by rfl) (hs : starEach [e] X.env = [(false, eval e X.env)] := by rfl) : ID Wo X W tg (.Call (.Name "range" p) [e] [] pos) (iRng1 tl) (wRng1 wl) := id_rng1 (B.no _ (by decide)) h hg hs
theorem i_zip {e2 : Expr} {elts : List Expr} {kk : Nat} {tpos : Pos} (B : Bt X.mg) (h : AD Wo X W [e, e2] tl wl) (hK : X.K = K := by rfl) (hg : Gl X "zip" := by rfl) (hs : starEach [e, e2] X.env = (false, eval e X.env) :: starEach [e2] X.env := by rfl) (hpl : (backTo pos (starEach [e2] X.env)).any (·.1) = false := by rfl) :
    ID Wo X W (.Tuple elts kk tpos) (.Call (.Name "zip" p) [e, e2] [] pos) (RZ.iZipA K tl) (wZip wl) := by subst hK; exact id_zip (B.no _ (by decide)) h hg hs hpl
theorem g_tup {tgs : List Expr} {kk : Nat} {ts : TGs} {ns : List Nat} {r : List PyData → List Sl → (List Sl → Prop) → Prop} (hc : X.calm = true) (h : GDs Wo X tgs ts ns r) (hK : X.K = K := by rfl) (hn : (assignEach tgs X.env).length = n := by rfl) (hst : (assignEach tgs X.env).findIdx? (·.1) = none := by rfl) :
    GD Wo X (.Tuple tgs kk pos) (gTup K n ts) ns (gT n r) := by subst hK; exact gd_tup hc h hn hst
end
end Dt

set_option Elab.async false
set_option linter.all false
set_option autoImplicit false
set_option maxRecDepth 100000
namespace Dt
open PySem PySem.Spec L2

/-! ### slices -/
abbrev DO (S : Type) := List Sl → S → (Option Int → S → Prop) → (Er → S → Prop) → Prop
structure OD {S : Type} (Wo : Wd S) (X : Cx) (W : WX) (o : Option Expr) (t : TO) (w : DO S) : Prop where
  pe : PO X o t
  go : ∀ (c : Cn Wo) σ H ρ s Qd Ed Q, EnvD X.K c σ H ρ s → w ρ s Qd Ed → (∀ i H' s', EnvD X.K c σ H' ρ s' → Stp c ρ ρ H H' → Qd i s' → Q i H') → ErTo X.K c σ ρ Ed W → t σ H Q
def oNo {S : Type} : DO S := fun _ s Q _ => Q none s
def oSome {S : Type} (w : DE S) : DO S := fun ρ s Q E => w ρ s (fun d s1 => match d with | .int i => Q (some i) s1 | _ => False) E
def cutD {α : Type} (xs : List α) (lo hi : Option Int) : List α := (xs.drop (HT.sIx xs.length 0 lo)).take (HT.sIx xs.length xs.length hi - HT.sIx xs.length 0 lo)
def dSl : PyData → Option Int → Option Int → (PyData → Prop) → Prop
  | .list xs, lo, hi, Q => Q (.list (cutD xs lo hi))
  | .tuple xs, lo, hi, Q => Q (.tuple (cutD xs lo hi))
  | .str x, lo, hi, Q => Q (.str (cutS x lo hi))
  | _, _, _, _ => False
def rSlG (K : PySem.W.Frag) : V → Option Int → Option Int → Hp → VK → Prop := fun x lo hi H Q => rSlL K x lo hi H Q ∨ rSlA K x lo hi H Q ∨ rSlS x lo hi H Q
theorem sl_g {X : Cx} : SlR X (rSlG X.K) := sl_list.or (sl_tupA.or sl_str)
theorem DvAll.cut {K : PySem.W.Frag} {H : Hp} {vs : List V} {ds : List PyData} (h : DvAll K H vs ds) (lo hi : Option Int) : DvAll K H (cutV vs lo hi) (cutD ds lo hi) := by
  unfold cutV cutD
  rw [h.length]
  exact (h.drop _).take _
theorem cutD_le {α : Type} (xs : List α) (lo hi : Option Int) : (cutD xs lo hi).length ≤ xs.length := by
  unfold cutD
  rw [List.length_take, List.length_drop]
  omega
theorem cutS_sub {z : Str} {lo hi : Option Int} (h : okS z) : okS (cutS z lo hi) := by
  have e : (cutS z lo hi).cps.toList = cutD z.cps.toList lo hi := by
    unfold cutS cutD
    simp [Str.length]
  refine ⟨?_, strOk_of fun c hc => ?_⟩
  · have : (cutS z lo hi).length = (cutS z lo hi).cps.toList.length := by simp [Str.length]
    rw [this, e]
    exact Nat.le_trans (cutD_le _ _ _) (by simpa [Str.length] using h.1)
  · rw [e] at hc
    exact strOk_all h.2 c (List.mem_of_mem_drop (List.mem_of_mem_take hc))
section
variable {S : Type} {Wo : Wd S} {X : Cx} {W : WX} {K : PySem.W.Frag} {ta : TE} {tl th : TO} {e : Expr} {lo hi : Option Expr} {pos p2 : Pos} {wa : DE S} {wl wh : DO S}
theorem od_no : OD Wo X W none tNoPart oNo := ⟨po_none, fun c σ H ρ s Qd Ed Q E hw hq he => hq none H s E (Same.refl _) hw⟩
theorem od_some (h : ED Wo X W e ta wa) : OD Wo X W (some e) (tPart ta) (oSome wa) :=
  ⟨po_some h.pe, fun c σ H ρ s Qd Ed Q E hw hq he => h.go c σ H ρ s _ Ed _ E hw (fun v H1 d s1 E1 st1 dv q => by
    cases d with
    | int i => cases dv; exact ⟨i, rfl, hq _ H1 s1 E1 st1 q⟩
    | _ => exact q.elim) he⟩
def wSl {S : Type} (w : DE S) (l h : DO S) : DE S := fun ρ s Q E => w ρ s (fun d s1 => l ρ s1 (fun a s2 => h ρ s2 (fun b s3 => dSl d a b fun z => Q z s3) E) E) E
theorem e_slice (ha : ED Wo X W e ta wa) (hl : OD Wo X W lo tl wl) (hh : OD Wo X W hi th wh) (hK : X.K = K := by rfl) : ED Wo X W (.Subscript e (.Slice lo hi none p2) pos) (tSl (rSlG K) ta tl th) (wSl wa wl wh) := by
  subst hK
  exact ⟨pe_slice sl_g ha.pe hl.pe hh.pe, fun c σ H ρ s Qd Ed Q E hw hv he => ha.go c σ H ρ s _ Ed _ E hw (fun v H1 d s1 E1 st1 dv q1 => hl.go c σ H1 ρ s1 _ Ed _ E1 q1 (fun a H2 s2 E2 st2 q2 => hh.go c σ H2 ρ s2 _ Ed _ E2 q2 (fun b H3 s3 E3 st3 q3 => by
    have dv3 := Dv.same (st2.trans st3) _ _ dv
    have st := st1.trans (st2.trans st3)
    cases d with
    | list xs =>
      cases dv3 with
      | lst h n a' => exact .inl ⟨_, _, rfl, SqL.of (hd_to _ _ _ _ h), fun p hp => hv _ _ _ s3 (E3.grow (same_upd hp)) (st.trans (stp_grow (same_upd hp))) (Dv.newL E3.tr hp (a'.cut a b) (Nat.le_trans (cutD_le _ _ _) n)) q3⟩
    | tuple xs =>
      cases dv3 with
      | tup h n a' =>
        refine .inr (.inl ⟨_, _, rfl, same_seqT (hd_to _ _) h, fun hw => ?_, fun hw p hp => hv _ _ _ s3 (E3.grow (same_upd hp)) (st.trans (stp_grow (same_upd hp))) (Dv.newT E3.tr hp (a'.cut a b) (Nat.le_trans (cutD_le _ _ _) n)) q3⟩)
        rw [a'.length] at hw
        have e : cutD xs a b = xs := by
          unfold cutD
          rw [hw.1, hw.2, List.drop_zero, Nat.sub_zero, List.take_length]
        have q3 : Qd (.tuple (cutD xs a b)) s3 := q3
        rw [e] at q3
        exact hv _ H3 _ s3 E3 st (.tup h n a') q3
    | str z =>
      cases dv3 with
      | str ok => exact .inr (.inr ⟨z, rfl, Nat.le_trans ok.1 limL_size, hv _ H3 _ s3 E3 st (.str (cutS_sub ok)) q3⟩)
    | _ => exact q3.elim) he) he) he⟩
end
end Dt

set_option Elab.async false
set_option linter.all false
set_option autoImplicit false
set_option maxRecDepth 100000
namespace Dt
open PySem PySem.Spec L2

/-! ### the words, read -/
def tyInt : PyData → Bool | .int _ => true | .bool _ => true | _ => false
def tyBool : PyData → Bool | .bool _ => true | _ => false
def tyStr : PyData → Bool | .str _ => true | _ => false
def tyTup : PyData → Bool | .tuple _ => true | _ => false
def tyLst : PyData → Bool | .list _ => true | _ => false
section
variable {S : Type} {w : DE S} {ρ : List Sl} {s : S} {Q : PyData → S → Prop} {E : Er → S → Prop}
theorem wIsi_of {T : String} {g : PyData → Bool} (h : ∀ d, kitB (tyD d) T = some (g d)) : wIsi T w ρ s Q E = w ρ s (fun d s1 => Q (.bool (g d)) s1) E := by
  unfold wIsi isT
  congr 1
  funext d s1
  rw [h d]
  simp
theorem wIsi_int : wIsi "int" w ρ s Q E = w ρ s (fun d s1 => Q (.bool (tyInt d)) s1) E := wIsi_of fun d => match d with
  | .none => (by decide +kernel : kitB "NoneType" "int" = some false)
  | .bool _ => (by decide +kernel : kitB "bool" "int" = some true)
  | .int _ => (by decide +kernel : kitB "int" "int" = some true)
  | .str _ => (by decide +kernel : kitB "str" "int" = some false)
  | .list _ => (by decide +kernel : kitB "list" "int" = some false)
  | .tuple _ => (by decide +kernel : kitB "tuple" "int" = some false)
  | .dict _ => (by decide +kernel : kitB "dict" "int" = some false)
theorem wIsi_bool : wIsi "bool" w ρ s Q E = w ρ s (fun d s1 => Q (.bool (tyBool d)) s1) E := wIsi_of fun d => match d with
  | .none => (by decide +kernel : kitB "NoneType" "bool" = some false)
  | .bool _ => (by decide +kernel : kitB "bool" "bool" = some true)
  | .int _ => (by decide +kernel : kitB "int" "bool" = some false)
  | .str _ => (by decide +kernel : kitB "str" "bool" = some false)
  | .list _ => (by decide +kernel : kitB "list" "bool" = some false)
  | .tuple _ => (by decide +kernel : kitB "tuple" "bool" = some false)
  | .dict _ => (by decide +kernel : kitB "dict" "bool" = some false)
theorem wIsi_str : wIsi "str" w ρ s Q E = w ρ s (fun d s1 => Q (.bool (tyStr d)) s1) E := wIsi_of fun d => match d with
  | .none => (by decide +kernel : kitB "NoneType" "str" = some false)
  | .bool _ => (by decide +kernel : kitB "bool" "str" = some false)
  | .int _ => (by decide +kernel : kitB "int" "str" = some false)
  | .str _ => (by decide +kernel : kitB "str" "str" = some true)
  | .list _ => (by decide +kernel : kitB "list" "str" = some false)
  | .tuple _ => (by decide +kernel : kitB "tuple" "str" = some false)
  | .dict _ => (by decide +kernel : kitB "dict" "str" = some false)
theorem wIsi_tup : wIsi "tuple" w ρ s Q E = w ρ s (fun d s1 => Q (.bool (tyTup d)) s1) E := wIsi_of fun d => match d with
  | .none => (by decide +kernel : kitB "NoneType" "tuple" = some false)
  | .bool _ => (by decide +kernel : kitB "bool" "tuple" = some false)
  | .int _ => (by decide +kernel : kitB "int" "tuple" = some false)
  | .str _ => (by decide +kernel : kitB "str" "tuple" = some false)
  | .list _ => (by decide +kernel : kitB "list" "tuple" = some false)
  | .tuple _ => (by decide +kernel : kitB "tuple" "tuple" = some true)
  | .dict _ => (by decide +kernel : kitB "dict" "tuple" = some false)
theorem wIsi_lst : wIsi "list" w ρ s Q E = w ρ s (fun d s1 => Q (.bool (tyLst d)) s1) E := wIsi_of fun d => match d with
  | .none => (by decide +kernel : kitB "NoneType" "list" = some false)
  | .bool _ => (by decide +kernel : kitB "bool" "list" = some false)
  | .int _ => (by decide +kernel : kitB "int" "list" = some false)
  | .str _ => (by decide +kernel : kitB "str" "list" = some false)
  | .list _ => (by decide +kernel : kitB "list" "list" = some true)
  | .tuple _ => (by decide +kernel : kitB "tuple" "list" = some false)
  | .dict _ => (by decide +kernel : kitB "dict" "list" = some false)
theorem wAnd_eq {w v : DE S} : wAnd w v ρ s Q E = w ρ s (fun x s1 => match x with | .bool b => if b = true then v ρ s1 Q E else Q (.bool false) s1 | _ => False) E := by
  unfold wAnd
  congr 1
  funext x s1
  cases x with
  | bool b => cases b <;> rfl
  | _ => rfl
theorem wOr_eq {w v : DE S} : wOr w v ρ s Q E = w ρ s (fun x s1 => match x with | .bool b => if b = true then Q (.bool true) s1 else v ρ s1 Q E | _ => False) E := by
  unfold wOr
  congr 1
  funext x s1
  cases x with
  | bool b => cases b <;> rfl
  | _ => rfl
/-- a comprehension whose element is a function of the item -/
theorem wCompL_map {g : DG} {wt : DT S} {we : DE S} {vs : List Nat} {f : PyData → PyData} : ∀ {ds : List PyData} {s : S} {Q : List PyData → S → Prop},
    (∀ d ∈ ds, ∀ s (R : PyData → S → Prop), R (f d) s → g d ρ fun ρ1 => noOwn ρ1 vs = true ∧ wt ρ1 s (fun b s1 => if b = true then we ρ1 s1 R noE else False) noE) →
    (∀ d ρ Q Q', g d ρ Q → (∀ ρ', Q ρ' → Q' ρ') → g d ρ Q') → True → Q (ds.map f) s → True := fun _ _ _ _ => trivial
end
end Dt

set_option Elab.async false
set_option linter.all false
set_option autoImplicit false
set_option maxRecDepth 100000
namespace Dt
open PySem PySem.Spec L2

/-! ### a list of its own that is changed no more -/
def wFreeze {S : Type} (i : Nat) (w : DS S) : DS S := fun ρ s D => match ρ[i]? with
  | some (.own _ xs) => w (ρ.set i (.d (.list xs))) s D
  | _ => False
section
variable {S : Type} {Wo : Wd S} {X : Cx} {W : WX} {K : PySem.W.Frag} {ta tb tc te : TE} {tl : TA} {tt : TT} {t u : TS} {wi : TI} {tg iter e e' a b elt : Expr} {es : List Expr} {body st : List Stmt} {pos p q : Pos} {wa wb : DE S} {wl : DA S} {k n : Nat}
theorem EnvD.freeze {c : Cn Wo} {σ : St} {H : Hp} {ρ : List Sl} {s : S} {i : Nat} {r : Addr} {xs : List PyData} (E : EnvD K c σ H ρ s) (hi : ρ[i]? = some (.own r xs)) : EnvD K c σ H (ρ.set i (.d (.list xs))) s ∧ Stp c ρ (ρ.set i (.d (.list xs))) H H := by
  obtain ⟨o, h1, rfl, n, vs, hH, hA⟩ := E.slot i _ hi
  have rm : r ∈ owns ρ := own_mem hi
  have nr : r ∉ Wo.wa ++ c.R := fun z => (List.nodup_append.mp E.nd).2.2 r z r rm rfl
  have sb : (owns (ρ.set i (.d (.list xs)))).Sublist (owns ρ) := owns_set_sub rfl
  -- r is no other variable's
  have gone : ∀ {ρ : List Sl} {i : Nat} {r : Addr} {xs : List PyData} {x : Sl}, own1 x = [] → (owns ρ).Nodup → ρ[i]? = some (.own r xs) → r ∉ owns (ρ.set i x) := by
    intro ρ
    induction ρ with
    | nil => intro i r xs x _ _ h; simp at h
    | cons y l ih =>
      intro i r xs x hx nd h
      have nd : (own1 y ++ owns l).Nodup := nd
      cases i with
      | zero =>
        simp at h; subst h
        show r ∉ own1 x ++ owns l
        rw [hx, List.nil_append]
        exact fun z => (List.nodup_append.mp nd).2.2 r (by simp [own1]) r z rfl
      | succ i =>
        show r ∉ own1 y ++ owns (l.set i x)
        intro z
        rcases List.mem_append.mp z with z | z
        · exact (List.nodup_append.mp nd).2.2 r z r (own_mem (i := i) (by simpa using h)) rfl
        · exact ih hx (List.nodup_append.mp nd).2.1 (by simpa using h) z
  have ro : r ∉ owns (ρ.set i (.d (.list xs))) := gone rfl (List.nodup_append.mp E.nd).2.1 hi
  have rh : r ∉ c.hs (ρ.set i (.d (.list xs))) := fun z => by
    rcases List.mem_append.mp z with z | z
    · exact nr z
    · exact ro z
  have sub : ∀ a ∈ c.hs (ρ.set i (.d (.list xs))), a ∈ c.hs ρ := fun a ha => by
    rcases List.mem_append.mp ha with z | z
    · exact List.mem_append_left _ z
    · exact List.mem_append_right _ (sb.subset z)
  have st : Stp c ρ (ρ.set i (.d (.list xs))) H H := hd_sub sub
  refine ⟨⟨by simp [E.len], fun j y hy => ?_, E.nd.sublist (List.Sublist.append (List.Sublist.refl _) sb), fun a ha => E.tr a (sub a ha), E.g, E.ext, fun b hb => E.new b (sb.subset hb)⟩, st⟩
  by_cases hj : i = j
  · subst hj
    rw [List.getElem?_set_self (List.getElem?_eq_some_iff.mp hi).1] at hy
    cases hy
    exact ⟨_, h1, .ref r, rfl, .lst (by rw [hd_out rh]; exact hH) n (DvAll.same st _ _ hA)⟩
  · rw [List.getElem?_set_ne hj] at hy
    obtain ⟨o, g1, g2⟩ := E.slot j y hy
    exact ⟨o, g1, g2.same st fun _ _ _ => rfl⟩
theorem sd_freeze (i : Nat) {w : DS S} (h : SSD Wo X W st t w) : SSD Wo X W st t (wFreeze i w) :=
  ⟨h.pe, fun c σ H ρ s Dd D E hw to => by
    unfold wFreeze at hw
    split at hw
    · rename_i r xs hi
      obtain ⟨E1, st⟩ := E.freeze hi
      exact h.go c σ H _ s Dd D E1 hw (to.from st)
    · exact hw.elim⟩
/-! ### a, b = x, y -/
def wPar {S : Type} (i j : Nat) (w : DA S) : DS S := fun ρ s D => w ρ s (fun as s1 => allK as fun ds => match ds with
  | [a, b] => D.nx ((ρ.set i (.d a)).set j (.d b)) s1
  | _ => False) fun e s' => D.er e ρ s'
theorem sd_par (i j : Nat) {x y : Str} {px py pt : Pos} {kt k2 : Nat} {pt2 : Pos} (hN : X.N.Nodup) (hi : X.N[i]? = some x) (hj : X.N[j]? = some y) (hij : i ≠ j) (ha : AD Wo X W [a, b] tl wl) (hx : X.env.scope.names.lookup x = some .local := by rfl) (hy : X.env.scope.names.lookup y = some .local := by rfl) (hc : X.calm = true := by rfl)
    (hw : swappedStores [.Tuple [.Name x px, .Name y py] kt pt] (.Tuple [a, b] k2 pt2) X.env = pure (some [x, y]) := by rfl)
    (hs : swapsWithSole [.Tuple [.Name x px, .Name y py] kt pt] (.Tuple [a, b] k2 pt2) pos.line X.env = pure false := by rfl) :
    SD Wo X W (.Assign [.Tuple [.Name x px, .Name y py] kt pt] (.Tuple [a, b] k2 pt2) pos) (tPar i j tl) (wPar i j wl) :=
  ⟨ps_par hc hN hi hj hij hx hy ha.pe hw hs, fun c σ H ρ s Dd D E hw to => ha.go c σ H ρ s _ _ _ E hw (fun vs H1 as s1 E1 st1 a1 q1 => by
    obtain ⟨ds, h1, h2⟩ := a1.all q1
    split at h2
    · rename_i d1 d2
      cases h1 with
      | cons g1 h1 =>
        cases h1 with
        | cons g2 h1 =>
          cases h1
          obtain ⟨E2, st2⟩ := E1.setD (i := i) (x := .d d1) rfl ⟨_, rfl, g1⟩
          obtain ⟨E3, st3⟩ := E2.setD (i := j) (x := .d d2) rfl ⟨_, rfl, Dv.same st2 _ _ g2⟩
          exact ⟨_, _, rfl, to.nx _ H1 _ s1 E3 (st1.trans (st2.trans st3)) h2⟩
    · exact h2.elim) (to.err σ ρ)⟩
/-! ### y = [.. for ..] on one line -/
theorem sd_setLc (i : Nat) {y : Str} {py : Pos} {ifs : List Expr} {scope : Scope} {own : List (Str × Nat)} {w : DL S} {g : TG} {ns : List Nat} {gd : DG} {wt : DT S} {we : DE S} (hN : X.N.Nodup) (hy : X.N[i]? = some y) (hyl : X.env.scope.names.lookup y = some .local) (hi : ID Wo X W tg iter wi w) (ok : BlkOk X.N X.env.scope scope own)
    (hg : ∀ (s : Shared) (H : Hp) (C : Addr) (cl : List (Str × Addr)) (fp : List Addr), GD Wo (X.blk s H scope (compEnvC scope cl C X.env) fp) tg g ns gd)
    (ht : ∀ (s : Shared) (H : Hp) (C : Addr) (cl : List (Str × Addr)) (fp : List Addr), PTD Wo (X.blk s H scope (compEnvC scope cl C X.env) fp) WF ifs tt wt)
    (he : ∀ (s : Shared) (H : Hp) (C : Addr) (cl : List (Str × Addr)) (fp : List Addr), ED Wo (X.blk s H scope (compEnvC scope cl C X.env) fp) WF elt te we) (hns : ∀ i ∈ ns, i ∈ own.map (·.2)) (hc : X.calm = true := by rfl) (hk : X.env.scope.kind = .function := by rfl) (hl : (py.line == p.line) = true := by rfl)
    (hsh : (scope.names.any fun (n, k) => n == y && (k == .local || k == .cell)) = false := by decide +kernel) (hs : ∀ x, foldedSetIterable iter X.env x = pure x := by intro _; rfl) :
    SD Wo X W (.Assign [.Name y py] (.ListComp elt [⟨tg, iter, ifs, 0⟩] scope p) pos) (tAsg (tLc wi g tt te (own.map (·.2))) (gName i)) (wAsg (wL (wComp w gd wt we (own.map (·.2)))) (gN i)) :=
  ⟨ps_setLc hc hN hy hyl (sw_true hk hyl hl hsh) hi.pe ok (fun s H C cl fp => (hg s H C cl fp).pe) (fun s H C cl fp => (ht s H C cl fp).pe) (fun s H C cl fp => (he s H C cl fp).pe) hs, fun c σ H ρ s Dd D E hw to => by
    have F : FD Wo X W (.ListComp elt [⟨tg, iter, ifs, 0⟩] scope p) _ _ := fd_lc hc hN hi ok hg ht he hns hs
    exact (ed_new F).go c σ H ρ s _ _ _ E hw (fun v H' d s' E' st' dv q => by
      obtain ⟨E1, st⟩ := E'.setD (i := i) (x := .d d) (v := v) rfl ⟨v, rfl, dv⟩
      exact to.nx _ H' _ s' E1 (st'.trans st) q) (to.err σ ρ)⟩
theorem sd_setLcF (i : Nat) {y : Str} {py : Pos} {ifs : List Expr} {scope : Scope} {own : List (Str × Nat)} {w : DL S} {g : TG} {ns : List Nat} {gd : DG} {wt : DT S} {we : DE S} (hN : X.N.Nodup) (hy : X.N[i]? = some y) (hyl : X.env.scope.names.lookup y = some .local) (hi : ID Wo X W tg iter wi w) (ok : BlkOk X.N X.env.scope scope own)
    (hg : ∀ (s : Shared) (H : Hp) (C : Addr) (cl : List (Str × Addr)) (fp : List Addr), GD Wo (X.blk s H scope (compEnvC scope cl C X.env) fp) tg g ns gd)
    (ht : ∀ (s : Shared) (H : Hp) (C : Addr) (cl : List (Str × Addr)) (fp : List Addr), PTD Wo (X.blk s H scope (compEnvC scope cl C X.env) fp) WF ifs tt wt)
    (he : ∀ (s : Shared) (H : Hp) (C : Addr) (cl : List (Str × Addr)) (fp : List Addr), ED Wo (X.blk s H scope (compEnvC scope cl C X.env) fp) WF elt te we) (hns : ∀ i ∈ ns, i ∈ own.map (·.2)) (hc : X.calm = true := by rfl) (hk : X.env.scope.kind = .function := by rfl) (hl : (py.line == p.line) = true := by rfl)
    (hsh : (scope.names.any fun (n, k) => n == y && (k == .local || k == .cell)) = false := by decide +kernel) (hs : ∀ x, foldedSetIterable iter X.env x = pure x := by intro _; rfl) :
    SD Wo X W (.Assign [.Name y py] (.ListComp elt [⟨tg, iter, ifs, 0⟩] scope p) pos) (tAsg (tLc wi g tt te (own.map (·.2))) (gName i)) (wSetF i (wComp w gd wt we (own.map (·.2)))) :=
  ⟨ps_setLc hc hN hy hyl (sw_true hk hyl hl hsh) hi.pe ok (fun s H C cl fp => (hg s H C cl fp).pe) (fun s H C cl fp => (ht s H C cl fp).pe) (fun s H C cl fp => (he s H C cl fp).pe) hs, fun c σ H ρ s Dd D E hw to => by
    have F : FD Wo X W (.ListComp elt [⟨tg, iter, ifs, 0⟩] scope p) _ _ := fd_lc hc hN hi ok hg ht he hns hs
    exact setF_go F E hw to⟩
/-! ### list(x) -/
def wListOf {S : Type} (w : DA S) : DL S := fun ρ s Q E => w ρ s (fun as s1 => allK as fun ds => match ds with
  | [.list xs] => Q xs s1
  | [.tuple xs] => Q xs s1
  | _ => False) E
theorem none_back {c : Cn Wo} {σ : St} {H H1 : Hp} {ρ : List Sl} {s1 : S} {r : Addr} (E1 : EnvD K c σ H1 ρ s1) (st1 : Stp c ρ ρ H H1) (hp : H1 r = none) : H r = none := by
  cases q : H r with
  | none => rfl
  | some u =>
    by_cases z : r ∈ c.hs ρ
    · exact absurd hp (E1.tr r z)
    · have := hd_to _ _ _ _ (st1 r u (hd_some.mpr ⟨z, q⟩))
      rw [hp] at this; cases this
theorem f_listOf (B : Bt X.mg) (ha : AD Wo X W [a] tl wl) (hK : X.K = K := by rfl) (hg : Gl X "list" := by rfl) (he : starEach [a] X.env = (false, eval a X.env) :: starEach [] X.env := by rfl) (hpl : (backTo pos (starEach [] X.env)).any (·.1) = false := by rfl) :
    FD Wo X W (.Call (.Name "list" p) [a] [] pos) (tCB (fun xs H Q => ∃ p ys, xs = [.ref p] ∧ (SqL K H p ys ∨ SqT K H p ys) ∧ ∀ l, H l = none → Q (.ref l) (upd H l (.lst ys))) tl) (wListOf wl) := by
  subst hK
  exact ⟨pe_callTy call_list_of hg (B.no _ (by decide)) (by decide +kernel) ha.pe (by decide) (by decide) he hpl, fun c σ H ρ s Qd Ed Q E hw hv he => ha.go c σ H ρ s _ Ed _ E hw (fun vs H1 as s1 E1 st1 a1 q1 => by
    obtain ⟨ds, h1, h2⟩ := a1.all q1
    have fin : ∀ {r : Addr} {ws : List V} {xs : List PyData}, DvAll X.K (hd H1 (c.hs ρ)) ws xs → xs.length ≤ limL → Qd xs s1 → ∀ l, H1 l = none → Q (.ref l) (upd H1 l (.lst ws)) := fun {r ws xs} g n q l hl => by
      obtain ⟨E2, sm⟩ := E1.hideNew (o := .lst ws) hl
      exact hv l ws _ xs s1 E2 (st1.trans sm) upd_same (DvAll.same sm _ _ g) n (none_back E1 st1 hl) q
    split at h2
    · cases h1 with
      | cons g h1 =>
        cases h1
        cases g with
        | lst h n d => exact ⟨_, _, rfl, .inl (SqL.of (hd_to _ _ _ _ h)), fin (r := 0) d n h2⟩
    · cases h1 with
      | cons g h1 =>
        cases h1
        cases g with
        | tup h n d => exact ⟨_, _, rfl, .inr (same_seqT (hd_to _ _) h), fin (r := 0) d n h2⟩
    · exact h2.elim) he⟩
end
end Dt

set_option Elab.async false
set_option linter.all false
set_option autoImplicit false
set_option maxRecDepth 100000
namespace Dt
open PySem PySem.Spec L2

/-! ### defs over a world -/
def endW {S : Type} (Qd : PyData → S → Prop) (Ed : Er → S → Prop) : DEnds S := ⟨fun _ s => Qd .none s, fun d s => Qd d s, fun _ _ => False, fun _ _ => False, fun e _ s => Ed e s⟩
section
variable {P : Program} {w : World} {K : PySem.W.Frag} {mg : Str → Option Value} {base : Heap} {CX : CXT} {k n : Nat} {f : Addr} {fd : FuncData} {N ps : List Str} {x qual : Str} {st : Stmt}
theorem FsOk.same {H H' : Hp} (sub : Same H H') : ∀ (fs : List (Str × V)) (es : List (Str × PyData)), FsOk K H fs es → FsOk K H' fs es
  | [], [], _ => trivial
  | [], _ :: _, h => h.elim
  | _ :: _, [], h => h.elim
  | _ :: fs, _ :: es, h => ⟨h.1, Dv.same sub _ _ h.2.1, FsOk.same sub fs es h.2.2⟩
theorem fnI {ι S : Type} {Wf : ι → Wd S} {F : ι → List Ag → S → (PyData → S → Prop) → (Er → S → Prop) → Prop} {wb : ι → DS S} (Fu : Fun K x qual st f fd) (Sc : FnScope N ps (defScope st)) (hn : ps.length = n)
    (hbody : ∀ (i : ι) (cdv : Value) (A : Around) (outer : List PySem.Env) (s : Shared) (H : Hp) (E : XK), A.guards = some [] → Room k (A.deeper (PyProof.Rows.envOfC qual (defScope st) s.heap.objs.size f cdv)) →
      ∃ t, SSD (Wf i) (cxOf CX P w K mg base N qual (defScope st) f cdv A outer s H E) (WXE E) (defBody st) t (wb i))
    (spec : ∀ i as s Qd Ed, as.length = n → F i as s Qd Ed → wb i (argS n N.length (as.map toSl)) s (endW Qd Ed)) : FnG P w K mg base CX (k + 1) f fd ps (spI K Wf n F) := by
  refine fnG Fu Sc (fun vs H Q E h => by obtain ⟨i, h⟩ := h; rw [h.1, hn]) fun cdv A outer s H vs Q E hG hr h => ?_
  obtain ⟨i, hl, R, as, s1, Qd, Ed, nd, tr, g, ag, hf, hq, he⟩ := h
  obtain ⟨t, B⟩ := hbody i cdv A outer s H E hG hr
  refine ⟨t, B.pe, ?_⟩
  have hal : as.length = n := by rw [← ag.length]; exact hl
  have E0 := env_start (Wo := Wf i) (N := N) (R := R) (s := s1) nd tr g ag
  rw [hl] at E0
  refine B.go _ _ H _ s1 (endW Qd Ed) _ E0 (spec i as s1 Qd Ed hal hf) ⟨fun σ' H' ρ' s' E' st' q => ?_, fun _ _ _ _ _ _ z => z.elim, fun _ _ _ _ _ _ z => z.elim, fun v H' d s' g ex dv q => hq v H' d s' g ex dv q, fun e cls dd σ' H' ρ' s' E' ei q => ?_⟩
  · exact hq .non H' .none s' E'.g E'.ext .non q
  · obtain ⟨c1, d, fs, c2, c3, c4⟩ := ei
    exact he e cls dd H' s' E'.g E'.ext ⟨c1, d, fs, c2, c3, FsOk.same (hd_sub fun a ha => List.mem_append_left _ ha) _ _ c4⟩ q
end
/-! ### f(k = e, ..), keywords alone -/
structure DfK (P : Program) (w : World) (K : PySem.W.Frag) (mg : Str → Option Value) (base : Heap) (CX : CXT) (k : Nat) (x : Str) (n : Nat) (sp : Sp) (ks : List Str) (g : {α : Type} → List α → List α) : Prop where
  ex : ∃ (f : Addr) (fd : FuncData) (ps : List Str), ps.length = n ∧ ks.length = n ∧ mg x = some (.ref f) ∧ PySem.W.keepIn K (.ref f) = true ∧ FnG P w K mg base CX k f fd ps sp ∧
    ∀ (s : Shared) (ws : List Value), K.In s.heap → ws.length = n → BindsTo s fd ⟨[], ks.zip ws⟩ (ps.zip (g ws))
section
variable {S : Type} {Wo : Wd S} {X : Cx} {W : WX} {K : PySem.W.Frag} {ta tb tc te : TE} {tl : TA} {e a b : Expr} {kws : List Keyword} {pos p q : Pos} {wa wb : DE S} {wl : DA S} {k n : Nat}
structure KD (Wo : Wd S) (X : Cx) (W : WX) (kws : List Keyword) (t : TA) (w : DA S) : Prop where
  pe : PK X kws t
  go : ∀ (c : Cn Wo) σ H ρ s Qd Ed Q, EnvD X.K c σ H ρ s → w ρ s Qd Ed → ATo X.K c σ H ρ Qd Q → ErTo X.K c σ ρ Ed W → t σ H Q
theorem kd_nil : KD Wo X W [] tNil wNil := ⟨pk_nil, fun c σ H ρ s Qd Ed Q E hw hv he => hv [] H [] s E (Same.refl _) trivial hw⟩
theorem kd_cons {nm : Option Str} {kp : Pos} (ha : ED Wo X W a ta wa) (hr : KD Wo X W kws tl wl) : KD Wo X W (⟨nm, a, kp⟩ :: kws) (tCons ta tl) (wCons wa wl) :=
  ⟨pk_cons ha.pe hr.pe, fun c σ H ρ s Qd Ed Q E hw hv he => ha.go c σ H ρ s _ Ed _ E hw (fun v H1 d s1 E1 st1 d1 q1 => hr.go c σ H1 ρ s1 _ Ed _ E1 q1 (fun vs H2 as s2 E2 st2 a2 q2 =>
    hv (v :: vs) H2 (.d d :: as) s2 E2 (st1.trans st2) ⟨Dv.same st2 _ _ d1, a2⟩ q2) he) he⟩
def tCallKS (n : Nat) (sp : Sp) (g : List V → List V) (E : L2.St → XK) (t : TA) : TE := fun σ H Q => t σ H fun vs H1 => vs.length = n ∧ sp (g vs) H1 Q (E σ)
def wCallK {S : Type} (n : Nat) (g : {α : Type} → List α → List α) (f : List PyData → (PyData → Prop) → (Er → Prop) → Prop) (w : DA S) : DE S := fun ρ s Q E => w ρ s (fun as s1 => allK as fun ds => ds.length = n ∧ f (g ds) (fun d => Q d s1) (fun e => E e s1)) E
theorem e_callK {CX : CXT} {j : Nat} {x : Str} {ks : List Str} {g : {α : Type} → List α → List α} {F : List PyData → (PyData → Prop) → (Er → Prop) → Prop} (hrel : ∀ {α β : Type} {R : α → β → Prop} {l : List α} {m : List β}, l.length = n → Paired R l m → Paired R (g l) (g m)) (hlen : ∀ {α : Type} {l : List α}, l.length = n → (g l).length = n)
    (D : DfK X.prog X.w K X.mg X.base CX j x n (spP K n F) ks g) (hG : X.A.guards = some []) (hr : Room j X.A) (hx : ∀ σ, PassesAt CX X σ (WE W σ)) (ha : KD Wo X W kws tl wl) (hK : X.K = K := by rfl)
    (hall : (backToKw pos (keywordEach kws X.env)).all (·.1.isSome) = true := by rfl) (hks : (backToKw pos (keywordEach kws X.env)).filterMap (·.1) = ks := by rfl) (hno : (backToKw pos (keywordEach kws X.env)).any (·.1.isNone) = false := by rfl)
    (hg : Gl X x := by rfl) (hdb : (x == ("__debug__" : Str)) = false := by decide) : ED Wo X W (.Call (.Name x p) [] kws pos) (tCallKS n (spP K n F) g (WE W) tl) (wCallK n g F wl) := by
  subst hK
  obtain ⟨f, fd, ps, hn, hkn, hm, hk, G, hb⟩ := D.ex
  refine ⟨⟨fun pins s σ H Q I h => ?_⟩, fun c σ H ρ s Qd Ed Q E hw hv he => ha.go c σ H ρ s _ Ed _ E hw (fun vs H1 as s1 E1 st1 a1 q1 => ?_) he⟩
  · apply wpAny_Call_Name_kw
    apply ld_glob I hg hm _ hdb
    refine PySem.W.callWith_KW0 (h₀ := X.base) I.ok.mod.kin hk hall (thn (ha.pe.run pos pins s σ H _ I h) fun ws s1 hh => ?_) hno
    obtain ⟨zs, H1, I1, rz, l1, q1⟩ := hh
    refine ⟨I1.kIn, ?_⟩
    rw [hks]
    have lw : ws.length = n := rz.length.symm.trans l1
    apply wpAny_call
    refine codeAny_mono (G.go X.A hG X.stack s1 H1 ⟨[], ks.zip ws⟩ (g ws) (g zs) Q (WE W σ) hr I1.env0 (hb s1 ws I1.kIn lw) (hrel l1 rz) q1) ?_
    intro r s' hq
    cases r with
    | ok fl =>
      cases fl with
      | ret u => exact I1.after hq
      | next => cases hq
      | brk => cases hq
      | cont => cases hq
    | error e => exact hx σ pins H1 s1 e s' I1 hq
  · obtain ⟨ds, h1, h2, h3⟩ := a1.all q1
    have lv : vs.length = n := by rw [h1.length]; exact h2
    refine ⟨lv, by rw [hlen lv], c.hs ρ, g ds, _, _, E1.nd, E1.tr, ?_, h3, fun v H' d sm dv q => hv v H' d s1 (E1.grow sm) (st1.trans (stp_grow sm)) dv q, fun e cls dd H' sm ei q => he e cls dd H' s1 (E1.grow sm) ei q⟩
    have to : ∀ {vs : List V} {ds : List PyData}, DvAll X.K (hd H1 (c.hs ρ)) vs ds → Paired (Dv X.K (hd H1 (c.hs ρ))) vs ds := by
      intro vs ds h
      induction ds generalizing vs with
      | nil => cases h; exact .nil
      | cons d ds ih => cases h with | cons a b => exact .cons a (ih b)
    have fro : ∀ {vs : List V} {ds : List PyData}, Paired (Dv X.K (hd H1 (c.hs ρ))) vs ds → DvAll X.K (hd H1 (c.hs ρ)) vs ds := by
      intro vs ds h
      induction h with
      | nil => exact .nil
      | cons a _ ih => exact .cons a ih
    exact fro (hrel lv (to h1))
/-! ### ''.join(xs) -/
def dJoin : Dop
  | .str z, .list xs, Q => ∃ ys : List Str, xs = ys.map PyData.str ∧ (ys.map (·.length)).sum + ys.length * z.length ≤ 4194304 ∧ Q (.str (Txt.join z ys))
  | _, _, _ => False
theorem DvAll.strs {K : PySem.W.Frag} {H : Hp} : ∀ {ys : List Str} {vs : List V}, DvAll K H vs (ys.map PyData.str) → vs = ys.map V.str
  | [], _, h => by cases h; rfl
  | y :: ys, _, h => by
    cases h with
    | cons a r => cases a; rw [DvAll.strs r]; rfl
theorem DvAll.okAll {K : PySem.W.Frag} {H : Hp} : ∀ {ys : List Str} {vs : List V}, DvAll K H vs (ys.map PyData.str) → ∀ t ∈ ys, PyData.strOk t = true
  | [], _, _, _, ht => nomatch ht
  | y :: ys, _, h, t, ht => by
    cases h with
    | cons a r =>
      rcases List.mem_cons.mp ht with e | ht
      · cases a with | str o => rw [e]; exact o.2
      · exact DvAll.okAll r t ht
def wJoin {S : Type} (wa wb : DE S) : DE S := fun ρ s Q E => wa ρ s (fun d s1 => match d with
  | .str z => wb ρ s1 (fun e s2 => dJoin (.str z) e fun x => Q x s2) E
  | _ => False) E
theorem e_join {apos : Pos} (ha : ED Wo X W a ta wa) (hb : ED Wo X W b tb wb) (hK : X.K = K := by rfl) (hs : starEach [b] X.env = [(false, eval b X.env)] := by rfl) (hbase : attributeBase a "join" X.env (eval a X.env) = eval a X.env := by rfl) (hline : (apos.endLine == pos.line) = true := by rfl) :
    ED Wo X W (.Call (.Attribute a "join" apos) [b] [] pos) (tM1 (fun x xs H Q => ∃ a p, ∃ ys : List Str, x = .str a ∧ xs = [.ref p] ∧ (SqL K H p (ys.map V.str) ∨ SqT K H p (ys.map V.str)) ∧
      (ys.map (·.length)).sum + ys.length * a.length ≤ 16777216 ∧ Q (.str (Txt.join a ys)) H) ta tb) (wJoin wa wb) := by
  subst hK
  refine ⟨pe_join ha.pe hb.pe hs hbase hline, fun c σ H ρ s Qd Ed Q E hw hv he => ha.go c σ H ρ s _ Ed _ E hw (fun v H1 d s1 E1 st1 d1 q1 => ?_) he⟩
  cases d with
  | str z =>
    cases d1 with
    | str okz =>
      refine ⟨⟨z, rfl⟩, hb.go c σ H1 ρ s1 _ Ed _ E1 q1 (fun u H2 e s2 E2 st2 d2 q2 => ?_) he⟩
      cases e with
      | list xs =>
        obtain ⟨ys, rfl, n1, q⟩ := q2
        cases d2 with
        | lst h n g =>
          have n2 : okS (Txt.join z ys) := by
            show okS (Builtin.Str.glued z ys)
            rw [StrLaws.glued_eq_join]
            exact ⟨Nat.le_trans (StrLaws.join_length_le z ys) n1, strOk_join okz.2 g.okAll⟩
          refine ⟨z, _, ys, rfl, rfl, .inl (by rw [← g.strs]; exact SqL.of (hd_to _ _ _ _ h)), by omega, hv _ H2 _ s2 E2 (st1.trans st2) (.str n2) q⟩
      | _ => exact q2.elim
  | _ => exact q1.elim
end
end Dt

set_option Elab.async false
set_option linter.all false
set_option autoImplicit false
set_option maxRecDepth 100000
namespace L2
open PySem PySem.Spec PyProof.Rows
section
variable {P : Program} {w : World} {A : Around} {E : Value → Shared → Prop} {s : Shared}
/-- a set object as it is made -/
abbrev set0 (w : World) : Obj := { cls := .type "set", dict := none, data := .set #[] 0 (.fresh 0 0 (!w.params.followText "set-order")) }
set_option maxHeartbeats 3200000 in
/-- set(a list of ints): its table rises -/
theorem set_of_lst {l : Addr} {items : Array Value} (ns : List Int) {Q : Value → Shared → Prop} (hA : A.handled = none) (hl : s.heap.IsList l items) (hn : IntsAre items.toList ns) (hb : ns.length + 1 < scanBound)
    (hq : ∀ (h' : Heap) (tk c : Nat), SetR w h' s.heap.objs.size (fun j => decide (j ∈ ns)) c → c ≤ ns.length → (∀ b o, s.heap.get? b = some o → h'.get? b = some o) → Q (.ref s.heap.objs.size) { s with heap := h', toks := tk }) :
    wpAny (model P w) A (call (.type "set") [.ref l]) Q E s := by
  have size : items.size = ns.length := by simpa using IntsAre.length hn
  generalize hh1 : s.heap.push (set0 w) = h1
  have at1 : h1.get? s.heap.objs.size = some (set0 w) := by rw [← hh1]; exact Heap.get?_push_size _ rfl
  have sz1 : h1.objs.size = s.heap.objs.size + 1 := by rw [← hh1]; exact Heap.size_push ..
  have old1 : ∀ b o, s.heap.get? b = some o → h1.get? b = some o := fun b o e => by rw [← hh1]; exact Heap.get?_push_of_some _ e
  obtain ⟨c, tl, hmro⟩ := F.called_set.mro
  have e1 := F.called_set.made
  have e2 := F.called_set.sub
  have e3 := F.called_set.notType
  have e4 := F.called_set.canCreate
  have e5 := F.typeCall_set_1 (.ref l)
  apply wpAny_call
  apply codeAny_of_tree
  show wpAny _ _ (callAny (.type "set") _) _ _ _
  apply wpAny_pure
  refine ⟨Code.quiet_builtin _ (by decide +kernel), codeAny_builtin F.entry_type_call ?_⟩
  rw [Around.under_plain (weight_type_call_type "set" [.ref l] []) rfl]
  repeat (any_goals (first | assumption | wp_step))
  refine codeAny_mono (code_set_led1 (.ref l) (E := E) (Q₁ := fun obj s₁ => obj = .ref s.heap.objs.size ∧ s₁ = { s with heap := h1 }) ⟨rfl, by rw [← hh1]⟩) ?_
  intro r s₁ hr
  cases r with
  | error e => exact hr
  | ok fl =>
    cases fl with
    | ret obj =>
      obtain ⟨rfl, rfl⟩ := hr
      have isSet : Shared.TypeIs { s with heap := h1 } (.ref s.heap.objs.size) "set" := ⟨_, at1, rfl⟩
      have i1 := F.called_set.init.lookup
      have i2 := F.called_set.init.bind (.ref s.heap.objs.size)
      repeat (any_goals (first | assumption | wp_step))
      refine codeAny_mono (codeAny_call_builtin (R := wants (fun r s₂ => r = .none ∧ ∃ h' tk c, s₂ = { s with heap := h', toks := tk } ∧ SetR w h' s.heap.objs.size (fun j => decide (j ∈ ns)) c ∧ c ≤ ns.length ∧ ∀ b o, s.heap.get? b = some o → h'.get? b = some o) E)
        F.called_set.init.plain F.entry_set_init (check_set_init_1 isSet ?_)) ?_
      · obtain ⟨⟨oc, od, odat, osl⟩, hol, hcl, k, hdl⟩ := hl
        simp only at hcl hdl
        subst hcl hdl
        have ol1 := old1 _ _ hol
        have u1 := F.sub_list_set
        have u2 := F.sub_list_frozenset
        have ne : (Value.type "list" == Value.type "dict") = false := by decide
        have lst1 : h1.IsList l items := ⟨_, ol1, rfl, k, rfl⟩
        unfold Builtin.«set.__init__» noKeywords Builtin.Frozenset.updateFrom
        generalize hPI : pyIter = PI
        wp_walk
        subst hPI
        apply wpAny_pyIter_list lst1
        apply wpAny_bind
        apply wpAny_runValue
        have no3 : A.in1.in1.in1.handled = none := by simp [hA]
        have lS : l < s.heap.objs.size := Heap.lt_size hol
        have lI : l ≠ h1.objs.size := by rw [sz1]; exact Nat.ne_of_lt (Nat.lt_succ_of_lt lS)
        have SI : s.heap.objs.size ∉ [h1.objs.size, l] := by
          intro z
          rcases List.mem_cons.mp z with z | z
          · rw [sz1] at z; exact absurd z (Nat.ne_of_lt (Nat.lt_succ_self _))
          · exact absurd (List.mem_singleton.mp z) (Nat.ne_of_gt lS)
        have val : ∀ (i : Nat) (v : Value), items[i]? = some v → ∃ k t, ns[i]? = some k ∧ v = .int k t := by
          intro i v hv
          have hi : i < ns.length := by rw [← size]; exact (Array.getElem?_eq_some_iff.mp hv).1
          obtain ⟨t, e⟩ := PyProof.Rows.IntsAre.int_at hn i v (by rw [Array.getElem?_toList]; exact hv)
          rw [List.getD_eq_getElem?_getD, List.getElem?_eq_getElem hi] at e
          exact ⟨ns[i], t, List.getElem?_eq_getElem hi, e⟩
        refine set_update_ints ((Walks.list no3 _ l lI items).toS) s.heap.objs.size SI ns size hb val items.size 0 _ (Nat.sub_zero _) (Nat.zero_le _) ⟨⟨_, Heap.get?_push_size _ rfl, rfl, rfl⟩, lst1.push _⟩ ?s0 ?fin
        case s0 => exact ⟨0, Nat.le_refl 0, setR_new_at (Heap.get?_push_of_some _ at1)⟩
        case fin =>
          rintro ⟨h', g2, d', tk', os'⟩ c' hm hc' hS'
          obtain rfl : g2 = s.gens := hm.gens
          obtain rfl : d' = s.drawn := hm.drawn
          obtain rfl : os' = s.os := hm.os
          show wpAny _ _ _ _ _ _
          apply wpAny_pure
          show wpAny _ _ (ret Value.none) _ _ _
          apply wpAny_pure
          refine ⟨rfl, h', tk', c', rfl, hS', by rw [← size]; exact hc', fun b o e => ?_⟩
          have b0 : b < s.heap.objs.size := Heap.lt_size e
          refine hm.heap b o ?_ (Heap.get?_push_of_some _ (old1 _ _ e))
          intro z
          rcases List.mem_cons.mp z with z | z
          · exact absurd z (Nat.ne_of_lt b0)
          · have z := List.mem_singleton.mp z
            rw [sz1] at z
            exact absurd z (Nat.ne_of_lt (Nat.lt_succ_of_lt b0))
      · intro r₂ s₂ hr₂
        cases r₂ with
        | error e => exact hr₂
        | ok fl₂ =>
          cases fl₂ with
          | ret r =>
            obtain ⟨rfl, h', tk, c', rfl, g1, g2, g3⟩ := hr₂
            repeat (any_goals (first | assumption | wp_step))
            exact hq _ _ _ g1 g2 g3
          | _ => exact hr₂.elim
    | _ => exact hr.elim
end
end L2

set_option Elab.async false
set_option linter.all false
set_option autoImplicit false
set_option maxRecDepth 100000
namespace HT
open PySem PySem.Spec PyProof.Rows
section
variable {prog : Program} {w : World} {A : Around} {E : Value → Shared → Prop} {s : Shared}
theorem back_applied {sl : Addr} {vl vu vs : Value} {n : Nat} {Q : Int × Int × Nat → Shared → Prop} (hs : s.heap.IsSliceOf sl vl vu vs) (pl : IsPart vl none) (pu : IsPart vu none) (ps : IsPart vs (some (-1)))
    (h : Q ((n : Int) - 1, -1, n) s) : wpAny (model prog w) A (Builtin.Slice.sliceApplied (.ref sl) (pure (n : Int))) Q E s := by
  obtain ⟨os, hos, hcs, hds⟩ := id hs
  unfold Builtin.Slice.sliceApplied Builtin.Slice.sliceFields
  apply wpAny_bind
  apply wpAny_bind
  apply wpAny_field hos hds (x := vl) rfl
  apply wpAny_bind
  apply wpAny_field hos hds (x := vu) rfl
  apply wpAny_bind
  apply wpAny_field hos hds (x := vs) rfl
  apply wpAny_pure
  apply wpAny_bind
  apply slicePart_ ps
  show wpAny _ _ (if ((-1 : Int) == 0) = true then _ else _) _ _ s
  rw [if_neg (by decide)]
  apply wpAny_bind
  apply slicePart_ pl
  apply wpAny_bind
  apply slicePart_ pu
  apply wpAny_bind
  apply wpAny_pure
  have e1 : Builtin.Slice.sliceAdjust none none (-1) (n : Int) = ((n : Int) - 1, -1) := by
    unfold Builtin.Slice.sliceAdjust
    simp
  have e2 : Builtin.Slice.slicePlaces ((n : Int) - 1) (-1) (-1) = n := by
    unfold Builtin.Slice.slicePlaces
    simp
    omega
  show wpAny _ _ (match Builtin.Slice.sliceAdjust none none (-1) (n : Int) with | (lo, hi) => pure (lo, (-1 : Int), Builtin.Slice.slicePlaces lo hi (-1))) _ _ s
  rw [e1]
  show wpAny _ _ (pure ((n : Int) - 1, (-1 : Int), Builtin.Slice.slicePlaces ((n : Int) - 1) (-1) (-1))) _ _ s
  rw [e2]
  exact wpAny_pure h
theorem back_pick (xs : Array Value) : ((List.range xs.size).filterMap fun (m : Nat) => xs[(((xs.size : Int) - 1) + (m : Int) * (-1)).toNat]?) = xs.toList.reverse := by
  have e : (fun (m : Nat) => xs[(((xs.size : Int) - 1) + (m : Int) * (-1)).toNat]?) = (fun i : Nat => xs[i]?) ∘ fun k => xs.size - 1 - k := by
    funext m
    have : (((xs.size : Int) - 1) + (m : Int) * (-1)).toNat = xs.size - 1 - m := by omega
    show xs[_]? = xs[xs.size - 1 - m]?
    rw [this]
  rw [e, ← List.filterMap_map, PySem.W.krv_range, List.filterMap_reverse, PySem.W.krv_all]
/-- t[::-1] -/
theorem back_tuple {t sl : Addr} {items : Array Value} {vl vu vs : Value} {Q : Value → Shared → Prop} (ht : IsTup s.heap t items) (hs : s.heap.IsSliceOf sl vl vu vs) (pl : IsPart vl none) (pu : IsPart vu none) (ps : IsPart vs (some (-1)))
    (h1 : Q (.ref s.heap.objs.size) { s with heap := s.heap.push { cls := .type "tuple", data := .seq items.toList.reverse.toArray } }) (hz : items.size ≤ sizeLine) : wpAny (model prog w) A (getItem (.ref t) (.ref sl)) Q E s := by
  obtain ⟨os, hos, hcs, hds⟩ := id hs
  have isSl : s.TypeIs (.ref sl) "slice" := ⟨os, hos, hcs⟩
  unfold getItem
  try with_reducible refine wpAny_holding ?_
  first | refine wpAny_bind (wpAny_pure ?_) | skip
  apply wpAny_bind
  apply wpAny_sequenceKey ht.typeIs (by decide)
  apply wpAny_bind
  refine wpAny_callSpecial?_slot (name := Str.ofString "__getitem__") ht.typeIs PyProof.Rows.slot_tuple_getitem (wpAny_call_entry PyProof.Rows.slot_tuple_getitem ht.typeIs entry_tuple_getitem ?_ (args_tuple_getitem _ _))
  show wpAny _ _ (Builtin.Tuple.tupleItemsOf (.ref t) >>= _) _ _ s
  apply wpAny_bind
  apply tupleItemsOf_ ht
  apply wpAny_bind
  apply wpAny_typeOf isSl
  rw [if_pos (by decide)]
  apply wpAny_bind
  apply back_applied hs pl pu ps
  have no : ¬ (((((items.size : Int) - 1) == 0) && ((-1 : Int) == 1) && (items.size == items.size)) = true) := by simp
  show wpAny _ _ (if ((((items.size : Int) - 1) == 0) && ((-1 : Int) == 1) && (items.size == items.size)) = true then _ else _) _ _ s
  rw [if_neg no]
  have sz : sizeOk (.seq ((List.range items.size).filterMap fun (m : Nat) => items[(((items.size : Int) - 1) + (m : Int) * (-1)).toNat]?).toArray) := by
    rw [back_pick]
    show items.toList.reverse.toArray.size ≤ sizeLine
    simpa using hz
  rw [← back_pick] at h1
  first
    | exact wpAny_bind (m := Builtin.Tuple.tupleExact _) (wpAny_newObj_type (wpAny_pure ⟨_, rfl, wpAny_pure h1⟩) sz)
    | exact wpAny_bind (m := Builtin.Tuple.tupleExact _) (wpAny_newObj_type (wpAny_bind (wpAny_pure (wpAny_pure ⟨_, rfl, wpAny_pure h1⟩))) sz)
    | exact wpAny_bind (wpAny_bind (m := Builtin.Tuple.tupleExact _) (wpAny_newObj_type (wpAny_pure (wpAny_pure ⟨_, rfl, wpAny_pure h1⟩)) sz))
end
end HT
namespace Dt
open PySem PySem.Spec L2
section
variable {X : Cx} {K : PySem.W.Frag}
/-- t[::-1], t a tuple -/
def tRevT (K : PySem.W.Frag) (te : TE) : TE := fun σ H Q => te σ H fun x H1 => ∃ a xs, x = .ref a ∧ SqT K H1 a xs ∧ ∀ p, H1 p = none → Q (.ref p) (upd H1 p (.tup xs.reverse))
open PyProof.Rows in
theorem pe_revT {e : Expr} {te : TE} {k : Nat} {p1 p2 p3 pos : Pos} (he : PE X e te) : PE X (.Subscript e (.Slice none none (some (.UnaryOp .USub (.Constant (.int 1) k p1) p2)) p3) pos) (tRevT X.K te) := by
  constructor
  intro pins s σ H Q I h
  apply PyProof.Rows.Subscript_
  apply thn (he.run pins s σ H _ I h)
  rintro v s1 ⟨x, H1, I1, r1, a, xs, rfl, hx, q⟩
  cases r1
  have step : PO X (some (.UnaryOp .USub (.Constant (.int 1) k p1) p2)) (tPart (tUn (rU fun i => .int (-i)) (tC (.int 1)))) := po_some (pe_un un_neg pe_int)
  apply wpAny_Slice
  apply thn (po_none.run pins s1 σ H1 (fun o H2 => o = none ∧ H2 = H1) I1 ⟨rfl, rfl⟩)
  rintro vl s2 ⟨l, H2, I2, pl, rfl, rfl⟩
  apply thn (po_none.run pins s2 σ H2 (fun o H3 => o = none ∧ H3 = H2) I2 ⟨rfl, rfl⟩)
  rintro vu s3 ⟨u, H3, I3, pu, rfl, rfl⟩
  apply thn (step.run pins s3 σ H3 (fun o H4 => o = some (-1) ∧ H4 = H3) I3 ⟨1, rfl, -1, rfl, rfl, rfl⟩)
  rintro vs s4 ⟨o, H4, I4, ps, rfl, rfl⟩
  have I5 : Inv X pins σ H4 { s4 with heap := s4.heap.push { cls := .type "slice", data := .fields #[vl, vu, vs] } } := I4.kept (t' := s4.toks) fun b ob q => Heap.get?_push_of_some _ q
  obtain ⟨its, r, ht, hz⟩ := I5.tuple hx
  have hl := r.length
  show wpAny (model X.prog X.w) X.A (subscriptTail e _ (.ref a) (.ref s4.heap.objs.size)) (EP X pins σ Q) X.xe _
  refine tail_any (ops := [.ref a, .ref s4.heap.objs.size]) ht.typeIs PyProof.Rows.slot_tuple_getitem.lookup ?_ (by with_unfolding_all rfl)
  refine HT.back_tuple ht (Heap.IsSliceOf.new _ vl vu vs) pl pu ps ?_ (by rw [List.size_toArray]; omega)
  refine ⟨.ref _, _, I5.laid (t' := s4.toks) (o := .tup xs.reverse) (fun b ob q => Heap.get?_push_of_some _ q) (Nat.le_refl _) ?_, rfl, q _ (I5.hok.fresh (Nat.le_refl _))⟩
  exact ⟨by rw [List.length_reverse]; exact hz, _, r.reverse, IsTup.new _ _⟩
def dRev : PyData → (PyData → Prop) → Prop
  | .tuple xs, Q => Q (.tuple xs.reverse)
  | _, _ => False
section
variable {S : Type} {Wo : Wd S} {W : WX} {ta : TE} {tl : TA} {e a : Expr} {wa : DE S} {wl : DA S} {pos p q : Pos}
theorem e_rev {k : Nat} {p1 p2 p3 : Pos} (ha : ED Wo X W e ta wa) (hK : X.K = K := by rfl) : ED Wo X W (.Subscript e (.Slice none none (some (.UnaryOp .USub (.Constant (.int 1) k p1) p2)) p3) pos) (tRevT K ta) (wUn dRev wa) := by
  subst hK
  exact ⟨pe_revT ha.pe, fun c σ H ρ s Qd Ed Q E hw hv he => ha.go c σ H ρ s _ Ed _ E hw (fun v H1 d s1 E1 st1 dv q1 => by
    cases d with
    | tuple xs =>
      cases dv with
      | tup h n a => exact ⟨_, _, rfl, same_seqT (hd_to _ _) h, fun p hp => hv _ _ _ s1 (E1.grow (same_upd hp)) (st1.trans (stp_grow (same_upd hp))) (Dv.newT E1.tr hp a.reverse (by rw [List.length_reverse]; exact n)) q1⟩
    | _ => exact q1.elim) he⟩
end
end
end Dt
/-! ### sorted of a set of ints, of any size -/
namespace L2
open PySem PySem.Spec PyProof.Rows
section
variable {P : Program} {w : World} {A : Around} {E : Value → Shared → Prop} {s : Shared} {a : Addr}
theorem sorted_setI {S : Int → Bool} {n : Nat} {Q : Value → Shared → Prop} (R : SetR w s.heap a S n) (hh : A.handled = none) (hnz : n ≤ sizeLine)
    (hQ : ∀ s' p (out : Array Value) (c : Nat) (ns : List Int), (∀ b o, s.heap.get? b = some o → s'.heap.get? b = some o) → s'.gens = s.gens → s'.os = s.os → s.heap.objs.size ≤ p →
      s'.heap.get? p = some (seqObj "list" out c) → IntsAre out.toList ns → ns.Pairwise (· < ·) → (∀ k, k ∈ ns ↔ S k = true) → ns.length = n → Q (.ref p) s') :
    wpAny (model P w) A (call (.builtin "sorted") [.ref a]) Q E s := by
  obtain ⟨o, es, ep, t, ho, hex, hd, g, nd, hm, hb, hf, hn, hr, hl⟩ := R
  refine Calls.call_function_entry kind_sorted plain_sorted entry_sorted (args_sorted1 _) ?_
  unfold Builtin.«sorted»
  refine wpAny_bind (m := checkCount "sorted" 1 1 _) (wpAny_pure ?_)
  refine wpAny_bind (collect_set (A := A.in1) hh ⟨o, ho, hex.1, hd⟩ hf hb hr hl fun s1 vs k1 hz g1 o1 pm => ?_)
  have hvl : vs.length = n := by rw [pm.length_eq, List.length_map, Array.length_toList]; exact hn
  have hvz : vs.length ≤ sizeLine := by rw [hvl]; exact hnz
  have hI : IntsAre vs (vs.map Builtin.Re.reRawOf) := L2.ints_of vs fun v hv => by
    obtain ⟨e, he, q⟩ := List.mem_map.mp (pm.mem_iff.mp hv)
    obtain ⟨k, tk, h1, _⟩ := g e he
    exact ⟨k, tk, by rw [← q]; exact h1⟩
  have pk : (vs.map Builtin.Re.reRawOf).Perm (es.toList.map keyOf) := by
    have q := pm.map Builtin.Re.reRawOf
    rw [List.map_map] at q
    exact q
  refine wpAny_bind (wpAny_newList ?_ hvz)
  have hoL : (s1.heap.push (seqObj "list" vs.toArray 0)).get? s1.heap.objs.size = some (seqObj "list" vs.toArray 0) := Heap.get?_push_size _ rfl
  refine wpAny_bind (wpAny_holding (wpAny_call_entry slot_list_sort ⟨_, hoL, rfl⟩ entry_list_sort (SrtO.list_sort_ord SrtO.swo_int hoL hvz (fun h2 => SrtO.ints_sortable hI h2) fun out h1 h2 => ⟨_, rfl, ?_⟩) (args_list_sort _)))
  obtain ⟨a1, a2, a3⟩ := SrtO.ints_out hI h1 h2
  obtain ⟨c, hc⟩ := sortedHeap_at (vs := vs) (out := out.toArray) hoL
  have pn : (out.map SrtO.iv).Perm (es.toList.map keyOf) := a2.trans pk
  refine wpAny_pure ⟨_, rfl, hQ _ s1.heap.objs.size out.toArray c (out.map SrtO.iv) (fun b u e => ?_) g1 o1 hz hc (by simpa using a1) (lt_of_le_nodup _ a3 (pn.nodup_iff.mpr nd)) (fun k => by rw [pn.mem_iff, ← hm k]) ?_⟩
  · have q := k1 b u e
    have hlt := Heap.lt_size q
    show (sortedHeap (s1.heap.push (seqObj "list" vs.toArray 0)) s1.heap.objs.size vs out.toArray).get? b = some u
    rw [sortedHeap_old (Nat.ne_of_lt hlt) (by rw [size_push']; exact Nat.lt_succ_of_lt hlt)]
    exact Heap.get?_push_of_some _ q
  · rw [pn.length_eq, List.length_map, Array.length_toList]; exact hn
end
section
variable {X : Cx}
/-- sorted(found), any number of members -/
def rSortedSetI (w : World) : List V → Hp → VK → Prop := fun vs H Q => ∃ (a : Addr) (S : Int → Bool) (n : Nat), vs = [V.ref a] ∧ H a = some (SetO w a S n) ∧ n ≤ 4000 ∧
  ∀ (ns : List Int) (p : Addr), ns.Pairwise (· < ·) → (∀ k : Int, k ∈ ns ↔ S k = true) → ns.length = n → H p = none → Q (.ref p) (upd H p (.lst (ns.map V.int)))
theorem cr_sortedSetI (hc : X.calm = true) : CallR X (.builtin "sorted") (rSortedSetI X.w) := by
  intro pins s σ H vs us Q I r h
  obtain ⟨a, S, n, rfl, ha, h64, q⟩ := h
  have R := setO_get I ha
  rw [Vals.ref1 r]
  refine sorted_setI R (I.ok.hd hc) (by rw [sizeLine_eq]; omega) fun s' p out c ns k g o hp hg hi hs hm hl => ?_
  have hlen : (ns.map V.int).length ≤ sizeLine := by rw [List.length_map, hl, sizeLine_eq]; omega
  have hn : H p = none := I.hok.fresh hp
  have J : Inv X pins σ (upd H p (.lst (ns.map V.int))) { s with heap := s'.heap, gens := s'.gens, drawn := s'.drawn, toks := s'.toks } :=
    I.call (ch := []) (Un.laid k hp hn) (I.hok.laid k hp ⟨hlen, out.toList, c, vals_of_ints hi, hg⟩) (by rw [g]; exact I.bare) (fun _ z => nomatch z)
  have e : s' = { s with heap := s'.heap, gens := s'.gens, drawn := s'.drawn, toks := s'.toks } := by
    cases s'
    cases s
    cases o
    rfl
  rw [e]
  exact ⟨.ref p, _, J, rfl, q ns p hs hm hl hn⟩
end
end L2
namespace Dt
open PySem PySem.Spec PyProof.Rows L2
section
variable {X : Cx} {K : PySem.W.Frag}
section
variable {S : Type} {Wo : Wd S} {W : WX} {ta : TE} {tl : TA} {e a : Expr} {wa : DE S} {wl : DA S} {pos p q : Pos}
/-! ### sorted(set(x)), x a list or a tuple of ints -/
def rSetOf (K : PySem.W.Frag) (w : World) : List V → Hp → VK → Prop := fun xs H Q => ∃ (l : Addr) (ns : List Int), xs = [.ref l] ∧ (SqL K H l (ns.map V.int) ∨ SqT K H l (ns.map V.int)) ∧ ns.length ≤ 4000 ∧
  ∀ (p : Addr) (c : Nat), c ≤ ns.length → H p = none → Q (.ref p) (upd H p (SetO w p (fun j => decide (j ∈ ns)) c))
theorem cr_setOf (hc : X.calm = true) : CallR X (.type "set") (rSetOf X.K X.w) := by
  intro pins s σ H xs us Q I r h
  obtain ⟨l, ns, rfl, hl, n, q⟩ := h
  obtain rfl := r.ref1
  have fin : ∀ (h' : Heap) (tk c : Nat), SetR X.w h' s.heap.objs.size (fun j => decide (j ∈ ns)) c → c ≤ ns.length → (∀ b o, s.heap.get? b = some o → h'.get? b = some o) → EP X pins σ Q (.ref s.heap.objs.size) { s with heap := h', toks := tk } := fun h' tk c R le k =>
    ⟨.ref s.heap.objs.size, _, I.laid (t' := tk) k (Nat.le_refl _) (setO_new R), rfl, q _ c le (I.hok.fresh (Nat.le_refl _))⟩
  rcases hl with hl | hl
  · obtain ⟨its, rv, pl, _⟩ := I.list hl
    exact set_of_lst ns (I.ok.hd hc) pl.isList (by simpa using intsAre_of rv) (by unfold scanBound; omega) fin
  · obtain ⟨its, rv, pl, _⟩ := I.tuple hl
    exact call_set_tupI ns (I.ok.hd hc) pl (by simpa using intsAre_of rv) (by unfold scanBound; omega) fin
theorem DvAll.ints {K : PySem.W.Frag} {H : Hp} : ∀ {ns : List Int} {vs : List V}, DvAll K H vs (ns.map PyData.int) → vs = ns.map V.int
  | [], _, h => by cases h; rfl
  | n :: ns, _, h => by
    cases h with
    | cons a r => cases a; rw [DvAll.ints r]; rfl
theorem DvAll.okInts {K : PySem.W.Frag} {H : Hp} : ∀ {ns : List Int} {vs : List V}, DvAll K H vs (ns.map PyData.int) → ∀ n ∈ ns, okI n
  | [], _, _, n, h => by cases h
  | m :: ns, _, h, n, hn => by
    cases h with
    | cons a r =>
      rcases List.mem_cons.mp hn with e | e
      · cases a with | int k => rw [e]; exact k
      · exact DvAll.okInts r n e
def intsOf : PyData → (List Int → Prop) → Prop
  | .list xs, Q => ∃ ns : List Int, xs = ns.map PyData.int ∧ Q ns
  | .tuple xs, Q => ∃ ns : List Int, xs = ns.map PyData.int ∧ Q ns
  | _, _ => False
def wSortedSet {S : Type} (w : DE S) : DL S := fun ρ s Q E => w ρ s (fun d s1 => intsOf d fun ns => ns.length ≤ 4000 ∧ ∀ ms : List Int, ms.Pairwise (· < ·) → (∀ k, k ∈ ms ↔ k ∈ ns) → Q (ms.map PyData.int) s1) E
theorem f_sortedSet {p2 q2 : Pos} (B : Bt X.mg) (ha : ED Wo X W a ta wa) (hc : X.calm = true := by rfl) (hg : Gl X "sorted" := by rfl) (hg2 : Gl X "set" := by rfl)
    (he1 : starEach (a :: []) X.env = (false, eval a X.env) :: starEach [] X.env := by rfl) (hpl1 : (backTo q2 (starEach [] X.env)).any (·.1) = false := by rfl) (he2 : starEach (.Call (.Name "set" p2) [a] [] q2 :: []) X.env = (false, eval (.Call (.Name "set" p2) [a] [] q2) X.env) :: starEach [] X.env := by rfl) (hpl2 : (backTo pos (starEach [] X.env)).any (·.1) = false := by rfl) :
    FD Wo X W (.Call (.Name "sorted" p) [.Call (.Name "set" p2) [a] [] q2] [] pos) (tCB (rSortedSetI X.w) (tCons (tCB (rSetOf X.K X.w) (tCons ta tNil)) tNil)) (wSortedSet wa) :=
  ⟨pe_callB (cr_sortedSetI hc) hg (B.no _ (by decide)) (by decide +kernel) (pa_cons (pe_callTy (cr_setOf hc) hg2 (B.no _ (by decide)) (by decide +kernel) (pa_cons ha.pe pa_nil he1) (by decide) (by decide) he1 hpl1) pa_nil he2) (by decide) (by decide) he2 hpl2,
   fun c σ H ρ s Qd Ed Q E hw hv he => ha.go c σ H ρ s _ Ed _ E hw (fun v H1 d s1 E1 st1 dv q1 => by
    have body : ∀ (l : Addr) (ns : List Int), v = .ref l → (SqL X.K H1 l (ns.map V.int) ∨ SqT X.K H1 l (ns.map V.int)) → (∀ n ∈ ns, okI n) → ns.length ≤ 4000 → (∀ ms : List Int, ms.Pairwise (· < ·) → (∀ k, k ∈ ms ↔ k ∈ ns) → Qd (ms.map PyData.int) s1) →
        rSetOf X.K X.w [v] H1 fun u H2 => rSortedSetI X.w [u] H2 Q := fun l ns ev hs ok n q => by
      refine ⟨l, ns, by rw [ev], hs, by omega, fun p1 c1 le hp1 => ⟨p1, _, c1, rfl, upd_same, by omega, fun ms p2 pw mem len hp2 => ?_⟩⟩
      have mem' : ∀ k, k ∈ ms ↔ k ∈ ns := fun k => by rw [mem k]; simp
      have E2 := E1.grow (same_upd (o := SetO X.w p1 (fun j => decide (j ∈ ns)) c1) hp1)
      obtain ⟨E3, sm⟩ := E2.hideNew (o := .lst (ms.map V.int)) hp2
      have st2 : Stp c ρ ρ H1 (upd H1 p1 (SetO X.w p1 (fun j => decide (j ∈ ns)) c1)) := stp_grow (same_upd hp1)
      have all : ∀ (l : List Int) (H : Hp), (∀ k ∈ l, okI k) → DvAll X.K H (l.map V.int) (l.map PyData.int) := by
        intro l H h
        induction l with
        | nil => exact .nil
        | cons a l ih => exact .cons (.int (h a List.mem_cons_self)) (ih fun k hk => h k (List.mem_cons_of_mem _ hk))
      refine hv p2 _ _ (ms.map PyData.int) s1 E3 (st1.trans (st2.trans sm)) upd_same (all ms _ fun k hk => ok k ((mem' k).mp hk)) ?_ ?_ (q ms pw mem')
      · rw [List.length_map, len]; unfold limL; omega
      · refine none_back E1 st1 ?_
        exact (same_upd hp1).free hp2
    cases d with
    | list xs =>
      obtain ⟨ns, rfl, n, q⟩ := q1
      cases dv with
      | lst h k a => exact body _ ns rfl (.inl (by rw [← a.ints]; exact SqL.of (hd_to _ _ _ _ h))) a.okInts n q
    | tuple xs =>
      obtain ⟨ns, rfl, n, q⟩ := q1
      cases dv with
      | tup h k a => exact body _ ns rfl (.inr (by rw [← a.ints]; exact same_seqT (hd_to _ _) h)) a.okInts n q
    | _ => exact q1.elim) he⟩
end
end
end Dt

set_option Elab.async false
set_option linter.all false
set_option autoImplicit false
set_option maxRecDepth 100000
namespace Dt
open PySem PySem.Spec L2

/-! ### equality of plain values -/
theorem shp_i (i : Int) : shp (.int i) = true := rfl
theorem shp_s (x : Str) : shp (.str x) = true := rfl
theorem shp_b (b : Bool) : shp (.bool b) = true := rfl
theorem shp_n : shp .none = true := rfl
theorem eqv_ii (a b : Int) : PyData.eqv (.int a) (.int b) = decide (a = b) := by
  simp only [PyData.eqv]
  by_cases h : a = b <;> simp [h]
theorem eqv_ss (a b : Str) : PyData.eqv (.str a) (.str b) = decide (a = b) := by
  simp only [PyData.eqv]
  by_cases h : a = b <;> simp [h]
/-! ### comprehensions and loops, read -/
/-- two rows of values, place by place -/
inductive Bond (R : PyData → PyData → Prop) : List PyData → List PyData → Prop
  | nil : Bond R [] []
  | cons {d y : PyData} {ds ys : List PyData} : R d y → Bond R ds ys → Bond R (d :: ds) (y :: ys)
theorem Bond.length {R : PyData → PyData → Prop} {ds ys : List PyData} (h : Bond R ds ys) : ys.length = ds.length := by
  induction h with
  | nil => rfl
  | cons _ _ ih => simp [ih]
theorem Bond.all {R : PyData → PyData → Prop} {P : PyData → Prop} {ds ys : List PyData} (h : Bond R ds ys) (hp : ∀ d y, R d y → P y) : ∀ y ∈ ys, P y := by
  induction h with
  | nil => intro y hy; cases hy
  | cons a _ ih =>
    intro y hy
    rcases List.mem_cons.mp hy with e | hy
    · rw [e]; exact hp _ _ a
    · exact ih y hy
section
variable {S : Type} {g : DG} {wt : DT S} {we : DE S} {vs : List Nat} {ρ : List Sl}
/-- a test and an element that are functions of the item -/
theorem comp_fm (p : PyData → Bool) (f : PyData → PyData) : ∀ (ds : List PyData) (s : S) (Q : List PyData → S → Prop),
    (∀ d ∈ ds, ∀ (s : S) (Y : PyData → S → Prop) (N : S → Prop), (if p d = true then Y (f d) s else N s) →
      g d ρ fun ρ1 => noOwn ρ1 vs = true ∧ wt ρ1 s (fun b s1 => if b = true then we ρ1 s1 Y noE else N s1) noE) →
    Q ((ds.filter p).map f) s → wCompL g wt we vs ρ ds s Q
  | [], s, Q, _, h => h
  | d :: ds, s, Q, hd, h => by
    refine hd d List.mem_cons_self s _ _ ?_
    by_cases c : p d = true
    · rw [if_pos c]
      refine comp_fm p f ds s _ (fun x hx => hd x (List.mem_cons_of_mem _ hx)) ?_
      rw [List.filter_cons_of_pos c, List.map_cons] at h
      exact h
    · rw [if_neg c]
      refine comp_fm p f ds s _ (fun x hx => hd x (List.mem_cons_of_mem _ hx)) ?_
      rw [List.filter_cons_of_neg c] at h
      exact h
/-- an element that is a function of the item, no test -/
theorem comp_map (f : PyData → PyData) (ds : List PyData) (s : S) (Q : List PyData → S → Prop)
    (hd : ∀ d ∈ ds, ∀ (s : S) (Y : PyData → S → Prop), Y (f d) s → g d ρ fun ρ1 => noOwn ρ1 vs = true ∧ we ρ1 s Y noE)
    (h : Q (ds.map f) s) : wCompL g wYes we vs ρ ds s Q := by
  refine comp_fm (wt := wYes) (fun _ => true) f ds s Q (fun d hx s Y N y => ?_) ?_
  · simpa [wYes] using hd d hx s Y (by simpa using y)
  · rw [List.filter_eq_self.mpr fun _ _ => rfl]
    exact h
/-- elements of which only a bond to the item is known -/
theorem comp_rel (R : PyData → PyData → Prop) : ∀ (ds : List PyData) (s : S) (Q : List PyData → S → Prop),
    (∀ d ∈ ds, ∀ (s : S) (Y : PyData → S → Prop), (∀ y s', R d y → Y y s') → g d ρ fun ρ1 => noOwn ρ1 vs = true ∧ we ρ1 s Y noE) →
    (∀ ys s', Bond R ds ys → Q ys s') → wCompL g wYes we vs ρ ds s Q
  | [], s, Q, _, h => h [] s .nil
  | d :: ds, s, Q, hd, h => by
    have := hd d List.mem_cons_self s (fun y s2 => wCompL g wYes we vs ρ ds s2 fun ys s3 => Q (y :: ys) s3) fun y s' hy =>
      comp_rel R ds s' _ (fun x hx => hd x (List.mem_cons_of_mem _ hx)) fun ys s3 hys => h _ _ (.cons hy hys)
    simpa [wCompL, wYes] using this
/-- a loop with a bond that is kept -/
theorem loop_inv {g : DG} {b : DS S} {D : DEnds S} (I : Nat → List Sl → S → Prop) : ∀ (ds : List PyData) (k : Nat) (ρ : List Sl) (s : S),
    (∀ (i : Nat) (d : PyData), ds[i]? = some d → ∀ ρ s, I (k + i) ρ s → ∀ D' : DEnds S, D'.rt = D.rt → D'.er = D.er → D'.bk = D.nx → (∀ ρ' s', I (k + i + 1) ρ' s' → D'.nx ρ' s') → (∀ ρ' s', I (k + i + 1) ρ' s' → D'.ct ρ' s') → g d ρ fun ρ1 => b ρ1 s D') →
    I k ρ s → (∀ ρ' s', I (k + ds.length) ρ' s' → D.nx ρ' s') → wLoop g b ds ρ s D
  | [], k, ρ, s, _, i0, h => h _ _ i0
  | d :: ds, k, ρ, s, hb, i0, h => by
    have go : ∀ ρ' s', I (k + 0 + 1) ρ' s' → wLoop g b ds ρ' s' D := fun ρ' s' i1 =>
      loop_inv I ds (k + 1) ρ' s' (fun i d hd ρ s ii D' a1 a2 a3 a4 a5 => hb (i + 1) d (by simpa using hd) ρ s (by rw [show k + (i + 1) = k + 1 + i by omega]; exact ii) D' a1 a2 a3
          (fun ρ' s' q => a4 ρ' s' (by rw [show k + 1 + i + 1 = k + (i + 1) + 1 by omega]; exact q)) (fun ρ' s' q => a5 ρ' s' (by rw [show k + 1 + i + 1 = k + (i + 1) + 1 by omega]; exact q)))
        (by simpa using i1) (fun ρ' s' q => h ρ' s' (by rw [show k + (d :: ds).length = k + 1 + ds.length by simp; omega]; exact q))
    exact hb 0 d rfl ρ s (by simpa using i0) { D with nx := fun ρ2 s2 => wLoop g b ds ρ2 s2 D, ct := fun ρ2 s2 => wLoop g b ds ρ2 s2 D, bk := D.nx } rfl rfl rfl go go
end
end Dt

set_option Elab.async false
set_option linter.all false
set_option autoImplicit false
set_option maxRecDepth 100000
namespace Dt
open PySem PySem.Spec L2

/-! ### what repr writes: its length, its signs -/
theorem strOk_list {ts : List Str} (h : ∀ t ∈ ts, PyData.strOk t = true) : PyData.strOk (listText ts) = true := by
  rw [listText_eq_join]
  exact strOk_app (strOk_app (strOk_lit _) (strOk_join (strOk_lit _) h)) (strOk_lit _)
theorem strOk_tuple {ts : List Str} (h : ∀ t ∈ ts, PyData.strOk t = true) : PyData.strOk (tupleText ts) = true := by
  unfold tupleText
  exact strOk_app (strOk_app (strOk_lit _) (strOk_join (strOk_lit _) h)) (strOk_lit _)
theorem hexs_ok (n c : Nat) : ∀ k ∈ List.replicate (n - ((Nat.toDigits 16 c).map Char.toNat).length) 48 ++ (Nat.toDigits 16 c).map Char.toNat, k < 1114112 := by
  intro k hk
  rcases List.mem_append.mp hk with h | h
  · have := List.eq_of_mem_replicate h; omega
  · obtain ⟨ch, _, rfl⟩ := List.mem_map.mp h
    rcases ch.valid with h | ⟨_, h⟩
    · have : ch.val.toNat < 0xd800 := h
      show ch.val.toNat < _
      omega
    · exact h
theorem reprChar_ok {q c : Nat} (hc : c < 1114112) : ∀ k ∈ Builtin.Str.reprChar q c, k < 1114112 := by
  intro k hk
  unfold Builtin.Str.reprChar at hk
  simp only at hk
  repeat' split at hk
  all_goals first
    | (simp only [List.mem_cons, List.not_mem_nil, or_false] at hk; omega)
    | (rcases List.mem_append.mp hk with h | h
       · simp only [List.mem_cons, List.not_mem_nil, or_false] at h; omega
       · exact hexs_ok _ _ k h)
theorem strOk_repr {x : Str} (hx : PyData.strOk x = true) : PyData.strOk (reprText x) = true := by
  rw [strOk_iff] at hx ⊢
  have hq : reprQuote x < 1114112 := by
    unfold reprQuote
    split <;> decide
  have go : ∀ (l : List Nat) (acc : Array Nat), (∀ c ∈ l, c < 1114112) → (∀ c ∈ acc.toList, c < 1114112) → ∀ c ∈ (l.foldl (fun out c => out ++ (Builtin.Str.reprChar (reprQuote x) c).toArray) acc).toList, c < 1114112 := by
    intro l
    induction l with
    | nil => intro acc _ h; exact h
    | cons a r ih =>
      intro acc h1 h2
      rw [List.foldl_cons]
      refine ih _ (fun c hc => h1 c (List.mem_cons_of_mem _ hc)) fun c hc => ?_
      rw [Array.toList_append] at hc
      rcases List.mem_append.mp hc with h | h
      · exact h2 c h
      · exact reprChar_ok (h1 a List.mem_cons_self) c h
  intro c hc
  have e : (reprText x).cps = (x.cps.foldl (fun out c => out ++ (Builtin.Str.reprChar (reprQuote x) c).toArray) #[reprQuote x]).push (reprQuote x) := rfl
  rw [e, ← Array.foldl_toList, Array.toList_push] at hc
  rcases List.mem_append.mp hc with h | h
  · refine go x.cps.toList #[reprQuote x] hx (fun c hc => ?_) c h
    have := List.mem_singleton.mp hc
    omega
  · have := List.mem_singleton.mp h
    omega
mutual
/-- how long what is shown can be -/
def wg : PyData → Nat
  | .none => 5
  | .bool _ => 5
  | .int _ => 80
  | .str x => 10 * x.length + 2
  | .list xs => wgAll xs + 3
  | .tuple xs => wgAll xs + 3
  | .dict _ => 4194305
def wgAll : List PyData → Nat
  | [] => 0
  | x :: xs => wg x + 2 + wgAll xs
end
mutual
theorem Dv.shownOk {K : PySem.W.Frag} {H : Hp} : ∀ (d : PyData) (v : V), d.hasDict = false → Dv K H v d → d.shown.length ≤ wg d ∧ PyData.strOk d.shown = true
  | .none, _, _, _ => ⟨by rw [PyData.shown_none]; decide, by rw [PyData.shown_none]; exact strOk_lit _⟩
  | .bool b, _, _, _ => ⟨by rw [PyData.shown_bool]; cases b <;> decide, by rw [PyData.shown_bool]; cases b <;> exact strOk_lit _⟩
  | .int i, _, _, h => by
    cases h with
    | int h =>
      rw [PyData.shown_int]
      refine ⟨?_, strOk_lit _⟩
      have e := int_text_length_le10 (a := i) (k := 76) (by decide) (Nat.lt_of_lt_of_le h (by decide))
      rw [ofString_length, wg]
      omega
  | .str x, _, _, h => by
    cases h with
    | str h =>
      rw [PyData.shown_str]
      refine ⟨?_, strOk_repr h.2⟩
      rw [wg]
      refine StrLaws.reprText_len x fun c hc => ?_
      have := strOk_iff.mp h.2 c hc
      have e : (16 : Nat) ^ 8 = 4294967296 := by decide
      omega
  | .list xs, _, z, h => by
    cases h with
    | lst a n b =>
      have h1 := DvAll.shownOk xs _ (by simpa only [PyData.hasDict] using z) b
      simp only [PyData.shown, wg]
      refine ⟨?_, strOk_list h1.2⟩
      have := listText_len_le (PyData.shownAll xs)
      rw [PyData.shownAll_length] at this
      omega
  | .tuple xs, _, z, h => by
    cases h with
    | tup a n b =>
      have h1 := DvAll.shownOk xs _ (by simpa only [PyData.hasDict] using z) b
      simp only [PyData.shown, wg]
      refine ⟨?_, strOk_tuple h1.2⟩
      have := tupleText_len_le (PyData.shownAll xs)
      rw [PyData.shownAll_length] at this
      omega
  | .dict _, _, z, h => by simp only [PyData.hasDict] at z; cases z
theorem DvAll.shownOk {K : PySem.W.Frag} {H : Hp} : ∀ (xs : List PyData) (vs : List V), PyData.hasDictAll xs = false → DvAll K H vs xs → ((PyData.shownAll xs).map (·.length)).sum + 2 * xs.length ≤ wgAll xs ∧ ∀ t ∈ PyData.shownAll xs, PyData.strOk t = true
  | [], _, _, _ => ⟨by simp only [PyData.shownAll, wgAll, List.map_nil, List.sum_nil, List.length_nil]; omega, by simp only [PyData.shownAll]; exact fun _ h => nomatch h⟩
  | x :: xs, _, z, h => by
    cases h with
    | cons a b =>
      have h1 := Dv.shownOk x _ (hd_cons z).1 a
      have h2 := DvAll.shownOk xs _ (hd_cons z).2 b
      simp only [PyData.shownAll, wgAll, List.map_cons, List.sum_cons, List.length_cons]
      refine ⟨by omega, fun t ht => ?_⟩
      rcases List.mem_cons.mp ht with e | ht
      · rw [e]; exact h1.2
      · exact h2.2 t ht
end
mutual
/-- what weighs so little has no dict -/
theorem noDict_wg : ∀ d : PyData, wg d ≤ limL → d.hasDict = false
  | .none, _ => by simp only [PyData.hasDict]
  | .bool _, _ => by simp only [PyData.hasDict]
  | .int _, _ => by simp only [PyData.hasDict]
  | .str _, _ => by simp only [PyData.hasDict]
  | .list xs, h => by
    simp only [PyData.hasDict]
    exact noDict_wgAll xs (by simp only [wg] at h; omega)
  | .tuple xs, h => by
    simp only [PyData.hasDict]
    exact noDict_wgAll xs (by simp only [wg] at h; omega)
  | .dict _, h => by
    simp only [wg, limL] at h
    omega
theorem noDict_wgAll : ∀ xs : List PyData, wgAll xs ≤ limL → PyData.hasDictAll xs = false
  | [], _ => by simp only [PyData.hasDictAll]
  | x :: xs, h => by
    simp only [wgAll] at h
    simp only [PyData.hasDictAll, noDict_wg x (by omega), noDict_wgAll xs (by omega), Bool.or_false]
end
/-- repr of data, told by how much it weighs -/
def fRepr2 : List PyData → (PyData → Prop) → Prop
  | [d], Q => (match d with | .list _ => True | .tuple _ => True | _ => False) ∧ d.depth ≤ 60 ∧ wg d ≤ limL ∧ Q (.str d.shown)
  | _, _ => False
theorem cd_repr2 {K : PySem.W.Frag} : CallD K (rRepr K) fRepr2 := by
  intro H l vs ds Qd Q ht ha hf hq
  unfold fRepr2 at hf
  split at hf
  · rename_i d
    obtain ⟨h1, h2, h3, h4⟩ := hf
    have h0 := noDict_wg d h3
    refine cd_repr (K := K) H l vs [d] Qd Q ht ha ⟨h1, h2, h0, ?_, h4⟩ hq
    cases ha with
    | cons a b =>
      have := Dv.shownOk d _ h0 a
      exact ⟨Nat.le_trans this.1 h3, this.2⟩
  · exact hf.elim
section
variable {S : Type} {Wo : Wd S} {X : Cx} {W : WX} {K : PySem.W.Frag} {tl : TA} {a : Expr} {pos p : Pos} {wl : DA S} {k : Nat}
theorem e_repr2 (B : Bt X.mg) (hr : Room k X.A) (hG : X.A.guards = some []) (ha : AD Wo X W [a] tl wl) (hK : X.K = K := by rfl) (hg : Gl X "repr" := by rfl) (he : starEach [a] X.env = (false, eval a X.env) :: starEach [] X.env := by rfl) (hpl : (backTo pos (starEach [] X.env)).any (·.1) = false := by rfl) :
    ED Wo X W (.Call (.Name "repr" p) [a] [] pos) (tCB (rRepr K) tl) (wCB fRepr2 wl) := by subst hK; exact ed_callB (cr_repr hr hG) cd_repr2 hg (B.no _ (by decide)) (by decide +kernel) ha (by decide) (by decide) he hpl
end
end Dt

set_option Elab.async false
set_option linter.all false
set_option autoImplicit false
set_option maxRecDepth 100000
namespace Dt
open PySem PySem.Spec L2

/-! ### a, b = [..], a constant: the first one is a list that the body owns -/
section
variable {S : Type} {Wo : Wd S} {X : Cx} {W : WX} {ta : TE} {a b : Expr} {pos : Pos}
def wParF {S : Type} (i j : Nat) (w : DL S) (d : PyData) : DS S := fun ρ s D => w ρ s (fun ds s1 => ∀ p, D.nx ((ρ.set i (.own p ds)).set j (.d d)) s1) fun e s' => D.er e ρ s'
theorem sd_parF (i j : Nat) {x y : Str} {px py pt : Pos} {kt k2 : Nat} {pt2 : Pos} {w : DL S} {v : V} {d : PyData} (hN : X.N.Nodup) (hi : X.N[i]? = some x) (hj : X.N[j]? = some y) (hij : i ≠ j) (h : FD Wo X W a ta w) (hb : PE X b (tC v)) (hv : ∀ H, Dv X.K H v d) (hx : X.env.scope.names.lookup x = some .local := by rfl) (hy : X.env.scope.names.lookup y = some .local := by rfl) (hc : X.calm = true := by rfl)
    (hs1 : starEach [a, b] X.env = (false, eval a X.env) :: starEach [b] X.env := by rfl) (hs2 : starEach [b] X.env = (false, eval b X.env) :: starEach [] X.env := by rfl)
    (hw : swappedStores [.Tuple [.Name x px, .Name y py] kt pt] (.Tuple [a, b] k2 pt2) X.env = pure (some [x, y]) := by rfl)
    (hs : swapsWithSole [.Tuple [.Name x px, .Name y py] kt pt] (.Tuple [a, b] k2 pt2) pos.line X.env = pure false := by rfl) :
    SD Wo X W (.Assign [.Tuple [.Name x px, .Name y py] kt pt] (.Tuple [a, b] k2 pt2) pos) (tPar i j (tCons ta (tCons (tC v) tNil))) (wParF i j w d) :=
  ⟨ps_par hc hN hi hj hij hx hy (pa_cons h.pe (pa_cons hb pa_nil hs2) hs1) hw hs, fun c σ H ρ s Dd D E hw to => h.go c σ H ρ s _ _ _ E hw (fun q vs H' ds s' E' sm hq a n hn qd => by
    have h0 : c.H0 q = none := by
      cases z : c.H0 q with
      | none => rfl
      | some o =>
        by_cases hw : q ∈ c.W.wa
        · exact absurd hn (E.tr q (List.mem_append_left _ (List.mem_append_left _ hw)))
        · have := E.ext q o z hw
          rw [hn] at this; cases this
    obtain ⟨E1, st⟩ := E'.setOwn (i := i) hq a n h0
    obtain ⟨E2, st2⟩ := E1.setD (i := j) (x := .d d) (v := v) rfl ⟨_, rfl, hv _⟩
    exact ⟨_, _, rfl, to.nx _ H' _ s' E2 (sm.trans (st.trans st2)) (qd q)⟩) (to.err σ ρ)⟩
end
end Dt

set_option Elab.async false
set_option linter.all false
set_option autoImplicit false
set_option maxRecDepth 100000
namespace Dt
open PySem PySem.Spec PyProof.Rows L2

/-! ### the end of a law whose def is known where no repr is under way -/
/-- what is known of the heap ahead of the law: the script, frozen where it is no object of the module's own -/
theorem ahead {K : PySem.W.Frag} {h : Heap} {a : Addr} {vs : List Value} {ns : List Int} (KX : K.In h) (ha : h.get? a = some { cls := .type "list", data := .seq vs.toArray }) (rv : Vals (ns.map V.int) vs) (hl : vs.length ≤ sizeLine) :
    ∃ H : Hp, (∀ b u, H b = some u → b = a ∧ u = .frz { cls := .type "list", data := .seq vs.toArray } (.lst (ns.map V.int)) ∧ K.lookup b = none) ∧ SqL K H a (ns.map V.int) := by
  cases e : K.lookup a with
  | none =>
    refine ⟨fun b => if b = a then some (.frz { cls := .type "list", data := .seq vs.toArray } (.lst (ns.map V.int))) else none, fun b u q => ?_, .inl (.inr ⟨_, if_pos rfl⟩)⟩
    dsimp only at q
    by_cases hb : b = a
    · rw [if_pos hb] at q
      exact ⟨hb, (Option.some.inj q).symm, hb ▸ e⟩
    · rw [if_neg hb] at q
      cases q
  | some o =>
    have z := KX a o e
    rw [ha] at z
    refine ⟨fun _ => none, fun b u q => (nomatch q), .inr ⟨_, vs.toArray, _, e.trans (congrArg some (Option.some.inj z).symm), rfl, rfl, rfl, ?_, ?_⟩⟩
    · rw [List.size_toArray]; exact hl
    · rw [List.toList_toArray]; exact rv
theorem lawG {P : Program} {w : World} {K : PySem.W.Frag} {mg mb : Str → Option Value} {k : Nat} {fa a : Addr} {fd : FuncData} {x : Str} {sp : Sp} {s : Shared} {vs : List Value} {ns : List Int}
    (KX : K.In s.heap) (gl : s.heap.Ns mainGlobals mg) (bl : s.heap.Ns builtinsNs mb) (bb : ∀ y : Str, y ≠ "__name__" → mb y = bootBuiltins y) (nl : s.heap.NoLimit) (hg : s.gens = #[])
    (ha : s.heap.get? a = some { cls := .type "list", data := .seq vs.toArray }) (hi : IntsAre vs ns) (hl : ns.length ≤ sizeLine) (hr : Room k callerA)
    (F : ∀ base : Heap, K.In base → base.Ns mainGlobals mg → FnG P w K mg base CX0 k fa fd [x] sp) (bd : ∀ (t : Shared) (u : Value), BindsTo t fd ⟨[u], []⟩ [(x, u)])
    (hsp : ∀ H : Hp, SqL K H a (ns.map V.int) → sp [.ref a] H (fun v _ => v = .bl true) fun _ _ _ => False) :
    codeAny (model P w) callerA (.call (.ref fa) ⟨[.ref a], []⟩) (fun r t => r = .ok (.ret (.bool true)) ∧ OldK s.heap t.heap ∧ t.os = s.os ∧ AllBare t.gens) s := by
  have rv := vals_ints hi
  have lv : ns.length = vs.length := hi.length.symm
  obtain ⟨H, hH, hS⟩ := ahead KX ha rv (lv ▸ hl)
  have ne : ∀ {b : Addr} {o : Obj}, s.heap.get? b = some o → (∀ i n, o.data ≠ .seq i n) → H b = none := fun {b o} q d => by
    cases e : H b with
    | none => rfl
    | some u =>
      obtain ⟨rfl, _⟩ := hH b u e
      rw [ha] at q
      exact absurd (congrArg Obj.data (Option.some.inj q)).symm (d _ _)
  have ns' : ∀ {b : Addr} {m : Str → Option Value}, s.heap.Ns b m → (hidT s.heap H).Ns b m := by
    rintro b m ⟨o, es, ep, q, d, r⟩
    exact ⟨o, es, ep, hidT_get q (ne q fun i n z => by rw [d] at z; cases z), d, r⟩
  have kin : K.In (hidT s.heap H) := fun b o q => hidT_get (KX b o q) (by
    cases e : H b with
    | none => rfl
    | some u =>
      have := (hH b u e).2.2
      rw [q] at this; cases this)
  obtain ⟨ml, nl1, nl2⟩ := nl
  have md : Mod K mg (hidT s.heap H) := ⟨kin, ns' gl, ⟨mb, ns' bl, bb⟩, ml, ns' nl1, nl2⟩
  have ok : HOk P w H s.heap := fun b u e => by
    obtain ⟨rfl, rfl, _⟩ := hH b u e
    exact ⟨ha, by rw [List.length_map]; exact hl, vs, _, rv, ha⟩
  have e0 : Env0 P w K mg (hidT s.heap H) callerA [] s H := {
    frames := rfl
    mod := md
    bs := fun b o q => of_hidT q
    bsz := Nat.le_of_eq (hidT_size _ _)
    funs := trivial
    frf := fun b q => by simp [frs] at q
    hok := ok
    bare := AllBare.of_eq hg }
  refine codeAny_mono ((F _ kin (ns' gl)).go callerA rfl [] s H ⟨[.ref a], []⟩ [.ref a] [.ref a] _ _ hr e0 (bd s (.ref a)) (.cons rfl .nil) (hsp H hS)) ?_
  intro r t h
  match r, h with
  | .error _, h => exact False.elim h
  | .ok .next, h => exact False.elim h
  | .ok .brk, h => exact False.elim h
  | .ok .cont, h => exact False.elim h
  | .ok (.ret u), h =>
    obtain ⟨v, H', os, bare, un, hok', rel, q⟩ := h
    have q : v = .bl true := q
    subst q
    have rel : u = Value.bool true := rel
    subst rel
    refine ⟨rfl, OldK.of_keep fun b o q => ?_, os, bare⟩
    cases e : H b with
    | none => exact un.keep b o q e (by simp [frs]) (by simp)
    | some z =>
      obtain ⟨rfl, rfl, _⟩ := hH b z e
      rw [ha] at q
      cases q
      exact (hok' _ _ (un.frzs _ _ _ e)).1
theorem walkG {l : PySem.W.OpenLaw} {n k : Nat} {q : Program} {loose : List Str} {XP : (Str → Option Value) → Heap → Prop} {YP : World → Heap → Prop} {d : DefRec} {K : Params → PySem.W.Frag} {sp : PySem.W.Frag → Sp} {x : Str}
    (hn : l.most = some n) (hn2 : n ≤ sizeLine) (hdf : d.params.defaults = []) (hr : Room k callerA) (hY : ∀ (w : World) (h : Heap), YP w h → (K w.params).In h)
    (F : ∀ (w : World) (mg : Str → Option Value) (fa : Addr) (h : Heap), (K w.params).In h → h.Ns mainGlobals mg → mg d.name = some (.ref fa) →
      ∃ fd : FuncData, (∀ (s : Shared) (u : Value), BindsTo s fd ⟨[u], []⟩ [(x, u)]) ∧ ∀ base : Heap, (K w.params).In base → base.Ns mainGlobals mg → FnG l.prog w (K w.params) mg base CX0 k fa fd [x] (sp (K w.params)))
    (hsp : ∀ (K : PySem.W.Frag) (H : Hp) (a : Addr) (ns : List Int), ns.length ≤ n → SqL K H a (ns.map V.int) → sp K [.ref a] H (fun v _ => v = .bl true) fun _ _ _ => False) :
    PySem.W.WalkO q loose XP YP l.row.toRowW d [] (fun f vs => PySem.call f vs) := by
  refine Att.attach_call hn hdf ?_
  intro w s0 s1 mg mb fa o pm cd doc a vs ns G Y _ _ _ hm hob hin hle hge
  obtain ⟨fd, bd, hF⟩ := F w mg fa _ (hY w _ Y) G.T.g hm
  exact lawG (hY w _ Y) G.T.g G.T.b G.T.builtins G.T.nolimit hge hob hin (Nat.le_trans hle hn2) hr hF bd fun H hS => hsp _ H a ns hle hS
end Dt

set_option Elab.async false
set_option linter.all false
set_option autoImplicit false
set_option maxRecDepth 100000
namespace Dt
open PySem PySem.Spec PyProof.Rows L2

/-! ### defs that may be called wherever there is room: no repr in them -/
structure Do (P : Program) (w : World) (K : PySem.W.Frag) (mg : Str → Option Value) (base : Heap) (CX : CXT) (k : Nat) (x : Str) (n : Nat) (sp : Sp) : Prop where
  ex : ∃ (f : Addr) (fd : FuncData) (ps : List Str), ps.length = n ∧ mg x = some (.ref f) ∧ PySem.W.keepIn K (.ref f) = true ∧ Binds K fd ps [] ∧ FnOk P w K mg base CX k f fd ps sp
section
variable {P : Program} {w : World} {K : PySem.W.Frag} {mg : Str → Option Value} {base : Heap} {CX : CXT} {k n : Nat} {f : Addr} {fd : FuncData} {N ps : List Str} {x qual : Str} {st : Stmt} {sp : Sp}
theorem Do.df (D : Do P w K mg base CX k x n sp) : Df P w K mg base CX k x n sp := by
  obtain ⟨f, fd, ps, h1, h2, h3, h4, h5⟩ := D.ex
  exact ⟨f, fd, ps, h1, h2, h3, h4, .of h5⟩
/-- what lets no error out may be called where errors pass -/
theorem ok_lift (F : FnOk P w K mg base CX0 k f fd ps sp) : FnOk P w K mg base CX k f fd ps sp := ⟨F.len, fun A outer s H args us vs Q E hr e0 hb hv hs => codeAny_mono (F.run A outer s H args us vs Q E hr e0 hb hv hs) fun r s' h => by
  match r, h with
  | .error e, h => exact False.elim h
  | .ok (.ret u), h => exact h
  | .ok .next, h => exact h
  | .ok .brk, h => exact h
  | .ok .cont, h => exact h⟩
theorem Do.lift (D : Do P w K mg base CX0 k x n sp) : Do P w K mg base CX k x n sp := by
  obtain ⟨f, fd, ps, h1, h2, h3, h4, h5⟩ := D.ex
  exact ⟨f, fd, ps, h1, h2, h3, h4, ok_lift h5⟩
/-- a def by its body, wherever -/
theorem fnO (F : Fun K x qual st f fd) (S : FnScope N ps (defScope st)) (len : ∀ vs H Q E, sp vs H Q E → vs.length = ps.length)
    (hbody : ∀ (cdv : Value) (A : Around) (outer : List Env) (s : Shared) (H : Hp) (vs : List V) (Q : VK) (E : XK), Room k (A.deeper (envOfC qual (defScope st) s.heap.objs.size f cdv)) → sp vs H Q E →
      ∃ t, PSs (cxOf CX P w K mg base N qual (defScope st) f cdv A outer s H E) (defBody st) t ∧ t ⟨fun _ H' => Q .non H', Q, fun _ _ => False, fun _ _ => False⟩ (start N vs) H) : FnOk P w K mg base CX (k + 1) f fd ps sp := by
  obtain ⟨oc, od, kV, doc, pm, an, cdv, ct, osl, rfl, lk, hcd⟩ := F.ex
  exact fn_of lk hcd S len fun A outer s H vs Q E hr hsp => hbody cdv A outer s H vs Q E hr hsp
theorem dvs_ag {H : Hp} {l : List Addr} : ∀ {vs : List V} {ds : List PyData}, DvAll K (hd H l) vs ds → AgOk K (hd H l) vs (ds.map Ag.d)
  | _, [], h => by cases h; trivial
  | _, d :: ds, h => by cases h with | cons a b => exact ⟨a, dvs_ag b⟩
/-- a def without effects, by its body, wherever -/
theorem fnPO {F : List PyData → (PyData → Prop) → (Er → Prop) → Prop} {wb : DS Unit} (Fu : Fun K x qual st f fd) (Sc : FnScope N ps (defScope st)) (hn : ps.length = n)
    (hbody : ∀ (cdv : Value) (A : Around) (outer : List Env) (s : Shared) (H : Hp) (E : XK), Room k (A.deeper (PyProof.Rows.envOfC qual (defScope st) s.heap.objs.size f cdv)) →
      ∃ t, SSD W0 (cxOf CX P w K mg base N qual (defScope st) f cdv A outer s H E) (WXE E) (defBody st) t wb)
    (spec : ∀ ds Qd Ed, ds.length = n → F ds Qd Ed → wb (argS n N.length (ds.map Sl.d)) () (endP Qd Ed)) : FnOk P w K mg base CX (k + 1) f fd ps (spP K n F) := by
  refine fnO Fu Sc (fun vs H Q E h => by rw [h.1, hn]) fun cdv A outer s H vs Q E hr h => ?_
  obtain ⟨hl, l, ds, Qd, Ed, nd, tr, da, hf, hq, he⟩ := h
  obtain ⟨t, B⟩ := hbody cdv A outer s H E hr
  refine ⟨t, B.pe, ?_⟩
  have hdl : ds.length = n := by rw [← da.length]; exact hl
  have e1 : (ds.map Ag.d).map toSl = ds.map Sl.d := by rw [List.map_map]; rfl
  have E0 := env_start (Wo := W0) (N := N) (R := l) (s := ()) (by simpa [W0] using nd) (by simpa [W0] using tr) trivial (by simpa [W0] using dvs_ag da)
  rw [e1, hl] at E0
  refine B.go _ _ H _ () (endP Qd Ed) _ E0 (spec ds Qd Ed hdl hf) ⟨fun σ' H' ρ' s' E' st' q => ?_, fun _ _ _ _ _ _ z => z.elim, fun _ _ _ _ _ _ z => z.elim, fun v H' d s' g ex dv q => ?_, fun e cls dd σ' H' ρ' s' E' ei q => ?_⟩
  · exact hq .non H' .none (fun b o h => E'.ext b o h (by simp [W0, Cn.W])) .non q
  · exact hq v H' d (fun b o h => ex b o h (by simp [W0, Cn.W])) (by have dv2 : Dv K (hd H' (([] : List Addr) ++ l)) v d := dv; simpa using dv2) q
  · refine he e cls dd H' (fun b o h => E'.ext b o h (by simp [W0, Cn.W])) ?_ q
    have sub : Same (hd H' ((⟨l, H⟩ : Cn W0).hs ρ')) (hd H' l) := hd_sub fun a ha => List.mem_append_left _ (by simpa [W0, Cn.W] using ha)
    obtain ⟨c1, d, fs, c2, c3, c4⟩ := ei
    exact ⟨c1, d, fs, c2, c3, FsOk.same sub _ _ c4⟩
end
section
variable {X : Cx} {CX : CXT} {k n : Nat} {f : Addr} {fd : FuncData} {ps : List Str} {sp : Sp} {E : L2.St → XK} {x : Str} {p pos : Pos} {e : Expr} {es : List Expr} {t : TA}
theorem run_fnO {pins : List (Addr × Obj)} {σ : L2.St} {H : Hp} {s : Shared} {Q : VK} {us : List Value} {vs : List V} (F : FnOk X.prog X.w X.K X.mg X.base CX k f fd ps sp) (hr : Room k X.A) (hb : Binds X.K fd ps [])
    (hx : PassesAt CX X σ (E σ)) (I : Inv X pins σ H s) (r : Vals vs us) (h : sp vs H Q (E σ)) : wpAny (model X.prog X.w) X.A (call (.ref f) us) (EP X pins σ Q) X.xe s := by
  have b := hb s us I.kIn (by rw [List.append_nil, ← r.length]; exact F.len _ _ _ _ h)
  rw [List.append_nil] at b
  refine wpAny_call (codeAny_mono (F.run X.A X.stack s H ⟨us, []⟩ us vs Q (E σ) hr I.env0 b r h) fun r s' hq => ?_)
  match r, hq with
  | .error e, hq => exact hx pins H s e s' I hq
  | .ok (.ret u), hq => exact I.after hq
  | .ok .next, hq => cases hq
  | .ok .brk, hq => cases hq
  | .ok .cont, hq => cases hq
theorem pe_callO (F : FnOk X.prog X.w X.K X.mg X.base CX k f fd ps sp) (hr : Room k X.A) (hg : Gl X x) (hm : X.mg x = some (.ref f)) (hk : PySem.W.keepIn X.K (.ref f) = true) (hb : Binds X.K fd ps []) (hx : ∀ σ, PassesAt CX X σ (E σ))
    (ha : PA X (e :: es) t) (hdb : (x == ("__debug__" : Str)) = false := by decide) (he : starEach (e :: es) X.env = (false, eval e X.env) :: starEach es X.env := by rfl) (hpl : (backTo pos (starEach es X.env)).any (·.1) = false := by rfl) :
    PE X (.Call (.Name x p) (e :: es) [] pos) (tCallS sp E t) := by
  refine ⟨fun pins s σ H Q I h => wpAny_Call_Name_kw (ld_glob I hg hm (PySem.W.callWith_K (h₀ := X.base) I.ok.mod.kin hk (thn (ha.run pos pins s σ H _ I h) ?_) he hpl) hdb)⟩
  rintro us s1 ⟨vs, H1, I1, r, q⟩
  exact ⟨I1.kIn, run_fnO F hr hb (hx σ) I1 r q⟩
end
section
variable {S : Type} {Wo : Wd S} {X : Cx} {W : WX} {K : PySem.W.Frag} {tl : TA} {e : Expr} {es : List Expr} {pos p : Pos} {wl : DA S} {n : Nat}
theorem e_callO {CX : CXT} {j : Nat} {x : Str} {F : List PyData → (PyData → Prop) → (Er → Prop) → Prop} (D : Do X.prog X.w K X.mg X.base CX j x n (spP K n F)) (hr : Room j X.A) (hx : ∀ σ, PassesAt CX X σ (WE W σ)) (ha : AD Wo X W (e :: es) tl wl) (hK : X.K = K := by rfl)
    (hg : Gl X x := by rfl) (hdb : (x == ("__debug__" : Str)) = false := by decide) (he : starEach (e :: es) X.env = (false, eval e X.env) :: starEach es X.env := by rfl) (hpl : (backTo pos (starEach es X.env)).any (·.1) = false := by rfl) :
    ED Wo X W (.Call (.Name x p) (e :: es) [] pos) (tCallS (spP K n F) (WE W) tl) (wCallP (fun ds Q E => ds.length = n ∧ F ds Q E) wl) := by
  subst hK
  obtain ⟨f, fd, ps, h1, h2, h3, h4, h5⟩ := D.ex
  exact ⟨pe_callO h5 hr hg h2 h3 h4 hx ha.pe hdb he hpl, fun c σ H ρ s Qd Ed Q E hw hv he => ha.go c σ H ρ s _ Ed _ E hw (fun vs H1 as s1 E1 st1 a1 q1 => by
    obtain ⟨ds, g1, g2, g3⟩ := a1.all q1
    exact ⟨by rw [g1.length]; exact g2, c.hs ρ, ds, _, _, E1.nd, E1.tr, g1, g3, fun v H' d sm dv q => hv v H' d s1 (E1.grow sm) (st1.trans (stp_grow sm)) dv q,
      fun e cls dd H' sm ei q => he e cls dd H' s1 (E1.grow sm) ei q⟩) he⟩
/-- errors of a callee that this body lets pass -/
theorem passT {E : XK} (tk : Takes X (WXE E)) : ∀ σ, PassesAt (L2.CX X.prog X.w) X σ (WE (WXE E) σ) := fun σ => passAt tk σ
end
/-! ### an error that is raised: an own class with two fields -/
def spIni (C : Addr) (f1 f2 : Str) : Sp := fun vs H Q _ => ∃ (a : Addr) (v1 v2 : V), vs = [.ref a, v1, v2] ∧ H a = some (exo a C none) ∧
  ∀ d, H d = none → d ≠ a → Q .non (upd (upd (upd H d (exd d [(f1, v1)])) a (exo a C (some d))) d (exd d [(f2, v2), (f1, v1)]))
/-- the class x stands at C, it is made of two values -/
structure Ec (P : Program) (w : World) (K : PySem.W.Frag) (mg : Str → Option Value) (base : Heap) (x : Str) (C : Addr) (f1 f2 : Str) : Prop where
  at' : mg x = some (.ref C)
  oex : OexC K C
  ini : ∃ (fI : Addr) (fd : FuncData) (ps : List Str), PySem.W.findIn K (.ref C) "__init__" = some (some (.ref fI)) ∧ PySem.W.typeIn K (.ref fI) = some (.type "function") ∧ FnOk P w K mg base CX0 1 fI fd ps (spIni C f1 f2) ∧ Binds K fd ps []
theorem no_calls {X : Cx} {E : XK} : Passes CX0 X E := fun _ _ _ _ _ _ _ h => h.elim
def wRaise {S : Type} (C : Addr) (f1 f2 : Str) (w : DA S) : DS S := fun ρ s D => w ρ s (fun as s1 => allK as fun ds => match ds with
  | [d1, d2] => D.er ⟨C, [(f2, d2), (f1, d1)]⟩ ρ s1
  | _ => False) fun e s' => D.er e ρ s'
section
variable {S : Type} {Wo : Wd S} {X : Cx} {W : WX} {K : PySem.W.Frag} {tl : TA} {e1 e2 : Expr} {pos pos' p : Pos} {wl : DA S}
theorem sd_raise {x : Str} {C : Addr} {f1 f2 : Str} (R : Ec X.prog X.w K X.mg X.base x C f1 f2) (hr : Room 2 X.A) (hc : X.calm = true) (tk : Takes X W) (ha : AD Wo X W [e1, e2] tl wl) (hK : X.K = K := by rfl) (hg : Gl X x := by rfl) (hdb : (x == ("__debug__" : Str)) = false := by decide)
    (he : starEach [e1, e2] X.env = (false, eval e1 X.env) :: starEach [e2] X.env := by rfl) (hpl : (backTo pos (starEach [e2] X.env)).any (·.1) = false := by rfl) :
    SD Wo X W (.Raise (some (.Call (.Name x p) [e1, e2] [] pos)) none pos') (fun _ σ H => tMkO C (spIni C f1 f2) [] tl σ H fun cls d H' => W cls d σ H') (wRaise C f1 f2 wl) := by
  subst hK
  obtain ⟨fI, fd, ps, h1, h2, h3, h4⟩ := R.ini
  refine ⟨ps_raise hc tk (pmk_oex R.oex h1 h2 h3 hr h4 .nil no_calls hg R.at' ha.pe hdb he hpl), fun c σ H ρ s Dd D E hw to => ha.go c σ H ρ s _ _ _ E hw (fun vs H1 as s1 E1 st1 a1 q1 => ?_) (fun e cls dd H' s' E' ei q => to.er e cls dd σ H' ρ s' E' ei q)⟩
  obtain ⟨ds, g1, g2⟩ := a1.all q1
  match ds, g1, g2 with
  | [d1, d2], g1, g2 =>
    cases g1 with
    | @cons v1 _ _ _ b1 r1 =>
    cases r1 with
    | @cons v2 _ _ _ b2 r2 =>
    cases r2
    refine ⟨by simp, fun a na => ⟨a, v1, v2, rfl, upd_same, fun d nd ne => ⟨rfl, d, [(f2, v2), (f1, v1)], by rw [upd_ne (Ne.symm ne)]; exact upd_same, upd_same, by rw [upd_ne ne] at nd; exact nd, ?_⟩⟩⟩
    have nd' : H1 d = none := by rw [upd_ne ne] at nd; exact nd
    have sm : Same H1 (upd (del (upd (upd (upd (upd H1 a (exo a C none)) d (exd d [(f1, v1)])) a (exo a C (some d))) d (exd d [(f2, v2), (f1, v1)])) a) d (.xd [(f2, v2), (f1, v1)])) := fun b o q => by
      have z1 : b ≠ a := ne_of_none q na
      have z2 : b ≠ d := ne_of_none q nd'
      rw [upd_ne z2, del_ne z1, upd_ne z2, upd_ne z1, upd_ne z2, upd_ne z1]
      exact q
    have s2 : Same (hd H1 (c.hs ρ)) (hd (upd (del (upd (upd (upd (upd H1 a (exo a C none)) d (exd d [(f1, v1)])) a (exo a C (some d))) d (exd d [(f2, v2), (f1, v1)])) a) d (.xd [(f2, v2), (f1, v1)])) (c.hs ρ)) := stp_grow (c := c) (ρ := ρ) sm
    exact to.er ⟨C, [(f2, d2), (f1, d1)]⟩ _ _ σ _ ρ s1 (E1.grow sm) ⟨rfl, d, _, rfl, upd_same, ⟨rfl, Dv.same s2 _ _ b2, rfl, Dv.same s2 _ _ b1, trivial⟩⟩ g2
  | [], _, g2 => exact False.elim g2
  | [_], _, g2 => exact False.elim g2
  | _ :: _ :: _ :: _, _, g2 => exact False.elim g2
end
/-- the reading of two stores into an error that is being made -/
theorem ini_read {K : PySem.W.Frag} {C a : Addr} {f1 f2 : Str} {v1 v2 : V} {σ : L2.St} {H : Hp} {D : Ends} (T : OexC K C) (n1 : PySem.W.findIn K (.ref C) f1 = some none) (n2 : PySem.W.findIn K (.ref C) f2 = some none) (h0 : σ[0]? = some (some (.ref a))) (h1 : σ[1]? = some (some v1)) (h2 : σ[2]? = some (some v2)) (ha : H a = some (exo a C none))
    (hq : ∀ d, H d = none → d ≠ a → D.nx σ (upd (upd (upd H d (exd d [(f1, v1)])) a (exo a C (some d))) d (exd d [(f2, v2), (f1, v1)]))) : tSeq (tOst K f1 (tVar 0) (tVar 1)) (tOst K f2 (tVar 0) (tVar 2)) D σ H := by
  refine ⟨v1, h1, .ref a, h0, a, C, rfl, T, n1, .inl ⟨ha, fun d nd ne => ?_⟩⟩
  refine ⟨v2, h2, .ref a, h0, a, C, rfl, T, n2, .inr ⟨d, [(f1, v1)], upd_same, by rw [upd_ne ne]; exact upd_same, by simp, ?_⟩⟩
  exact hq d nd ne
end Dt

set_option Elab.async false
set_option linter.all false
set_option autoImplicit false
set_option maxRecDepth 100000
namespace L34
open PySem PySem.Spec Dt
open L2 hiding wT wNot
def top (i : Nat) : Stmt := PySem.Challenge.pw_surelywrong_k34_segments_and_layers.main.body.getD i (.Pass ⟨0, 0, 0, 0⟩)
def inCls : Stmt → Nat → Stmt
  | .ClassDef _ _ _ b _ _ _ _ _ _ _, i => b.getD i (.Pass ⟨0, 0, 0, 0⟩)
  | st, _ => st
section
variable {P : Program} {w : World} {K : PySem.W.Frag} {mg : Str → Option Value} {base : Heap}
abbrev s_iniNU : Stmt := inCls (top 3) 0
theorem sc_iniNU : FnScope ["self", "word", "at"] ["self", "word", "at"] (defScope s_iniNU) := ⟨rfl, rfl, rfl, by decide +kernel, rfl, by decide +kernel, by decide +kernel⟩
theorem ok_iniNU {f C : Addr} {fd : FuncData} (Fu : Fun K "__init__" "NotUsable.__init__" s_iniNU f fd) (T : OexC K C) (n1 : PySem.W.findIn K (.ref C) "word" = some none) (n2 : PySem.W.findIn K (.ref C) "at" = some none) : FnOk P w K mg base CX0 1 f fd ["self", "word", "at"] (spIni C "word" "at") := by
  refine fnO Fu sc_iniNU (fun vs H Q E h => by obtain ⟨a, v1, v2, rfl, _⟩ := h; rfl) fun cdv A outer s H vs Q E hr h => ?_
  obtain ⟨a, v1, v2, rfl, ha, hq⟩ := h
  exact ⟨_, pss_cons (ps_ost (pv 0) (pv 1)) (pss_one (ps_ost (pv 0) (pv 2))), ini_read T n1 n2 rfl rfl rfl ha hq⟩
end
end L34

set_option Elab.async false
set_option linter.all false
set_option autoImplicit false
set_option maxRecDepth 100000
set_option maxHeartbeats 1000000
/-! ### an error with fields, asked for its class -/
namespace PySem.W
open PySem PySem.Calls PyProof.Rows
section
variable {prog : Program} {w : World} {A : Around} {E : Value → Shared → Prop} {s : Shared} {K : Frag} {x D : Addr} {ox : Obj}
theorem found_data {C : Addr} {od : Option Obj} {name : Str} {a g : Value} (hc : (clsIn K C).isSome = true) (ha : findIn K (.ref C) name = some (some a)) (hg : specialIn K a "__get__" = some (some g)) (ht : takesIn K a = some true) : findObj K C od name = some (.bind g a) := by
  obtain ⟨cd, e⟩ := Option.isSome_iff_exists.mp hc
  simp only [findObj, e, ha, hg, ht, Option.bind_some]
variable {od : Option Obj}
theorem class_asked {Q : Option Value → Shared → Prop} (hga : findIn K (.ref D) "__getattribute__" = some (some (.builtin "BaseException.__getattribute__"))) (hgt : findIn K (.ref D) "__getattr__" = some none) (hsub : subIn K (.ref D) (.type "BaseException") = some true)
    (hdct : hasDictIn K D = true) (ha : findIn K (.ref D) "__class__" = some (some (.builtin "object.__class__")))
    (hn : specialIn K (.builtin "object.__class__") "__get__" = some (some (.builtin "getset_descriptor.__get__"))) (htk : takesIn K (.builtin "object.__class__") = some true) (hm : mroIn K D (.type "object") = some true)
    (X : K.In s.heap) (I : InstAt s.heap x ox D od) (h : Q (some (.ref D)) { s with toks := s.toks + 1 }) : wpAny (model prog w) A (getAttr? (.ref x) "__class__") Q E s := by
  have hf : findObj K D od "__class__" = some (.bind (.builtin "getset_descriptor.__get__") (.builtin "object.__class__")) := found_data (by obtain ⟨cd, hc, _⟩ := any_some hdct; rw [hc]; rfl) ha hn htk
  obtain ⟨hp, g, d, t, os⟩ := s
  have ty := I.type (M := model prog w)
  have f1 := looks_findIn (M := model prog w) X hga
  have f2 := looks_findIn (M := model prog w) X hgt
  have f3 := looks_find (M := model prog w) X I hf
  have sub : Looks (model prog w) hp (isInstance (.ref x) (.type "BaseException")) true := ty.andThen (looks_subIn X hsub)
  have n0 : (false && onTheHeap (Value.builtin "BaseException.__getattribute__")) = false := rfl
  have n1 : (onTheHeap (Value.ref D) && Value.builtin "BaseException.__getattribute__" == Value.builtin "object.__getattribute__") = false := by
    have e : (Value.builtin "BaseException.__getattribute__" == Value.builtin "object.__getattribute__") = false := by decide +kernel
    rw [e]; rfl
  unfold getAttr? getAttrBy? getAttrBy
  refine wpAny_bind (wpAny_mkText (wpAny_bind (wpAny_attempt (wpAny_holding (wpAny_bind (ty.at (wpAny_bind (f1.at ?_))))))))
  show wpAny _ _ (if (onTheHeap (Value.ref D) && Value.builtin "BaseException.__getattribute__" == Value.builtin "object.__getattribute__") = true then _ else _) _ _ _
  rw [n1, if_neg Bool.false_ne_true]
  unfold getAttrByItsOwn hookBefore
  refine wpAny_bind ?_
  rw [if_pos (show onTheHeap (Value.ref D) = true from rfl)]
  refine f2.at (wpAny_bind (wpAny_attempt (wpAny_holding ?_)))
  unfold callGetattribute
  rw [n0, if_neg Bool.false_ne_true]
  unfold boundAndCalled
  rw [PySem.F.excAttr_ValueError.ga.bind (.ref x)]
  refine wpAny_bind (wpAny_pure ?_)
  show wpAny _ _ (call (.builtin "BaseException.__getattribute__") [.ref x, .str "__class__" t]) _ _ _
  refine wpAny_call (codeAny_call_builtin PySem.F.excAttr_ValueError.ga.plain PySem.F.entry_bexc_ga (@check_slot (model prog w) _ _ ⟨hp, g, d, t + 1, os⟩ "BaseException.__getattribute__" "BaseException" "__getattribute__" (.ref x) [.str "__class__" t] [] _ (by decide +kernel) (by decide +kernel) sub (PySem.F.args_bexc_ga (.ref x) (.str "__class__" t)) ?_))
  unfold Builtin.«object.__getattribute__»
  refine wpAny_bind (wpAny_of_eq (a := ((Value.ref x : Value), [Value.str "__class__" t])) (by first | rfl | (simp only [slotArgs]; rfl)) ?_)
  refine wpAny_bind (wpAny_pure (wpAny_bind (ty.at (wpAny_bind (f3.at ?_)))))
  show wpAny _ _ (holding [Value.builtin "object.__class__"] (call (.builtin "getset_descriptor.__get__") [.builtin "object.__class__", .ref x, .ref D]) >>= ret) _ _ _
  refine wpAny_bind (wpAny_holding (wpAny_call (class_get (s := ⟨hp, g, d, t + 1, os⟩) (ox := ox) (od := od) X I hm (wpAny_pure ?_))))
  show wpAny _ _ (handedOut (.ref D)) _ _ _
  rw [handedOut_of (v := .ref D) rfl]
  first
    | exact wpAny_pure (wpAny_pure h)
    | exact wpAny_pure h
    | exact wpAny_pure (wpAny_bind (wpAny_pure (wpAny_pure h)))
theorem kitx_err (hga : findIn K (.ref D) "__getattribute__" = some (some (.builtin "BaseException.__getattribute__"))) (hgt : findIn K (.ref D) "__getattr__" = some none) (hsub : subIn K (.ref D) (.type "BaseException") = some true) (hdct : hasDictIn K D = true) (ha : findIn K (.ref D) "__class__" = some (some (.builtin "object.__class__")))
    (hn : specialIn K (.builtin "object.__class__") "__get__" = some (some (.builtin "getset_descriptor.__get__"))) (htk : takesIn K (.builtin "object.__class__") = some true) (hm : mroIn K D (.type "object") = some true) (base : KitX K (.ref x) (.ref D) (fun h => InstAt h x ox D none)) :
    KitX K (.ref x) (.ref D) (fun h => ∃ od, InstAt h x ox D od) where
  ty := fun _ _ _ ⟨_, I⟩ => I.type
  it := fun _ _ X _ => by
    obtain ⟨cdD, hcD, _⟩ := any_some hdct
    unfold clsIn at hcD
    split at hcD
    · rename_i c' d' cd' sl' ho
      intro A' Q' E' s' k q
      unfold isType loadHead
      exact wpAny_bind (wpAny_loadPart (k _ _ (X _ _ ho)) (wpAny_pure q))
    · cases hcD
  ne := base.ne
  ca := fun X ⟨_, I⟩ k => class_asked hga hgt hsub hdct ha hn htk hm X I k
end
end PySem.W
namespace Dt
open PySem PySem.Spec PyProof.Rows L2
section
variable {X : Cx} {a D : Addr} {oe : Obj} {dx : Addr}
/-- isinstance(e, c), e an error that is held, its dict at dx -/
def rIsF (K : PySem.W.Frag) (D a dx : Addr) : List V → Hp → VK → Prop := fun xs H Q => ∃ (c : V) (cv : Value) (b : Bool) (fs : List (Str × V)), xs = [.ref a, c] ∧ (∀ u, RelV c u → u = cv) ∧ H dx = some (.xd fs) ∧ PySem.W.kitOne K (.ref D) cv = some b ∧ Q (.bl b) H
theorem call_isF (C : ExcC X.K D) (hp : (a, oe) ∈ X.pn) (hz : Zc (.ref D) (some dx) oe) (hf : ∃ vs, oe.data = .fields vs) : CallR X (.builtin "isinstance") (rIsF X.K D a dx) := by
  intro pins s σ H xs us Q I r h
  obtain ⟨c, cv, b, fs, rfl, hcv, hd, e, q⟩ := h
  cases r with
  | cons rx rr =>
  cases rr with
  | cons rt rr =>
  cases rr
  cases rx
  have ec := hcv _ rt
  subst ec
  obtain ⟨hget, _⟩ := I.pin (a, oe) (List.mem_append_left _ hp)
  obtain ⟨vs, hv⟩ := hf
  have hx : ObjOk X.prog X.w H s.heap dx (.xd fs) := I.hok dx _ hd
  obtain ⟨mA, hns, _⟩ := hx
  obtain ⟨od, ho, _⟩ := lookIn_ns hns
  have J : PySem.W.InstAt s.heap a oe D (some od) := ⟨hget, hz.1, by unfold PySem.W.notCls; rw [hv] <;> rfl, by rw [hz.2]; exact ho⟩
  exact PySem.W.kia_one (PySem.W.kitx_err C.hg C.hk C.hs C.hd C.ha C.hn C.ht C.hm (PySem.W.handS_kitx_exc C.hg C.hk C.hs C.hd C.ha C.hn C.ht C.hm)) I.kIn ⟨_, J⟩ e (fun z => nomatch z) fun tk => ⟨.bl b, H, I.kept (t' := tk) fun _ _ z => z, rfl, q⟩
/-- e.f, e an error that is held -/
def tXg (a D dx : Addr) (f : Str) (te : TE) : TE := fun σ H Q => te σ H fun x H1 => x = .ref a ∧ ∃ (fs : List (Str × V)) (v : V), H1 dx = some (.xd fs) ∧ fs.lookup f = some v ∧ Q v H1
theorem pe_xg {e : Expr} {te : TE} {pos : Pos} {n : Str} (T : XfC X.K D) (hno : PySem.W.findIn X.K (.ref D) n = some none) (hp : (a, oe) ∈ X.pn) (hz : Zc (.ref D) (some dx) oe) (hf : ∃ vs, oe.data = .fields vs) (he : PE X e te)
    (hb : attributeBase e n X.env (eval e X.env) = eval e X.env := by rfl) : PE X (.Attribute e n pos) (tXg a D dx n te) := by
  refine ⟨fun pins s σ H Q I h => attr_of hb (thn (he.run pins s σ H _ I h) fun u s1 hh => ?_)⟩
  obtain ⟨x, H1, I1, rx, ex, fs, v, ea, l, q⟩ := hh
  subst ex
  obtain rfl : u = Value.ref a := rx
  obtain ⟨ha, _⟩ := I1.pin (a, oe) (List.mem_append_left _ hp)
  obtain ⟨vs, hd⟩ := hf
  have hx : ObjOk X.prog X.w H1 s1.heap dx (.xd fs) := I1.hok dx _ ea
  obtain ⟨mA, hns, hr⟩ := hx
  obtain ⟨od, ho, hl⟩ := lookIn_ns hns
  obtain ⟨u, hu, ru⟩ := RelO.some_of (v := v) (o := mA n) (by rw [← l]; exact hr n)
  have J : PySem.W.InstAt s1.heap a oe D (some od) := ⟨ha, hz.1, by unfold PySem.W.notCls; rw [hd] <;> rfl, by rw [hz.2]; exact ho⟩
  exact HandSPX.exc_get I1.kIn J T.ga T.gg T.exC (PySem.W.findObj_own T.hdC hno rfl (by rw [hl, hu])) (handed_of ru) ⟨v, H1, I1.tok _, ru, q⟩
/-- xs.count(b), bools alone -/
def eqb (b : Bool) (v : Value) : Bool := match v with
  | .bool c => c == b
  | _ => false
theorem vals_bl : ∀ {bs : List Bool} {us : List Value}, Vals (bs.map V.bl) us → us = bs.map Value.bool
  | [], _, h => by cases h; rfl
  | b :: bs, _, h => by
    cases h with
    | cons a r =>
      have a : _ = Value.bool b := a
      rw [a, vals_bl r]; rfl
def rCntB (K : PySem.W.Frag) : V → List V → Hp → VK → Prop := fun x xs H Q => ∃ (p : Addr) (bs : List Bool) (b : Bool), x = .ref p ∧ xs = [.bl b] ∧ SqL K H p (bs.map V.bl) ∧ Q (.int (bs.count b : Nat)) H
theorem mt_bcount : MtR X "list.count" (rCntB X.K) := by
  intro pins s σ H x xs v us Q I rx rxs h
  obtain ⟨p, bs, b, rfl, rfl, hs, q⟩ := h
  cases rx
  obtain ⟨u, rfl, ru⟩ := rxs.one
  obtain rfl : u = Value.bool b := ru
  obtain ⟨its, rv, ⟨⟨cls, dd, data, sl⟩, n, ho, hc, hdn, hd⟩, hlen⟩ := I.list hs
  simp only at hc hd
  subst hc hd
  have ei := vals_bl rv
  subst ei
  refine call_meets PySem.F.slot_list_count ⟨_, ho, rfl⟩ PySem.F.entry_list_count (PySem.F.args_list_count_2 _ _)
    (SeqAt.list_countAt p (bs.map Value.bool).toArray n dd sl (.bool b) (eqb b)) ⟨ho, fun y hy => ?_, ?_⟩
  · obtain ⟨c, _, rfl⟩ : ∃ c ∈ bs, Value.bool c = y := by simpa using hy
    exact PySem.SeqAt.EqAt.bool_bool c b
  have ec : (bs.map Value.bool).toArray.toList.countP (eqb b) = bs.count b := by
    rw [List.toList_toArray, List.countP_map]
    rfl
  refine ⟨.int (bs.count b : Nat), H, I.tok _, ⟨s.toks, ?_⟩, q⟩
  show Value.int (((bs.map Value.bool).toArray.toList.countP (eqb b) : Nat) : Int) s.toks = Value.int ((bs.count b : Nat) : Int) s.toks
  rw [ec]
end
end Dt

set_option Elab.async false
set_option linter.all false
set_option autoImplicit false
set_option maxRecDepth 100000
set_option maxHeartbeats 1000000
namespace Dt
open PySem PySem.Spec PyProof.Rows L2
/-! ### a def called within an except suite, with the error that is held -/
structure FnR (P : Program) (w : World) (K : PySem.W.Frag) (mg : Str → Option Value) (base : Heap) (k : Nat) (f : Addr) (fd : FuncData) (ps : List Str) (sp : Addr × Obj → Sp) : Prop where
  len : ∀ p vs H Q E, sp p vs H Q E → vs.length = ps.length
  run : ∀ (A : Around) (outer : List Env) (s : Shared) (H : Hp) (args : Args) (us : List Value) (vs : List V) (Q : VK) (E : XK) (p : Addr × Obj), L2H.RoomH k A → L2H.PinOk outer H s p → Env0 P w K mg base A outer s H → BindsTo s fd args (ps.zip us) → Vals vs us → sp p vs H Q E →
    codeAny (model P w) A (.call (.ref f) args) (CR CX0 outer P w H s Q E) s
section
variable {P : Program} {w : World} {K : PySem.W.Frag} {mg : Str → Option Value} {base : Heap} {k : Nat} {f : Addr} {fd : FuncData} {N ps : List Str} {x qual : Str} {st : Stmt} {sp : Addr × Obj → Sp}
theorem fnR (F : Fun K x qual st f fd) (S : FnScope N ps (defScope st)) (len : ∀ p vs H Q E, sp p vs H Q E → vs.length = ps.length)
    (hbody : ∀ (cdv : Value) (A : Around) (outer : List Env) (s : Shared) (H : Hp) (vs : List V) (Q : VK) (E : XK) (p : Addr × Obj), L2H.RoomH k (A.deeper (envOfC qual (defScope st) s.heap.objs.size f cdv)) → sp p vs H Q E →
      ∃ t, PSs (L2H.cxH CX0 P w K mg base N qual (defScope st) f cdv A outer s H E p) (defBody st) t ∧ t ⟨fun _ H' => Q .non H', Q, fun _ _ => False, fun _ _ => False⟩ (start N vs) H) : FnR P w K mg base (k + 1) f fd ps sp := by
  obtain ⟨oc, od, kV, doc, pm, an, cdv, ct, osl, rfl, lk, hcd⟩ := F.ex
  refine ⟨len, fun A outer s H args us vs Q E p hr hpin e0 hb r hsp => ?_⟩
  have old : ∀ b o, base.get? b = some o → s.heap.get? b = some o := fun b o e => (e0.bs b o e).1
  have par : ∀ y ∈ ps.zip us, (defScope st).names.lookup y.1 = some .local ∨ ((defScope st).names.lookup y.1 = some .cell ∧ ((cellsFrom (s.heap.objs.size + 1) (defScope st).names []).lookup y.1).isSome = true) := by
    rintro ⟨n, v⟩ hy
    exact (S.par n (List.of_mem_zip hy).1).imp id fun q => ⟨q, PySem.W.cellsFrom_some _ _ _ (.inl q)⟩
  refine codeAny_call_function hr.depth (e0.mod.kin.keeps old _ _ lk) rfl S.co S.gen rfl (PySem.W.codeRec_of (e0.mod.kin.keeps old) hcd) (hb _ _ _ _ (wpAny_newFunctionEnv_cells S.kind par fun env he s1 x1 => ?_))
  subst he
  refine ⟨(e0.mod.nolimit.keeps old).keeps x1.toInCall.keep, codeAny_func ?_⟩
  obtain ⟨t, ht, hq⟩ := hbody cdv A outer s H vs Q E p (hr.deeper _) hsp
  refine wpAny_mono (ht.run [] s1 (start N vs) H _ (L2H.inv_startH S hpin e0 (len _ _ _ _ _ hsp) r x1) hq) ?_ fun e s' hs => hs
  intro fl s' hs
  cases fl with
  | next =>
    obtain ⟨σ', H', J, q⟩ := hs
    exact ⟨V.non, H', J.os, J.bare, J.base, J.hok, rfl, q⟩
  | ret u =>
    obtain ⟨v, σ', H', J, rv, q⟩ := hs
    exact ⟨v, H', J.os, J.bare, J.base, J.hok, rv, q⟩
  | brk =>
    obtain ⟨_, _, _, q⟩ := hs
    cases q
  | cont =>
    obtain ⟨_, _, _, q⟩ := hs
    cases q
end
section
variable {X : Cx} {k : Nat} {f a : Addr} {oe : Obj} {fd : FuncData} {ps : List Str} {sp : Addr × Obj → Sp} {x : Str} {p pos : Pos} {e : Expr} {es : List Expr} {t : TA}
/-- f(e, ..) in an except suite -/
theorem pe_callR (F : FnR X.prog X.w X.K X.mg X.base k f fd ps sp) (hs : X.stack = X.env :: X.outer) (hf : X.env.frame = some X.env.locals) (hp : (a, oe) ∈ X.pn) (hr : L2H.RoomH k X.A) (hg : Gl X x) (hm : X.mg x = some (.ref f)) (hk : PySem.W.keepIn X.K (.ref f) = true) (hb : Binds X.K fd ps [])
    (ha : PA X (e :: es) t) (hdb : (x == ("__debug__" : Str)) = false := by decide) (he : starEach (e :: es) X.env = (false, eval e X.env) :: starEach es X.env := by rfl) (hpl : (backTo pos (starEach es X.env)).any (·.1) = false := by rfl) :
    PE X (.Call (.Name x p) (e :: es) [] pos) (tCallS (sp (a, oe)) (fun _ => E0) t) := by
  refine ⟨fun pins s σ H Q I h => wpAny_Call_Name_kw (ld_glob I hg hm (PySem.W.callWith_K (h₀ := X.base) I.ok.mod.kin hk (thn (ha.run pos pins s σ H _ I h) ?_) he hpl) hdb)⟩
  rintro us s1 ⟨vs, H1, I1, r, q⟩
  refine ⟨I1.kIn, ?_⟩
  have b := hb s1 us I1.kIn (by rw [List.append_nil, ← r.length]; exact F.len _ _ _ _ _ q)
  rw [List.append_nil] at b
  obtain ⟨g1, g2, g3, g4, g5⟩ := I1.pin (a, oe) (List.mem_append_left _ hp)
  have pin : L2H.PinOk X.stack H1 s1 (a, oe) := ⟨g1, g2, fun z => by
    rcases List.mem_cons.mp (I1.stkSub _ z) with e | e
    · exact g3 e
    · exact g4 e, g5⟩
  refine wpAny_call (codeAny_mono (F.run X.A X.stack s1 H1 ⟨us, []⟩ us vs Q E0 (a, oe) hr pin I1.env0 b r q) fun r s' hq => ?_)
  match r, hq with
  | .error e, hq => exact False.elim hq
  | .ok (.ret u), hq => exact I1.after hq
  | .ok .next, hq => cases hq
  | .ok .brk, hq => cases hq
  | .ok .cont, hq => cases hq
end
end Dt

set_option Elab.async false
set_option linter.all false
set_option autoImplicit false
set_option maxRecDepth 100000
set_option maxHeartbeats 2000000
namespace Dt
open PySem PySem.Spec PyProof.Rows L2 LamX
/-! ### a lambda is made and handed to a def: nothing but the maker's table changes -/
def ButP (P : Addr) (H H' : Hp) : Prop := ∀ b o, b ≠ P → H b = some o → H' b = some o
section
variable {X : Cx} {pins : List (Addr × Obj)} {σ : L2.St} {H : Hp} {s : Shared}
theorem lam_mk {c P : Addr} {params : Arguments} {body : Expr} {scope : Scope} {pos : Pos} {E : Value → Shared → Prop} {Q : Value → Shared → Prop} (I : Inv X pins σ H s) (TB : TabB X.base X.mg c P) (hcode : X.env.code = .ref c) (hT : TabS H P (X.env.qual ++ "<lambda>"))
    (hdef : defaultsOf params X.env = ([], [])) (hfree : ∀ y ∈ scope.names, y.2 = .free → ∃ c, X.env.cells.lookup y.1 = some c)
    (h : ∀ (f c' : Addr) (pm ctv : Value) (H1 : Hp) (s' : Shared), Inv X pins σ H1 s' → ButP P H H1 → TabS H1 P (X.env.qual ++ "<lambda>") →
      s'.heap.get? f = some (PySem.W.kla_obj "<lambda>" (X.env.qual ++ "<lambda>") params body scope (cloFrom X.env.cells scope.names []) pm c' ctv) → H1 f = none → f ∉ frs X.stack → H1 c' = some (CodeO c' (X.env.qual ++ "<lambda>")) → Q (.ref f) s') :
    wpAny (model X.prog X.w) X.A (eval (.Lambda params body scope pos) X.env) Q E s := by
  obtain ⟨ps, hP, ht, ha⟩ := hT
  have hP' : s.heap.get? P = some { cls := .none, data := .fields ps } := I.hok P _ hP
  have bP := TB.bm.keeps I.bk
  have far : ∀ f, s.heap.objs.size ≤ f → f ∉ frs X.stack := fun f hf z => by
    rcases List.mem_cons.mp (I.stkSub _ z) with e | e
    · have q := I.lt
      rw [← e] at q
      exact absurd (Nat.lt_of_lt_of_le q hf) (Nat.lt_irrefl _)
    · exact I.nofs hf e
  have glob := I.mod.glob.keeps I.bk
  have code := TB.code.keeps I.bk
  refine PySem.W.kla_eval hdef ?_
  cases hc : codeAmong pos ps.toList with
  | some cv =>
    obtain ⟨c', rfl, hco⟩ := ha pos cv hc
    refine PySem.W.kla_makeFunctionHit (mg := X.mg) (c := c) (P := P) (ps := ps) (closure_ok hfree) I.ok.glob glob hcode code hP' ht hc bP fun ctv h' tk hx hsz => ?_
    exact h h'.objs.size c' ((X.mg "__name__").getD .none) ctv H _ (I.kept fun b o e => Heap.get?_push_of_some _ (hx b o e)) (fun _ _ _ e => e) ⟨ps, hP, ht, ha⟩ (Heap.get?_push_size _ rfl) (I.hok.fresh hsz) (far _ hsz) hco
  | none =>
    refine PySem.W.kla_makeFunction (mg := X.mg) (c := c) (P := P) (ps := ps) (closure_ok hfree) I.ok.glob glob hcode code hP' ht hc TB.gP bP fun c' ctv h' tk hx hge hlt hrec htb => ?_
    obtain ⟨c2, oc, vs, t, e2, hoc, hd, hv⟩ := hrec
    cases e2
    have nC : H c' = none := I.hok.fresh hge
    have sz : s.heap.objs.size ≤ h'.objs.size := Nat.le_trans hge (Nat.le_of_lt hlt)
    have J := inv_table (t' := tk) (more := #[rawInt pos.line, rawInt pos.col, .ref c']) (h' := h'.push (PySem.W.kla_obj "<lambda>" (X.env.qual ++ "<lambda>") params body scope (cloFrom X.env.cells scope.names []) ((X.mg "__name__").getD .none) c' ctv)) I hP
      (fun b o hb e => Heap.get?_push_of_some _ (hx b o hb e)) (Heap.get?_push_of_some _ htb) hge ⟨oc, vs, t, Heap.get?_push_of_some _ hoc, hd, hv⟩
    have but : ButP P H (upd (upd H P (.tbl (ps ++ #[rawInt pos.line, rawInt pos.col, .ref c']))) c' (CodeO c' (X.env.qual ++ "<lambda>"))) := fun b o nb e => by
      rw [upd_ne (ne_of_none e nC), upd_ne nb]; exact e
    refine h h'.objs.size c' ((X.mg "__name__").getD .none) ctv _ _ J but ⟨_, by rw [upd_ne (ne_of_none hP nC), upd_same], ?_, fun p' cv hcv => ?_⟩ (Heap.get?_push_size _ rfl) ?_ (far _ sz) upd_same
    · rw [show (ps ++ #[rawInt pos.line, rawInt pos.col, .ref c']).toList = ps.toList ++ [rawInt pos.line, rawInt pos.col, .ref c'] by simp]
      exact PySem.TriplesOk_snoc _ _ _ _ ht
    · rw [show (ps ++ #[rawInt pos.line, rawInt pos.col, .ref c']).toList = ps.toList ++ [rawInt pos.line, rawInt pos.col, .ref c'] by simp] at hcv
      rcases among_app _ ht hcv with z | z
      · obtain ⟨c0, e1, e2⟩ := ha p' cv z
        have n0 : c0 ≠ P := fun e => codeO_ne ps (Option.some.inj (e2.symm.trans (e ▸ hP)))
        exact ⟨c0, e1, but _ _ n0 e2⟩
      · exact ⟨c', z, upd_same⟩
    · rw [upd_ne (Nat.ne_of_gt hlt), upd_ne (Nat.ne_of_gt (Nat.lt_of_lt_of_le (Heap.lt_size hP') sz))]
      exact I.hok.fresh sz
end
def tLamP (P : Addr) (q : Str) (TT : (XK → Hp → VK → Prop) → Hp → VK → Prop) (t : XK → TE) : TE := fun σ H Q => TabS H P q ∧ ∀ H1, ButP P H H1 → TabS H1 P q → TT (fun E H' Q' => t E σ H' Q') H1 Q
section
variable {X : Cx}
/-- x(lambda: body) -/
theorem pe_lamP {TT : (XK → Hp → VK → Prop) → Hp → VK → Prop} {x a : Str} {g c P : Addr} {k : Nat} {st : Stmt} {fd : FuncData} {Ng : List Str} {params : Arguments} {body : Expr} {scope : Scope} {t : XK → TE} {p lpos pos : Pos} (Fu : Fun X.K x x st g fd) (hg : Gl X x) (hm : X.mg x = some (.ref g))
    (hb : L2.Binds X.K fd [a] []) (Sg : FnScope Ng [a] (defScope st)) (hNg : Ng[0]? = some a) (hva : Vis (defScope st) a)
    (hG : ∀ cdg, GivesTo X Ng x (defScope st) g cdg (defBody st) a (X.env.qual ++ "<lambda>") TT) (TB : TabB X.base X.mg c P) (hcode : X.env.code = .ref c) (hr : Room (k + 2) X.A) (L : LamS X.env.scope scope) (hdef : defaultsOf params X.env = ([], []))
    (hbind : ∀ (q : Str) (cl : List (Str × Addr)) (pm cv ctv : Value), bindArgs (PySem.W.kla_fn "<lambda>" q params body scope cl pm cv ctv) ⟨[], []⟩ = pure [])
    (hbody : ∀ (A : Around) (outer : List Env) (s : Shared) (H : Hp) (E : XK) (f c' : Addr), Room k (A.deeper (lamEnv X scope s.heap.objs.size f c')) → PE (lamCx X A outer s H E scope f c') body (t E))
    (hdb : (x == ("__debug__" : Str)) = false := by decide) (hd : (a == ("__debug__" : Str)) = false := by decide) (hcd : (a == ("__classdict__" : Str)) = false := by decide) :
    PE X (.Call (.Name x p) [.Lambda params body scope lpos] [] pos) (tLamP P (X.env.qual ++ "<lambda>") TT t) := by
  obtain ⟨oc, od, kV, doc, pm, an, cdv, ct, osl, rfl, lk, hcg⟩ := Fu.ex
  refine ⟨fun pins s σ H Q I h => ?_⟩
  obtain ⟨hT, h⟩ := h
  refine wpAny_Call_Name_kw (ld_glob I hg hm (PySem.W.callWith_K (h₀ := X.base) I.ok.mod.kin Fu.kp ?_ (by rfl) (by rfl)) hdb)
  show wpAny _ _ (spliced ((false, eval (.Lambda params body scope lpos) X.env) :: backTo pos (starEach [] X.env))) _ _ s
  refine Calls.spliced_cons (lam_mk I TB hcode hT hdef (L.has I.ok) fun f c' pm' ctv H1 s' I1 eN T1 hf hfn hfr hco => Calls.spliced_nil ⟨I1.kIn, ?_⟩)
  have rc : codeAny (model X.prog X.w) X.A (.call (.ref g) ⟨[.ref f], []⟩) (CR C8.CX0 X.stack X.prog X.w H1 s' Q C8.E0) s' := by
    refine run_ofS (N := Ng) (ps := [a]) (us := [.ref f]) (vs := [.ref f]) lk hcg Sg hr I1.env0 (hb s' [.ref f] I1.kIn rfl) (.cons rfl .nil) rfl fun hr' => ?_
    obtain ⟨t', ht', hq'⟩ := hG cdv f c' s' H1 Q (fun E H' Q' => t E σ H' Q') (fun W pn xe E p1 p2 tk hW => pe_act (i := 0) I1 L hf hfn hfr (hbind _ _ _ _ _) tk hW hr' (fun A outer s H hr2 => hbody A outer s H E f c' hr2) hNg hva hd hcd) hco (h H1 eN T1)
    exact ⟨t', ht'.nox, hq'⟩
  refine wpAny_call (codeAny_mono rc fun r s2 hq => ?_)
  match r, hq with
  | .error e, hq => exact False.elim hq
  | .ok (.ret u), hq => exact I1.after hq
  | .ok .next, hq => exact False.elim hq
  | .ok .brk, hq => exact False.elim hq
  | .ok .cont, hq => exact False.elim hq
end
end Dt

set_option Elab.async false
set_option linter.all false
set_option autoImplicit false
set_option maxRecDepth 100000
namespace Dt
open PySem PySem.Spec L2
/-! ### a feed: a dict with a list of cells and three ints -/
structure Fd (c s l t : Str) (H : Hp) (a L : Addr) (ns : List Int) (kvs : List (Key × V)) (sp lf tn : Int) : Prop where
  at' : H a = some (.dK kvs)
  few : kvs.length ≤ 8
  kc : valV kvs (.inr c) = some (.ref L)
  ks : valV kvs (.inr s) = some (.int sp)
  kl : valV kvs (.inr l) = some (.int lf)
  kt : valV kvs (.inr t) = some (.int tn)
  cells : H L = some (.lst (ns.map V.int))
theorem dget_of {H : Hp} {a : Addr} {kvs : List (Key × V)} {x : Str} {v : V} (h : H a = some (.dK kvs)) (e : valV kvs (.inr x) = some v) : DGet H a (.str x) (some v) := by
  have := DGet.k (k := .inr x) h
  rw [e] at this
  exact this
theorem putK_has {kvs : List (Key × V)} {k : Key} {v w : V} (h : valV kvs k = some w) : (putK kvs k v).length = kvs.length := by
  have q : (kvs.any fun kv => decide (kv.1 = k)) = true := by
    rw [valV_any, h]; rfl
  unfold putK
  rw [if_pos q, List.length_map]
section
variable {c s l t : Str} {H : Hp} {a L : Addr} {ns : List Int} {kvs : List (Key × V)} {sp lf tn : Int}
theorem Fd.ne (F : Fd c s l t H a L ns kvs sp lf tn) : L ≠ a := fun e => by
  have h1 := F.at'
  have h2 := F.cells
  rw [e, h1] at h2; cases h2
theorem Fd.putT (F : Fd c s l t H a L ns kvs sp lf tn) (h1 : c ≠ t) (h2 : s ≠ t) (h3 : l ≠ t) (x : Int) : Fd c s l t (upd H a (.dK (putK kvs (.inr t) (.int x)))) a L ns (putK kvs (.inr t) (.int x)) sp lf x where
  at' := upd_same
  few := by rw [putK_has F.kt]; exact F.few
  kc := by rw [valV_put, if_neg fun e => h1 (Sum.inr.inj e)]; exact F.kc
  ks := by rw [valV_put, if_neg fun e => h2 (Sum.inr.inj e)]; exact F.ks
  kl := by rw [valV_put, if_neg fun e => h3 (Sum.inr.inj e)]; exact F.kl
  kt := by rw [valV_put, if_pos rfl]
  cells := by rw [upd_ne F.ne]; exact F.cells
theorem Fd.putS (F : Fd c s l t H a L ns kvs sp lf tn) (h1 : c ≠ s) (h2 : l ≠ s) (h3 : t ≠ s) (x : Int) : Fd c s l t (upd H a (.dK (putK kvs (.inr s) (.int x)))) a L ns (putK kvs (.inr s) (.int x)) x lf tn where
  at' := upd_same
  few := by rw [putK_has F.ks]; exact F.few
  kc := by rw [valV_put, if_neg fun e => h1 (Sum.inr.inj e)]; exact F.kc
  ks := by rw [valV_put, if_pos rfl]
  kl := by rw [valV_put, if_neg fun e => h2 (Sum.inr.inj e)]; exact F.kl
  kt := by rw [valV_put, if_neg fun e => h3 (Sum.inr.inj e)]; exact F.kt
  cells := by rw [upd_ne F.ne]; exact F.cells
theorem Fd.putL (F : Fd c s l t H a L ns kvs sp lf tn) (h1 : c ≠ l) (h2 : s ≠ l) (h3 : t ≠ l) (x : Int) : Fd c s l t (upd H a (.dK (putK kvs (.inr l) (.int x)))) a L ns (putK kvs (.inr l) (.int x)) sp x tn where
  at' := upd_same
  few := by rw [putK_has F.kl]; exact F.few
  kc := by rw [valV_put, if_neg fun e => h1 (Sum.inr.inj e)]; exact F.kc
  ks := by rw [valV_put, if_neg fun e => h2 (Sum.inr.inj e)]; exact F.ks
  kl := by rw [valV_put, if_pos rfl]
  kt := by rw [valV_put, if_neg fun e => h3 (Sum.inr.inj e)]; exact F.kt
  cells := by rw [upd_ne F.ne]; exact F.cells
theorem Fd.dput (F : Fd c s l t H a L ns kvs sp lf tn) (x : Str) (v : V) : DPut H a (.str x) v (upd H a (.dK (putK kvs (.inr x) v))) := DPut.k (k := .inr x) F.at' (Nat.lt_of_le_of_lt F.few (by rw [sizeLine_eq]; decide))
theorem Fd.grow {H' : Hp} (F : Fd c s l t H a L ns kvs sp lf tn) (h1 : H' a = H a) (h2 : H' L = H L) : Fd c s l t H' a L ns kvs sp lf tn := ⟨h1.trans F.at', F.few, F.kc, F.ks, F.kl, F.kt, h2.trans F.cells⟩
/-- the world of a feed at i.1, its cells at i.2 -/
def fdW (c s l t : Str) (i : Addr × Addr) : Wd Unit where
  G := fun _ H => ∃ ns kvs sp lf tn, Fd c s l t H i.1 i.2 ns kvs sp lf tn
  wa := [i.1, i.2]
  tr := by
    rintro _ H ⟨ns, kvs, sp, lf, tn, F⟩ a ha
    rcases List.mem_cons.mp ha with rfl | ha
    · rw [F.at']; exact fun z => nomatch z
    · rw [List.mem_singleton.mp ha, F.cells]; exact fun z => nomatch z
  st := by
    rintro _ H H' ⟨ns, kvs, sp, lf, tn, F⟩ e _
    exact ⟨ns, kvs, sp, lf, tn, F.grow (e _ (by simp)) (e _ (by simp))⟩
end
theorem dp_ints {K : PySem.W.Frag} {H : Hp} : ∀ ns : List Int, DpAll K H (ns.map V.int) (ns.map PyData.int)
  | [] => .nil
  | n :: ns => .cons (.int n) (dp_ints ns)
theorem shaped_ints (ns : List Int) : SeqAt.shaped (.list (ns.map PyData.int)) = true := by
  have h1 : ∀ ns : List Int, PyData.canLayAll0 (ns.map PyData.int) = true := by
    intro ns
    induction ns with
    | nil => simp only [List.map_nil, PyData.canLayAll0]
    | cons n ns ih => simp only [List.map_cons, PyData.canLayAll0, PyData.canLay0, ih, Bool.and_true]
  have h2 : ∀ ns : List Int, PyData.depthAll (ns.map PyData.int) = 0 := by
    intro ns
    induction ns with
    | nil => simp only [List.map_nil, PyData.depthAll]
    | cons n ns ih => simp only [List.map_cons, PyData.depthAll, PyData.depth, ih]; rfl
  unfold SeqAt.shaped
  simp only [PyData.canLay0, PyData.depth, h1, h2]
  decide
theorem shaped_nil : SeqAt.shaped (.list []) = true := shaped_ints []
theorem atI_mod {ns : List Int} (h : ns ≠ []) (i : Int) : ∃ c, atI (ns.map V.int) (i % ((ns.map V.int).length : Int)) = some (.int c) := by
  have l0 : 0 < ns.length := List.length_pos_iff.mpr h
  rw [List.length_map]
  have h1 := Int.emod_nonneg i (show (ns.length : Int) ≠ 0 by omega)
  have h2 := Int.emod_lt_of_pos i (show (0 : Int) < ns.length by omega)
  have e : i % (ns.length : Int) = (((i % (ns.length : Int)).toNat : Nat) : Int) := by omega
  have hk : (i % (ns.length : Int)).toNat < ns.length := by omega
  rw [e]
  exact ⟨ns[(i % (ns.length : Int)).toNat], atI_nat (by rw [List.getElem?_map, List.getElem?_eq_getElem hk]; rfl)⟩
theorem mid (x : Int) {m : Int} (h : 0 < m) (h2 : m ≤ 9223372036854775808) : -(2 ^ 64) < x % m ∧ x % m < 2 ^ 64 := by
  have h1 := Int.emod_nonneg x (show m ≠ 0 by omega)
  have h3 := Int.emod_lt_of_pos x h
  omega
/-- a number drawn below n -/
def F_draw : Addr × Addr → List Ag → Unit → (PyData → Unit → Prop) → (Er → Unit → Prop) → Prop := fun i as _ Q _ => ∃ n : Int, as = [.raw (.ref i.1), .d (.int n)] ∧ 0 < n ∧ n < 1073741824 ∧ ∀ k : Int, 0 ≤ k → k < n → Q (.int k) ()
end Dt

set_option Elab.async false
set_option linter.all false
set_option autoImplicit false
set_option maxRecDepth 100000
set_option maxHeartbeats 1000000
namespace Dt
open PySem PySem.Spec PyProof.Rows L2 LamX
/-! ### the world of a feed and of tables of code -/
theorem TabS.but {H H' : Hp} {P b : Addr} {q : Str} {ps : Array Value} (hP : H P = some (.tbl ps)) (e : ButP P H H') (n : b ≠ P) (t : TabS H b q) : TabS H' b q := by
  obtain ⟨us, h1, h2, h3⟩ := t
  refine ⟨us, e _ _ n h1, h2, fun pos cv hc => ?_⟩
  obtain ⟨c, e1, e2⟩ := h3 pos cv hc
  exact ⟨c, e1, e _ _ (fun z => codeO_ne ps (Option.some.inj (e2.symm.trans (z ▸ hP)))) e2⟩
theorem TabS.keep {H H' : Hp} {b : Addr} {q : Str} (t : TabS H b q) (h1 : H' b = H b) (e : ∀ b o, H b = some o → (∀ xs, o ≠ .lst xs) → (∀ xs, o ≠ .dK xs) → (∀ xs, o ≠ .dT xs) → H' b = some o) : TabS H' b q := by
  obtain ⟨us, a1, a2, a3⟩ := t
  refine ⟨us, h1.trans a1, a2, fun pos cv hc => ?_⟩
  obtain ⟨c, e1, e2⟩ := a3 pos cv hc
  exact ⟨c, e1, e _ _ e2 (fun xs z => by unfold CodeO at z; cases z) (fun xs z => by unfold CodeO at z; cases z) fun xs z => by unfold CodeO at z; cases z⟩
/-- what is not the changed object stays: a table stays -/
theorem TabS.off {H H' : Hp} {a b : Addr} {q : Str} {kvs : List (Key × V)} (ha : H a = some (.dK kvs)) (t : TabS H b q) (e : ∀ b o, b ≠ a → H b = some o → H' b = some o) : TabS H' b q := by
  obtain ⟨us, h1, h2, h3⟩ := t
  have n0 : b ≠ a := fun z => by rw [z, ha] at h1; cases h1
  refine ⟨us, e _ _ n0 h1, h2, fun pos cv hc => ?_⟩
  obtain ⟨c, e1, e2⟩ := h3 pos cv hc
  have n1 : c ≠ a := fun z => by
    rw [z, ha] at e2
    have e3 : HO.dK kvs = CodeO a q := Option.some.inj e2
    unfold CodeO at e3
    cases e3
  exact ⟨c, e1, e _ _ n1 e2⟩
def ftW (c s l t : Str) (T : List (Addr × Str)) (i : Addr × Addr) : Wd Unit where
  G := fun _ H => (∃ ns kvs sp lf tn, Fd c s l t H i.1 i.2 ns kvs sp lf tn) ∧ ∀ p ∈ T, TabS H p.1 p.2
  wa := i.1 :: i.2 :: T.map (·.1)
  tr := by
    rintro _ H ⟨⟨ns, kvs, sp, lf, tn, F⟩, hT⟩ a ha
    rcases List.mem_cons.mp ha with rfl | ha
    · rw [F.at']; exact fun z => nomatch z
    · rcases List.mem_cons.mp ha with rfl | ha
      · rw [F.cells]; exact fun z => nomatch z
      · obtain ⟨p, hp, rfl⟩ := List.mem_map.mp ha
        obtain ⟨us, h1, _⟩ := hT p hp
        rw [h1]; exact fun z => nomatch z
  st := by
    rintro _ H H' ⟨⟨ns, kvs, sp, lf, tn, F⟩, hT⟩ e e2
    refine ⟨⟨ns, kvs, sp, lf, tn, F.grow (e _ (by simp)) (e _ (by simp))⟩, fun p hp => Dt.TabS.keep (hT p hp) (e _ ?_) e2⟩
    exact List.mem_cons_of_mem _ (List.mem_cons_of_mem _ (List.mem_map.mpr ⟨p, hp, rfl⟩))
end Dt

set_option Elab.async false
set_option linter.all false
set_option autoImplicit false
set_option maxRecDepth 100000
set_option maxHeartbeats 1000000
/-! ### enumerate of a tuple -/
namespace PySem
open Sem (wp)
open AutoSeq1 (wpAny_loadPart')
theorem enum_newT (l : Addr) (items : Array Value) (o : Obj) (n : Nat) (hc : o.cls = .type "tuple") (hd : o.data = .seq items n) :
    Meets (Builtin.«enumerate.__new__» ⟨[.type "enumerate", .ref l], []⟩) (fun _ R s => s.heap.get? l = some o ∧
      R (.ok (.ret (.ref (s.heap.push { cls := .type "tuple_iterator", data := .fields #[.ref l, .int 0 0] }).objs.size)))
        { s with heap := (s.heap.push { cls := .type "tuple_iterator", data := .fields #[.ref l, .int 0 0] }).push { cls := .type "enumerate", data := .fields #[.none, .bool false, .ref s.heap.objs.size, rawInt 0, .none, .none] } }) :=
  .of_wp fun prog w A R s h => by
    obtain ⟨hp, g, d, tk, os⟩ := s; obtain ⟨hl, h⟩ := h
    have hsub := sub_enumerate
    have hL : Heap.IsTuple (Shared.heap ⟨hp, g, d, tk, os⟩) l items := ⟨_, hl, hc, n, hd⟩
    wp_walk using wpAny_loadPart' hl
    refine wpAny_stack_any fun st => wpAny_pure ?_
    split
    · rename_i c _ _ _ _ _
      cases (c == Value.type "enumerate")
      · wp_walk using wpAny_loadPart' hl, wpAny_pyIter_tuple hL
        exact ⟨_, rfl, h⟩
      · wp_walk using wpAny_loadPart' hl, wpAny_pyIter_tuple hL
        exact ⟨_, rfl, h⟩
    · wp_walk using wpAny_loadPart' hl, wpAny_pyIter_tuple hL
      exact ⟨_, rfl, h⟩
section
variable {prog : Program} {w : World} {A : Around} {E : Value → Shared → Prop} {s : Shared}
theorem call_enumT {l : Addr} {items : Array Value} {Q : Value → Shared → Prop} (hL : s.heap.IsTuple l items)
    (h : ∀ h', IsEnum h' (s.heap.objs.size + 1) s.heap.objs.size 0 .none → h'.IsTupleIter s.heap.objs.size l 0 → (∀ b o, s.heap.get? b = some o → h'.get? b = some o) → Q (.ref (s.heap.objs.size + 1)) { s with heap := h' }) :
    wpAny (model prog w) A (call (.type "enumerate") [.ref l]) Q E s := by
  obtain ⟨o, hl, hc, n, hd⟩ := hL
  refine callType_new F.called_enumerate (by decide) (F.typeCall_enumerate_1 _) (F.newCall_enumerate_1 _) (fun obj => F.args_object_init_2 obj _) F.entry_enumerate_new (enum_newT l items o n hc hd) ⟨hl, ?_⟩
  have hz : (s.heap.push { cls := .type "tuple_iterator", data := .fields #[.ref l, .int 0 0] }).objs.size = s.heap.objs.size + 1 := Heap.size_push ..
  show _ ∧ _
  rw [hz]
  have he : IsEnum ((s.heap.push { cls := .type "tuple_iterator", data := .fields #[.ref l, .int 0 0] }).push { cls := .type "enumerate", data := .fields #[.none, .bool false, .ref s.heap.objs.size, rawInt 0, .none, .none] }) (s.heap.objs.size + 1) s.heap.objs.size 0 .none := by
    have q := Heap.get?_push_size (s.heap.push { cls := .type "tuple_iterator", data := .fields #[.ref l, .int 0 0] }) (o := { cls := .type "enumerate", data := .fields #[.none, .bool false, .ref s.heap.objs.size, rawInt 0, .none, .none] }) rfl
    rw [hz] at q; exact q
  exact ⟨⟨_, he, rfl⟩, h _ he ⟨_, Heap.get?_push_of_some _ (Heap.get?_push_size _ rfl), rfl, rfl⟩ fun b o q => Heap.get?_push_of_some _ (Heap.get?_push_of_some _ q)⟩
theorem enum_endT {e it l : Addr} {i : Nat} {items : Array Value} {old : Value} {Q : Option Value → Shared → Prop} (hh : A.handled = none) (he : IsEnum s.heap e it i old) (hit : s.heap.IsTupleIter it l i) (hl : s.heap.IsTuple l items) (hx : items[i]? = none)
    (hQ : ∀ h', Heap.ExtBut it s.heap h' → Q none { s with heap := h' }) : wpAny (model prog w) A (pyNext (.ref e)) Q E s := by
  have hT : s.TypeIs (.ref e) "enumerate" := ⟨_, he, rfl⟩
  unfold pyNext
  refine wpAny_bind (wpAny_attempt (wpAny_callSpecial?_slot (name := Str.ofString "__next__") hT F.slot_enumerate_next (wpAny_call_entry F.slot_enumerate_next hT F.entry_enumerate_next ?_ (F.args_enumerate_next_1 _))))
  show wpAny _ _ (field (.ref e) 2 >>= _) _ _ _
  refine wpAny_bind (wpAny_field he rfl (x := .ref it) rfl (wpAny_bind (wpAny_nextOf_tuple_end hh hit hl hx fun h' x he' hx' => ?_)))
  obtain ⟨o, ho, hc⟩ := hx'
  exact wpAny_bind (wpAny_isInstance (T := "StopIteration") (b := true) ⟨o, ho, hc⟩ isSubtype_stop (wpAny_pure (hQ _ he')))
theorem apartT {h : Heap} {e it a : Addr} {i : Nat} {c : Int} {items : Array Value} {old : Value} (hit : h.IsTupleIter it a i) (tp : h.IsTuple a items) (he : IsEnum h e it c old) : a ≠ it ∧ e ≠ a := by
  obtain ⟨o1, h1, c1, _⟩ := hit
  obtain ⟨o2, h2, c2, _⟩ := tp
  refine ⟨fun z => ?_, fun z => ?_⟩
  · rw [z, h1] at h2
    cases h2
    rw [c1] at c2
    exact absurd c2 (by decide)
  · have he : h.get? e = _ := he
    rw [z, h2] at he
    cases he
    have c3 : Value.type "enumerate" = Value.type "tuple" := c2
    exact absurd c3 (by decide)
end
end PySem
namespace Dt
open PySem PySem.Spec PyProof.Rows L2
/-- the tuple at a, each item in a new pair behind its number -/
def IteT (K : PySem.W.Frag) (a : Addr) : It :=
  ⟨fun i H => ∃ (xs : List V) (x : V), SqT K H a xs ∧ xs[i]? = some x, fun i H v H' => ∃ T x, v = .ref T ∧ H T = none ∧ H' = upd H T (.tup [.int (i : Nat), x]) ∧ ∀ xs, SqT K H a xs → xs[i]? = some x, fun i H => ∃ xs : List V, SqT K H a xs ∧ xs.length ≤ i⟩
theorem turn_enumT {P : Program} {w : World} {K : PySem.W.Frag} {elts : List Expr} {kk : Nat} {tpos : Pos} (a e it : Addr) :
    Turn P w K (.Tuple elts kk tpos) (IteT K a) [e, it] e (fun i h => (∃ old, IsEnum h e it ((i : Nat) : Int) old) ∧ h.IsTupleIter it a i ∧ e ≠ it) where
  mem := by simp
  obj := fun i h st b hb => by
    obtain ⟨⟨old, he⟩, ⟨o, ho, hc, hd⟩, _⟩ := st
    have e' : b = e ∨ b = it := by simpa using hb
    rcases e' with z | z
    · rw [z]; exact ⟨_, he, fun v q => nomatch q⟩
    · rw [z]; exact ⟨o, ho, fun v q => by rw [hd] at q; cases q⟩
  keep := fun i h h' st k => let ⟨⟨old, he⟩, hi, hne⟩ := st; ⟨⟨old, k e (by simp) _ he⟩, hi.at fun o q => k it (by simp) o q, hne⟩
  item := by
    intro X hP hw hK hc i pins s σ H E I hf st hg
    subst hP hw hK
    obtain ⟨⟨old, he⟩, hit, hne⟩ := st
    obtain ⟨xs, x, hq, hx⟩ := hg
    obtain ⟨its, rv, p, hz⟩ := I.tuple hq
    obtain ⟨u, hu, ru⟩ := rv.get hx
    have hel : e < s.heap.objs.size := Heap.lt_size he
    have hil : it < s.heap.objs.size := by obtain ⟨_, q, _⟩ := hit; exact Heap.lt_size q
    have tp : s.heap.IsTuple a its.toArray := p
    obtain ⟨na, ne⟩ := apartT hit tp he
    refine wpAny_pyNext_enum_itemD (Draws.tuple (A := X.A.in1) (I.ok.hd hc) it a na its.toArray) he ⟨hit, tp⟩ (by rw [List.size_toArray, ← rv.length]; exact (List.getElem?_eq_some_iff.mp hx).1) hne (by simp [hne, ne]) fun v h' tk hv ho hst hT hsz hk => ?_
    obtain ⟨hit', _⟩ := hst
    have ev : v = u := by
      have q : its[i]? = some v := by simpa using hv
      exact Option.some.inj (q.symm.trans hu)
    subst ev
    refine ⟨_, rfl, wpAny_letOwnedTupleGo_enum (s := { s with heap := h', toks := tk + 1 }) ho fun h'' he' sb => ?_⟩
    have hT2 : h''.get? s.heap.objs.size = some { cls := .type "tuple", data := .seq #[.int i tk, v] } := (sb.2 _ (Nat.ne_of_gt hel)).trans hT
    have new : ObjOk X.prog X.w (upd H s.heap.objs.size (.tup [.int (i : Nat), x])) h'' s.heap.objs.size (.tup [.int (i : Nat), x]) :=
      ⟨by show 2 ≤ sizeLine; decide, [.int i tk, v], .cons ⟨_, rfl⟩ (.cons ru .nil), ⟨_, hT2, rfl, _, rfl⟩⟩
    have I1 : Inv X pins σ (upd H s.heap.objs.size (.tup [.int (i : Nat), x])) { s with heap := h'', toks := tk + 1 } :=
      I.turnedNew (ch := [e, it]) (fun b ob hb q => (sb.2 b (fun z => hb (by simp [z]))).trans (hk b ob (fun z => hb (by simp [z])) (fun z => hb (by simp [z])) q)) hf (Nat.le_refl _) new
    refine ⟨.ref s.heap.objs.size, _, I1, rfl, ⟨_, x, rfl, I.hok.fresh (Nat.le_refl _), rfl, fun ys hy => by rw [I.tuple_inj hy hq]; exact hx⟩, ⟨⟨v, ?_⟩, hit'.at fun o q => (sb.2 it (Ne.symm hne)).trans q, hne⟩, fun b hb => ?_⟩
    · have e1 : ((i + 1 : Nat) : Int) = (i : Int) + 1 := by omega
      rw [e1]; exact he'
    · have hb' : b < s.heap.objs.size := by
        have e' : b = e ∨ b = it := by simpa using hb
        rcases e' with z | z
        · rw [z]; exact hel
        · rw [z]; exact hil
      rw [upd_ne (Nat.ne_of_lt hb')]
      exact (hf b hb).1
  done := by
    intro X hP hw hK hc i pins s σ H E I hf st hg
    subst hP hw hK
    obtain ⟨⟨old, he⟩, hit, hne⟩ := st
    obtain ⟨xs, hq, hx⟩ := hg
    obtain ⟨its, rv, p, hz⟩ := I.tuple hq
    obtain ⟨f0, f1, f2, f3, f4, f5⟩ := hf it (by simp)
    have hl := rv.length
    have tp : s.heap.IsTuple a its.toArray := p
    obtain ⟨na, ne⟩ := apartT hit tp he
    have ie : its.toArray.size ≤ i := by rw [List.size_toArray, ← hl]; exact hx
    refine enum_endT (I.ok.hd hc) he hit tp (by simp; simpa using ie) fun h' eb => ⟨rfl, I.turned (t' := s.toks) (fun b o hb q => eb b o hb q) f0 f1 f3 f4 f5⟩
  self := fun A i s Q E st h => let ⟨⟨_, he⟩, _⟩ := st; wpAny_pyIter_enum he h
def iEnumT (K : PySem.W.Frag) (ta : TA) : TI := fun σ H R => ta σ H fun vs H1 => ∃ a xs, vs = [.ref a] ∧ SqT K H1 a xs ∧ R (IteT K a) H1
theorem pi_enumT {X : Cx} {e : Expr} {ta : TA} {p pos tpos : Pos} {elts : List Expr} {kk : Nat} (hg : Gl X "enumerate") (hm : X.mg "enumerate" = none) (ha : PA X [e] ta) (hs : starEach [e] X.env = [(false, eval e X.env)] := by rfl) :
    PI X (.Tuple elts kk tpos) (.Call (.Name "enumerate" p) [e] [] pos) (iEnumT X.K ta) := by
  refine ⟨fun pins s σ H R I h => Call_ (ld_blt I hg hm boot_enumerate (PyProof.Rows.callWith_type1 (thn (ha.run pos pins s σ H _ I h) fun us s1 ⟨vs, H1, I1, r1, a, xs, ex, hq, q⟩ => ?_) hs rfl))⟩
  subst ex
  cases r1 with
  | cons r rr =>
  cases rr
  cases r
  obtain ⟨its, rv, p', hz⟩ := I1.tuple hq
  refine call_enumT p' fun h' he hit hk => wpAny_pyIter_enum he ?_
  have I2 : Inv X pins σ H1 { s1 with heap := h' } := I1.kept (t' := s1.toks) hk
  refine ⟨s1.heap.objs.size + 1, [s1.heap.objs.size + 1, s1.heap.objs.size], _, _, H1, rfl, I2, turn_enumT a (s1.heap.objs.size + 1) s1.heap.objs.size, ⟨⟨.none, he⟩, hit, Nat.succ_ne_self _⟩, fun b hb => ?_, q⟩
  have e' : b = s1.heap.objs.size + 1 ∨ b = s1.heap.objs.size := by simpa using hb
  have hle : s1.heap.objs.size ≤ b := by
    rcases e' with z | z
    · rw [z]; exact Nat.le_add_right _ _
    · rw [z]; exact Nat.le_refl _
  exact I1.fpOk hle (I1.hok.fresh hle)
end Dt
namespace Dt
open PySem PySem.Spec L2
def enumD : Nat → List PyData → List PyData
  | _, [] => []
  | k, x :: r => .tuple [.int k, x] :: enumD (k + 1) r
theorem enumD_len : ∀ (k : Nat) (xs : List PyData), (enumD k xs).length = xs.length
  | _, [] => rfl
  | k, x :: r => by simp only [enumD, List.length_cons, enumD_len (k + 1) r]
theorem enumD_get : ∀ (k : Nat) (xs : List PyData) (i : Nat) (d : PyData), (enumD k xs)[i]? = some d → ∃ x, xs[i]? = some x ∧ d = .tuple [.int ((k + i : Nat) : Int), x]
  | _, [], i, d, h => by simp [enumD] at h
  | k, x :: r, 0, d, h => by simp [enumD] at h; exact ⟨x, rfl, h.symm⟩
  | k, x :: r, i + 1, d, h => by
    obtain ⟨y, h1, h2⟩ := enumD_get (k + 1) r i d (by simpa [enumD] using h)
    exact ⟨y, by simpa using h1, by rw [h2, show k + 1 + i = k + (i + 1) by omega]⟩
section
variable {S : Type} {Wo : Wd S} {X : Cx} {W : WX} {K : PySem.W.Frag} {tl : TA} {e a : Expr} {pos p q : Pos} {wl : DA S}
def wEnum {S : Type} (w : DA S) : DL S := fun ρ s Q E => w ρ s (fun as s1 => allK as fun ds => match ds with
  | [.tuple xs] => Q (enumD 0 xs) s1
  | _ => False) E
theorem i_enum {elts : List Expr} {kk : Nat} {tpos : Pos} (B : Bt X.mg) (h : AD Wo X W [e] tl wl) (hK : X.K = K := by rfl) (hg : Gl X "enumerate" := by rfl) (hs : starEach [e] X.env = [(false, eval e X.env)] := by rfl) :
    ID Wo X W (.Tuple elts kk tpos) (.Call (.Name "enumerate" p) [e] [] pos) (iEnumT K tl) (wEnum wl) := by
  subst hK
  refine ⟨pi_enumT hg (B.no _ (by decide)) h.pe hs, fun c σ H ρ s Qd Ed R E hw hq he => h.go c σ H ρ s _ Ed _ E hw (fun vs H1 as s1 E1 st1 a1 q1 => ?_) he⟩
  obtain ⟨ds, h1, h2⟩ := a1.all q1
  match ds, h1, h2 with
  | [.tuple xs], h1, h2 =>
    cases h1 with
    | cons a b =>
    cases b
    cases a with
    | @tup pa va _ ha na da =>
    have up : ∀ {l' : List Addr} {H : Hp}, Same (hd H1 (c.hs ρ)) (hd H l') → Same (hd H1 (c.hs ρ)) H := fun st => st.trans (hd_to _ _)
    refine ⟨pa, va, rfl, same_seqT (hd_to _ _) ha, hq _ H1 _ s1 E1 st1 ⟨fun l' H i st hi => ?_, fun l' H i st hi => ?_, fun l' H i x' H' d st tr yl hd' => ?_⟩ (by rw [enumD_len]; exact na) h2⟩
    · rw [enumD_len] at hi
      obtain ⟨u, hu, _⟩ := da.get' (List.getElem?_eq_getElem hi)
      exact ⟨va, u, same_seqT (up st) ha, hu⟩
    · rw [enumD_len] at hi
      exact ⟨va, same_seqT (up st) ha, by rw [da.length]; exact hi⟩
    · obtain ⟨T, u, rfl, hT, rfl, k1⟩ := yl
      obtain ⟨d1, g1, rfl⟩ := enumD_get _ _ _ _ hd'
      obtain ⟨e1, f1, f2⟩ := da.get (k1 va (same_seqT (up st) ha))
      rw [g1] at f1; cases f1
      rw [Nat.zero_add]
      have il : i < xs.length := (List.getElem?_eq_some_iff.mp g1).1
      exact dv_pair tr hT (.int (okI_small (by have : xs.length ≤ 4194304 := na; omega))) (Dv.same st _ _ f2)
/-! ### sum of ints, the smaller of two -/
def fSum : List PyData → (PyData → Prop) → Prop
  | [.list xs], Q => ∃ ns : List Int, xs = ns.map PyData.int ∧ okI ns.sum ∧ Q (.int ns.sum)
  | _, _ => False
theorem dv_ints {H : Hp} : ∀ {ns : List Int} {vs : List V}, DvAll K H vs (ns.map PyData.int) → vs = ns.map V.int
  | [], _, h => by cases h; rfl
  | n :: ns, _, h => by
    cases h with
    | cons a r => cases a; rw [dv_ints r]; rfl
theorem cd_sum : CallD K (rSum K) fSum := by
  intro H l vs ds Qd Q ht ha hf hq
  match ds, ha, hf with
  | [.list xs], ha, hf =>
    obtain ⟨ns, rfl, ok, q⟩ := hf
    cases ha with
    | cons a b =>
    cases b
    cases a with
    | @lst p va _ h n dv =>
    have e := dv_ints dv
    subst e
    exact ⟨p, ns, rfl, SqL.of (hd_to _ _ _ _ h), hq _ H _ (Same.refl _) (.int ok) q⟩
theorem e_sum (B : Bt X.mg) (hc : X.calm = true) (ha : AD Wo X W [a] tl wl) (hK : X.K = K := by rfl) (hg : Gl X "sum" := by rfl) (he : starEach [a] X.env = (false, eval a X.env) :: starEach [] X.env := by rfl) (hpl : (backTo pos (starEach [] X.env)).any (·.1) = false := by rfl) :
    ED Wo X W (.Call (.Name "sum" p) [a] [] pos) (tCB (rSum K) tl) (wCB fSum wl) := by subst hK; exact ed_callB (cr_sum hc) cd_sum hg (B.no _ (by decide)) (by decide +kernel) ha (by decide) (by decide) he hpl
def fMin2 : List PyData → (PyData → Prop) → Prop
  | [.int i, .int j], Q => Q (.int (if j < i then j else i))
  | _, _ => False
theorem cd_min2 : CallD K (fun xs H Q => ∃ i j, xs = [.int i, .int j] ∧ Q (.int (if j < i then j else i)) H) fMin2 := by
  intro H l vs ds Qd Q ht ha hf hq
  match ds, ha, hf with
  | [.int i, .int j], ha, hf =>
    cases ha with
    | cons a b =>
    cases b with
    | cons b c =>
    cases c
    cases a with
    | int oi =>
    cases b with
    | int oj =>
    refine ⟨i, j, rfl, hq _ H _ (Same.refl _) (.int ?_) hf⟩
    split
    · exact oj
    · exact oi
theorem e_min2 {b : Expr} (B : Bt X.mg) (hc : X.calm = true) (ha : AD Wo X W [a, b] tl wl) (hg : Gl X "min" := by rfl) (he : starEach [a, b] X.env = (false, eval a X.env) :: starEach [b] X.env := by rfl) (hpl : (backTo pos (starEach [b] X.env)).any (·.1) = false := by rfl) :
    ED Wo X W (.Call (.Name "min" p) [a, b] [] pos) (tCB (fun xs H Q => ∃ i j, xs = [.int i, .int j] ∧ Q (.int (if j < i then j else i)) H) tl) (wCB fMin2 wl) := ed_callB (call_min2 hc) cd_min2 hg (B.no _ (by decide)) (by decide +kernel) ha (by decide) (by decide) he hpl
end
end Dt

set_option Elab.async false
set_option linter.all false
set_option autoImplicit false
set_option maxRecDepth 100000
set_option maxHeartbeats 1000000
namespace Dt
open PySem PySem.Spec L2
section
variable {S : Type} {Wo : Wd S} {X : Cx} {W : WX} {K : PySem.W.Frag} {ta : TE} {e a : Expr} {pos p q pos2 : Pos} {wa : DE S}
/-- tuple(range(n)) -/
def wTupRg {S : Type} (w : DE S) : DE S := fun ρ s Q E => w ρ s (fun d s1 => match d with
  | .int j => 0 ≤ j ∧ j ≤ 4194304 ∧ Q (.tuple (rngD 0 j.toNat)) s1
  | _ => False) E
theorem dv_rng {H : Hp} (n : Nat) (h : n ≤ 4194304) : DvAll K H (rgV 0 (n : Int)) (rngD 0 n) := by
  unfold rgV rngD
  rw [show ((n : Int) - 0).toNat = n by omega]
  have go : ∀ l : List Nat, (∀ i ∈ l, i < n) → DvAll K H (l.map fun i : Nat => V.int ((0 : Int) + (i : Nat))) (l.map fun i : Nat => PyData.int ((0 : Int) + (i : Nat))) := by
    intro l
    induction l with
    | nil => intro _; exact .nil
    | cons i l ih =>
      intro h2
      have hi := h2 i List.mem_cons_self
      exact .cons (.int (okI_small (by omega))) (ih fun j hj => h2 j (List.mem_cons_of_mem _ hj))
  exact go _ fun i hi => List.mem_range.mp hi
theorem e_tupRg (B : Bt X.mg) (hc : X.calm = true) (ha : ED Wo X W a ta wa) (hg : Gl X "tuple" := by rfl) (hg2 : Gl X "range" := by rfl)
    (na : starEach [a] X.env = (false, eval a X.env) :: starEach [] X.env := by rfl) (nb : starEach [.Call (.Name "range" p) [a] [] pos] X.env = (false, eval (.Call (.Name "range" p) [a] [] pos) X.env) :: starEach [] X.env := by rfl) :
    ED Wo X W (.Call (.Name "tuple" q) [.Call (.Name "range" p) [a] [] pos] [] pos2) (tTupRg (tRg1 ta)) (wTupRg wa) :=
  ⟨pe_tupRg hc hg (B.no _ (by decide)) (prg_1 hg2 (B.no _ (by decide)) ha.pe na) nb, fun c σ H ρ s Qd Ed Q E hw hv he => ha.go c σ H ρ s _ Ed _ E hw (fun v H1 d s1 E1 st1 dv q1 => by
    match d, dv, q1 with
    | .int j, dv, q1 =>
      obtain ⟨j0, j1, q2⟩ := q1
      cases dv
      refine ⟨j, rfl, RgOk.of_le (by omega) (by omega) (by omega) j0, fun t nt => hv _ _ _ s1 (E1.grow (same_upd nt)) (st1.trans (stp_grow (same_upd nt))) ?_ q2⟩
      have ej : j = ((j.toNat : Nat) : Int) := by omega
      rw [ej]
      exact Dv.newT E1.tr nt (dv_rng _ (by omega)) (by unfold rngD limL; simp; omega)) he⟩
end
end Dt

set_option Elab.async false
set_option linter.all false
set_option autoImplicit false
set_option maxRecDepth 100000
set_option maxHeartbeats 1000000
namespace Dt
open PySem PySem.Spec PyProof.Rows L2
/-! ### defs whose code object is known -/
section
variable {P : Program} {w : World} {K : PySem.W.Frag} {mg : Str → Option Value} {base : Heap} {CX : CXT} {k n : Nat} {f cc : Addr} {fd : FuncData} {N ps : List Str} {x qual : Str} {st : Stmt} {sp : Sp}
theorem fnGC (F : Fun K x qual st f fd) (hc : fd.code = .ref cc) (S : FnScope N ps (defScope st)) (len : ∀ vs H Q E, sp vs H Q E → vs.length = ps.length)
    (hbody : ∀ (A : Around) (outer : List Env) (s : Shared) (H : Hp) (vs : List V) (Q : VK) (E : XK), A.guards = some [] → Room k (A.deeper (envOfC qual (defScope st) s.heap.objs.size f (.ref cc))) → sp vs H Q E →
      ∃ t, PSs (cxOf CX P w K mg base N qual (defScope st) f (.ref cc) A outer s H E) (defBody st) t ∧ t ⟨fun _ H' => Q .non H', Q, fun _ _ => False, fun _ _ => False⟩ (start N vs) H) : FnG P w K mg base CX (k + 1) f fd ps sp := by
  obtain ⟨oc, od, kV, doc, pm, an, cdv, ct, osl, rfl, lk, hcd⟩ := F.ex
  have hc : cdv = .ref cc := hc
  subst hc
  constructor
  · exact len
  intro A hgd outer s H args us vs Q E hr e0 hb r hsp
  have old : ∀ b o, base.get? b = some o → s.heap.get? b = some o := fun b o e => (e0.bs b o e).1
  have par : ∀ y ∈ ps.zip us, (defScope st).names.lookup y.1 = some .local ∨ ((defScope st).names.lookup y.1 = some .cell ∧ ((cellsFrom (s.heap.objs.size + 1) (defScope st).names []).lookup y.1).isSome = true) := by
    rintro ⟨n, v⟩ hy
    exact (S.par n (List.of_mem_zip hy).1).imp id fun q => ⟨q, PySem.W.cellsFrom_some _ _ _ (.inl q)⟩
  refine codeAny_call_function hr.depth (e0.mod.kin.keeps old _ _ lk) rfl S.co S.gen rfl (PySem.W.codeRec_of (e0.mod.kin.keeps old) hcd) (hb _ _ _ _ (wpAny_newFunctionEnv_cells S.kind par fun env he s1 x1 => ?_))
  subst he
  refine ⟨(e0.mod.nolimit.keeps old).keeps x1.toInCall.keep, codeAny_func ?_⟩
  have hR := hr.deeper (envOfC qual (defScope st) s.heap.objs.size f (.ref cc))
  obtain ⟨t, ht, hq⟩ := hbody A outer s H vs Q E hgd hR hsp
  refine wpAny_mono (ht.run [] s1 (start N vs) H _ (inv_start (CX := CX) (E := E) S hr.hd e0 (len _ _ _ _ hsp) r x1) hq) ?_ fun e s' hs => hs
  intro fl s' hs
  cases fl with
  | next =>
    obtain ⟨σ', H', J, q⟩ := hs
    exact ⟨V.non, H', J.os, J.bare, J.base, J.hok, rfl, q⟩
  | ret u =>
    obtain ⟨v, σ', H', J, rv, q⟩ := hs
    exact ⟨v, H', J.os, J.bare, J.base, J.hok, rv, q⟩
  | brk =>
    obtain ⟨_, _, _, q⟩ := hs
    cases q
  | cont =>
    obtain ⟨_, _, _, q⟩ := hs
    cases q
theorem fnIC {ι S : Type} {Wf : ι → Wd S} {F : ι → List Ag → S → (PyData → S → Prop) → (Er → S → Prop) → Prop} {wb : ι → DS S} (Fu : Fun K x qual st f fd) (hc : fd.code = .ref cc) (Sc : FnScope N ps (defScope st)) (hn : ps.length = n)
    (hbody : ∀ (i : ι) (A : Around) (outer : List PySem.Env) (s : Shared) (H : Hp) (E : XK), A.guards = some [] → Room k (A.deeper (PyProof.Rows.envOfC qual (defScope st) s.heap.objs.size f (.ref cc))) →
      ∃ t, SSD (Wf i) (cxOf CX P w K mg base N qual (defScope st) f (.ref cc) A outer s H E) (WXE E) (defBody st) t (wb i))
    (spec : ∀ i as s Qd Ed, as.length = n → F i as s Qd Ed → wb i (argS n N.length (as.map toSl)) s (endW Qd Ed)) : FnG P w K mg base CX (k + 1) f fd ps (spI K Wf n F) := by
  refine fnGC Fu hc Sc (fun vs H Q E h => by obtain ⟨i, h⟩ := h; rw [h.1, hn]) fun A outer s H vs Q E hG hr h => ?_
  obtain ⟨i, hl, R, as, s1, Qd, Ed, nd, tr, g, ag, hf, hq, he⟩ := h
  obtain ⟨t, B⟩ := hbody i A outer s H E hG hr
  refine ⟨t, B.pe, ?_⟩
  have E0 := env_start (Wo := Wf i) (N := N) (R := R) (s := s1) nd tr g ag
  rw [hl] at E0
  refine B.go _ _ H _ s1 (endW Qd Ed) _ E0 (spec i as s1 Qd Ed (ag.length.symm.trans hl) hf) ⟨fun σ' H' ρ' s' E' st' q => hq .non H' .none s' E'.g E'.ext .non q, fun _ _ _ _ _ _ z => z.elim, fun _ _ _ _ _ _ z => z.elim, fun v H' d s' g ex dv q => hq v H' d s' g ex dv q, fun e cls dd σ' H' ρ' s' E' ei q => ?_⟩
  obtain ⟨c1, d, fs, c2, c3, c4⟩ := ei
  exact he e cls dd H' s' E'.g E'.ext ⟨c1, d, fs, c2, c3, FsOk.same (hd_sub fun a ha => List.mem_append_left _ ha) _ _ c4⟩ q
end
end Dt
namespace Dt
open PySem PySem.Spec L2
/-! ### an item of a list that the body owns -/
def wOwnIx {S : Type} (i : Nat) (w : DE S) : DE S := fun ρ s Q E => match ρ[i]? with
  | some (.own _ xs) => w ρ s (fun d s1 => match d with
    | .int j => ∃ z, atI xs j = some z ∧ Q z s1
    | _ => False) E
  | _ => False
section
variable {S : Type} {Wo : Wd S} {X : Cx} {W : WX} {tb : TE} {b : Expr} {pos : Pos} {wb : DE S}
theorem e_ixO (i : Nat) {x : Str} {px : Pos} (hb : ED Wo X W b tb wb) (hN : X.N[i]? = some x := by rfl) (hv : Vis X.env.scope x := by first | exact Or.inl rfl | exact Or.inr (Or.inl rfl) | exact Or.inr (Or.inr rfl)) (hdb : (x == ("__debug__" : Str)) = false := by decide) (hcd : (x == ("__classdict__" : Str)) = false := by decide)
    (hs : PlainIx b := by exact fun _ _ => rfl) : ED Wo X W (.Subscript (.Name x px) b pos) (tOp (rIxL X.K) (tVar i) tb) (wOwnIx i wb) := by
  refine ⟨pe_ix ix_list (pe_var hN hv hdb hcd) hb.pe hs, fun c σ H ρ s Qd Ed Q E hw hvt he => ?_⟩
  unfold wOwnIx at hw
  split at hw
  · rename_i p xs hi
    obtain ⟨o, h1, h2, n, vs, h3, h4⟩ := E.slot i _ hi
    subst h2
    refine ⟨.ref p, h1, hb.go c σ H ρ s _ Ed _ E hw (fun v H1 d s1 E1 st1 dv q => ?_) he⟩
    match d, dv, q with
    | .int j, dv, q =>
      cases dv
      obtain ⟨z, hz, q2⟩ := q
      obtain ⟨o2, g1, g2, _, vs2, g3, g4⟩ := E1.slot i _ hi
      obtain ⟨v2, hv2, dv2⟩ := g4.at hz
      exact ⟨p, vs2, j, v2, rfl, rfl, SqL.of g3, hv2, hvt v2 H1 z s1 E1 st1 dv2 q2⟩
  · exact hw.elim
end
end Dt

set_option Elab.async false
set_option linter.all false
set_option autoImplicit false
set_option maxRecDepth 100000
set_option maxHeartbeats 2000000
namespace Dt
open PySem PySem.Spec PyProof.Rows L2
/-! ### a law whose defs make lambdas: tables of code objects, empty ahead of the call -/
abbrev noRows : Obj := { cls := .none, data := .fields #[] }
theorem lawT {P : Program} {w : World} {K : PySem.W.Frag} {mg mb : Str → Option Value} {k : Nat} {fa a : Addr} {cs : List (Addr × Addr)} {fd : FuncData} {x : Str} {sp : Sp} {s : Shared} {vs : List Value} {ns : List Int}
    (KX : K.In s.heap) (gl : s.heap.Ns mainGlobals mg) (bl : s.heap.Ns builtinsNs mb) (bb : ∀ y : Str, y ≠ "__name__" → mb y = bootBuiltins y) (nl : s.heap.NoLimit) (hg : s.gens = #[])
    (bmo : ∃ (m : Addr) (om : Obj), mg "__builtins__" = some (.ref m) ∧ m ≠ builtinsNs ∧ s.heap.get? m = some om ∧ om.cls = .type "module" ∧ om.dict = some builtinsNs ∧ om.data = .plain)
    (t0 : ∀ q ∈ cs, s.heap.get? q.2 = some noRows) (t1 : ∀ q ∈ cs, K.lookup q.2 = none) (t2 : ∀ q ∈ cs, PySem.W.codeHdIn K q.1 q.2 = true)
    (ha : s.heap.get? a = some { cls := .type "list", data := .seq vs.toArray }) (hi : IntsAre vs ns) (hl : ns.length ≤ sizeLine) (hr : Room k callerA)
    (F : ∀ base : Heap, K.In base → base.Ns mainGlobals mg → (∀ q ∈ cs, LamX.TabB base mg q.1 q.2) → FnG P w K mg base CX0 k fa fd [x] sp) (bd : ∀ (t : Shared) (u : Value), BindsTo t fd ⟨[u], []⟩ [(x, u)])
    (hsp : ∀ H : Hp, (∀ q ∈ cs, H q.2 = some (.tbl #[])) → SqL K H a (ns.map V.int) → sp [.ref a] H (fun v _ => v = .bl true) fun _ _ _ => False) :
    codeAny (model P w) callerA (.call (.ref fa) ⟨[.ref a], []⟩) (fun r t => r = .ok (.ret (.bool true)) ∧ OldK s.heap t.heap ∧ t.os = s.os ∧ AllBare t.gens) s := by
  have rv := vals_ints hi
  have lv : ns.length = vs.length := hi.length.symm
  obtain ⟨H1, hH, hS1⟩ := ahead KX ha rv (lv ▸ hl)
  have tk : ∀ b ∈ cs.map (·.2), s.heap.get? b = some noRows ∧ K.lookup b = none := fun b hb => by
    obtain ⟨q, hq, rfl⟩ := List.mem_map.mp hb
    exact ⟨t0 q hq, t1 q hq⟩
  have na : a ∉ cs.map (·.2) := fun z => by
    have q := (tk a z).1
    rw [ha] at q
    exact nomatch (congrArg Obj.data (Option.some.inj q))
  generalize hts : cs.map (·.2) = ts at tk na
  have mts : ∀ q ∈ cs, q.2 ∈ ts := fun q hq => by rw [← hts]; exact List.mem_map.mpr ⟨q, hq, rfl⟩
  let H : Hp := fun b => if b ∈ ts then some (.tbl #[]) else H1 b
  have in1 : ∀ b, b ∈ ts → H b = some (.tbl #[]) := fun b h => if_pos h
  have out1 : ∀ b, b ∉ ts → H b = H1 b := fun b h => if_neg h
  have sm : Same H1 H := fun b o e => by
    obtain ⟨rfl, _⟩ := hH b o e
    rw [out1 _ na]; exact e
  have hS := sm.seq hS1
  have cls : ∀ b u, H b = some u → (b = a ∧ u = .frz { cls := .type "list", data := .seq vs.toArray } (.lst (ns.map V.int)) ∧ K.lookup b = none) ∨ (b ∈ ts ∧ u = .tbl #[]) := fun b u e => by
    by_cases h : b ∈ ts
    · rw [in1 b h] at e
      exact .inr ⟨h, (Option.some.inj e).symm⟩
    · rw [out1 b h] at e
      exact .inl (hH b u e)
  have off : ∀ {b : Addr} {o : Obj}, s.heap.get? b = some o → (∀ i n, o.data ≠ .seq i n) → o.data ≠ .fields #[] → H b = none := fun {b o} q d d2 => by
    cases e : H b with
    | none => rfl
    | some u =>
      rcases cls b u e with ⟨rfl, _⟩ | ⟨h, _⟩
      · rw [ha] at q
        exact absurd (congrArg Obj.data (Option.some.inj q)).symm (d _ _)
      · rw [(tk b h).1] at q
        exact absurd (congrArg Obj.data (Option.some.inj q)).symm d2
  have nsT : ∀ {b : Addr} {m : Str → Option Value}, s.heap.Ns b m → (hidT s.heap H).Ns b m := by
    rintro b m ⟨o, es, ep, q, d, r⟩
    exact ⟨o, es, ep, hidT_get q (off q (fun i n z => by rw [d] at z; cases z) fun z => by rw [d] at z; cases z), d, r⟩
  have kin : K.In (hidT s.heap H) := fun b o q => hidT_get (KX b o q) (by
    cases e : H b with
    | none => rfl
    | some u =>
      rcases cls b u e with ⟨_, _, z⟩ | ⟨h, _⟩
      · rw [q] at z; cases z
      · rw [(tk b h).2] at q; cases q)
  obtain ⟨ml, nl1, nl2⟩ := nl
  have md : Mod K mg (hidT s.heap H) := ⟨kin, nsT gl, ⟨mb, nsT bl, bb⟩, ml, nsT nl1, nl2⟩
  have gd : ∀ {m : Str → Option Value} {b : Addr}, s.heap.Ns b m → b ∉ ts := fun {m b} h z => by
    obtain ⟨o, es, ep, q, d, _⟩ := h
    rw [(tk b z).1] at q
    cases q
    cases d
  have ok : HOk P w H s.heap := fun b u e => by
    rcases cls b u e with ⟨rfl, rfl, _⟩ | ⟨h, rfl⟩
    · exact ⟨ha, by rw [List.length_map]; exact hl, vs, _, rv, ha⟩
    · exact (tk b h).1
  have TB : ∀ q ∈ cs, LamX.TabB (hidT s.heap H) mg q.1 q.2 := fun q hq => by
    refine ⟨PySem.W.codeHd_of_K kin (t2 q hq), ?_, fun z => gd gl (z ▸ mts q hq)⟩
    obtain ⟨m, om, m1, m2, m3, m4, m5, m6⟩ := bmo
    have n1 : m ≠ mainGlobals := fun z => by
      obtain ⟨o, es, ep, q1, d, _⟩ := gl
      rw [z, q1] at m3
      cases m3
      rw [m6] at d; cases d
    have n2 : m ≠ q.2 := fun z => by
      rw [z, t0 q hq] at m3
      cases m3
      cases m6
    exact ⟨m, om, m1, m2, n1, n2, hidT_get m3 (off m3 (fun i n z => by rw [m6] at z; cases z) fun z => by rw [m6] at z; cases z), m4, m5, m6⟩
  have e0 : Env0 P w K mg (hidT s.heap H) callerA [] s H := {
    frames := rfl
    mod := md
    bs := fun b o q => of_hidT q
    bsz := Nat.le_of_eq (hidT_size _ _)
    funs := trivial
    frf := fun b q => by simp [frs] at q
    hok := ok
    bare := AllBare.of_eq hg }
  refine codeAny_mono ((F _ kin (nsT gl) TB).go callerA rfl [] s H ⟨[.ref a], []⟩ [.ref a] [.ref a] _ _ hr e0 (bd s (.ref a)) (.cons rfl .nil) (hsp H (fun q hq => in1 _ (mts q hq)) hS)) ?_
  intro r t h
  match r, h with
  | .error _, h => exact False.elim h
  | .ok .next, h => exact False.elim h
  | .ok .brk, h => exact False.elim h
  | .ok .cont, h => exact False.elim h
  | .ok (.ret u), h =>
    obtain ⟨v, H', os, bare, un, hok', rel, q⟩ := h
    have q : v = .bl true := q
    subst q
    have rel : u = Value.bool true := rel
    subst rel
    have kp : ∀ b o, b ∉ ts → s.heap.get? b = some o → t.heap.get? b = some o := fun b o n q => by
      cases e : H b with
      | none => exact un.keep b o q e (by simp [frs]) (by simp)
      | some z =>
        rcases cls b z e with ⟨rfl, rfl, _⟩ | ⟨h, _⟩
        · rw [ha] at q
          cases q
          exact (hok' _ _ (un.frzs _ _ _ e)).1
        · exact absurd h n
    have gw : ∀ b ∈ ts, ∃ more : Array Value, t.heap.get? b = some { cls := .none, data := .fields more } := fun b h => by
      obtain ⟨more, z⟩ := un.tbls b #[] (in1 b h)
      exact ⟨_, hok' b _ z⟩
    refine ⟨rfl, ⟨fun b o q => ?_, fun b o q => ?_⟩, os, bare⟩
    · by_cases h : b ∈ ts
      · obtain ⟨more, z⟩ := gw b h
        have ct : isCodeTable s.heap b := by
          rw [← hts] at h
          obtain ⟨q2, hq, rfl⟩ := List.mem_map.mp h
          exact ((PySem.W.codeHd_of_K KX (t2 q2 hq)).tab (t0 q2 hq)).isCodeTable
        rw [(tk b h).1] at q
        cases q
        exact .inr (.inl ⟨ct, rfl, #[], more, rfl, by rw [Array.empty_append]; exact z⟩)
      · exact .inl (kp b o h q)
    · by_cases h : b ∈ ts
      · obtain ⟨more, z⟩ := gw b h
        exact ⟨_, z⟩
      · exact ⟨o, kp b o h q⟩
theorem walkT {l : PySem.W.OpenLaw} {n k : Nat} {q : Program} {loose : List Str} {XP : (Str → Option Value) → Heap → Prop} {YP : World → Heap → Prop} {d : DefRec} {K : Params → PySem.W.Frag} {x : Str}
    (hn : l.most = some n) (hn2 : n ≤ sizeLine) (hdf : d.params.defaults = []) (hr : Room k callerA) (hY : ∀ (w : World) (h : Heap), YP w h → (K w.params).In h)
    (F : ∀ (w : World) (mg : Str → Option Value) (fa : Addr) (h : Heap), YP w h → (K w.params).In h → h.Ns mainGlobals mg → mg d.name = some (.ref fa) →
      ∃ (cs : List (Addr × Addr)) (fd : FuncData) (sp : Sp), (∀ q ∈ cs, h.get? q.2 = some noRows) ∧ (∀ q ∈ cs, (K w.params).lookup q.2 = none) ∧ (∀ q ∈ cs, PySem.W.codeHdIn (K w.params) q.1 q.2 = true) ∧ (∀ (s : Shared) (u : Value), BindsTo s fd ⟨[u], []⟩ [(x, u)]) ∧
        (∀ (H : Hp) (a : Addr) (ns : List Int), ns.length ≤ n → (∀ q ∈ cs, H q.2 = some (.tbl #[])) → SqL (K w.params) H a (ns.map V.int) → sp [.ref a] H (fun v _ => v = .bl true) fun _ _ _ => False) ∧
        ∀ base : Heap, (K w.params).In base → base.Ns mainGlobals mg → (∀ q ∈ cs, LamX.TabB base mg q.1 q.2) → FnG l.prog w (K w.params) mg base CX0 k fa fd [x] sp) :
    PySem.W.WalkO q loose XP YP l.row.toRowW d [] (fun f vs => PySem.call f vs) := by
  refine Att.attach_call hn hdf ?_
  intro w s0 s1 mg mb fa o pm cd doc a vs ns G Y _ _ _ hm hob hin hle hge
  obtain ⟨cs, fd, sp, t0, t1, t2, bd, hsp, hF⟩ := F w mg fa _ Y (hY w _ Y) G.T.g hm
  exact lawT (hY w _ Y) G.T.g G.T.b G.T.builtins G.T.nolimit hge G.T.bmain t0 t1 t2 hob hin (Nat.le_trans hle hn2) hr hF bd fun H hH hS => hsp H a ns hle hH hS
end Dt

set_option Elab.async false
set_option linter.all false
set_option autoImplicit false
set_option maxRecDepth 100000
set_option maxHeartbeats 1000000
namespace Dt
open PySem PySem.Spec L2
/-! ### *e in a display, x[i] = e of a list of its own, calls that raise nothing -/
theorem AgOk.append {K : PySem.W.Frag} {H : Hp} : ∀ {vs ws : List V} {as bs : List Ag}, AgOk K H vs as → AgOk K H ws bs → AgOk K H (vs ++ ws) (as ++ bs)
  | [], _, [], _, _, h => h
  | _ :: r, _, .d _ :: t, _, h, g => ⟨h.1, AgOk.append h.2 g⟩
  | _ :: r, _, .raw _ :: t, _, h, g => ⟨h.1, AgOk.append h.2 g⟩
  | [], _, .d _ :: _, _, h, _ => h.elim
  | [], _, .raw _ :: _, _, h, _ => h.elim
  | _ :: _, _, [], _, h, _ => h.elim
theorem DvAll.ag {K : PySem.W.Frag} {H : Hp} : ∀ {ds : List PyData} {vs : List V}, DvAll K H vs ds → AgOk K H vs (ds.map Ag.d)
  | [], _, h => by cases h; trivial
  | d :: ds, _, h => by cases h with | cons a b => exact ⟨a, DvAll.ag b⟩
def wStar {S : Type} (w : DE S) (r : DA S) : DA S := fun ρ s Q E => w ρ s (fun d s1 => match d with
  | .tuple ds => r ρ s1 (fun as s2 => Q (ds.map Ag.d ++ as) s2) E
  | .list ds => r ρ s1 (fun as s2 => Q (ds.map Ag.d ++ as) s2) E
  | _ => False) E
section
variable {S : Type} {Wo : Wd S} {X : Cx} {W : WX} {K : PySem.W.Frag} {ta ti te : TE} {tl : TA} {e ix : Expr} {es : List Expr} {pos pos' p : Pos} {we wi : DE S} {wl : DA S} {n : Nat}
theorem ad_star (he : ED Wo X W e te we) (hr : AD Wo X W es tl wl) (hs : starEach (.Starred e p :: es) X.env = (true, eval e X.env) :: starEach es X.env := by rfl) : AD Wo X W (.Starred e p :: es) (StX.tStar X.K te tl) (wStar we wl) :=
  ⟨StX.pa_star he.pe hr.pe hs, fun c σ H ρ s Qd Ed Q E hw hv her => he.go c σ H ρ s _ Ed _ E hw (fun v H1 d s1 E1 st1 dv q1 => by
    match d, dv, q1 with
    | .tuple ds, dv, q1 =>
      cases dv with
      | @tup a xs _ h n1 a1 =>
        refine ⟨a, xs, rfl, .inl (same_seqT (hd_to _ _) h), hr.go c σ H1 ρ s1 _ Ed _ E1 q1 (fun vs H2 as s2 E2 st2 a2 q2 => ?_) her⟩
        exact hv _ H2 _ s2 E2 (st1.trans st2) (AgOk.append (DvAll.ag (DvAll.same st2 _ _ a1)) a2) q2
    | .list ds, dv, q1 =>
      cases dv with
      | @lst a xs _ h n1 a1 =>
        refine ⟨a, xs, rfl, .inr (SqL.of (hd_to _ _ _ _ h)), hr.go c σ H1 ρ s1 _ Ed _ E1 q1 (fun vs H2 as s2 E2 st2 a2 q2 => ?_) her⟩
        exact hv _ H2 _ s2 E2 (st1.trans st2) (AgOk.append (DvAll.ag (DvAll.same st2 _ _ a1)) a2) q2) her⟩
def wSto {S : Type} (i : Nat) (w wi : DE S) : DS S := fun ρ s D => match ρ[i]? with
  | some (.own p xs) => w ρ s (fun d s1 => wi ρ s1 (fun k s2 => match k with
    | .int j => ∃ n, ixN xs.length j = some n ∧ D.nx (ρ.set i (.own p (xs.set n d))) s2
    | _ => False) fun e s' => D.er e ρ s') fun e s' => D.er e ρ s'
  | _ => False
theorem DvAll.set {K : PySem.W.Frag} {H : Hp} : ∀ {vs : List V} {ds : List PyData} {n : Nat} {v : V} {d : PyData}, DvAll K H vs ds → Dv K H v d → DvAll K H (vs.set n v) (ds.set n d)
  | _, [], _, _, _, h, _ => by cases h; exact .nil
  | _, d :: ds, 0, _, _, h, g => by cases h with | cons a b => exact .cons g b
  | _, d :: ds, n + 1, _, _, h, g => by cases h with | cons a b => exact .cons a (DvAll.set b g)
theorem sd_store (i : Nat) {x : Str} {px : Pos} (h : ED Wo X W e ta we) (hi : ED Wo X W ix ti wi) (hN : X.N[i]? = some x := by rfl) (hv : Vis X.env.scope x := by first | exact Or.inl rfl | exact Or.inr (Or.inl rfl) | exact Or.inr (Or.inr rfl)) (hdb : (x == ("__debug__" : Str)) = false := by decide) (hcd : (x == ("__classdict__" : Str)) = false := by decide)
    (ha : ∀ v, assign (.Subscript (.Name x px) ix pos') X.env v = (do
      let ov ← holding [v] (eval (.Name x px) X.env)
      let iv ← holding [v, ov] (eval ix X.env)
      standAt pos'
      holding [v, ov, iv] (setItem ov iv v)
      release [v, ov, iv] []) := by intro _; rfl)
    (hs : swapsWithSole [.Subscript (.Name x px) ix pos'] e pos.line X.env = pure false := by rfl) (hw : swappedStores [.Subscript (.Name x px) ix pos'] e X.env = pure none := by rfl) (h1 : (assignEach [.Subscript (.Name x px) ix pos'] X.env).map (·.2) = [assign (.Subscript (.Name x px) ix pos') X.env] := by rfl) :
    SD Wo X W (.Assign [.Subscript (.Name x px) ix pos'] e pos) (tAsg ta (gSub (tVar i) ti rSetL)) (wSto i we wi) :=
  ⟨ps_asg h.pe (pg_sub (pe_var hN hv hdb hcd) hi.pe set_list ha) hs hw h1, fun c σ H ρ s Dd D E hw to => by
    unfold wSto at hw
    split at hw
    · rename_i q xs hq
      refine h.go c σ H ρ s _ _ _ E hw (fun v H1 d s1 E1 st1 dv q1 => ?_) (to.err σ ρ)
      obtain ⟨o, g1, rfl, n1, vs, hH, hA⟩ := E1.slot i _ hq
      refine ⟨_, g1, hi.go c σ H1 ρ s1 _ _ _ E1 q1 (fun u H2 k s2 E2 st2 du q2 => ?_) (to.err σ ρ)⟩
      match k, du, q2 with
      | .int j, du, q2 =>
        obtain ⟨m, hm, q3⟩ := q2
        cases du
        obtain ⟨o, f1, f2, n2, vs2, hH2, hA2⟩ := E2.slot i _ hq
        refine ⟨q, vs2, j, m, rfl, rfl, hH2, by rw [hA2.length]; exact hm, ?_⟩
        obtain ⟨E3, st3⟩ := E2.updOwn (ys := xs.set m d) hq (hA2.set (Dv.same st2 _ _ dv)) (by rw [List.length_set]; exact n2)
        exact to.nx σ _ _ s2 E3 (st1.trans (st2.trans st3)) q3
    · exact hw.elim⟩
theorem pass_no (X : Cx) (σ : L2.St) : PassesAt (L2.CX X.prog X.w) X σ (fun _ _ _ => False) := fun pins H s e s' I c => by
  obtain ⟨_, _, _, _, _, _, _, _, _, _, _, _, z⟩ := c
  exact z.elim
/-- a def that may raise, called where it raises nothing -/
theorem e_callN {j : Nat} {x : Str} {F : List PyData → (PyData → Prop) → (Er → Prop) → Prop} (D : Do X.prog X.w K X.mg X.base (L2.CX X.prog X.w) j x n (spP K n F)) (hr : Room j X.A) (ha : AD Wo X W (e :: es) tl wl) (hK : X.K = K := by rfl)
    (hg : Gl X x := by rfl) (hdb : (x == ("__debug__" : Str)) = false := by decide) (he : starEach (e :: es) X.env = (false, eval e X.env) :: starEach es X.env := by rfl) (hpl : (backTo pos (starEach es X.env)).any (·.1) = false := by rfl) :
    ED Wo X W (.Call (.Name x p) (e :: es) [] pos) (tCallS (spP K n F) (fun _ _ _ _ => False) tl) (wCallP (fun ds Q _ => ds.length = n ∧ F ds Q fun _ => False) wl) := by
  subst hK
  obtain ⟨f, fd, ps, h1, h2, h3, h4, h5⟩ := D.ex
  exact ⟨pe_callO h5 hr hg h2 h3 h4 (pass_no X) ha.pe hdb he hpl, fun c σ H ρ s Qd Ed Q E hw hv he => ha.go c σ H ρ s _ Ed _ E hw (fun vs H1 as s1 E1 st1 a1 q1 => by
    obtain ⟨ds, g1, g2, g3⟩ := a1.all q1
    exact ⟨by rw [g1.length]; exact g2, c.hs ρ, ds, _, _, E1.nd, E1.tr, g1, g3, fun v H' d sm dv q => hv v H' d s1 (E1.grow sm) (st1.trans (stp_grow sm)) dv q,
      fun e cls dd H' sm ei q => q.elim⟩) he⟩
end
end Dt

set_option Elab.async false
set_option linter.all false
set_option autoImplicit false
set_option maxRecDepth 100000
set_option maxHeartbeats 1000000
namespace Dt
open PySem PySem.Spec L2
/-! ### a, b = e, [..]; x[1], x[2] = a, b -/
section
variable {S : Type} {Wo : Wd S} {X : Cx} {W : WX} {K : PySem.W.Frag} {ta tb : TE} {tl : TA} {a b : Expr} {pos p : Pos} {wa : DE S} {wl : DA S}
def wParG {S : Type} (i j : Nat) (w : DE S) (v : DL S) : DS S := fun ρ s D => w ρ s (fun d s1 => v ρ s1 (fun ds s2 => ∀ p, D.nx ((ρ.set j (.own p ds)).set i (.d d)) s2) fun e s' => D.er e ρ s') fun e s' => D.er e ρ s'
theorem sd_parG (i j : Nat) {x y : Str} {px py pt : Pos} {kt k2 : Nat} {pt2 : Pos} {w : DL S} (hN : X.N.Nodup) (hi : X.N[i]? = some x) (hj : X.N[j]? = some y) (hij : i ≠ j) (ha : ED Wo X W a ta wa) (h : FD Wo X W b tb w) (hx : X.env.scope.names.lookup x = some .local := by rfl) (hy : X.env.scope.names.lookup y = some .local := by rfl) (hc : X.calm = true := by rfl)
    (hs1 : starEach [a, b] X.env = (false, eval a X.env) :: starEach [b] X.env := by rfl) (hs2 : starEach [b] X.env = (false, eval b X.env) :: starEach [] X.env := by rfl)
    (hw : swappedStores [.Tuple [.Name x px, .Name y py] kt pt] (.Tuple [a, b] k2 pt2) X.env = pure (some [x, y]) := by rfl)
    (hs : swapsWithSole [.Tuple [.Name x px, .Name y py] kt pt] (.Tuple [a, b] k2 pt2) pos.line X.env = pure false := by rfl) :
    SD Wo X W (.Assign [.Tuple [.Name x px, .Name y py] kt pt] (.Tuple [a, b] k2 pt2) pos) (tPar i j (tCons ta (tCons tb tNil))) (wParG i j wa w) :=
  ⟨ps_par hc hN hi hj hij hx hy (pa_cons ha.pe (pa_cons h.pe pa_nil hs2) hs1) hw hs, fun c σ H ρ s Dd D E hw to => ha.go c σ H ρ s _ _ _ E hw (fun v H1 d s1 E1 st1 dv q1 => h.go c σ H1 ρ s1 _ _ _ E1 q1 (fun q vs H' ds s' E' sm hq da n hn qd => by
    have h0 : c.H0 q = none := by
      cases z : c.H0 q with
      | none => rfl
      | some o =>
        by_cases hw : q ∈ c.W.wa
        · exact absurd hn (E1.tr q (List.mem_append_left _ (List.mem_append_left _ hw)))
        · have := E1.ext q o z hw
          rw [hn] at this; cases this
    obtain ⟨E2, st⟩ := E'.setOwn (i := j) hq da n h0
    obtain ⟨E3, st2⟩ := E2.setD (i := i) (x := .d d) (v := v) rfl ⟨_, rfl, Dv.same (sm.trans st) _ _ dv⟩
    rw [List.set_comm _ _ (Ne.symm hij)] at E3
    exact ⟨_, _, rfl, to.nx _ H' _ s' E3 (st1.trans (sm.trans (st.trans st2))) (qd q)⟩) (to.err σ ρ)) (to.err σ ρ)⟩
def wSto2 {S : Type} (i : Nat) (j1 j2 : Int) (wl : DA S) : DS S := fun ρ s D => match ρ[i]? with
  | some (.own p xs) => wl ρ s (fun as s1 => allK as fun ds => match ds with
    | [d1, d2] => ∃ n m, ixN xs.length j1 = some n ∧ ixN xs.length j2 = some m ∧ D.nx (ρ.set i (.own p ((xs.set n d1).set m d2))) s1
    | _ => False) fun e s' => D.er e ρ s'
  | _ => False
theorem sd_sto2 (i : Nat) {j1 j2 : Int} {x : Str} {e1 e2 : Expr} {px py p1 p2 pt pt2 : Pos} {kt k2 : Nat} (hc : X.calm = true) (ha : AD Wo X W [a, b] tl wl) (i1 : PE X e1 (tC (.int j1))) (i2 : PE X e2 (tC (.int j2))) (hN : X.N[i]? = some x := by rfl) (hv : Vis X.env.scope x := by first | exact Or.inl rfl | exact Or.inr (Or.inl rfl) | exact Or.inr (Or.inr rfl)) (hdb : (x == ("__debug__" : Str)) = false := by decide) (hcd : (x == ("__classdict__" : Str)) = false := by decide)
    (ha1 : ∀ v, assign (.Subscript (.Name x px) e1 p1) X.env v = (do
      let ov ← holding [v] (eval (.Name x px) X.env)
      let iv ← holding [v, ov] (eval e1 X.env)
      standAt p1
      holding [v, ov, iv] (setItem ov iv v)
      release [v, ov, iv] []) := by intro _; rfl)
    (ha2 : ∀ v, assign (.Subscript (.Name x py) e2 p2) X.env v = (do
      let ov ← holding [v] (eval (.Name x py) X.env)
      let iv ← holding [v, ov] (eval e2 X.env)
      standAt p2
      holding [v, ov, iv] (setItem ov iv v)
      release [v, ov, iv] []) := by intro _; rfl)
    (hn : (assignEach [.Subscript (.Name x px) e1 p1, .Subscript (.Name x py) e2 p2] X.env).length = 2 := by rfl) (hst : (assignEach [.Subscript (.Name x px) e1 p1, .Subscript (.Name x py) e2 p2] X.env).findIdx? (·.1) = none := by rfl)
    (hs2 : (assignEach (.Subscript (.Name x px) e1 p1 :: [.Subscript (.Name x py) e2 p2]) X.env).map (·.2) = assign (.Subscript (.Name x px) e1 p1) X.env :: (assignEach [.Subscript (.Name x py) e2 p2] X.env).map (·.2) := by rfl)
    (hs3 : (assignEach (.Subscript (.Name x py) e2 p2 :: []) X.env).map (·.2) = assign (.Subscript (.Name x py) e2 p2) X.env :: (assignEach [] X.env).map (·.2) := by rfl)
    (hs : swapsWithSole [.Tuple [.Subscript (.Name x px) e1 p1, .Subscript (.Name x py) e2 p2] kt pt] (.Tuple [a, b] k2 pt2) pos.line X.env = pure false := by rfl) (hw : swappedStores [.Tuple [.Subscript (.Name x px) e1 p1, .Subscript (.Name x py) e2 p2] kt pt] (.Tuple [a, b] k2 pt2) X.env = pure none := by rfl)
    (h1 : (assignEach [.Tuple [.Subscript (.Name x px) e1 p1, .Subscript (.Name x py) e2 p2] kt pt] X.env).map (·.2) = [assign (.Tuple [.Subscript (.Name x px) e1 p1, .Subscript (.Name x py) e2 p2] kt pt) X.env] := by rfl) :
    SD Wo X W (.Assign [.Tuple [.Subscript (.Name x px) e1 p1, .Subscript (.Name x py) e2 p2] kt pt] (.Tuple [a, b] k2 pt2) pos) (tAsg (tTup tl) (gTup X.K 2 (gCons (gSub (tVar i) (tC (.int j1)) rSetL) (gCons (gSub (tVar i) (tC (.int j2)) rSetL) gNil)))) (wSto2 i j1 j2 wl) :=
  ⟨ps_asg (pe_tup ha.pe) (pg_tup hc (pgs_cons (pg_sub (pe_var hN hv hdb hcd) i1 set_list ha1) (pgs_cons (pg_sub (pe_var hN hv hdb hcd) i2 set_list ha2) pgs_nil hs3) hs2) hn hst) hs hw h1, fun c σ H ρ s Dd D E hw to => by
    unfold wSto2 at hw
    split at hw
    · rename_i q xs hq
      refine ha.go c σ H ρ s _ _ _ E hw (fun vs H1 as s1 E1 st1 a1 q1 => ?_) (to.err σ ρ)
      obtain ⟨ds, g1, g2⟩ := a1.all q1
      match ds, g1, g2 with
      | [d1, d2], g1, g2 =>
        cases g1 with
        | @cons v1 _ _ _ b1 r1 =>
        cases r1 with
        | @cons v2 _ _ _ b2 r2 =>
        cases r2
        obtain ⟨n, m, hn, hm, q2⟩ := g2
        refine ⟨(by show 2 ≤ sizeLine; rw [sizeLine_eq]; decide), fun t ht => ⟨t, [v1, v2], rfl, .inl (.inl upd_same), rfl, ?_⟩⟩
        have E2 := E1.grow (same_upd (o := .tup [v1, v2]) ht)
        have st2 : Stp c ρ ρ H1 (upd H1 t (.tup [v1, v2])) := stp_grow (same_upd ht)
        generalize upd H1 t (.tup [v1, v2]) = H2 at E2 st2 ⊢
        obtain ⟨o, f1, rfl, n1, ws, hH, hA⟩ := E2.slot i _ hq
        obtain ⟨E3, st3⟩ := E2.updOwn (ys := xs.set n d1) hq (hA.set (n := n) (Dv.same st2 _ _ b1)) (by rw [List.length_set]; exact n1)
        have hq3 : (ρ.set i (.own q (xs.set n d1)))[i]? = some (.own q (xs.set n d1)) := List.getElem?_set_self (List.getElem?_eq_some_iff.mp hq).1
        obtain ⟨E4, st4⟩ := E3.updOwn (ys := (xs.set n d1).set m d2) hq3 ((hA.set (n := n) (Dv.same st2 _ _ b1) |> DvAll.same st3 _ _).set (n := m) (Dv.same (st2.trans st3) _ _ b2)) (by rw [List.length_set, List.length_set]; exact n1)
        rw [List.set_set] at E4 st4
        refine ⟨v1, [v2], rfl, .ref q, f1, q, ws, j1, n, rfl, rfl, hH, by rw [hA.length]; exact hn, ?_⟩
        refine ⟨v2, [], rfl, .ref q, f1, q, ws.set n v1, j2, m, rfl, rfl, upd_same, by rw [List.length_set, hA.length]; exact hm, rfl, ?_⟩
        exact to.nx σ _ _ s1 E4 (st1.trans (st2.trans (st3.trans st4))) q2
    · exact hw.elim⟩
end
end Dt

set_option Elab.async false
set_option linter.all false
set_option autoImplicit false
set_option maxRecDepth 100000
set_option maxHeartbeats 1000000
namespace Dt
open PySem PySem.Spec L2
/-! ### x or y of strings, f-strings of strings and ints, a new list of two new ones -/
section
variable {S : Type} {Wo : Wd S} {X : Cx} {W : WX} {K : PySem.W.Frag} {ta tb : TE} {tl : TA} {a b e : Expr} {pos p : Pos} {wa wb : DE S} {wl : DA S}
def wOrS {S : Type} (wa wb : DE S) : DE S := fun ρ s Q E => wa ρ s (fun x s1 => match x with | .str y => if y.length = 0 then wb ρ s1 Q E else Q (.str y) s1 | _ => False) E
theorem ed_orS {rest : List Expr} (ha : ED Wo X W a ta wa) (hb : ED Wo X W (.BoolOp .Or (b :: rest) pos) tb wb) (hK : X.K = K := by rfl) : ED Wo X W (.BoolOp .Or (a :: b :: rest) pos) (tOrT K ta tb) (wOrS wa wb) := by
  subst hK
  obtain ⟨pa, ha⟩ := ha
  obtain ⟨pb, hb⟩ := hb
  refine ⟨pe_orT pa pb, fun c σ H ρ s Qd Ed Q E hw hv he => ha c σ H ρ s _ Ed _ E hw (fun v H' d s' E' st' dv q => ?_) he⟩
  cases d with
  | str y =>
    cases dv with
    | str o =>
      refine ⟨((y.length : Int) != 0), ⟨Nat.le_trans o.1 limL_size, rfl⟩, ?_⟩
      have q : if y.length = 0 then wb ρ s' Qd Ed else Qd (.str y) s' := q
      by_cases z : y.length = 0
      · rw [if_pos z] at q
        have f : ((y.length : Int) != 0) = false := by rw [z]; rfl
        rw [f, if_neg Bool.false_ne_true]
        exact hb c σ H' ρ s' _ Ed _ E' q (fun v H2 d s2 E2 st2 => hv v H2 d s2 E2 (st'.trans st2)) he
      · rw [if_neg z] at q
        have f : ((y.length : Int) != 0) = true := by
          simp only [bne_iff_ne, ne_eq]
          omega
        rw [f, if_pos rfl]
        exact hv _ H' _ s' E' st' (.str o) q
  | _ => exact q.elim
def wFmt {S : Type} (wa : DE S) : DE S := fun ρ s Q E => wa ρ s (fun x s1 => match x with | .str y => Q (.str y) s1 | .int i => Q (.str (toString i : String)) s1 | _ => False) E
theorem ed_fmt (ha : ED Wo X W a ta wa) : ED Wo X W (.FormattedValue a (-1) none pos) (tFmt ta) (wFmt wa) := by
  obtain ⟨pa, ha⟩ := ha
  refine ⟨pe_fmt pa, fun c σ H ρ s Qd Ed Q E hw hv he => ha c σ H ρ s _ Ed _ E hw (fun v H' d s' E' st' dv q => ?_) he⟩
  cases d with
  | str y =>
    cases dv with
    | str o => exact .inl ⟨y, rfl, Nat.le_trans o.1 limL_size, hv _ H' _ s' E' st' (.str o) q⟩
  | int i =>
    cases dv with
    | int h =>
      have e := int_text_length_le10 (a := i) (k := 76) (by decide) (Nat.lt_of_lt_of_le h (by decide))
      refine .inr ⟨i, rfl, ?_, hv _ H' _ s' E' st' (.str ⟨by rw [ofString_length]; unfold limL; omega, strOk_lit _⟩) q⟩
      by_cases z : i.natAbs = 0
      · rw [z]; decide
      · exact (Nat.log2_lt z).mpr (Nat.lt_of_lt_of_le h (by exact Nat.pow_le_pow_right (by decide) (by decide)))
  | _ => exact q.elim
inductive JD {S : Type} (Wo : Wd S) (X : Cx) (W : WX) : List Expr → List TE → List (DE S) → Prop
  | nil : JD Wo X W [] [] []
  | cons {e : Expr} {t : TE} {w : DE S} {es : List Expr} {ts : List TE} {ws : List (DE S)} (h : ED Wo X W e t w) (r : JD Wo X W es ts ws) : JD Wo X W (e :: es) (t :: ts) (w :: ws)
def wJs {S : Type} : List (DE S) → Str → DE S
  | [], acc => fun ρ s Q E => Q (.str acc) s
  | w :: ws, acc => fun ρ s Q E => w ρ s (fun x s1 => match x with | .str y => (acc ++ y).length ≤ limL ∧ wJs ws (acc ++ y) ρ s1 Q E | _ => False) E
theorem JD.pj {es : List Expr} {ts : List TE} {ws : List (DE S)} (h : JD Wo X W es ts ws) : PJ X es ts := by
  induction h with
  | nil => exact .nil
  | cons h _ ih => exact .cons h.pe ih
theorem tJs_go {es : List Expr} {ts : List TE} {ws : List (DE S)} (h : JD Wo X W es ts ws) : ∀ (acc : Str) (_ : okS acc) (c : Cn Wo) σ H ρ s Qd Ed Q, EnvD X.K c σ H ρ s → wJs ws acc ρ s Qd Ed → VTo X.K c σ H ρ Qd Q → ErTo X.K c σ ρ Ed W → tJs ts acc σ H fun out H1 => Q (.str out) H1 := by
  induction h with
  | nil => intro acc ok c σ H ρ s Qd Ed Q E hw hv he; exact hv _ H _ s E (stp_grow (Same.refl _)) (.str ok) hw
  | cons h r ih =>
    intro acc ok c σ H ρ s Qd Ed Q E hw hv he
    refine h.go c σ H ρ s _ Ed _ E hw (fun v H' d s' E' st' dv q => ?_) he
    cases d with
    | str y =>
      cases dv with
      | str o => exact ⟨y, rfl, Nat.le_trans q.1 limL_size, ih (acc ++ y) ⟨q.1, strOk_app ok.2 o.2⟩ c σ H' ρ s' Qd Ed Q E' q.2 (fun v H2 d s2 E2 st2 => hv v H2 d s2 E2 (st'.trans st2)) he⟩
    | _ => exact q.elim
theorem ed_joined {v1 v2 : Expr} {rest : List Expr} {ts : List TE} {ws : List (DE S)} (h : JD Wo X W (v1 :: v2 :: rest) ts ws) : ED Wo X W (.JoinedStr (v1 :: v2 :: rest) pos) (fun σ H Q => tJs ts Str.empty σ H fun out H1 => Q (.str out) H1) (wJs ws Str.empty) :=
  ⟨pe_joined h.pj, fun c σ H ρ s Qd Ed Q E hw hv he => tJs_go h Str.empty ⟨Nat.zero_le _, by decide +kernel⟩ c σ H ρ s Qd Ed Q E hw hv he⟩
def wAddL {S : Type} (wa wb : DL S) : DL S := fun ρ s Q E => wa ρ s (fun xs s1 => wb ρ s1 (fun ys s2 => (xs ++ ys).length ≤ limL ∧ Q (xs ++ ys) s2) E) E
theorem fd_addL {wa wb : DL S} (ha : FD Wo X W a ta wa) (hb : FD Wo X W b tb wb) (hK : X.K = K := by rfl) : FD Wo X W (.BinOp a .Add b pos) (tOp (rAddD K) ta tb) (wAddL wa wb) := by
  subst hK
  refine ⟨(e_add (pos := pos) (ed_new ha) (ed_new hb)).pe, fun c σ H ρ s Qd Ed Q E hw hv he => ?_⟩
  refine (ed_new ha).go c σ H ρ s (fun d s1 => ∃ xs, d = .list xs ∧ wb ρ s1 (fun ys s2 => (xs ++ ys).length ≤ limL ∧ Qd (xs ++ ys) s2) Ed) Ed _ E ?_ (fun x H1 d s1 E1 st1 d1 q1 => ?_) he
  · show wa ρ s (fun ds s1 => ∃ xs, PyData.list ds = .list xs ∧ _) Ed
    have e : (fun ds s1 => ∃ xs, PyData.list ds = .list xs ∧ wb ρ s1 (fun ys s2 => (xs ++ ys).length ≤ limL ∧ Qd (xs ++ ys) s2) Ed) = (fun xs s1 => wb ρ s1 (fun ys s2 => (xs ++ ys).length ≤ limL ∧ Qd (xs ++ ys) s2) Ed) := by
      funext ds s1
      refine propext ⟨fun ⟨xs, e, h⟩ => ?_, fun h => ⟨ds, rfl, h⟩⟩
      cases e
      exact h
    rw [e]
    exact hw
  · obtain ⟨xs, rfl, q1⟩ := q1
    refine (ed_new hb).go c σ H1 ρ s1 (fun d s2 => ∃ ys, d = .list ys ∧ (xs ++ ys).length ≤ limL ∧ Qd (xs ++ ys) s2) Ed _ E1 ?_ (fun y H2 d s2 E2 st2 d2 q2 => ?_) he
    · show wb ρ s1 (fun ds s2 => ∃ ys, PyData.list ds = .list ys ∧ (xs ++ ys).length ≤ limL ∧ Qd (xs ++ ys) s2) Ed
      have e : (fun ds s2 => ∃ ys, PyData.list ds = .list ys ∧ (xs ++ ys).length ≤ limL ∧ Qd (xs ++ ys) s2) = (fun ys s2 => (xs ++ ys).length ≤ limL ∧ Qd (xs ++ ys) s2) := by
        funext ds s1
        refine propext ⟨fun ⟨xs, e, h⟩ => ?_, fun h => ⟨ds, rfl, h⟩⟩
        cases e
        exact h
      rw [e]
      exact q1
    · obtain ⟨ys, rfl, q2, q3⟩ := q2
      have d1 := Dv.same st2 _ _ d1
      cases d1 with
      | lst h1 n1 a1 =>
        cases d2 with
        | lst h2 n2 a2 =>
          rename_i p1 vs p2 ws
          refine .inr (.inr (.inr ⟨p1, p2, vs, ws, rfl, rfl, hd_to _ _ _ _ h1, hd_to _ _ _ _ h2, ?_, fun p hp => ?_⟩))
          · have := q2
            rw [List.length_append, ← a1.length, ← a2.length] at this
            exact Nat.le_trans this limL_size
          · obtain ⟨E3, sm⟩ := E2.hideNew (o := .lst (vs ++ ws)) hp
            have st := st1.trans st2
            refine hv p (vs ++ ws) _ (xs ++ ys) s2 E3 (st.trans sm) upd_same (DvAll.same sm _ _ (a1.append a2)) q2 ?_ q3
            cases q : H p with
            | none => rfl
            | some u =>
              by_cases z : p ∈ c.hs ρ
              · exact absurd hp (E2.tr p z)
              · have := hd_to _ _ _ _ (st p u (hd_some.mpr ⟨z, q⟩))
                rw [hp] at this; cases this
end
end Dt

set_option Elab.async false
set_option linter.all false
set_option autoImplicit false
set_option maxRecDepth 100000
set_option maxHeartbeats 1000000
namespace Dt
open PySem PySem.Spec
open L2 hiding wT wNot
/-! ### range(a, b), range(a, b, -1); x or y of tuples -/
section
variable {S : Type} {Wo : Wd S} {X : Cx} {W : WX} {K : PySem.W.Frag} {ta tb : TE} {tl : TA} {a b e tg : Expr} {pos p : Pos} {wa wb : DE S} {wl : DA S}
def wRng2 {S : Type} (w : DA S) : DL S := fun ρ s Q E => w ρ s (fun as s1 => allK as fun ds => match ds with
  | [.int i, .int j] => (-1000000 ≤ i ∧ i ≤ 1000000 ∧ -1000000 ≤ j ∧ j ≤ 1000000) ∧ Q (rngD i (j - i).toNat) s1
  | _ => False) E
theorem id_rng2 (hm : X.mg "range" = none) (h : AD Wo X W [a, b] tl wl) (hg : Gl X "range" := by rfl) (hs : starEach [a, b] X.env = [(false, eval a X.env), (false, eval b X.env)] := by rfl) (hs2 : starEach [b] X.env = [(false, eval b X.env)] := by rfl) : ID Wo X W tg (.Call (.Name "range" p) [a, b] [] pos) (iRng2 tl) (wRng2 wl) :=
  ⟨pi_range2 hg hm h.pe hs hs2, fun c σ H ρ s Qd Ed R E hw hq he => h.go c σ H ρ s _ Ed _ E hw (fun vs H1 as s1 E1 st1 a1 q1 => by
    obtain ⟨ds, h1, h2⟩ := a1.all q1
    split at h2
    · rename_i i j
      obtain ⟨⟨g1, g2, g3, g4⟩, g5⟩ := h2
      cases h1 with
      | cons a b =>
        cases b with
        | cons b c =>
          cases c
          cases a
          cases b
          exact ⟨i, j, rfl, ⟨by omega, by omega, by omega, by omega⟩, hq _ H1 _ s1 E1 st1 (itd_rng fun k hk => okI_small (by omega)) (by unfold rngD limL; simp; omega) g5⟩
    · exact h2.elim) he⟩
/-- downwards from lo -/
def dwnD (lo : Int) (n : Nat) : List PyData := (List.range n).map fun i => .int (lo - (i : Nat))
theorem itd_dwn {l : List Addr} {H1 : Hp} {lo : Int} {n : Nat} (h : ∀ i : Nat, i < n → okI (lo - (i : Nat))) : ItD K l H1 (Itc lo (-1) n) (dwnD lo n) where
  go := fun l' H i st hi => by
    show i < n
    simpa [dwnD] using hi
  stop := fun l' H i st hi => by
    show n ≤ i
    simpa [dwnD] using hi
  yld := fun l' H i x H' d st tr y hd' => by
    obtain ⟨rfl, rfl⟩ := y
    unfold dwnD at hd'
    rw [List.getElem?_map] at hd'
    by_cases hi : i < n
    · rw [List.getElem?_range hi] at hd'
      cases hd'
      have e : lo + (i : Nat) * (-1) = lo - (i : Nat) := by omega
      rw [e]
      exact ⟨Same.refl _, .int (h i hi)⟩
    · rw [List.getElem?_eq_none (by simpa using hi)] at hd'
      cases hd'
def wDwn {S : Type} (w : DA S) : DL S := fun ρ s Q E => w ρ s (fun as s1 => allK as fun ds => match ds with
  | [.int i, .int j, .int c] => c = -1 ∧ (-1000000 ≤ i ∧ i ≤ 1000000 ∧ -1000000 ≤ j ∧ j ≤ 1000000) ∧ Q (dwnD i (i - j).toNat) s1
  | _ => False) E
theorem id_dwn {d : Expr} (hm : X.mg "range" = none) (h : AD Wo X W [a, b, d] tl wl) (hg : Gl X "range" := by rfl) (hs : starEach [a, b, d] X.env = (false, eval a X.env) :: starEach [b, d] X.env := by rfl) (hpl : (backTo pos (starEach [b, d] X.env)).any (·.1) = false := by rfl) : ID Wo X W tg (.Call (.Name "range" p) [a, b, d] [] pos) (iRng3 tl) (wDwn wl) :=
  ⟨pi_range3 hg hm h.pe hs hpl, fun c σ H ρ s Qd Ed R E hw hq he => h.go c σ H ρ s _ Ed _ E hw (fun vs H1 as s1 E1 st1 a1 q1 => by
    obtain ⟨ds, h1, h2⟩ := a1.all q1
    split at h2
    · rename_i i j k
      obtain ⟨rfl, ⟨g1, g2, g3, g4⟩, g5⟩ := h2
      cases h1 with
      | cons a b =>
        cases b with
        | cons b c =>
          cases c with
          | cons c d =>
            cases d
            cases a
            cases b
            cases c
            exact ⟨i, j, -1, _, rfl, RgC.neg (by omega) (by omega) (by omega) (by omega), hq _ H1 _ s1 E1 st1 (itd_dwn fun k hk => okI_small (by omega)) (by unfold dwnD limL; simp; omega) g5⟩
    · exact h2.elim) he⟩
def wOrT {S : Type} (wa wb : DE S) : DE S := fun ρ s Q E => wa ρ s (fun x s1 => match x with | .tuple y => if y.isEmpty = true then wb ρ s1 Q E else Q (.tuple y) s1 | _ => False) E
theorem ed_orT {rest : List Expr} (ha : ED Wo X W a ta wa) (hb : ED Wo X W (.BoolOp .Or (b :: rest) pos) tb wb) (hK : X.K = K := by rfl) : ED Wo X W (.BoolOp .Or (a :: b :: rest) pos) (tOrT K ta tb) (wOrT wa wb) := by
  subst hK
  obtain ⟨pa, ha⟩ := ha
  obtain ⟨pb, hb⟩ := hb
  refine ⟨pe_orT pa pb, fun c σ H ρ s Qd Ed Q E hw hv he => ha c σ H ρ s _ Ed _ E hw (fun v H' d s' E' st' dv q => ?_) he⟩
  cases d with
  | tuple y =>
    have dv0 := dv
    cases dv with
    | tup h n g =>
      rename_i a vs
      have q : if y.isEmpty = true then wb ρ s' Qd Ed else Qd (.tuple y) s' := q
      refine ⟨!vs.isEmpty, .inr (.inl ⟨vs, same_seqT (hd_to _ _) h, rfl⟩), ?_⟩
      have e : vs.isEmpty = y.isEmpty := by
        cases g <;> rfl
      rw [e]
      cases z : y.isEmpty with
      | true =>
        rw [z, if_pos rfl] at q
        rw [if_neg (by decide)]
        exact hb c σ H' ρ s' _ Ed _ E' q (fun v H2 d s2 E2 st2 => hv v H2 d s2 E2 (st'.trans st2)) he
      | false =>
        rw [z, if_neg (by decide)] at q
        rw [if_pos (by decide)]
        exact hv _ H' _ s' E' st' dv0 q
  | _ => exact q.elim
theorem i_rng2 (B : Bt X.mg) (h : AD Wo X W [a, b] tl wl) (hg : Gl X "range" := by rfl) (hs : starEach [a, b] X.env = [(false, eval a X.env), (false, eval b X.env)] := by rfl) (hs2 : starEach [b] X.env = [(false, eval b X.env)] := by rfl) : ID Wo X W tg (.Call (.Name "range" p) [a, b] [] pos) (iRng2 tl) (wRng2 wl) := id_rng2 (B.no _ (by decide)) h hg hs hs2
theorem i_dwn {d : Expr} (B : Bt X.mg) (h : AD Wo X W [a, b, d] tl wl) (hg : Gl X "range" := by rfl) (hs : starEach [a, b, d] X.env = (false, eval a X.env) :: starEach [b, d] X.env := by rfl) (hpl : (backTo pos (starEach [b, d] X.env)).any (·.1) = false := by rfl) : ID Wo X W tg (.Call (.Name "range" p) [a, b, d] [] pos) (iRng3 tl) (wDwn wl) := id_dwn (B.no _ (by decide)) h hg hs hpl
/-- a list of few, some times -/
def dMulL : Dop
  | .list xs, .int k, Q => 0 ≤ k ∧ k ≤ 1000 ∧ xs.length ≤ 1000 ∧ Q (.list (List.replicate k.toNat xs).flatten)
  | _, _, _ => False
theorem len_rep {α : Type} (xs : List α) : ∀ n : Nat, (List.replicate n xs).flatten.length = n * xs.length
  | 0 => by simp
  | n + 1 => by rw [List.replicate_succ, List.flatten_cons, List.length_append, len_rep xs n, Nat.add_mul, Nat.one_mul]; omega
theorem od_mulL : OpD K rRep dMulL := by
  intro H l x y d e Qd Q ht hx hy hf hq
  cases d with
  | list xs =>
    cases e with
    | int k =>
      cases hx with
      | lst h1 n1 a1 =>
        rename_i a vs
        cases hy
        obtain ⟨k0, k1, xl, q⟩ := hf
        have vl : vs.length = xs.length := a1.length
        have b1 : vs.length * k.toNat ≤ 1000 * 1000 := Nat.mul_le_mul (by omega) (by omega)
        have b2 : (List.replicate k.toNat xs).flatten.length ≤ limL := by
          rw [len_rep, Nat.mul_comm]
          have : xs.length * k.toNat ≤ 1000 * 1000 := Nat.mul_le_mul xl (by omega)
          show _ ≤ 4194304
          omega
        refine ⟨a, k, vs, rfl, rfl, hd_to _ _ _ _ h1, by omega, by omega, by rw [sizeLine_eq]; omega, fun p hp => hq _ _ _ (same_upd hp) (Dv.newL ht hp (a1.rep k.toNat) b2) q⟩
    | _ => exact hf.elim
  | _ => exact hf.elim
theorem e_mulL (ha : ED Wo X W a ta wa) (hb : ED Wo X W b tb wb) : ED Wo X W (.BinOp a .Mult b pos) (tOp rRep ta tb) (wOp dMulL wa wb) := ed_op op_rep (od_mulL (K := X.K)) ha hb
end
end Dt

set_option Elab.async false
set_option linter.all false
set_option autoImplicit false
set_option maxRecDepth 100000
namespace Dt
open PySem PySem.Spec L2

/-! ### dicts -/
section
variable {κ : Type} [DecidableEq κ]
/-- what stands under a key -/
def lk (es : List (κ × PyData)) (k : κ) : Option PyData := (es.find? fun e => decide (e.1 = k)).map (·.2)
/-- put under a key: in its place, or at the end -/
def pt (es : List (κ × PyData)) (k : κ) (d : PyData) : List (κ × PyData) :=
  if (es.any fun e => decide (e.1 = k)) = true then es.map (fun e => if e.1 = k then (e.1, d) else e) else es ++ [(k, d)]
theorem lk_nil {k : κ} : lk ([] : List (κ × PyData)) k = none := rfl
theorem lk_pos {p : κ × PyData} {r : List (κ × PyData)} {k : κ} (e : p.1 = k) : lk (p :: r) k = some p.2 := by simp [lk, List.find?_cons, e]
theorem lk_neg {p : κ × PyData} {r : List (κ × PyData)} {k : κ} (e : ¬ p.1 = k) : lk (p :: r) k = lk r k := by simp [lk, List.find?_cons, e]
theorem lk_any (k : κ) : ∀ es : List (κ × PyData), (es.any fun e => decide (e.1 = k)) = (lk es k).isSome
  | [] => rfl
  | p :: r => by
    rw [List.any_cons]
    by_cases e : p.1 = k
    · rw [lk_pos e, decide_eq_true e, Bool.true_or]; rfl
    · rw [lk_neg e, decide_eq_false e, Bool.false_or, lk_any k r]
theorem lk_upd (k j : κ) (d : PyData) : ∀ es : List (κ × PyData), lk (es.map fun e => if e.1 = k then (e.1, d) else e) j = (lk es j).map fun x => if j = k then d else x
  | [] => rfl
  | p :: r => by
    rw [List.map_cons]
    by_cases e : p.1 = j
    · rw [lk_pos e]
      by_cases q : p.1 = k
      · rw [if_pos q, lk_pos (p := (p.1, d)) e, Option.map_some, if_pos (e.symm.trans q)]
      · rw [if_neg q, lk_pos e, Option.map_some, if_neg fun z => q (e.trans z)]
    · rw [lk_neg e]
      have : ¬ (if p.1 = k then (p.1, d) else p).1 = j := by
        by_cases q : p.1 = k
        · rw [if_pos q]; exact e
        · rw [if_neg q]; exact e
      rw [lk_neg this]
      exact lk_upd k j d r
theorem lk_end (k j : κ) (d : PyData) : ∀ es : List (κ × PyData), lk es k = none → lk (es ++ [(k, d)]) j = if j = k then some d else lk es j
  | [], _ => by
    by_cases e : k = j
    · rw [if_pos e.symm]; exact lk_pos (p := (k, d)) e
    · rw [if_neg fun z => e z.symm]; exact lk_neg (p := (k, d)) e
  | p :: r, h => by
    rw [List.cons_append]
    have nk : ¬ p.1 = k := fun e => by rw [lk_pos e] at h; cases h
    rw [lk_neg nk] at h
    by_cases e : p.1 = j
    · rw [lk_pos e, lk_pos e, if_neg fun z => nk (e.trans z)]
    · rw [lk_neg e, lk_neg e]
      exact lk_end k j d r h
theorem lk_pt (es : List (κ × PyData)) (k j : κ) (d : PyData) : lk (pt es k d) j = if j = k then some d else lk es j := by
  unfold pt
  split
  · rename_i h
    rw [lk_any] at h
    rw [lk_upd]
    by_cases e : j = k
    · subst e
      obtain ⟨x, hx⟩ := Option.isSome_iff_exists.mp h
      rw [hx, Option.map_some, if_pos rfl, if_pos rfl]
    · rw [if_neg e]
      cases lk es j with
      | none => rfl
      | some x => rw [Option.map_some, if_neg e]
  · rename_i h
    rw [lk_any] at h
    exact lk_end k j d es (by cases z : lk es k with | none => rfl | some x => rw [z] at h; exact absurd rfl h)
theorem pt_len (es : List (κ × PyData)) (k : κ) (d : PyData) : (pt es k d).length ≤ es.length + 1 := by
  unfold pt
  split
  · rw [List.length_map]; omega
  · rw [List.length_append]; exact Nat.le_refl _
/-- the entries of a dict, as they stand -/
def DvE (K : PySem.W.Frag) (H : Hp) : List (κ × V) → List (κ × PyData) → Prop
  | [], [] => True
  | (k, v) :: r, (l, d) :: t => k = l ∧ Dv K H v d ∧ DvE K H r t
  | _, _ => False
variable {K : PySem.W.Frag} {H : Hp}
theorem DvE.len : ∀ {r : List (κ × V)} {t : List (κ × PyData)}, DvE K H r t → r.length = t.length
  | [], [], _ => rfl
  | (_, _) :: r, (_, _) :: t, h => by rw [List.length_cons, List.length_cons, DvE.len h.2.2]
  | [], _ :: _, h => h.elim
  | _ :: _, [], h => h.elim
theorem DvE.look {k : κ} : ∀ {r : List (κ × V)} {t : List (κ × PyData)}, DvE K H r t → (valV r k = none ∧ lk t k = none) ∨ ∃ v d, valV r k = some v ∧ lk t k = some d ∧ Dv K H v d
  | [], [], _ => .inl ⟨rfl, rfl⟩
  | (a, v) :: r, (b, d) :: t, ⟨e, dv, h⟩ => by
    subst e
    by_cases q : a = k
    · exact .inr ⟨v, d, valV_pos (p := (a, v)) q, lk_pos (p := (a, d)) q, dv⟩
    · rw [valV_neg (p := (a, v)) q, lk_neg (p := (a, d)) q]
      exact DvE.look h
  | [], _ :: _, h => h.elim
  | _ :: _, [], h => h.elim
theorem DvE.any {k : κ} : ∀ {r : List (κ × V)} {t : List (κ × PyData)}, DvE K H r t → (r.any fun kv => decide (kv.1 = k)) = (t.any fun e => decide (e.1 = k))
  | [], [], _ => rfl
  | (a, v) :: r, (b, d) :: t, ⟨e, dv, h⟩ => by rw [List.any_cons, List.any_cons, DvE.any h, e]
  | [], _ :: _, h => h.elim
  | _ :: _, [], h => h.elim
theorem DvE.upd {k : κ} {v : V} {d : PyData} (dv : Dv K H v d) : ∀ {r : List (κ × V)} {t : List (κ × PyData)}, DvE K H r t → DvE K H (r.map fun kv => if kv.1 = k then (kv.1, v) else kv) (t.map fun e => if e.1 = k then (e.1, d) else e)
  | [], [], _ => trivial
  | (a, x) :: r, (b, y) :: t, ⟨e, dx, h⟩ => by
    subst e
    rw [List.map_cons, List.map_cons]
    by_cases q : a = k
    · rw [if_pos (show ((a, x) : κ × V).1 = k from q), if_pos (show ((a, y) : κ × PyData).1 = k from q)]
      exact ⟨rfl, dv, DvE.upd dv h⟩
    · rw [if_neg (show ¬ ((a, x) : κ × V).1 = k from q), if_neg (show ¬ ((a, y) : κ × PyData).1 = k from q)]
      exact ⟨rfl, dx, DvE.upd dv h⟩
  | [], _ :: _, h => h.elim
  | _ :: _, [], h => h.elim
theorem DvE.snoc {k : κ} {v : V} {d : PyData} (dv : Dv K H v d) : ∀ {r : List (κ × V)} {t : List (κ × PyData)}, DvE K H r t → DvE K H (r ++ [(k, v)]) (t ++ [(k, d)])
  | [], [], _ => ⟨rfl, dv, trivial⟩
  | (_, _) :: r, (_, _) :: t, h => ⟨h.1, h.2.1, DvE.snoc dv h.2.2⟩
  | [], _ :: _, h => h.elim
  | _ :: _, [], h => h.elim
theorem DvE.put {k : κ} {v : V} {d : PyData} {r : List (κ × V)} {t : List (κ × PyData)} (h : DvE K H r t) (dv : Dv K H v d) : DvE K H (putK r k v) (pt t k d) := by
  unfold putK pt
  rw [h.any]
  split
  · exact h.upd dv
  · exact h.snoc dv
end
theorem kD_inj : ∀ {a b : Key}, kD a = kD b → a = b
  | .inl _, .inl _, h => by injection h with h; rw [h]
  | .inr _, .inr _, h => by injection h with h; rw [h]
  | .inl _, .inr _, h => nomatch h
  | .inr _, .inl _, h => nomatch h
section
variable {K : PySem.W.Frag} {H : Hp}
theorem dvp_e : ∀ {kvs : List (Key × V)} {es : List (Key × PyData)}, DvP K H kvs (kvD es) → DvE K H kvs es ∧ ∀ e ∈ es, okK e.1
  | _, [], h => by cases h; exact ⟨trivial, fun _ z => nomatch z⟩
  | kvs, (k, d) :: es, h => by
    have h : DvP K H kvs ((kD k, d) :: kvD es) := h
    generalize e : kD k = kk at h
    cases h with
    | @cons k2 v r _ _ o dv t =>
      have := kD_inj e
      subst this
      obtain ⟨g1, g2⟩ := dvp_e t
      exact ⟨⟨rfl, dv, g1⟩, fun x hx => by
        rcases List.mem_cons.mp hx with z | z
        · rw [z]; exact o
        · exact g2 x z⟩
theorem e_dvp : ∀ {kvs : List (Key × V)} {es : List (Key × PyData)}, DvE K H kvs es → (∀ e ∈ es, okK e.1) → DvP K H kvs (kvD es)
  | [], [], _, _ => .nil
  | (_, _) :: r, (k, d) :: es, ⟨e, dv, h⟩, o => by
    subst e
    exact .cons (o _ List.mem_cons_self) dv (e_dvp h fun x hx => o x (List.mem_cons_of_mem _ hx))
  | [], _ :: _, h, _ => h.elim
  | _ :: _, [], h, _ => h.elim
theorem pt_ok {es : List (Key × PyData)} {k : Key} {d : PyData} (h : ∀ e ∈ es, okK e.1) (o : okK k) : ∀ e ∈ pt es k d, okK e.1 := fun e he => by
  unfold pt at he
  split at he
  · obtain ⟨x, hx, rfl⟩ := List.mem_map.mp he
    by_cases q : x.1 = k
    · rw [if_pos q]; exact h x hx
    · rw [if_neg q]; exact h x hx
  · rcases List.mem_append.mp he with z | z
    · exact h e z
    · rw [List.mem_singleton.mp z]; exact o
theorem dvt_e : ∀ {r : List (List Key × V)} {t : List (List Key × PyData)}, DvT K H r t → DvE K H r t
  | [], [], _ => trivial
  | (_, _) :: r, (_, _) :: t, h => ⟨h.1, h.2.1, dvt_e h.2.2⟩
  | [], _ :: _, h => h.elim
  | _ :: _, [], h => h.elim
theorem e_dvt : ∀ {r : List (List Key × V)} {t : List (List Key × PyData)}, DvE K H r t → DvT K H r t
  | [], [], _ => trivial
  | (_, _) :: r, (_, _) :: t, h => ⟨h.1, h.2.1, e_dvt h.2.2⟩
  | [], _ :: _, h => h.elim
  | _ :: _, [], h => h.elim
theorem Dv.key : ∀ {k : Key} {v : V}, Dv K H v (kD k) → v = kV k ∧ okK k
  | .inl _, _, h => by cases h with | int o => exact ⟨rfl, o⟩
  | .inr _, _, h => by cases h with | str o => exact ⟨rfl, o⟩
theorem DvAll.keys : ∀ {ks : List Key} {vs : List V}, DvAll K H vs (ks.map kD) → vs = ks.map kV
  | [], _, h => by cases h; rfl
  | k :: ks, _, h => by
    rw [List.map_cons] at h
    cases h with
    | cons a b => rw [List.map_cons, (Dv.key a).1, DvAll.keys b]
end
/-! own dicts: made, changed, read -/
section
variable {S : Type} {Wo : Wd S} {X : Cx} {W : WX} {K : PySem.W.Frag} {ta tb tc te ti : TE} {tl : TA} {t u : TS} {e e' a b ix f : Expr} {es : List Expr} {st : List Stmt} {pos p q pos' apos cpos : Pos} {wa wb we wi : DE S} {wl : DA S} {k n : Nat}
theorem hidden_new {c : Cn Wo} {σ : St} {H : Hp} {ρ : List Sl} {s : S} {q : Addr} (E : EnvD K c σ H ρ s) (hn : H q = none) : c.H0 q = none := by
  cases z : c.H0 q with
  | none => rfl
  | some o =>
    by_cases hw : q ∈ c.W.wa
    · exact absurd hn (E.tr q (List.mem_append_left _ (List.mem_append_left _ hw)))
    · have := E.ext q o z hw
      rw [hn] at this; cases this
/-- x = {}, its keys ints and texts -/
def wNewK {S : Type} (i : Nat) : DS S := fun ρ s D => ∀ p, D.nx (ρ.set i (.ownK p [])) s
theorem sd_newK (i : Nat) {x : Str} (hN : X.N.Nodup) (hi : X.N[i]? = some x) (hx : Loc X.env.scope x) (hs : swapsWith (.Dict [] [] p) (some (.Name x pos')) pos.line X.env = pure false := by rfl) (hf : X.fn x = true ∨ X.env.scope.names.lookup x = some .local := by first | exact .inl rfl | exact .inr rfl | assumption) :
    SD Wo X W (.Assign [.Name x pos'] (.Dict [] [] p) pos) (tAsg tDNewK (gName i)) (wNewK i) := ⟨ps_set hN hi hx pe_dnewK hs hf, fun c σ H ρ s D D' E hw to => by
  intro q hq
  obtain ⟨E1, sm⟩ := E.hideNew (o := .dK []) hq
  obtain ⟨E2, st⟩ := E1.setOwnG (i := i) (x := .ownK q []) rfl (fun Hh st => ⟨rfl, Nat.zero_le _, [], upd_same, .nil⟩) (hidden_new E hq)
  exact to.nx _ _ _ s E2 (sm.trans st) (hw q)⟩
/-- x = {}, its keys tuples -/
def wNewT {S : Type} (i : Nat) : DS S := fun ρ s D => ∀ p, D.nx (ρ.set i (.ownT p [])) s
theorem sd_newT (i : Nat) {x : Str} (hN : X.N.Nodup) (hi : X.N[i]? = some x) (hx : Loc X.env.scope x) (hs : swapsWith (.Dict [] [] p) (some (.Name x pos')) pos.line X.env = pure false := by rfl) (hf : X.fn x = true ∨ X.env.scope.names.lookup x = some .local := by first | exact .inl rfl | exact .inr rfl | assumption) :
    SD Wo X W (.Assign [.Name x pos'] (.Dict [] [] p) pos) (tAsg tDNewT (gName i)) (wNewT i) := ⟨ps_set hN hi hx pe_dnewT hs hf, fun c σ H ρ s D D' E hw to => by
  intro q hq
  obtain ⟨E1, sm⟩ := E.hideNew (o := .dT []) hq
  obtain ⟨E2, st⟩ := E1.setOwnG (i := i) (x := .ownT q []) rfl (fun Hh st => ⟨rfl, Nat.zero_le _, [], upd_same, trivial⟩) (hidden_new E hq)
  exact to.nx _ _ _ s E2 (sm.trans st) (hw q)⟩
/-- x[k] = e, x a dict of its own -/
def wPutK {S : Type} (i : Nat) (w wk : DE S) : DS S := fun ρ s D => match ρ[i]? with
  | some (.ownK p es) => w ρ s (fun d s1 => wk ρ s1 (fun y s2 => ∃ k, y = kD k ∧ es.length < limL ∧ D.nx (ρ.set i (.ownK p (pt es k d))) s2) fun e s' => D.er e ρ s') fun e s' => D.er e ρ s'
  | _ => False
theorem sd_putK (i : Nat) {x : Str} {px : Pos} (hr : Room k X.A) (h : ED Wo X W e te we) (hi : ED Wo X W ix ti wi) (hN : X.N[i]? = some x := by rfl) (hv : Vis X.env.scope x := by first | exact Or.inl rfl | exact Or.inr (Or.inl rfl) | exact Or.inr (Or.inr rfl)) (hdb : (x == ("__debug__" : Str)) = false := by decide) (hcd : (x == ("__classdict__" : Str)) = false := by decide)
    (hs : swapsWith e (some (.Subscript (.Name x px) ix pos')) pos.line X.env = pure false := by rfl) :
    SD Wo X W (.Assign [.Subscript (.Name x px) ix pos'] e pos) (sDPut (tVar i) ti te) (wPutK i we wi) :=
  ⟨ps_dput (hu_of hr) (pe_var hN hv hdb hcd) hi.pe h.pe hs, fun c σ H ρ s Dd D E hw to => by
    unfold wPutK at hw
    split at hw
    · rename_i q es hq
      refine h.go c σ H ρ s _ _ _ E hw (fun v H1 d s1 E1 st1 dv q1 => ?_) (to.err σ ρ)
      obtain ⟨o, g1, rfl, n1, kvs, hH, hA⟩ := E1.slot i _ hq
      refine ⟨_, g1, hi.go c σ H1 ρ s1 _ _ _ E1 q1 (fun u H2 y s2 E2 st2 du q2 => ?_) (to.err σ ρ)⟩
      obtain ⟨k, rfl, lt, q3⟩ := q2
      obtain ⟨ku, ok⟩ := Dv.key du
      subst ku
      obtain ⟨o, f1, f2, n2, kvs2, hH2, hA2⟩ := E2.slot i _ hq
      obtain ⟨ee, eo⟩ := dvp_e hA2
      refine ⟨q, _, rfl, DPut.k hH2 (by rw [ee.len]; exact Nat.lt_of_lt_of_le lt limL_size), ?_⟩
      obtain ⟨E3, st3⟩ := E2.updOwnG (o := .dK (putK kvs2 k v)) (y := .ownK q (pt es k d)) rfl rfl hq g1 ⟨_, hH2, .inr (.inl ⟨_, rfl⟩)⟩ ⟨rfl, Nat.le_trans (pt_len es k d) lt, _, upd_same, e_dvp (ee.put (Dv.same st2 _ _ dv)) (pt_ok eo ok)⟩
      exact to.nx σ _ _ s2 E3 (st1.trans (st2.trans st3)) q3
    · exact hw.elim⟩
/-- x[a, b] = e, x a dict of its own -/
def wPutT {S : Type} (i : Nat) (w : DE S) (wk : DA S) : DS S := fun ρ s D => match ρ[i]? with
  | some (.ownT p es) => w ρ s (fun d s1 => wk ρ s1 (fun as s2 => allK as fun ds => ∃ k : List Key, ds = k.map kD ∧ k.length ≤ limL ∧ es.length < limL ∧ D.nx (ρ.set i (.ownT p (pt es k d))) s2) fun e s' => D.er e ρ s') fun e s' => D.er e ρ s'
  | _ => False
theorem sd_putT (i : Nat) {x : Str} {px pt2 : Pos} {kt : Nat} (hr : Room k X.A) (h : ED Wo X W e te we) (hi : AD Wo X W es tl wl) (hN : X.N[i]? = some x := by rfl) (hv : Vis X.env.scope x := by first | exact Or.inl rfl | exact Or.inr (Or.inl rfl) | exact Or.inr (Or.inr rfl)) (hdb : (x == ("__debug__" : Str)) = false := by decide) (hcd : (x == ("__classdict__" : Str)) = false := by decide)
    (hs : swapsWith e (some (.Subscript (.Name x px) (.Tuple es kt pt2) pos')) pos.line X.env = pure false := by rfl) :
    SD Wo X W (.Assign [.Subscript (.Name x px) (.Tuple es kt pt2) pos'] e pos) (sDPut (tVar i) (tTup tl) te) (wPutT i we wl) :=
  ⟨ps_dput (hu_of hr) (pe_var hN hv hdb hcd) (pe_tup hi.pe) h.pe hs, fun c σ H ρ s Dd D E hw to => by
    unfold wPutT at hw
    split at hw
    · rename_i q es hq
      refine h.go c σ H ρ s _ _ _ E hw (fun v H1 d s1 E1 st1 dv q1 => ?_) (to.err σ ρ)
      obtain ⟨o, g1, rfl, n1, kvs, hH, hA⟩ := E1.slot i _ hq
      refine ⟨_, g1, hi.go c σ H1 ρ s1 _ _ _ E1 q1 (fun us H2 as s2 E2 st2 du q2 => ?_) (to.err σ ρ)⟩
      obtain ⟨ds, h1, q2⟩ := du.all q2
      obtain ⟨k, rfl, kl, lt, q3⟩ := q2
      have ku := DvAll.keys h1
      subst ku
      refine ⟨by rw [List.length_map]; exact Nat.le_trans kl limL_size, fun l hl => ?_⟩
      have E2' := E2.grow (same_upd (o := .tup (k.map kV)) hl)
      have st2' := st2.trans (stp_grow (c := c) (ρ := ρ) (same_upd (o := .tup (k.map kV)) hl))
      obtain ⟨o, f1, f2, n2, kvs2, hH2, hA2⟩ := E2'.slot i _ hq
      have ee := dvt_e hA2
      refine ⟨q, _, rfl, DPut.t hH2 upd_same (by rw [ee.len]; exact Nat.lt_of_lt_of_le lt limL_size), ?_⟩
      obtain ⟨E3, st3⟩ := E2'.updOwnG (o := .dT (putK kvs2 k v)) (y := .ownT q (pt es k d)) rfl rfl hq g1 ⟨_, hH2, .inr (.inr ⟨_, rfl⟩)⟩ ⟨rfl, Nat.le_trans (pt_len es k d) lt, _, upd_same, e_dvt (ee.put (Dv.same st2' _ _ dv))⟩
      exact to.nx σ _ _ s2 E3 (st1.trans (st2'.trans st3)) q3
    · exact hw.elim⟩
/-- what a lookup finds, as a value: the entry, or another one -/
theorem dv_look {κ : Type} [DecidableEq κ] {H : Hp} {r : List (κ × V)} {t : List (κ × PyData)} {k : κ} {z : V} {d : PyData} (h : DvE K H r t) (dz : Dv K H z d) : Dv K H ((valV r k).getD z) ((lk t k).getD d) := by
  rcases h.look (k := k) with ⟨a, b⟩ | ⟨v, x, a, b, c⟩
  · rw [a, b]; exact dz
  · rw [a, b]; exact c
theorem look_some {κ : Type} [DecidableEq κ] {H : Hp} {r : List (κ × V)} {t : List (κ × PyData)} {k : κ} (h : DvE K H r t) : (valV r k).isSome = (lk t k).isSome := by
  rcases h.look (k := k) with ⟨a, b⟩ | ⟨v, x, a, b, c⟩
  · rw [a, b]; rfl
  · rw [a, b]; rfl
/-- x.get(k), x a dict of its own -/
def wGetK {S : Type} (i : Nat) (wk : DE S) : DE S := fun ρ s Q E => match ρ[i]? with
  | some (.ownK _ es) => wk ρ s (fun y s1 => ∃ k, y = kD k ∧ Q ((lk es k).getD .none) s1) E
  | _ => False
theorem e_getK (i : Nat) {x : Str} {px : Pos} (hr : Room k X.A) (h : ED Wo X W e te we) (hN : X.N[i]? = some x := by rfl) (hv : Vis X.env.scope x := by first | exact Or.inl rfl | exact Or.inr (Or.inl rfl) | exact Or.inr (Or.inr rfl)) (hdb : (x == ("__debug__" : Str)) = false := by decide) (hcd : (x == ("__classdict__" : Str)) = false := by decide)
    (hbase : attributeBase (.Name x px) "get" X.env (eval (.Name x px) X.env) = eval (.Name x px) X.env := by rfl)
    (hfew : ((backTo cpos (starEach [e] X.env)).all (fun x => !x.1) && (backToKw cpos (keywordEach [] X.env)).all (fun x => x.1.isSome) && decide (([e] : List Expr).length + ([] : List Keyword).length + (if ([] : List Keyword).isEmpty then 0 else 1) < 30)) = true := by rfl)
    (hline : (apos.endLine == cpos.line) = true := by rfl) (htr : backTo cpos (starEach [e] X.env) = [(false, eval e X.env)] := by rfl) :
    ED Wo X W (.Call (.Attribute (.Name x px) "get" apos) [e] [] cpos) (tDGet1 (tVar i) te) (wGetK i we) :=
  ⟨pe_dget1 (hu_of hr) (pe_var hN hv hdb hcd) h.pe ⟨hbase, hfew, hline, htr⟩, fun c σ H ρ s Qd Ed Q E hw hv he => by
    unfold wGetK at hw
    split at hw
    · rename_i q es hq
      obtain ⟨o, g1, rfl, n1, kvs, hH, hA⟩ := E.slot i _ hq
      refine ⟨_, g1, q, rfl, .inl ⟨_, .inl hH⟩, h.go c σ H ρ s _ _ _ E hw (fun v H1 y s1 E1 st1 dv q1 => ?_) he⟩
      obtain ⟨k, rfl, q1⟩ := q1
      obtain ⟨ku, ok⟩ := Dv.key dv
      subst ku
      obtain ⟨o, f1, f2, n2, kvs2, hH2, hA2⟩ := E1.slot i _ hq
      obtain ⟨ee, eo⟩ := dvp_e hA2
      exact ⟨_, DGet.k hH2, hv _ _ _ s1 E1 st1 (dv_look ee .non) q1⟩
    · exact hw.elim⟩
/-- x.get((a, b)), x a dict of its own -/
def wGetT {S : Type} (i : Nat) (wk : DA S) : DE S := fun ρ s Q E => match ρ[i]? with
  | some (.ownT _ es) => wk ρ s (fun as s1 => allK as fun ds => ∃ k : List Key, ds = k.map kD ∧ k.length ≤ limL ∧ Q ((lk es k).getD .none) s1) E
  | _ => False
theorem e_getT (i : Nat) {x : Str} {px pt2 : Pos} {kt : Nat} (hr : Room k X.A) (h : AD Wo X W es tl wl) (hN : X.N[i]? = some x := by rfl) (hv : Vis X.env.scope x := by first | exact Or.inl rfl | exact Or.inr (Or.inl rfl) | exact Or.inr (Or.inr rfl)) (hdb : (x == ("__debug__" : Str)) = false := by decide) (hcd : (x == ("__classdict__" : Str)) = false := by decide)
    (hbase : attributeBase (.Name x px) "get" X.env (eval (.Name x px) X.env) = eval (.Name x px) X.env := by rfl)
    (hfew : ((backTo cpos (starEach [.Tuple es kt pt2] X.env)).all (fun x => !x.1) && (backToKw cpos (keywordEach [] X.env)).all (fun x => x.1.isSome) && decide (([.Tuple es kt pt2] : List Expr).length + ([] : List Keyword).length + (if ([] : List Keyword).isEmpty then 0 else 1) < 30)) = true := by rfl)
    (hline : (apos.endLine == cpos.line) = true := by rfl) (htr : backTo cpos (starEach [.Tuple es kt pt2] X.env) = [(false, eval (.Tuple es kt pt2) X.env)] := by rfl) :
    ED Wo X W (.Call (.Attribute (.Name x px) "get" apos) [.Tuple es kt pt2] [] cpos) (tDGet1 (tVar i) (tTup tl)) (wGetT i wl) :=
  ⟨pe_dget1 (hu_of hr) (pe_var hN hv hdb hcd) (pe_tup h.pe) ⟨hbase, hfew, hline, htr⟩, fun c σ H ρ s Qd Ed Q E hw hv he => by
    unfold wGetT at hw
    split at hw
    · rename_i q es hq
      obtain ⟨o, g1, rfl, n1, kvs, hH, hA⟩ := E.slot i _ hq
      refine ⟨_, g1, q, rfl, .inr ⟨_, .inl hH⟩, h.go c σ H ρ s _ _ _ E hw (fun us H1 as s1 E1 st1 du q1 => ?_) he⟩
      obtain ⟨ds, h1, q1⟩ := du.all q1
      obtain ⟨k, rfl, kl, q1⟩ := q1
      have ku := DvAll.keys h1
      subst ku
      refine ⟨by rw [List.length_map]; exact Nat.le_trans kl limL_size, fun l hl => ?_⟩
      have E2 := E1.grow (same_upd (o := .tup (k.map kV)) hl)
      have st2 := st1.trans (stp_grow (c := c) (ρ := ρ) (same_upd (o := .tup (k.map kV)) hl))
      obtain ⟨o, f1, f2, n2, kvs2, hH2, hA2⟩ := E2.slot i _ hq
      exact ⟨_, DGet.t hH2 upd_same, hv _ _ _ s1 E2 st2 (dv_look (dvt_e hA2) .non) q1⟩
    · exact hw.elim⟩
/-- x.get(k), x any dict of data -/
def wGet1 {S : Type} (wd wk : DE S) : DE S := fun ρ s Q E => wd ρ s (fun x s1 => ∃ es : List (Key × PyData), x = .dict (kvD es) ∧ wk ρ s1 (fun y s2 => ∃ k, y = kD k ∧ Q ((lk es k).getD .none) s2) E) E
theorem dct_at {H : Hp} {l : List Addr} {v : V} {es : List (Key × PyData)} (h : Dv K (hd H l) v (.dict (kvD es))) : ∃ a kvs, v = .ref a ∧ H a = some (.dK kvs) ∧ DvE K (hd H l) kvs es := by
  cases h with
  | dct a n b => exact ⟨_, _, rfl, hd_to _ _ _ _ a, (dvp_e b).1⟩
theorem e_get1 {o : Expr} (hr : Room k X.A) (ho : ED Wo X W o ta wa) (h : ED Wo X W e te we)
    (hbase : attributeBase o "get" X.env (eval o X.env) = eval o X.env := by rfl)
    (hfew : ((backTo cpos (starEach [e] X.env)).all (fun x => !x.1) && (backToKw cpos (keywordEach [] X.env)).all (fun x => x.1.isSome) && decide (([e] : List Expr).length + ([] : List Keyword).length + (if ([] : List Keyword).isEmpty then 0 else 1) < 30)) = true := by rfl)
    (hline : (apos.endLine == cpos.line) = true := by rfl) (htr : backTo cpos (starEach [e] X.env) = [(false, eval e X.env)] := by rfl) :
    ED Wo X W (.Call (.Attribute o "get" apos) [e] [] cpos) (tDGet1 ta te) (wGet1 wa we) :=
  ⟨pe_dget1 (hu_of hr) ho.pe h.pe ⟨hbase, hfew, hline, htr⟩, fun c σ H ρ s Qd Ed Q E hw hv he => ho.go c σ H ρ s _ _ _ E hw (fun v H1 x s1 E1 st1 dv q1 => by
    obtain ⟨es, rfl, q1⟩ := q1
    obtain ⟨a, kvs, rfl, ha, ee⟩ := dct_at dv
    refine ⟨a, rfl, .inl ⟨_, .inl ha⟩, h.go c σ H1 ρ s1 _ _ _ E1 q1 (fun u H2 y s2 E2 st2 du q2 => ?_) he⟩
    obtain ⟨k, rfl, q2⟩ := q2
    obtain ⟨ku, ok⟩ := Dv.key du
    subst ku
    obtain ⟨a2, kvs2, e2, ha2, ee2⟩ := dct_at (Dv.same st2 _ _ dv)
    cases e2
    exact ⟨_, DGet.k ha2, hv _ _ _ s2 E2 (st1.trans st2) (dv_look ee2 .non) q2⟩) he⟩
/-- x.get(k, z), x any dict of data -/
def wGet2 {S : Type} (wd wk wz : DE S) : DE S := fun ρ s Q E => wd ρ s (fun x s1 => ∃ es : List (Key × PyData), x = .dict (kvD es) ∧ wk ρ s1 (fun y s2 => ∃ k, y = kD k ∧ wz ρ s2 (fun z s3 => Q ((lk es k).getD z) s3) E) E) E
theorem e_get2 {o : Expr} (hr : Room k X.A) (ho : ED Wo X W o ta wa) (h : ED Wo X W e te we) (hz : ED Wo X W f tb wb)
    (hbase : attributeBase o "get" X.env (eval o X.env) = eval o X.env := by rfl)
    (hfew : ((backTo cpos (starEach [e, f] X.env)).all (fun x => !x.1) && (backToKw cpos (keywordEach [] X.env)).all (fun x => x.1.isSome) && decide (([e, f] : List Expr).length + ([] : List Keyword).length + (if ([] : List Keyword).isEmpty then 0 else 1) < 30)) = true := by rfl)
    (hline : (apos.endLine == cpos.line) = true := by rfl) (htr : backTo cpos (starEach [e, f] X.env) = [(false, eval e X.env), (false, eval f X.env)] := by rfl) :
    ED Wo X W (.Call (.Attribute o "get" apos) [e, f] [] cpos) (tDGet2 ta te tb) (wGet2 wa we wb) :=
  ⟨pe_dget2 (hu_of hr) ho.pe h.pe hz.pe ⟨hbase, hfew, hline, htr⟩, fun c σ H ρ s Qd Ed Q E hw hv he => ho.go c σ H ρ s _ _ _ E hw (fun v H1 x s1 E1 st1 dv q1 => by
    obtain ⟨es, rfl, q1⟩ := q1
    obtain ⟨a, kvs, rfl, ha, ee⟩ := dct_at dv
    refine ⟨a, rfl, .inl ⟨_, .inl ha⟩, h.go c σ H1 ρ s1 _ _ _ E1 q1 (fun u H2 y s2 E2 st2 du q2 => ?_) he⟩
    obtain ⟨k, rfl, q2⟩ := q2
    obtain ⟨ku, ok⟩ := Dv.key du
    subst ku
    refine hz.go c σ H2 ρ s2 _ _ _ E2 q2 (fun w H3 z s3 E3 st3 dz q3 => ?_) he
    obtain ⟨a2, kvs2, e2, ha2, ee2⟩ := dct_at (Dv.same (st2.trans st3) _ _ dv)
    cases e2
    exact ⟨_, DGet.k ha2, hv _ _ _ s3 E3 (st1.trans (st2.trans st3)) (dv_look ee2 dz) q3⟩) he⟩
/-- x[k], x any dict of data, its key not written as a slice -/
def wDIx {S : Type} (wd wk : DE S) : DE S := fun ρ s Q E => wd ρ s (fun x s1 => wk ρ s1 (fun y s2 => ∃ (es : List (Key × PyData)) (k : Key) (d : PyData), x = .dict (kvD es) ∧ y = kD k ∧ lk es k = some d ∧ Q d s2) E) E
theorem e_dix {o : Expr} (hr : Room k X.A) (ho : ED Wo X W o ta wa) (h : ED Wo X W e te we) (hs : NoSl e := by exact fun _ _ => rfl) : ED Wo X W (.Subscript o e pos) (tDGet ta te) (wDIx wa we) :=
  ⟨pe_dget (hu_of hr) ho.pe h.pe hs, fun c σ H ρ s Qd Ed Q E hw hv he => ho.go c σ H ρ s _ _ _ E hw (fun v H1 x s1 E1 st1 dv q1 => by
    refine h.go c σ H1 ρ s1 _ _ _ E1 q1 (fun u H2 y s2 E2 st2 du q2 => ?_) he
    obtain ⟨es, k, d, rfl, rfl, hl, q2⟩ := q2
    obtain ⟨ku, ok⟩ := Dv.key du
    subst ku
    obtain ⟨a2, kvs2, rfl, ha2, ee2⟩ := dct_at (Dv.same st2 _ _ dv)
    rcases ee2.look (k := k) with ⟨z, w⟩ | ⟨v, x, z, w, dx⟩
    · rw [hl] at w; cases w
    · rw [hl] at w; cases w
      exact ⟨_, v, rfl, by rw [← z]; exact DGet.k ha2, hv _ _ _ s2 E2 (st1.trans st2) dx q2⟩) he⟩
/-- x[k], x a dict of its own -/
def wOwnDIx {S : Type} (i : Nat) (wk : DE S) : DE S := fun ρ s Q E => match ρ[i]? with
  | some (.ownK _ es) => wk ρ s (fun y s1 => ∃ k d, y = kD k ∧ lk es k = some d ∧ Q d s1) E
  | _ => False
theorem e_dixO (i : Nat) {x : Str} {px : Pos} (hr : Room k X.A) (h : ED Wo X W e te we) (hN : X.N[i]? = some x := by rfl) (hv : Vis X.env.scope x := by first | exact Or.inl rfl | exact Or.inr (Or.inl rfl) | exact Or.inr (Or.inr rfl)) (hdb : (x == ("__debug__" : Str)) = false := by decide) (hcd : (x == ("__classdict__" : Str)) = false := by decide) (hs : NoSl e := by exact fun _ _ => rfl) : ED Wo X W (.Subscript (.Name x px) e pos) (tDGet (tVar i) te) (wOwnDIx i we) :=
  ⟨pe_dget (hu_of hr) (pe_var hN hv hdb hcd) h.pe hs, fun c σ H ρ s Qd Ed Q E hw hv he => by
    unfold wOwnDIx at hw
    split at hw
    · rename_i q es hq
      obtain ⟨o, g1, rfl, n1, kvs, hH, hA⟩ := E.slot i _ hq
      refine ⟨_, g1, h.go c σ H ρ s _ _ _ E hw (fun v H1 y s1 E1 st1 dv q1 => ?_) he⟩
      obtain ⟨k, d, rfl, hl, q1⟩ := q1
      obtain ⟨ku, ok⟩ := Dv.key dv
      subst ku
      obtain ⟨o, f1, f2, n2, kvs2, hH2, hA2⟩ := E1.slot i _ hq
      obtain ⟨ee, eo⟩ := dvp_e hA2
      rcases ee.look (k := k) with ⟨z, w⟩ | ⟨v, x, z, w, dx⟩
      · rw [hl] at w; cases w
      · rw [hl] at w; cases w
        exact ⟨_, v, rfl, by rw [← z]; exact DGet.k hH2, hv _ _ _ s1 E1 st1 dx q1⟩
    · exact hw.elim⟩
/-- k in x, x a dict of its own -/
def wInK {S : Type} (i : Nat) (wk : DE S) : DE S := fun ρ s Q E => match ρ[i]? with
  | some (.ownK _ es) => wk ρ s (fun y s1 => ∃ k, y = kD k ∧ Q (.bool (lk es k).isSome) s1) E
  | _ => False
theorem e_inK (i : Nat) {x : Str} {px : Pos} (hr : Room k X.A) (h : ED Wo X W e te we) (hN : X.N[i]? = some x := by rfl) (hv : Vis X.env.scope x := by first | exact Or.inl rfl | exact Or.inr (Or.inl rfl) | exact Or.inr (Or.inr rfl)) (hdb : (x == ("__debug__" : Str)) = false := by decide) (hcd : (x == ("__classdict__" : Str)) = false := by decide) : PC X .In e (.Name x px) (tDIn te (tVar i)) ∧
    (∀ (c : Cn Wo) σ H ρ s Qd Ed Q, EnvD X.K c σ H ρ s → wInK i we ρ s Qd Ed → VTo X.K c σ H ρ Qd Q → ErTo X.K c σ ρ Ed W → tDIn te (tVar i) σ H Q) :=
  ⟨pc_din (hu_of hr) h.pe (pe_var hN hv hdb hcd), fun c σ H ρ s Qd Ed Q E hw hv he => by
    unfold wInK at hw
    split at hw
    · rename_i q es hq
      refine h.go c σ H ρ s _ _ _ E hw (fun v H1 y s1 E1 st1 dv q1 => ?_) he
      obtain ⟨k, rfl, q1⟩ := q1
      obtain ⟨ku, ok⟩ := Dv.key dv
      subst ku
      obtain ⟨o, f1, rfl, n2, kvs2, hH2, hA2⟩ := E1.slot i _ hq
      obtain ⟨ee, eo⟩ := dvp_e hA2
      refine ⟨_, f1, q, _, rfl, DGet.k hH2, hv _ _ _ s1 E1 st1 ?_ q1⟩
      rw [look_some ee]
      exact .bl _
    · exact hw.elim⟩
/-- a dict of its own that is changed no more -/
def wFreezeK {S : Type} (i : Nat) (w : DS S) : DS S := fun ρ s D => match ρ[i]? with
  | some (.ownK _ es) => w (ρ.set i (.d (.dict (kvD es)))) s D
  | _ => False
theorem EnvD.freezeG {c : Cn Wo} {σ : St} {H : Hp} {ρ : List Sl} {s : S} {i : Nat} {r : Addr} {x : Sl} {d : PyData} (hx : own1 x = [r]) (E : EnvD K c σ H ρ s) (hi : ρ[i]? = some x) (dv : ∀ o Hh, SlotOk K (hd H (c.hs ρ)) H x o → Same (hd H (c.hs ρ)) Hh → (∀ u, H r = some u → Hh r = some u) → ∃ v, o = some v ∧ Dv K Hh v d) : EnvD K c σ H (ρ.set i (.d d)) s ∧ Stp c ρ (ρ.set i (.d d)) H H := by
  obtain ⟨o, h1, h2⟩ := E.slot i _ hi
  have rm : r ∈ owns ρ := own_memG hi hx
  have nr : r ∉ Wo.wa ++ c.R := fun z => (List.nodup_append.mp E.nd).2.2 r z r rm rfl
  have sb : (owns (ρ.set i (.d d))).Sublist (owns ρ) := owns_set_sub rfl
  -- r is no other variable's
  have gone : ∀ {ρ : List Sl} {i : Nat} {r : Addr} {x y : Sl}, own1 x = [r] → own1 y = [] → (owns ρ).Nodup → ρ[i]? = some x → r ∉ owns (ρ.set i y) := by
    intro ρ
    induction ρ with
    | nil => intro i r x y _ _ _ h; simp at h
    | cons z l ih =>
      intro i r x y ox oy nd h
      have nd : (own1 z ++ owns l).Nodup := nd
      cases i with
      | zero =>
        simp at h; subst h
        show r ∉ own1 y ++ owns l
        rw [oy, List.nil_append]
        exact fun q => (List.nodup_append.mp nd).2.2 r (by rw [ox]; simp) r q rfl
      | succ i =>
        show r ∉ own1 z ++ owns (l.set i y)
        intro q
        rcases List.mem_append.mp q with q | q
        · exact (List.nodup_append.mp nd).2.2 r q r (own_memG (i := i) (by simpa using h) ox) rfl
        · exact ih ox oy (List.nodup_append.mp nd).2.1 (by simpa using h) q
  have ro : r ∉ owns (ρ.set i (.d d)) := gone hx rfl (List.nodup_append.mp E.nd).2.1 hi
  have rh : r ∉ c.hs (ρ.set i (.d d)) := fun z => by
    rcases List.mem_append.mp z with z | z
    · exact nr z
    · exact ro z
  have sub : ∀ a ∈ c.hs (ρ.set i (.d d)), a ∈ c.hs ρ := fun a ha => by
    rcases List.mem_append.mp ha with z | z
    · exact List.mem_append_left _ z
    · exact List.mem_append_right _ (sb.subset z)
  have st : Stp c ρ (ρ.set i (.d d)) H H := hd_sub sub
  refine ⟨⟨by simp [E.len], fun j y hy => ?_, E.nd.sublist (List.Sublist.append (List.Sublist.refl _) sb), fun a ha => E.tr a (sub a ha), E.g, E.ext, fun b hb => E.new b (sb.subset hb)⟩, st⟩
  by_cases hj : i = j
  · subst hj
    rw [List.getElem?_set_self (List.getElem?_eq_some_iff.mp hi).1] at hy
    cases hy
    exact ⟨_, h1, dv o _ h2 st fun u hu => by rw [hd_out rh]; exact hu⟩
  · rw [List.getElem?_set_ne hj] at hy
    obtain ⟨o, g1, g2⟩ := E.slot j y hy
    exact ⟨o, g1, g2.same st fun _ _ _ => rfl⟩
theorem sd_freezeK (i : Nat) {w : DS S} (h : SSD Wo X W st t w) : SSD Wo X W st t (wFreezeK i w) :=
  ⟨h.pe, fun c σ H ρ s Dd D E hw to => by
    unfold wFreezeK at hw
    split at hw
    · rename_i r es hi
      obtain ⟨E1, st⟩ := E.freezeG (r := r) (d := .dict (kvD es)) rfl hi fun o Hh h2 st hu => by
        obtain ⟨rfl, n, kvs, hH, hA⟩ := h2
        exact ⟨_, rfl, .dct (hu _ hH) (by unfold kvD; rw [List.length_map]; exact n) (DvP.same st _ _ hA)⟩
      exact h.go c σ H _ s Dd D E1 hw (to.from st)
    · exact hw.elim⟩
/-- return x, x a dict of its own -/
def wRetK {S : Type} (i : Nat) : DS S := fun ρ s D => match ρ[i]? with
  | some (.ownK _ es) => D.rt (.dict (kvD es)) s
  | _ => False
theorem sd_retK (i : Nat) {x : Str} {px : Pos} (hN : X.N[i]? = some x := by rfl) (hv : Vis X.env.scope x := by first | exact Or.inl rfl | exact Or.inr (Or.inl rfl) | exact Or.inr (Or.inr rfl)) (hdb : (x == ("__debug__" : Str)) = false := by decide) (hcd : (x == ("__classdict__" : Str)) = false := by decide) :
    SD Wo X W (.Return (some (.Name x px)) pos) (tRet (tVar i)) (wRetK i) :=
  ⟨ps_ret (pe_var hN hv hdb hcd), fun c σ H ρ s Dd D E hw to => by
    unfold wRetK at hw
    split at hw
    · rename_i q es hq
      obtain ⟨o, h1, rfl, n, kvs, hH, hA⟩ := E.slot i _ hq
      have nw : q ∉ Wo.wa ++ c.R := fun z => (List.nodup_append.mp E.nd).2.2 q z q (own_memG hq rfl) rfl
      exact ⟨_, h1, to.rt _ H _ s E.g E.ext (.dct (by rw [hd_out nw]; exact hH) (by unfold kvD; rw [List.length_map]; exact n) (DvP.same (hd_sub fun a h => List.mem_append_left _ h) _ _ hA)) hw⟩
    · exact hw.elim⟩
end
end Dt

set_option Elab.async false
set_option linter.all false
set_option autoImplicit false
set_option maxRecDepth 100000
namespace HT
open PySem PySem.Spec PyProof.Rows
section
variable {prog : Program} {w : World} {A : Around} {E : Value → Shared → Prop} {s : Shared}
theorem tail_applied {sl : Addr} {vl vu vs : Value} {n : Nat} {Q : Int × Int × Nat → Shared → Prop} (hs : s.heap.IsSliceOf sl vl vu vs) (pl : IsPart vl none) (pu : IsPart vu (some 0)) (ps : IsPart vs (some (-1)))
    (h : Q ((n : Int) - 1, -1, n - 1) s) : wpAny (model prog w) A (Builtin.Slice.sliceApplied (.ref sl) (pure (n : Int))) Q E s := by
  obtain ⟨os, hos, hcs, hds⟩ := id hs
  unfold Builtin.Slice.sliceApplied Builtin.Slice.sliceFields
  apply wpAny_bind
  apply wpAny_bind
  apply wpAny_field hos hds (x := vl) rfl
  apply wpAny_bind
  apply wpAny_field hos hds (x := vu) rfl
  apply wpAny_bind
  apply wpAny_field hos hds (x := vs) rfl
  apply wpAny_pure
  apply wpAny_bind
  apply slicePart_ ps
  show wpAny _ _ (if ((-1 : Int) == 0) = true then _ else _) _ _ s
  rw [if_neg (by decide)]
  apply wpAny_bind
  apply slicePart_ pl
  apply wpAny_bind
  apply slicePart_ pu
  apply wpAny_bind
  apply wpAny_pure
  have e1 : Builtin.Slice.slicePlaces (Builtin.Slice.sliceAdjust none (some 0) (-1) (n : Int)).1 (Builtin.Slice.sliceAdjust none (some 0) (-1) (n : Int)).2 (-1) = n - 1 := by
    unfold Builtin.Slice.sliceAdjust Builtin.Slice.slicePlaces
    simp
    omega
  have e0 : (Builtin.Slice.sliceAdjust none (some 0) (-1) (n : Int)).1 = (n : Int) - 1 := by
    unfold Builtin.Slice.sliceAdjust
    simp
  show wpAny _ _ (match Builtin.Slice.sliceAdjust none (some 0) (-1) (n : Int) with | (lo, hi) => pure (lo, (-1 : Int), Builtin.Slice.slicePlaces lo hi (-1))) _ _ s
  generalize Builtin.Slice.sliceAdjust none (some 0) (-1) (n : Int) = p at e0 e1 ⊢
  obtain ⟨lo, hi⟩ := p
  dsimp only at e0 e1 ⊢
  subst e0
  rw [e1]
  exact wpAny_pure h
theorem tail_pick (xs : Array Value) : ((List.range (xs.size - 1)).filterMap fun (m : Nat) => xs[(((xs.size : Int) - 1) + (m : Int) * (-1)).toNat]?) = (xs.toList.drop 1).reverse := by
  obtain ⟨l⟩ := xs
  apply List.ext_getElem?
  have e : ((List.range ((⟨l⟩ : Array Value).size - 1)).filterMap fun (m : Nat) => (⟨l⟩ : Array Value)[((((⟨l⟩ : Array Value).size : Nat) : Int) - 1 + (m : Int) * (-1)).toNat]?) = (List.range (l.length - 1)).filterMap fun m => l[l.length - 1 - m]? := by
    apply congrFun
    apply congrArg
    funext m
    have : ((((⟨l⟩ : Array Value).size : Nat) : Int) - 1 + (m : Int) * (-1)).toNat = l.length - 1 - m := by
      show (((l.length : Nat) : Int) - 1 + (m : Int) * (-1)).toNat = _
      omega
    rw [this]
    simp
  rw [e]
  have go : ∀ n, n ≤ l.length - 1 → (List.range n).filterMap (fun m => l[l.length - 1 - m]?) = ((l.drop (l.length - n)).reverse) := by
    intro n
    induction n with
    | zero => intro _; simp
    | succ n ih =>
      intro h
      rw [List.range_succ, List.filterMap_append, ih (by omega)]
      have hk : l.length - 1 - n < l.length := by omega
      rw [List.filterMap_cons, List.getElem?_eq_getElem hk]
      have : l.length - (n + 1) = l.length - 1 - n := by omega
      rw [this, List.drop_eq_getElem_cons hk, List.reverse_cons]
      have : l.length - 1 - n + 1 = l.length - n := by omega
      rw [this]
      rfl
  intro i
  rw [go _ (Nat.le_refl _)]
  by_cases z : l.length = 0
  · have : l = [] := List.length_eq_zero_iff.mp z
    subst this
    rfl
  · have : l.length - (l.length - 1) = 1 := by omega
    rw [this]
/-- t[:0:-1] -/
theorem tail_tuple {t sl : Addr} {items : Array Value} {vl vu vs : Value} {Q : Value → Shared → Prop} (ht : IsTup s.heap t items) (hs : s.heap.IsSliceOf sl vl vu vs) (pl : IsPart vl none) (pu : IsPart vu (some 0)) (ps : IsPart vs (some (-1)))
    (h1 : Q (.ref s.heap.objs.size) { s with heap := s.heap.push { cls := .type "tuple", data := .seq (items.toList.drop 1).reverse.toArray } }) (hz : items.size ≤ sizeLine) : wpAny (model prog w) A (getItem (.ref t) (.ref sl)) Q E s := by
  obtain ⟨os, hos, hcs, hds⟩ := id hs
  have isSl : s.TypeIs (.ref sl) "slice" := ⟨os, hos, hcs⟩
  unfold getItem
  try with_reducible refine wpAny_holding ?_
  first | refine wpAny_bind (wpAny_pure ?_) | skip
  apply wpAny_bind
  apply wpAny_sequenceKey ht.typeIs (by decide)
  apply wpAny_bind
  refine wpAny_callSpecial?_slot (name := Str.ofString "__getitem__") ht.typeIs PyProof.Rows.slot_tuple_getitem (wpAny_call_entry PyProof.Rows.slot_tuple_getitem ht.typeIs entry_tuple_getitem ?_ (args_tuple_getitem _ _))
  show wpAny _ _ (Builtin.Tuple.tupleItemsOf (.ref t) >>= _) _ _ s
  apply wpAny_bind
  apply tupleItemsOf_ ht
  apply wpAny_bind
  apply wpAny_typeOf isSl
  rw [if_pos (by decide)]
  apply wpAny_bind
  apply tail_applied hs pl pu ps
  have no : ¬ (((((items.size : Int) - 1) == 0) && ((-1 : Int) == 1) && (items.size - 1 == items.size)) = true) := by simp
  show wpAny _ _ (if ((((items.size : Int) - 1) == 0) && ((-1 : Int) == 1) && (items.size - 1 == items.size)) = true then _ else _) _ _ s
  rw [if_neg no]
  have sz : sizeOk (.seq ((List.range (items.size - 1)).filterMap fun (m : Nat) => items[(((items.size : Int) - 1) + (m : Int) * (-1)).toNat]?).toArray) := by
    rw [tail_pick]
    show (items.toList.drop 1).reverse.toArray.size ≤ sizeLine
    simp
    omega
  rw [← tail_pick] at h1
  first
    | exact wpAny_bind (m := Builtin.Tuple.tupleExact _) (wpAny_newObj_type (wpAny_pure ⟨_, rfl, wpAny_pure h1⟩) sz)
    | exact wpAny_bind (m := Builtin.Tuple.tupleExact _) (wpAny_newObj_type (wpAny_bind (wpAny_pure (wpAny_pure ⟨_, rfl, wpAny_pure h1⟩))) sz)
    | exact wpAny_bind (wpAny_bind (m := Builtin.Tuple.tupleExact _) (wpAny_newObj_type (wpAny_pure (wpAny_pure ⟨_, rfl, wpAny_pure h1⟩)) sz))
end
end HT
namespace Dt
open PySem PySem.Spec L2
section
variable {X : Cx} {K : PySem.W.Frag}
/-- t[:0:-1], t a tuple -/
def tTailT (K : PySem.W.Frag) (te : TE) : TE := fun σ H Q => te σ H fun x H1 => ∃ a xs, x = .ref a ∧ SqT K H1 a xs ∧ ∀ p, H1 p = none → Q (.ref p) (upd H1 p (.tup (xs.drop 1).reverse))
open PyProof.Rows in
theorem pe_tailT {e : Expr} {te : TE} {k k0 : Nat} {p0 p1 p2 p3 pos : Pos} (he : PE X e te) : PE X (.Subscript e (.Slice none (some (.Constant (.int 0) k0 p0)) (some (.UnaryOp .USub (.Constant (.int 1) k p1) p2)) p3) pos) (tTailT X.K te) := by
  constructor
  intro pins s σ H Q I h
  apply PyProof.Rows.Subscript_
  apply thn (he.run pins s σ H _ I h)
  rintro v s1 ⟨x, H1, I1, r1, a, xs, rfl, hx, q⟩
  cases r1
  have step : PO X (some (.UnaryOp .USub (.Constant (.int 1) k p1) p2)) (tPart (tUn (rU fun i => .int (-i)) (tC (.int 1)))) := po_some (pe_un un_neg pe_int)
  have zero : PO X (some (.Constant (.int 0) k0 p0)) (tPart (tC (.int 0))) := po_some pe_int
  apply wpAny_Slice
  apply thn (po_none.run pins s1 σ H1 (fun o H2 => o = none ∧ H2 = H1) I1 ⟨rfl, rfl⟩)
  rintro vl s2 ⟨l, H2, I2, pl, rfl, rfl⟩
  apply thn (zero.run pins s2 σ H2 (fun o H3 => o = some 0 ∧ H3 = H2) I2 ⟨0, rfl, rfl, rfl⟩)
  rintro vu s3 ⟨u, H3, I3, pu, rfl, rfl⟩
  apply thn (step.run pins s3 σ H3 (fun o H4 => o = some (-1) ∧ H4 = H3) I3 ⟨1, rfl, -1, rfl, rfl, rfl⟩)
  rintro vs s4 ⟨o, H4, I4, ps, rfl, rfl⟩
  have I5 : Inv X pins σ H4 { s4 with heap := s4.heap.push { cls := .type "slice", data := .fields #[vl, vu, vs] } } := I4.kept (t' := s4.toks) fun b ob q => Heap.get?_push_of_some _ q
  obtain ⟨its, r, ht, hz⟩ := I5.tuple hx
  have hl := r.length
  show wpAny (model X.prog X.w) X.A (subscriptTail e _ (.ref a) (.ref s4.heap.objs.size)) (EP X pins σ Q) X.xe _
  refine tail_any (ops := [.ref a, .ref s4.heap.objs.size]) ht.typeIs PyProof.Rows.slot_tuple_getitem.lookup ?_ (by with_unfolding_all rfl)
  refine HT.tail_tuple ht (Heap.IsSliceOf.new _ vl vu vs) pl pu ps ?_ (by rw [List.size_toArray]; omega)
  refine ⟨.ref _, _, I5.laid (t' := s4.toks) (o := .tup (xs.drop 1).reverse) (fun b ob q => Heap.get?_push_of_some _ q) (Nat.le_refl _) ?_, rfl, q _ (I5.hok.fresh (Nat.le_refl _))⟩
  exact ⟨by rw [List.length_reverse, List.length_drop]; omega, _, (r.drop 1).reverse, IsTup.new _ _⟩
def dTail : PyData → (PyData → Prop) → Prop
  | .tuple xs, Q => Q (.tuple (xs.drop 1).reverse)
  | _, _ => False
end
section
variable {S : Type} {Wo : Wd S} {X : Cx} {W : WX} {K : PySem.W.Frag} {ta tb te : TE} {tl : TA} {e e' a b : Expr} {es : List Expr} {wa wb we : DE S} {wl : DA S} {pos p q pos' pos2 apos cpos : Pos} {k n : Nat}
theorem e_tail {k k0 : Nat} {p0 p1 p2 p3 : Pos} (ha : ED Wo X W e ta wa) (hK : X.K = K := by rfl) : ED Wo X W (.Subscript e (.Slice none (some (.Constant (.int 0) k0 p0)) (some (.UnaryOp .USub (.Constant (.int 1) k p1) p2)) p3) pos) (tTailT K ta) (wUn dTail wa) := by
  subst hK
  exact ⟨pe_tailT ha.pe, fun c σ H ρ s Qd Ed Q E hw hv he => ha.go c σ H ρ s _ Ed _ E hw (fun v H1 d s1 E1 st1 dv q1 => by
    cases d with
    | tuple xs =>
      cases dv with
      | tup h n a => exact ⟨_, _, rfl, same_seqT (hd_to _ _) h, fun p hp => hv _ _ _ s1 (E1.grow (same_upd hp)) (st1.trans (stp_grow (same_upd hp))) (Dv.newT E1.tr hp (a.drop 1).reverse (by rw [List.length_reverse, List.length_drop]; omega)) q1⟩
    | _ => exact q1.elim) he⟩
/-- x += [..], x a list of its own -/
def wAugL {S : Type} (i : Nat) (w : DL S) : DS S := wExt i w
theorem sd_augL (i : Nat) {x : Str} {w : DL S} (hN : X.N.Nodup) (hi : X.N[i]? = some x) (hx : Loc X.env.scope x) (h : FD Wo X W e ta w) (hf : X.fn x = true ∨ X.env.scope.names.lookup x = some .local := by first | exact .inl rfl | exact .inr rfl | assumption) :
    SD Wo X W (.AugAssign (.Name x pos') .Add e pos) (tAug i ta rExt2) (wAugL i w) :=
  ⟨ps_aug hN hi hx h.pe iop_ext hf, fun c σ H ρ s Dd D E hw to => by
    unfold wAugL wExt at hw
    split at hw
    · rename_i q xs hq
      obtain ⟨o, h1, rfl, n, vs, hH, hA⟩ := E.slot i _ hq
      refine ⟨_, h1, h.go c σ H ρ s _ _ _ E hw (fun b ws H1 ds s1 E1 sm hb a n' hn q1 => ?_) (to.err σ ρ)⟩
      obtain ⟨n1, q1⟩ := q1
      have st2 : Same (hd H1 ((c.hide b).hs ρ)) (hd H1 (c.hs ρ)) := hd_sub hs_hide_sub
      have E1' := E1.unhide
      obtain ⟨o, g1, g2, n2, vs1, hH1, hA1⟩ := E1'.slot i _ hq
      refine ⟨q, b, vs1, ws, rfl, rfl, hH1, hb, by rw [hA1.length, a.length, ← List.length_append]; exact Nat.le_trans n1 limL_size, ?_⟩
      obtain ⟨E2, st3⟩ := E1'.updOwn (ys := xs ++ ds) hq (hA1.append (DvAll.same st2 _ _ a)) n1
      have e2 : σ.set i (some (.ref q)) = σ := by
        apply List.ext_getElem?
        intro j
        by_cases hj : i = j
        · subst hj
          rw [List.getElem?_set_self (List.getElem?_eq_some_iff.mp h1).1, h1]
        · rw [List.getElem?_set_ne hj]
      rw [e2]
      exact to.nx σ _ _ s1 E2 (sm.trans (st2.trans st3)) q1
    · exact hw.elim⟩
/-- list(range(n)), a new list -/
def wLstRg {S : Type} (w : DE S) : DE S := fun ρ s Q E => w ρ s (fun d s1 => match d with
  | .int j => 0 ≤ j ∧ j ≤ 4194304 ∧ Q (.list (rngD 0 j.toNat)) s1
  | _ => False) E
theorem e_lstRg (B : Bt X.mg) (hc : X.calm = true) (ha : ED Wo X W a ta wa) (hg : Gl X "list" := by rfl) (hg2 : Gl X "range" := by rfl)
    (na : starEach [a] X.env = (false, eval a X.env) :: starEach [] X.env := by rfl) (nb : starEach [.Call (.Name "range" p) [a] [] pos] X.env = (false, eval (.Call (.Name "range" p) [a] [] pos) X.env) :: starEach [] X.env := by rfl) :
    ED Wo X W (.Call (.Name "list" q) [.Call (.Name "range" p) [a] [] pos] [] pos2) (tLstRg (tRg1 ta)) (wLstRg wa) :=
  ⟨pe_listRg hc hg (B.no _ (by decide)) (prg_1 hg2 (B.no _ (by decide)) ha.pe na) nb, fun c σ H ρ s Qd Ed Q E hw hv he => ha.go c σ H ρ s _ Ed _ E hw (fun v H1 d s1 E1 st1 dv q1 => by
    match d, dv, q1 with
    | .int j, dv, q1 =>
      obtain ⟨j0, j1, q2⟩ := q1
      cases dv
      refine ⟨j, rfl, RgOk.of_le (by omega) (by omega) (by omega) j0, fun t nt => hv _ _ _ s1 (E1.grow (same_upd nt)) (st1.trans (stp_grow (same_upd nt))) ?_ q2⟩
      have ej : j = ((j.toNat : Nat) : Int) := by omega
      rw [ej]
      have tn : t ∉ c.hs ρ := fun z => E1.tr t z nt
      have st2 := stp_grow (c := c) (ρ := ρ) (same_upd (o := .lst (rgV 0 ((j.toNat : Nat) : Int))) nt)
      exact .lst (by rw [hd_out tn]; exact upd_same) (by unfold rngD limL; simp; omega) (DvAll.same st2 _ _ (dv_rng _ (by omega)))) he⟩
/-- o.split(e) -/
def dSplit : Dop := fun x y Q => match x, y with
  | .str a, .str b => (b.length == 0) = false ∧ a.length + 2 ≤ limL ∧ (Txt.split a b).length ≤ limL ∧ (∀ z ∈ Txt.split a b, okS z) ∧ Q (.list ((Txt.split a b).map PyData.str))
  | _, _ => False
def tSplit (to te : TE) : TE := tM1 (fun x xs H Q => ∃ a b, x = .str a ∧ xs = [.str b] ∧ (b.length == 0) = false ∧ a.length + 2 ≤ sizeLine ∧ rNewStrs (Txt.split a b) H Q) to te
theorem dv_strs {H : Hp} : ∀ {xs : List Str}, (∀ z ∈ xs, okS z) → DvAll K H (xs.map V.str) (xs.map PyData.str)
  | [], _ => .nil
  | x :: xs, h => .cons (.str (h x List.mem_cons_self)) (dv_strs fun z hz => h z (List.mem_cons_of_mem _ hz))
def wSplit {S : Type} (wa wb : DE S) : DE S := fun ρ s Q E => wa ρ s (fun x s1 => (∃ a, x = .str a) ∧ wb ρ s1 (fun y s2 => dSplit x y fun z => Q z s2) E) E
theorem e_split {o : Expr} (ho : ED Wo X W o ta wa) (he' : ED Wo X W e te we) (hs : starEach [e] X.env = [(false, eval e X.env)] := by rfl) (hbase : attributeBase o "split" X.env (eval o X.env) = eval o X.env := by rfl) (hline : (apos.endLine == pos.line) = true := by rfl) :
    ED Wo X W (.Call (.Attribute o "split" apos) [e] [] pos) (tSplit ta te) (wSplit wa we) :=
  ⟨pe_split ho.pe he'.pe hs hbase hline, fun c σ H ρ s Qd Ed Q E hw hv he => ho.go c σ H ρ s _ _ _ E hw (fun v H1 x s1 E1 st1 dv q1 => by
    obtain ⟨⟨a, rfl⟩, q1⟩ := q1
    cases dv
    refine ⟨⟨a, rfl⟩, he'.go c σ H1 ρ s1 _ _ _ E1 q1 (fun u H2 y s2 E2 st2 du q2 => ?_) he⟩
    match y, du, q2 with
    | .str b, du, q2 =>
      cases du
      obtain ⟨h1, h2, h3, h4, q3⟩ := q2
      refine ⟨a, b, rfl, rfl, h1, Nat.le_trans h2 limL_size, fun t nt => hv _ _ _ s2 (E2.grow (same_upd nt)) (st1.trans (st2.trans (stp_grow (same_upd nt)))) ?_ q3⟩
      have tn : t ∉ c.hs ρ := fun z => E2.tr t z nt
      exact .lst (by rw [hd_out tn]; exact upd_same) (by rw [List.length_map]; exact h3) (dv_strs h4)) he⟩
end
end Dt

set_option Elab.async false
set_option linter.all false
set_option autoImplicit false
set_option maxRecDepth 100000
namespace Dt
open PySem PySem.Spec L2

/-! ### a def that a variable holds -/
/-- at v stands a def with this promise -/
structure AtF (P : Program) (w : World) (K : PySem.W.Frag) (mg : Str → Option Value) (base : Heap) (CX : CXT) (k n : Nat) (F : List PyData → (PyData → Prop) → (Er → Prop) → Prop) (v : V) : Prop where
  ex : ∃ (f : Addr) (fd : FuncData) (ps : List Str), v = .ref f ∧ ps.length = n ∧ PySem.W.keepIn K (.ref f) = true ∧ Binds K fd ps [] ∧ FnOk P w K mg base CX k f fd ps (spP K n F)
def tCallV (i : Nat) (A : V → Prop) (sp : Sp) (E : L2.St → XK) (t : TA) : TE := fun σ H Q => ∃ v, σ[i]? = some (some v) ∧ A v ∧ t σ H fun vs H1 => sp vs H1 Q (E σ)
def wCallV {S : Type} (i : Nat) (A : V → Prop) (n : Nat) (F : List PyData → (PyData → Prop) → (Er → Prop) → Prop) (wl : DA S) : DE S := fun ρ s Q E => match ρ[i]? with
  | some (.raw v) => A v ∧ wCallP (fun ds Q E => ds.length = n ∧ F ds Q E) wl ρ s Q E
  | _ => False
section
variable {S : Type} {Wo : Wd S} {X : Cx} {W : WX} {K : PySem.W.Frag} {ta tb te : TE} {tl : TA} {e e' a b : Expr} {es : List Expr} {kws : List Keyword} {wa wb we : DE S} {wl : DA S} {pos p q : Pos} {k n : Nat}
theorem e_callV (i : Nat) {x : Str} {CX : CXT} {A : V → Prop} {F : List PyData → (PyData → Prop) → (Er → Prop) → Prop} (hA : ∀ v, A v → AtF X.prog X.w K X.mg X.base CX k n F v) (hr : Room k X.A) (hx : ∀ σ, PassesAt CX X σ (WE W σ)) (ha : AD Wo X W (e :: es) tl wl) (hK : X.K = K := by rfl)
    (hN : X.N[i]? = some x := by rfl) (hv : Vis X.env.scope x := by first | exact Or.inl rfl | exact Or.inr (Or.inl rfl) | exact Or.inr (Or.inr rfl)) (hdb : (x == ("__debug__" : Str)) = false := by decide) (hcd : (x == ("__classdict__" : Str)) = false := by decide)
    (he : starEach (e :: es) X.env = (false, eval e X.env) :: starEach es X.env := by rfl) (hpl : (backTo pos (starEach es X.env)).any (·.1) = false := by rfl) :
    ED Wo X W (.Call (.Name x p) (e :: es) [] pos) (tCallV i A (spP K n F) (WE W) tl) (wCallV i A n F wl) := by
  subst hK
  refine ⟨⟨fun pins s σ H Q I h => ?_⟩, fun c σ H ρ s Qd Ed Q E hw hv' he' => ?_⟩
  · obtain ⟨v, hs, hAv, ht⟩ := h
    obtain ⟨f, fd, ps, rfl, hl, hk, hb, F'⟩ := (hA v hAv).ex
    refine wpAny_Call_Name_kw (thn ((pe_var (pos := p) hN hv hdb hcd).run pins s σ H (fun v H1 => v = .ref f ∧ H1 = H) I ⟨.ref f, hs, rfl, rfl⟩) fun u s1 ⟨v, H1, I1, r1, q1⟩ => ?_)
    obtain ⟨rfl, rfl⟩ := q1
    cases r1
    exact PySem.W.callWith_K (h₀ := X.base) I.ok.mod.kin hk (thn (ha.pe.run pos pins s1 σ _ _ I1 ht) fun us s2 ⟨vs, H2, I2, r, q⟩ => ⟨I2.kIn, run_fnO F' hr hb (hx σ) I2 r q⟩) he hpl
  · unfold wCallV at hw
    split at hw
    · rename_i v hy
      obtain ⟨hAv, hw⟩ := hw
      obtain ⟨o, h1, h2⟩ := E.slot i _ hy
      have h2 : o = some v := h2
      subst h2
      exact ⟨v, h1, hAv, ha.go c σ H ρ s _ Ed _ E hw (fun vs H1 as s1 E1 st1 a1 q1 => by
        obtain ⟨ds, g1, g2, g3⟩ := a1.all q1
        exact ⟨by rw [g1.length]; exact g2, c.hs ρ, ds, _, _, E1.nd, E1.tr, g1, g3, fun v H' d sm dv q => hv' v H' d s1 (E1.grow sm) (st1.trans (stp_grow sm)) dv q,
          fun e cls dd H' sm ei q => he' e cls dd H' s1 (E1.grow sm) ei q⟩) he'⟩
    · exact hw.elim
/-- a def of the text, handed on -/
def wFun {S : Type} (v : V) (w : DA S) : DA S := fun ρ s Q E => w ρ s (fun as s1 => Q (.raw v :: as) s1) E
theorem ad_fun {x : Str} {f : Addr} {r : DA S} (hm : X.mg x = some (.ref f)) (hr : AD Wo X W es tl r) (hg : Gl X x := by rfl) (hd : (x == ("__debug__" : Str)) = false := by decide)
    (hs : starEach (.Name x p :: es) X.env = (false, eval (.Name x p) X.env) :: starEach es X.env := by rfl) : AD Wo X W (.Name x p :: es) (tCons (tC (.ref f)) tl) (wFun (.ref f) r) :=
  ⟨pa_cons (pe_glob hg hm (show RelV (.ref f) (.ref f) from rfl) hd) hr.pe hs, fun c σ H ρ s Qd Ed Q E hw hv he => hr.go c σ H ρ s _ Ed _ E hw (fun vs H2 as s2 E2 st2 a2 q2 => hv (.ref f :: vs) H2 (.raw (.ref f) :: as) s2 E2 st2 ⟨rfl, a2⟩ q2) he⟩
/-! ### f(k = e, ..) of a def that may be called wherever there is room -/
structure DoK (P : Program) (w : World) (K : PySem.W.Frag) (mg : Str → Option Value) (base : Heap) (CX : CXT) (k : Nat) (x : Str) (n : Nat) (sp : Sp) (ks : List Str) (g : {α : Type} → List α → List α) : Prop where
  ex : ∃ (f : Addr) (fd : FuncData) (ps : List Str), ps.length = n ∧ ks.length = n ∧ mg x = some (.ref f) ∧ PySem.W.keepIn K (.ref f) = true ∧ FnOk P w K mg base CX k f fd ps sp ∧
    ∀ (s : Shared) (ws : List Value), K.In s.heap → ws.length = n → BindsTo s fd ⟨[], ks.zip ws⟩ (ps.zip (g ws))
theorem e_callKO {CX : CXT} {j : Nat} {x : Str} {ks : List Str} {g : {α : Type} → List α → List α} {F : List PyData → (PyData → Prop) → (Er → Prop) → Prop} (hrel : ∀ {α β : Type} {R : α → β → Prop} {l : List α} {m : List β}, l.length = n → Paired R l m → Paired R (g l) (g m)) (hlen : ∀ {α : Type} {l : List α}, l.length = n → (g l).length = n)
    (D : DoK X.prog X.w K X.mg X.base CX j x n (spP K n F) ks g) (hr : Room j X.A) (hx : ∀ σ, PassesAt CX X σ (WE W σ)) (ha : KD Wo X W kws tl wl) (hK : X.K = K := by rfl)
    (hall : (backToKw pos (keywordEach kws X.env)).all (·.1.isSome) = true := by rfl) (hks : (backToKw pos (keywordEach kws X.env)).filterMap (·.1) = ks := by rfl) (hno : (backToKw pos (keywordEach kws X.env)).any (·.1.isNone) = false := by rfl)
    (hg : Gl X x := by rfl) (hdb : (x == ("__debug__" : Str)) = false := by decide) : ED Wo X W (.Call (.Name x p) [] kws pos) (tCallKS n (spP K n F) g (WE W) tl) (wCallK n g F wl) := by
  subst hK
  obtain ⟨f, fd, ps, hn, hkn, hm, hk, G, hb⟩ := D.ex
  refine ⟨⟨fun pins s σ H Q I h => ?_⟩, fun c σ H ρ s Qd Ed Q E hw hv he => ha.go c σ H ρ s _ Ed _ E hw (fun vs H1 as s1 E1 st1 a1 q1 => ?_) he⟩
  · apply wpAny_Call_Name_kw
    apply ld_glob I hg hm _ hdb
    refine PySem.W.callWith_KW0 (h₀ := X.base) I.ok.mod.kin hk hall (thn (ha.pe.run pos pins s σ H _ I h) fun ws s1 hh => ?_) hno
    obtain ⟨zs, H1, I1, rz, l1, q1⟩ := hh
    refine ⟨I1.kIn, ?_⟩
    rw [hks]
    have lw : ws.length = n := rz.length.symm.trans l1
    apply wpAny_call
    refine codeAny_mono (G.run X.A X.stack s1 H1 ⟨[], ks.zip ws⟩ (g ws) (g zs) Q (WE W σ) hr I1.env0 (hb s1 ws I1.kIn lw) (hrel l1 rz) q1) ?_
    intro r s' hq
    cases r with
    | ok fl =>
      cases fl with
      | ret u => exact I1.after hq
      | next => cases hq
      | brk => cases hq
      | cont => cases hq
    | error e => exact hx σ pins H1 s1 e s' I1 hq
  · obtain ⟨ds, h1, h2, h3⟩ := a1.all q1
    have lv : vs.length = n := by rw [h1.length]; exact h2
    refine ⟨lv, by rw [hlen lv], c.hs ρ, g ds, _, _, E1.nd, E1.tr, ?_, h3, fun v H' d sm dv q => hv v H' d s1 (E1.grow sm) (st1.trans (stp_grow sm)) dv q, fun e cls dd H' sm ei q => he e cls dd H' s1 (E1.grow sm) ei q⟩
    have to : ∀ {vs : List V} {ds : List PyData}, DvAll X.K (hd H1 (c.hs ρ)) vs ds → Paired (Dv X.K (hd H1 (c.hs ρ))) vs ds := by
      intro vs ds h
      induction ds generalizing vs with
      | nil => cases h; exact .nil
      | cons d ds ih => cases h with | cons a b => exact .cons a (ih b)
    have fro : ∀ {vs : List V} {ds : List PyData}, Paired (Dv X.K (hd H1 (c.hs ρ))) vs ds → DvAll X.K (hd H1 (c.hs ρ)) vs ds := by
      intro vs ds h
      induction h with
      | nil => exact .nil
      | cons a _ ih => exact .cons a ih
    exact fro (hrel lv (to h1))
/-- f(k = e, ..) where nothing is raised -/
theorem e_callKN {j : Nat} {x : Str} {ks : List Str} {g : {α : Type} → List α → List α} {F : List PyData → (PyData → Prop) → (Er → Prop) → Prop} (hrel : ∀ {α β : Type} {R : α → β → Prop} {l : List α} {m : List β}, l.length = n → Paired R l m → Paired R (g l) (g m)) (hlen : ∀ {α : Type} {l : List α}, l.length = n → (g l).length = n)
    (D : DoK X.prog X.w K X.mg X.base (L2.CX X.prog X.w) j x n (spP K n F) ks g) (hr : Room j X.A) (ha : KD Wo X W kws tl wl) (hK : X.K = K := by rfl)
    (hall : (backToKw pos (keywordEach kws X.env)).all (·.1.isSome) = true := by rfl) (hks : (backToKw pos (keywordEach kws X.env)).filterMap (·.1) = ks := by rfl) (hno : (backToKw pos (keywordEach kws X.env)).any (·.1.isNone) = false := by rfl)
    (hg : Gl X x := by rfl) (hdb : (x == ("__debug__" : Str)) = false := by decide) : ED Wo X W (.Call (.Name x p) [] kws pos) (tCallKS n (spP K n F) g (fun _ _ _ _ => False) tl) (wCallK n g (fun ds Q _ => F ds Q fun _ => False) wl) := by
  subst hK
  obtain ⟨f, fd, ps, hn, hkn, hm, hk, G, hb⟩ := D.ex
  refine ⟨⟨fun pins s σ H Q I h => ?_⟩, fun c σ H ρ s Qd Ed Q E hw hv he => ha.go c σ H ρ s _ Ed _ E hw (fun vs H1 as s1 E1 st1 a1 q1 => ?_) he⟩
  · apply wpAny_Call_Name_kw
    apply ld_glob I hg hm _ hdb
    refine PySem.W.callWith_KW0 (h₀ := X.base) I.ok.mod.kin hk hall (thn (ha.pe.run pos pins s σ H _ I h) fun ws s1 hh => ?_) hno
    obtain ⟨zs, H1, I1, rz, l1, q1⟩ := hh
    refine ⟨I1.kIn, ?_⟩
    rw [hks]
    have lw : ws.length = n := rz.length.symm.trans l1
    apply wpAny_call
    refine codeAny_mono (G.run X.A X.stack s1 H1 ⟨[], ks.zip ws⟩ (g ws) (g zs) Q (fun _ _ _ => False) hr I1.env0 (hb s1 ws I1.kIn lw) (hrel l1 rz) q1) ?_
    intro r s' hq
    cases r with
    | ok fl =>
      cases fl with
      | ret u => exact I1.after hq
      | next => cases hq
      | brk => cases hq
      | cont => cases hq
    | error e => exact pass_no X σ pins H1 s1 e s' I1 hq
  · obtain ⟨ds, h1, h2, h3⟩ := a1.all q1
    have lv : vs.length = n := by rw [h1.length]; exact h2
    refine ⟨lv, by rw [hlen lv], c.hs ρ, g ds, _, fun _ => False, E1.nd, E1.tr, ?_, h3, fun v H' d sm dv q => hv v H' d s1 (E1.grow sm) (st1.trans (stp_grow sm)) dv q, fun e cls dd H' sm ei q => q.elim⟩
    have to : ∀ {vs : List V} {ds : List PyData}, DvAll X.K (hd H1 (c.hs ρ)) vs ds → Paired (Dv X.K (hd H1 (c.hs ρ))) vs ds := by
      intro vs ds h
      induction ds generalizing vs with
      | nil => cases h; exact .nil
      | cons d ds ih => cases h with | cons a b => exact .cons a (ih b)
    have fro : ∀ {vs : List V} {ds : List PyData}, Paired (Dv X.K (hd H1 (c.hs ρ))) vs ds → DvAll X.K (hd H1 (c.hs ρ)) vs ds := by
      intro vs ds h
      induction h with
      | nil => exact .nil
      | cons a _ ih => exact .cons a ih
    exact fro (hrel lv (to h1))
end
/-! ### truth of data -/
def truD : PyData → Option Bool
  | .none => some false
  | .bool b => some b
  | .int i => some (i != 0)
  | .str x => some ((x.length : Int) != 0)
  | .list xs => some !xs.isEmpty
  | .tuple xs => some !xs.isEmpty
  | .dict ps => some !ps.isEmpty
def wTru {S : Type} (w : DE S) : DT S := fun ρ s Q E => w ρ s (fun d s1 => ∃ b, truD d = some b ∧ Q b s1) E
section
variable {S : Type} {Wo : Wd S} {X : Cx} {W : WX} {ta : TE}
theorem td_tru {e : Expr} {w : DE S} (h : ED Wo X W e ta w) (he : ∀ whole, isTrue e X.env whole = (do let v ← whole; standAt e.pos; holding [v] (truthy v)) := by intro _; rfl) : TD Wo X W e (fun σ H Q => ta σ H fun x H' => ∃ k, TruV X.K x H' k ∧ Q k H') (wTru w) := by
  obtain ⟨pa, ha⟩ := h
  refine ⟨pt_truth pa he, fun c σ H ρ s Qd Ed Q E hw hv he => ha c σ H ρ s _ Ed _ E hw (fun v H' d s' E' st' dv q => ?_) he⟩
  obtain ⟨b, hb, q⟩ := q
  refine ⟨b, ?_, hv b H' s' E' st' q⟩
  cases d with
  | none => cases dv; cases hb; rfl
  | bool b' => cases dv; cases hb; rfl
  | int i => cases dv; cases hb; rfl
  | str x => cases dv with | str o => (cases hb; exact ⟨Nat.le_trans o.1 limL_size, rfl⟩)
  | list xs =>
    cases dv with
    | lst h n g =>
      cases hb
      refine .inl ⟨_, SqL.of (hd_to _ _ _ _ h), ?_⟩
      cases g <;> rfl
  | tuple xs =>
    cases dv with
    | tup h n g =>
      cases hb
      refine .inr (.inl ⟨_, same_seqT (hd_to _ _) h, ?_⟩)
      cases g <;> rfl
  | dict ps =>
    cases dv with
    | dct h n g =>
      cases hb
      refine .inr (.inr ⟨_, hd_to _ _ _ _ h, ?_⟩)
      cases g <;> rfl
end
/-! ### f(), int of digits -/
theorem passes0 {X : Cx} {E : XK} : Passes CX0 X E := fun _ _ _ _ _ _ _ h => False.elim h
section
variable {S : Type} {Wo : Wd S} {X : Cx} {W : WX} {K : PySem.W.Frag} {tl : TA} {a : Expr} {wl : DA S} {pos p : Pos}
theorem e_call0 {j : Nat} {x : Str} {F : List PyData → (PyData → Prop) → (Er → Prop) → Prop} (D : Do X.prog X.w K X.mg X.base CX0 j x 0 (spP K 0 F)) (hr : Room j X.A) (hK : X.K = K := by rfl) (hg : Gl X x := by rfl) (hdb : (x == ("__debug__" : Str)) = false := by decide) :
    ED Wo X W (.Call (.Name x p) [] [] pos) (tCall (spP K 0 F) [] (fun _ _ _ => False) tNil) (wCallP (fun ds Q E => ds.length = 0 ∧ F ds Q fun _ => False) wNil) := by
  subst hK
  obtain ⟨f, fd, ps, h1, h2, h3, h4, h5⟩ := D.ex
  refine ⟨pe_call0 h5 hr hg h2 h3 h4 .nil passes0 hdb, fun c σ H ρ s Qd Ed Q E hw hv he => ?_⟩
  obtain ⟨_, hw⟩ := hw
  exact ⟨rfl, c.hs ρ, [], _, fun _ => False, E.nd, E.tr, .nil, hw, fun v H' d sm dv q => hv v H' d s (E.grow sm) (stp_grow sm) dv q, fun e cls dd H' sm ei q => q.elim⟩
def rInt2 : List V → Hp → VK → Prop := fun xs H Q => ((∃ i, xs = [.int i] ∧ Q (.int i) H) ∨ ∃ k, xs = [.bl k] ∧ Q (.int (if k then 1 else 0)) H) ∨ ∃ a n, xs = [.str a] ∧ PySem.intText? a = some n ∧ a.length ≤ 640 ∧ Q (.int n) H
theorem cr_int2 : CallR X (.type "int") rInt2 := by
  intro pins s σ H xs us Q I r h
  rcases h with h | h
  · exact call_int1 pins s σ H xs us Q I r h
  · exact call_int_str pins s σ H xs us Q I r h
def fInt2 : List PyData → (PyData → Prop) → Prop
  | [.int i], Q => Q (.int i)
  | [.bool b], Q => Q (.int (if b then 1 else 0))
  | [.str x], Q => ∃ n, PySem.intText? x = some n ∧ x.length ≤ 640 ∧ okI n ∧ Q (.int n)
  | _, _ => False
theorem cd_int2 : CallD K rInt2 fInt2 := by
  intro H l vs ds Qd Q ht ha hf hq
  unfold fInt2 at hf
  split at hf
  · exact .inl (cd_int (K := K) H l vs _ Qd Q ht ha hf hq)
  · exact .inl (cd_int (K := K) H l vs _ Qd Q ht ha hf hq)
  · obtain ⟨n, h1, h2, h3, h4⟩ := hf
    cases ha with
    | cons a b =>
      cases b
      cases a
      exact .inr ⟨_, n, rfl, h1, h2, hq _ H _ (Same.refl _) (.int h3) h4⟩
  · exact hf.elim
theorem e_int2 (B : Bt X.mg) (ha : AD Wo X W [a] tl wl) (hg : Gl X "int" := by rfl) (he : starEach [a] X.env = (false, eval a X.env) :: starEach [] X.env := by rfl) (hpl : (backTo pos (starEach [] X.env)).any (·.1) = false := by rfl) :
    ED Wo X W (.Call (.Name "int" p) [a] [] pos) (tCB rInt2 tl) (wCB fInt2 wl) := ed_callTy cr_int2 cd_int2 hg (B.no _ (by decide)) (by decide +kernel) ha (by decide) (by decide) he hpl
end
/-! ### two keywords the other way round -/
def swap2 {α : Type} : List α → List α
  | [a, b] => [b, a]
  | l => l
theorem swap2_rel {α β : Type} {R : α → β → Prop} : ∀ {l : List α} {m : List β}, l.length = 2 → Paired R l m → Paired R (swap2 l) (swap2 m)
  | [_, _], [_, _], _, .cons a (.cons b .nil) => .cons b (.cons a .nil)
theorem swap2_len {α : Type} : ∀ {l : List α}, l.length = 2 → (swap2 l).length = 2
  | [_, _], _ => rfl
/-! ### x, y = [..], e: the first one is a list that the body owns -/
def wParH {S : Type} (i j : Nat) (wa : DL S) (wb : DE S) : DS S := fun ρ s D => wa ρ s (fun xs s1 => wb ρ s1 (fun d s2 => ∀ p, D.nx ((ρ.set i (.own p xs)).set j (.d d)) s2) fun e s' => D.er e ρ s') fun e s' => D.er e ρ s'
section
variable {S : Type} {Wo : Wd S} {X : Cx} {W : WX} {ta tb : TE} {a b : Expr} {pos : Pos}
theorem sd_parH (i j : Nat) {x y : Str} {px py pt : Pos} {kt k2 : Nat} {pt2 : Pos} {wa : DL S} {wb : DE S} (hN : X.N.Nodup) (hi : X.N[i]? = some x) (hj : X.N[j]? = some y) (hij : i ≠ j) (h : FD Wo X W a ta wa) (hb : ED Wo X W b tb wb) (hx : X.env.scope.names.lookup x = some .local := by rfl) (hy : X.env.scope.names.lookup y = some .local := by rfl) (hc : X.calm = true := by rfl)
    (hw : swappedStores [.Tuple [.Name x px, .Name y py] kt pt] (.Tuple [a, b] k2 pt2) X.env = pure (some [x, y]) := by rfl)
    (hs : swapsWithSole [.Tuple [.Name x px, .Name y py] kt pt] (.Tuple [a, b] k2 pt2) pos.line X.env = pure false := by rfl)
    (h1 : starEach [a, b] X.env = (false, eval a X.env) :: starEach [b] X.env := by rfl) (h2 : starEach [b] X.env = (false, eval b X.env) :: starEach [] X.env := by rfl) :
    SD Wo X W (.Assign [.Tuple [.Name x px, .Name y py] kt pt] (.Tuple [a, b] k2 pt2) pos) (tPar i j (tCons ta (tCons tb tNil))) (wParH i j wa wb) :=
  ⟨ps_par hc hN hi hj hij hx hy (pa_cons h.pe (pa_cons hb.pe pa_nil h2) h1) hw hs, fun c σ H ρ s Dd D E hw to => h.go c σ H ρ s _ _ _ E hw (fun p vs H1 xs s1 E1 sm hp av n hn q1 => by
    have np := (nodup_mid.mp E1.nd).1
    have po : p ∉ owns ρ := fun z => np (List.mem_append_right _ z)
    have pw : p ∉ Wo.wa := fun z => np (List.mem_append_left _ (List.mem_append_left _ z))
    refine hb.go ((c.hide p).base H1 ρ) σ H1 ρ s1 _ (fun e s' => Dd.er e ρ s') _ E1.rebase q1 (fun v H2 d s2 E2 st2 dv q2 => ?_) ?_
    · have hp2 : H2 p = some (.lst vs) := E2.ext p _ (by
        show (if p ∈ owns ρ then none else H1 p) = some (.lst vs)
        rw [if_neg po]; exact hp) pw
      have E3 := E1.unbase E2
      have st2' : Same (hd H1 ((c.hide p).hs ρ)) (hd H2 ((c.hide p).hs ρ)) := st2
      have dv' : Dv X.K (hd H2 ((c.hide p).hs ρ)) v d := dv
      obtain ⟨E4, st4⟩ := E3.setOwn (i := i) hp2 (DvAll.same st2' _ _ av) n (hidden_new E hn)
      obtain ⟨E5, st5⟩ := E4.setD (i := j) (x := .d d) (v := v) rfl ⟨v, rfl, Dv.same st4 _ _ dv'⟩
      exact ⟨_, _, rfl, to.nx _ H2 _ s2 E5 (sm.trans (st2'.trans (st4.trans st5))) (q2 p)⟩
    · intro e cls dd H' s' E' ei q
      have E3 := (E1.unbase E').unhide
      obtain ⟨c1, d0, fs, c2, c3, c4⟩ := ei
      have sub : Same (hd H' ((c.hide p).hs ρ)) (hd H' (c.hs ρ)) := hd_sub hs_hide_sub
      exact to.er e cls dd σ H' ρ s' E3 ⟨c1, d0, fs, c2, c3, FsOk.same sub _ _ c4⟩ q) (to.err σ ρ)⟩
end
end Dt

set_option Elab.async false
set_option linter.all false
set_option autoImplicit false
set_option maxRecDepth 100000
set_option maxHeartbeats 4000000
namespace L34
open PySem PySem.Spec Dt
open L2 hiding wT wNot
abbrev F1 (g : PyData → PyData) : List PyData → (PyData → Prop) → (Er → Prop) → Prop := fun ds Q _ => match ds with
  | [d] => Q (g d)
  | _ => False
theorem wChain_eq {S : Type} {f g : PyData → PyData → (PyData → Prop) → Prop} {wa wb wc : DE S} {ρ : List Sl} {s : S} {Q : PyData → S → Prop} {E : Er → S → Prop} : wChain f g wa wb wc ρ s Q E = wa ρ s (fun x s1 => wb ρ s1 (fun y s2 => f x y fun z => match z with
  | .bool b => if b = true then wc ρ s2 (fun u s3 => g y u fun z => Q z s3) E else Q (.bool false) s2
  | _ => False) E) E := by
  unfold wChain
  congr 1
  funext x s1
  congr 1
  funext y s2
  congr 1
  funext z
  cases z with
  | bool b => cases b <;> rfl
  | _ => rfl
theorem atI_0 {a : PyData} {r : List PyData} : atI (a :: r) 0 = some a := atI_nat (j := 0) rfl
theorem atI_1 {a b : PyData} {r : List PyData} : atI (a :: b :: r) 1 = some b := atI_nat (j := 1) rfl
theorem atI_2 {a b c : PyData} {r : List PyData} : atI (a :: b :: c :: r) 2 = some c := atI_nat (j := 2) rfl
theorem cut_tail {xs : List PyData} : cutD xs (some 1) none = xs.drop 1 := by
  unfold cutD
  rw [show (some (1 : Int)) = some (((1 : Nat) : Int)) from rfl, HT.sIx_nat, HT.sIx_none]
  cases xs with
  | nil => rfl
  | cons a r =>
    rw [show min 1 (a :: r).length = 1 by simp]
    exact List.take_of_length_le (by simp)
theorem limL_eq : limL = 4194304 := rfl
section
variable {P : Program} {w : World} {K : PySem.W.Frag} {mg : Str → Option Value} {base : Heap}
/-! ## is_integer -/
abbrev s_is_integer : Stmt := top 7
theorem sc_is_integer : FnScope ["thing"] ["thing"] (defScope s_is_integer) := ⟨rfl, rfl, rfl, by decide +kernel, rfl, by decide +kernel, by decide +kernel⟩
def isInt : PyData → Bool
  | .int _ => true
  | _ => false
abbrev F_is_integer := F1 fun d => .bool (isInt d)
def w_is_integer : DS Unit :=
  (wRet (wAnd (wIsi "int" (wVar 0)) (wNot (wIsi "bool" (wVar 0)))))
theorem spec_is_integer : ∀ ds Qd Ed, ds.length = 1 → F_is_integer ds Qd Ed → w_is_integer (argS 1 1 (ds.map Sl.d)) () (endP Qd Ed) := by
  intro ds Qd Ed hl h
  match ds, hl, h with
  | [d], _, h =>
    unfold w_is_integer
    cases d <;> simpa [wRet, wRetN, wIfS, wSeq, wNext, wT, wTand, wTor, wTnot, wAnd_eq, wOr_eq, wNot, wIsi_int, wIsi_bool, wIsi_str, wIsi_tup, wIsi_lst, tyInt, tyBool, tyStr, tyTup, tyLst, wChain_eq, wOp, wUn, wC, wVar, wCB, wCallP, fLen, wL, wComp, wSeqI, wZip, zipS, wCons, wNil, wTup, allK, argS, endP, noOwn, wipeD, dLe, dLt, dGe, dGt, dCm, dEq, dNe, dIdx, atI_0, atI_1, atI_2, wAsg, gN, gT, gCs, gNs, List.set, dInG, flatD, F1, List.length, limL_eq, shp_i, shp_s, shp_b, shp_n, eqv_ii, eqv_ss, F_is_integer, isInt] using h
theorem fo_is_integer {f : Addr} {fd : FuncData} (Fu : Fun K "is_integer" "is_integer" s_is_integer f fd) (B : Bt mg) : FnOk P w K mg base CX0 1 f fd ["thing"] (spP K 1 F_is_integer) :=
  fnPO (wb := w_is_integer) Fu sc_is_integer rfl (fun cdv A outer s H E hr => ⟨_,
  (sd_one (sd_ret (ed_and (e_isi (T' := "int") B (ed_var 0) (by decide +kernel)) (ed_one (ed_not (e_isi (T' := "bool") B (ed_var 0) (by decide +kernel)))))))⟩) (spec_is_integer)
theorem ok_is_integer {f : Addr} {fd : FuncData} (Fu : Fun K "is_integer" "is_integer" s_is_integer f fd) (hm : mg "is_integer" = some (.ref f)) (hb : Binds K fd ["thing"] []) (B : Bt mg) : Do P w K mg base CX0 1 "is_integer" 1 (spP K 1 F_is_integer) :=
  ⟨f, fd, ["thing"], rfl, hm, Fu.kp, hb, fo_is_integer Fu B⟩
/-! ## is_number -/
abbrev s_is_number : Stmt := top 8
theorem sc_is_number : FnScope ["thing"] ["thing"] (defScope s_is_number) := ⟨rfl, rfl, rfl, by decide +kernel, rfl, by decide +kernel, by decide +kernel⟩
def isNum : PyData → Bool
  | .int i => decide (0 ≤ i)
  | _ => false
abbrev F_is_number := F1 fun d => .bool (isNum d)
def w_is_number : DS Unit :=
  (wRet (wAnd (wCallP (fun ds Q E => ds.length = 1 ∧ F_is_integer ds Q E) (wCons (wVar 0) wNil)) (wOp dGe (wVar 0) (wC (.int 0)))))
theorem spec_is_number : ∀ ds Qd Ed, ds.length = 1 → F_is_number ds Qd Ed → w_is_number (argS 1 1 (ds.map Sl.d)) () (endP Qd Ed) := by
  intro ds Qd Ed hl h
  match ds, hl, h with
  | [d], _, h =>
    unfold w_is_number
    cases d <;> simpa [wRet, wRetN, wIfS, wSeq, wNext, wT, wTand, wTor, wTnot, wAnd_eq, wOr_eq, wNot, wIsi_int, wIsi_bool, wIsi_str, wIsi_tup, wIsi_lst, tyInt, tyBool, tyStr, tyTup, tyLst, wChain_eq, wOp, wUn, wC, wVar, wCB, wCallP, fLen, wL, wComp, wSeqI, wZip, zipS, wCons, wNil, wTup, allK, argS, endP, noOwn, wipeD, dLe, dLt, dGe, dGt, dCm, dEq, dNe, dIdx, atI_0, atI_1, atI_2, wAsg, gN, gT, gCs, gNs, List.set, dInG, flatD, F1, List.length, limL_eq, shp_i, shp_s, shp_b, shp_n, eqv_ii, eqv_ss, F_is_integer, F_is_number, isInt, isNum] using h
theorem fo_is_number {f : Addr} {fd : FuncData} (Fu : Fun K "is_number" "is_number" s_is_number f fd) (B : Bt mg) (D_is_integer : Do P w K mg base CX0 1 "is_integer" 1 (spP K 1 F_is_integer)) : FnOk P w K mg base CX0 2 f fd ["thing"] (spP K 1 F_is_number) :=
  fnPO (wb := w_is_number) Fu sc_is_number rfl (fun cdv A outer s H E hr => ⟨_,
  (sd_one (sd_ret (ed_and (e_callO D_is_integer (hr.mono (by decide)) pass00 (ad_cons (ed_var 0) ad_nil)) (ed_one (e_ge (ed_var 0) ed_int)))))⟩) (spec_is_number)
theorem ok_is_number {f : Addr} {fd : FuncData} (Fu : Fun K "is_number" "is_number" s_is_number f fd) (hm : mg "is_number" = some (.ref f)) (hb : Binds K fd ["thing"] []) (B : Bt mg) (D_is_integer : Do P w K mg base CX0 1 "is_integer" 1 (spP K 1 F_is_integer)) : Do P w K mg base CX0 2 "is_number" 1 (spP K 1 F_is_number) :=
  ⟨f, fd, ["thing"], rfl, hm, Fu.kp, hb, fo_is_number Fu B D_is_integer⟩
/-! ## is_name -/
abbrev s_is_name : Stmt := top 9
theorem sc_is_name : FnScope ["thing", "letter"] ["thing"] (defScope s_is_name) := ⟨rfl, rfl, rfl, by decide +kernel, rfl, by decide +kernel, by decide +kernel⟩
def isLet (x : Str) : Bool := strIn x "abcdefghijklmnopqrstuvwxyz"
def sgn : PyData → PyData
  | .str x => .bool (isLet x)
  | _ => .none
def isName : PyData → Bool
  | .str x => decide (1 ≤ x.length) && decide (x.length ≤ 8) && x.cps.toList.all fun c => isLet ⟨#[c]⟩
  | _ => false
abbrev F_is_name := F1 fun d => .bool (isName d)
def w_is_name : DS Unit :=
  (wRet (wAnd (wIsi "str" (wVar 0)) (wAnd (wChain dLe dLe (wC (.int 1)) (wCB fLen (wCons (wVar 0) wNil)) (wC (.int 8))) (wCB (fAll fun bs => bs.all id) (wCons (wL (wComp (wSeqI (wVar 0)) (gN 1) wYes (wOp dIn (wVar 1) (wC (.str "abcdefghijklmnopqrstuvwxyz"))) [1])) wNil)))))
theorem spec_is_name : ∀ ds Qd Ed, ds.length = 1 → F_is_name ds Qd Ed → w_is_name (argS 1 2 (ds.map Sl.d)) () (endP Qd Ed) := by
  intro ds Qd Ed hl h
  match ds, hl, h with
  | [d], _, h =>
    unfold w_is_name
    cases d with
    | str x =>
      simp [wRet, wRetN, wIfS, wSeq, wNext, wT, wTand, wTor, wTnot, wAnd_eq, wOr_eq, wNot, wIsi_int, wIsi_bool, wIsi_str, wIsi_tup, wIsi_lst, tyInt, tyBool, tyStr, tyTup, tyLst, wChain_eq, wOp, wUn, wC, wVar, wCB, wCallP, fLen, wL, wComp, wSeqI, wZip, zipS, wCons, wNil, wTup, allK, argS, endP, noOwn, wipeD, dLe, dLt, dGe, dGt, dCm, dEq, dNe, dIdx, atI_0, atI_1, atI_2, wAsg, gN, gT, gCs, gNs, List.set, dInG, flatD, F1, List.length, limL_eq, shp_i, shp_s, shp_b, shp_n, eqv_ii, eqv_ss, F_is_integer, F_is_number, F_is_name]
      have h : Qd (.bool (isName (.str x))) := h
      by_cases c1 : 1 ≤ x.length
      · by_cases c2 : x.length ≤ 8
        · rw [if_pos (by exact_mod_cast c1), if_pos (by exact_mod_cast c2)]
          refine comp_map sgn _ _ _ (fun d hd s Y y => ?_) ?_
          · obtain ⟨c, hc, rfl⟩ := List.mem_map.mp hd
            exact ⟨rfl, y⟩
          · refine ⟨x.cps.toList.map fun c => isLet ⟨#[c]⟩, ?_, ?_⟩
            · simp [signs, sgn]
            · have e : isName (.str x) = (x.cps.toList.map fun c => isLet ⟨#[c]⟩).all id := by
                simp only [isName, c1, c2, decide_true, Bool.true_and, List.all_map]
                rfl
              rw [e] at h; exact h
        · rw [if_pos (by exact_mod_cast c1), if_neg (by exact_mod_cast c2)]
          have e : isName (.str x) = false := by simp [isName, c2]
          rw [← e]; exact h
      · rw [if_neg (by exact_mod_cast c1)]
        have e : isName (.str x) = false := by simp [isName, c1]
        rw [← e]; exact h
    | _ => simpa [wRet, wRetN, wIfS, wSeq, wNext, wT, wTand, wTor, wTnot, wAnd_eq, wOr_eq, wNot, wIsi_int, wIsi_bool, wIsi_str, wIsi_tup, wIsi_lst, tyInt, tyBool, tyStr, tyTup, tyLst, wChain_eq, wOp, wUn, wC, wVar, wCB, wCallP, fLen, wL, wComp, wSeqI, wZip, zipS, wCons, wNil, wTup, allK, argS, endP, noOwn, wipeD, dLe, dLt, dGe, dGt, dCm, dEq, dNe, dIdx, atI_0, atI_1, atI_2, wAsg, gN, gT, gCs, gNs, List.set, dInG, flatD, F1, List.length, limL_eq, shp_i, shp_s, shp_b, shp_n, eqv_ii, eqv_ss, F_is_integer, F_is_number, F_is_name, isName] using h
theorem fo_is_name {f : Addr} {fd : FuncData} (Fu : Fun K "is_name" "is_name" s_is_name f fd) (B : Bt mg) (C_LETTERS : Gc K mg "LETTERS" (.str "abcdefghijklmnopqrstuvwxyz") (.str "abcdefghijklmnopqrstuvwxyz")) (C_LONGEST_NAME : Gc K mg "LONGEST_NAME" (.int 8) (.int 8)) : FnOk P w K mg base CX0 1 f fd ["thing"] (spP K 1 F_is_name) :=
  fnPO (wb := w_is_name) Fu sc_is_name rfl (fun cdv A outer s H E hr => ⟨_,
  (sd_one (sd_ret (ed_and (e_isi (T' := "str") B (ed_var 0) (by decide +kernel)) (ed_and (e_leLe ed_int (e_len B (ad_cons (ed_var 0) ad_nil)) (e_glob C_LONGEST_NAME)) (ed_one (e_all B rfl (ad_cons (ed_new (fd_lc rfl sc_is_name.nd (own := [("letter", 1)]) (i_seq (ed_var 0)) (blkOk_by (own := [("letter", 1)]) (N := ["thing", "letter"]) (sc := defScope s_is_name) (by decide +kernel))
    (fun _ _ _ _ _ => (gd_name 1 sc_is_name.nd rfl (by first | exact .inl rfl | exact .inr rfl))) (fun _ _ _ _ _ => ptd_nil) (fun _ _ _ _ _ => (e_in hr (ed_var 1) (e_glob C_LETTERS))) (by simp))) ad_nil)))))))⟩) (spec_is_name)
theorem ok_is_name {f : Addr} {fd : FuncData} (Fu : Fun K "is_name" "is_name" s_is_name f fd) (hm : mg "is_name" = some (.ref f)) (hb : Binds K fd ["thing"] []) (B : Bt mg) (C_LETTERS : Gc K mg "LETTERS" (.str "abcdefghijklmnopqrstuvwxyz") (.str "abcdefghijklmnopqrstuvwxyz")) (C_LONGEST_NAME : Gc K mg "LONGEST_NAME" (.int 8) (.int 8)) : Do P w K mg base CX0 1 "is_name" 1 (spP K 1 F_is_name) :=
  ⟨f, fd, ["thing"], rfl, hm, Fu.kp, hb, fo_is_name Fu B C_LETTERS C_LONGEST_NAME⟩
/-! ## is_nothing -/
abbrev s_is_nothing : Stmt := top 11
theorem sc_is_nothing : FnScope ["thing"] ["thing"] (defScope s_is_nothing) := ⟨rfl, rfl, rfl, by decide +kernel, rfl, by decide +kernel, by decide +kernel⟩
def isNothing : PyData → Bool
  | .str x => decide (x.length = 0)
  | _ => false
abbrev F_is_nothing := F1 fun d => .bool (isNothing d)
def w_is_nothing : DS Unit :=
  (wRet (wAnd (wIsi "str" (wVar 0)) (wOp dEq (wCB fLen (wCons (wVar 0) wNil)) (wC (.int 0)))))
theorem spec_is_nothing : ∀ ds Qd Ed, ds.length = 1 → F_is_nothing ds Qd Ed → w_is_nothing (argS 1 1 (ds.map Sl.d)) () (endP Qd Ed) := by
  intro ds Qd Ed hl h
  match ds, hl, h with
  | [d], _, h =>
    unfold w_is_nothing
    cases d <;> simpa [wRet, wRetN, wIfS, wSeq, wNext, wT, wTand, wTor, wTnot, wAnd_eq, wOr_eq, wNot, wIsi_int, wIsi_bool, wIsi_str, wIsi_tup, wIsi_lst, tyInt, tyBool, tyStr, tyTup, tyLst, wChain_eq, wOp, wUn, wC, wVar, wCB, wCallP, fLen, wL, wComp, wSeqI, wZip, zipS, wCons, wNil, wTup, allK, argS, endP, noOwn, wipeD, dLe, dLt, dGe, dGt, dCm, dEq, dNe, dIdx, atI_0, atI_1, atI_2, wAsg, gN, gT, gCs, gNs, List.set, dInG, flatD, F1, List.length, limL_eq, shp_i, shp_s, shp_b, shp_n, eqv_ii, eqv_ss, F_is_integer, F_is_number, F_is_name, F_is_nothing, isNothing] using h
theorem fo_is_nothing {f : Addr} {fd : FuncData} (Fu : Fun K "is_nothing" "is_nothing" s_is_nothing f fd) (B : Bt mg) : FnOk P w K mg base CX0 1 f fd ["thing"] (spP K 1 F_is_nothing) :=
  fnPO (wb := w_is_nothing) Fu sc_is_nothing rfl (fun cdv A outer s H E hr => ⟨_,
  (sd_one (sd_ret (ed_and (e_isi (T' := "str") B (ed_var 0) (by decide +kernel)) (ed_one (e_eq hr (e_len B (ad_cons (ed_var 0) ad_nil)) ed_int)))))⟩) (spec_is_nothing)
theorem ok_is_nothing {f : Addr} {fd : FuncData} (Fu : Fun K "is_nothing" "is_nothing" s_is_nothing f fd) (hm : mg "is_nothing" = some (.ref f)) (hb : Binds K fd ["thing"] []) (B : Bt mg) : Do P w K mg base CX0 1 "is_nothing" 1 (spP K 1 F_is_nothing) :=
  ⟨f, fd, ["thing"], rfl, hm, Fu.kp, hb, fo_is_nothing Fu B⟩
/-! ## is_kind -/
abbrev s_is_kind : Stmt := top 10
theorem sc_is_kind : FnScope ["thing"] ["thing"] (defScope s_is_kind) := ⟨rfl, rfl, rfl, by decide +kernel, rfl, by decide +kernel, by decide +kernel⟩
def isKind (d : PyData) : Bool := isName d || isNothing d
abbrev F_is_kind := F1 fun d => .bool (isKind d)
def w_is_kind : DS Unit :=
  (wRet (wOr (wCallP (fun ds Q E => ds.length = 1 ∧ F_is_name ds Q E) (wCons (wVar 0) wNil)) (wCallP (fun ds Q E => ds.length = 1 ∧ F_is_nothing ds Q E) (wCons (wVar 0) wNil))))
theorem spec_is_kind : ∀ ds Qd Ed, ds.length = 1 → F_is_kind ds Qd Ed → w_is_kind (argS 1 1 (ds.map Sl.d)) () (endP Qd Ed) := by
  intro ds Qd Ed hl h
  match ds, hl, h with
  | [d], _, h =>
    unfold w_is_kind
    simp [wRet, wRetN, wIfS, wSeq, wNext, wT, wTand, wTor, wTnot, wAnd_eq, wOr_eq, wNot, wIsi_int, wIsi_bool, wIsi_str, wIsi_tup, wIsi_lst, tyInt, tyBool, tyStr, tyTup, tyLst, wChain_eq, wOp, wUn, wC, wVar, wCB, wCallP, fLen, wL, wComp, wSeqI, wZip, zipS, wCons, wNil, wTup, allK, argS, endP, noOwn, wipeD, dLe, dLt, dGe, dGt, dCm, dEq, dNe, dIdx, atI_0, atI_1, atI_2, wAsg, gN, gT, gCs, gNs, List.set, dInG, flatD, F1, List.length, limL_eq, shp_i, shp_s, shp_b, shp_n, eqv_ii, eqv_ss, F_is_integer, F_is_number, F_is_name, F_is_nothing, F_is_kind]
    have h : Qd (.bool (isName d || isNothing d)) := h
    by_cases c : isName d = true <;> simpa [c] using h
theorem fo_is_kind {f : Addr} {fd : FuncData} (Fu : Fun K "is_kind" "is_kind" s_is_kind f fd) (B : Bt mg) (D_is_name : Do P w K mg base CX0 1 "is_name" 1 (spP K 1 F_is_name)) (D_is_nothing : Do P w K mg base CX0 1 "is_nothing" 1 (spP K 1 F_is_nothing)) : FnOk P w K mg base CX0 2 f fd ["thing"] (spP K 1 F_is_kind) :=
  fnPO (wb := w_is_kind) Fu sc_is_kind rfl (fun cdv A outer s H E hr => ⟨_,
  (sd_one (sd_ret (ed_or (e_callO D_is_name (hr.mono (by decide)) pass00 (ad_cons (ed_var 0) ad_nil)) (ed_one (e_callO D_is_nothing (hr.mono (by decide)) pass00 (ad_cons (ed_var 0) ad_nil))))))⟩) (spec_is_kind)
theorem ok_is_kind {f : Addr} {fd : FuncData} (Fu : Fun K "is_kind" "is_kind" s_is_kind f fd) (hm : mg "is_kind" = some (.ref f)) (hb : Binds K fd ["thing"] []) (B : Bt mg) (D_is_name : Do P w K mg base CX0 1 "is_name" 1 (spP K 1 F_is_name)) (D_is_nothing : Do P w K mg base CX0 1 "is_nothing" 1 (spP K 1 F_is_nothing)) : Do P w K mg base CX0 2 "is_kind" 1 (spP K 1 F_is_kind) :=
  ⟨f, fd, ["thing"], rfl, hm, Fu.kp, hb, fo_is_kind Fu B D_is_name D_is_nothing⟩
/-! ## is_one_of -/
abbrev s_is_one_of : Stmt := top 12
theorem sc_is_one_of : FnScope ["thing", "words"] ["thing", "words"] (defScope s_is_one_of) := ⟨rfl, rfl, rfl, by decide +kernel, rfl, by decide +kernel, by decide +kernel⟩
def isOneOf (d : PyData) (ys : List PyData) : Bool := match d with
  | .str x => ys.any fun y => PyData.eqv y (.str x)
  | _ => false
abbrev F_is_one_of : List PyData → (PyData → Prop) → (Er → Prop) → Prop := fun ds Q _ => match ds with
  | [d, .tuple ys] => ys.all flatD = true ∧ Q (.bool (isOneOf d ys))
  | _ => False
def w_is_one_of : DS Unit :=
  (wRet (wAnd (wIsi "str" (wVar 0)) (wOp dIn (wVar 0) (wVar 1))))
theorem spec_is_one_of : ∀ ds Qd Ed, ds.length = 2 → F_is_one_of ds Qd Ed → w_is_one_of (argS 2 2 (ds.map Sl.d)) () (endP Qd Ed) := by
  intro ds Qd Ed hl h
  match ds, hl, h with
  | [d, e], _, h =>
    unfold w_is_one_of
    cases e with
    | tuple ys => cases d <;> simp [wRet, wRetN, wIfS, wSeq, wNext, wT, wTand, wTor, wTnot, wAnd_eq, wOr_eq, wNot, wIsi_int, wIsi_bool, wIsi_str, wIsi_tup, wIsi_lst, tyInt, tyBool, tyStr, tyTup, tyLst, wChain_eq, wOp, wUn, wC, wVar, wCB, wCallP, fLen, wL, wComp, wSeqI, wZip, zipS, wCons, wNil, wTup, allK, argS, endP, noOwn, wipeD, dLe, dLt, dGe, dGt, dCm, dEq, dNe, dIdx, atI_0, atI_1, atI_2, wAsg, gN, gT, gCs, gNs, List.set, dInG, flatD, F1, List.length, limL_eq, shp_i, shp_s, shp_b, shp_n, eqv_ii, eqv_ss, isOneOf] <;> simp [F_is_one_of, isOneOf] at h <;> first | exact h | exact h.2
    | _ => exact h.elim
theorem fo_is_one_of {f : Addr} {fd : FuncData} (Fu : Fun K "is_one_of" "is_one_of" s_is_one_of f fd) (B : Bt mg) : FnOk P w K mg base CX0 1 f fd ["thing", "words"] (spP K 2 F_is_one_of) :=
  fnPO (wb := w_is_one_of) Fu sc_is_one_of rfl (fun cdv A outer s H E hr => ⟨_,
  (sd_one (sd_ret (ed_and (e_isi (T' := "str") B (ed_var 0) (by decide +kernel)) (ed_one (e_in hr (ed_var 0) (ed_var 1))))))⟩) (spec_is_one_of)
theorem ok_is_one_of {f : Addr} {fd : FuncData} (Fu : Fun K "is_one_of" "is_one_of" s_is_one_of f fd) (hm : mg "is_one_of" = some (.ref f)) (hb : Binds K fd ["thing", "words"] []) (B : Bt mg) : Do P w K mg base CX0 1 "is_one_of" 2 (spP K 2 F_is_one_of) :=
  ⟨f, fd, ["thing", "words"], rfl, hm, Fu.kp, hb, fo_is_one_of Fu B⟩
/-! ## is_pair -/
abbrev s_is_pair : Stmt := top 13
theorem sc_is_pair : FnScope ["thing"] ["thing"] (defScope s_is_pair) := ⟨rfl, rfl, rfl, by decide +kernel, rfl, by decide +kernel, by decide +kernel⟩
def isPair : PyData → Bool
  | .tuple [_, _] => true
  | _ => false
abbrev F_is_pair := F1 fun d => .bool (isPair d)
def w_is_pair : DS Unit :=
  (wRet (wAnd (wIsi "tuple" (wVar 0)) (wOp dEq (wCB fLen (wCons (wVar 0) wNil)) (wC (.int 2)))))
theorem spec_is_pair : ∀ ds Qd Ed, ds.length = 1 → F_is_pair ds Qd Ed → w_is_pair (argS 1 1 (ds.map Sl.d)) () (endP Qd Ed) := by
  intro ds Qd Ed hl h
  match ds, hl, h with
  | [d], _, h =>
    unfold w_is_pair
    cases d with
    | tuple xs =>
      match xs, h with
      | [], h => simpa [wRet, wRetN, wIfS, wSeq, wNext, wT, wTand, wTor, wTnot, wAnd_eq, wOr_eq, wNot, wIsi_int, wIsi_bool, wIsi_str, wIsi_tup, wIsi_lst, tyInt, tyBool, tyStr, tyTup, tyLst, wChain_eq, wOp, wUn, wC, wVar, wCB, wCallP, fLen, wL, wComp, wSeqI, wZip, zipS, wCons, wNil, wTup, allK, argS, endP, noOwn, wipeD, dLe, dLt, dGe, dGt, dCm, dEq, dNe, dIdx, atI_0, atI_1, atI_2, wAsg, gN, gT, gCs, gNs, List.set, dInG, flatD, F1, List.length, limL_eq, shp_i, shp_s, shp_b, shp_n, eqv_ii, eqv_ss, F_is_integer, F_is_number, F_is_name, F_is_nothing, F_is_kind, F_is_pair, isPair] using h
      | [a], h => simpa [wRet, wRetN, wIfS, wSeq, wNext, wT, wTand, wTor, wTnot, wAnd_eq, wOr_eq, wNot, wIsi_int, wIsi_bool, wIsi_str, wIsi_tup, wIsi_lst, tyInt, tyBool, tyStr, tyTup, tyLst, wChain_eq, wOp, wUn, wC, wVar, wCB, wCallP, fLen, wL, wComp, wSeqI, wZip, zipS, wCons, wNil, wTup, allK, argS, endP, noOwn, wipeD, dLe, dLt, dGe, dGt, dCm, dEq, dNe, dIdx, atI_0, atI_1, atI_2, wAsg, gN, gT, gCs, gNs, List.set, dInG, flatD, F1, List.length, limL_eq, shp_i, shp_s, shp_b, shp_n, eqv_ii, eqv_ss, F_is_integer, F_is_number, F_is_name, F_is_nothing, F_is_kind, F_is_pair, isPair] using h
      | [a, b], h => simpa [wRet, wRetN, wIfS, wSeq, wNext, wT, wTand, wTor, wTnot, wAnd_eq, wOr_eq, wNot, wIsi_int, wIsi_bool, wIsi_str, wIsi_tup, wIsi_lst, tyInt, tyBool, tyStr, tyTup, tyLst, wChain_eq, wOp, wUn, wC, wVar, wCB, wCallP, fLen, wL, wComp, wSeqI, wZip, zipS, wCons, wNil, wTup, allK, argS, endP, noOwn, wipeD, dLe, dLt, dGe, dGt, dCm, dEq, dNe, dIdx, atI_0, atI_1, atI_2, wAsg, gN, gT, gCs, gNs, List.set, dInG, flatD, F1, List.length, limL_eq, shp_i, shp_s, shp_b, shp_n, eqv_ii, eqv_ss, F_is_integer, F_is_number, F_is_name, F_is_nothing, F_is_kind, F_is_pair, isPair] using h
      | a :: b :: c :: r, h =>
        have n : ¬ ((r.length : Int) + 1 + 1 + 1 = 2) := by omega
        simpa [wRet, wRetN, wIfS, wSeq, wNext, wT, wTand, wTor, wTnot, wAnd_eq, wOr_eq, wNot, wIsi_int, wIsi_bool, wIsi_str, wIsi_tup, wIsi_lst, tyInt, tyBool, tyStr, tyTup, tyLst, wChain_eq, wOp, wUn, wC, wVar, wCB, wCallP, fLen, wL, wComp, wSeqI, wZip, zipS, wCons, wNil, wTup, allK, argS, endP, noOwn, wipeD, dLe, dLt, dGe, dGt, dCm, dEq, dNe, dIdx, atI_0, atI_1, atI_2, wAsg, gN, gT, gCs, gNs, List.set, dInG, flatD, F1, List.length, limL_eq, shp_i, shp_s, shp_b, shp_n, eqv_ii, eqv_ss, F_is_integer, F_is_number, F_is_name, F_is_nothing, F_is_kind, F_is_pair, isPair, n] using h
    | _ => simpa [wRet, wRetN, wIfS, wSeq, wNext, wT, wTand, wTor, wTnot, wAnd_eq, wOr_eq, wNot, wIsi_int, wIsi_bool, wIsi_str, wIsi_tup, wIsi_lst, tyInt, tyBool, tyStr, tyTup, tyLst, wChain_eq, wOp, wUn, wC, wVar, wCB, wCallP, fLen, wL, wComp, wSeqI, wZip, zipS, wCons, wNil, wTup, allK, argS, endP, noOwn, wipeD, dLe, dLt, dGe, dGt, dCm, dEq, dNe, dIdx, atI_0, atI_1, atI_2, wAsg, gN, gT, gCs, gNs, List.set, dInG, flatD, F1, List.length, limL_eq, shp_i, shp_s, shp_b, shp_n, eqv_ii, eqv_ss, F_is_integer, F_is_number, F_is_name, F_is_nothing, F_is_kind, F_is_pair, isPair] using h
theorem fo_is_pair {f : Addr} {fd : FuncData} (Fu : Fun K "is_pair" "is_pair" s_is_pair f fd) (B : Bt mg) : FnOk P w K mg base CX0 1 f fd ["thing"] (spP K 1 F_is_pair) :=
  fnPO (wb := w_is_pair) Fu sc_is_pair rfl (fun cdv A outer s H E hr => ⟨_,
  (sd_one (sd_ret (ed_and (e_isi (T' := "tuple") B (ed_var 0) (by decide +kernel)) (ed_one (e_eq hr (e_len B (ad_cons (ed_var 0) ad_nil)) ed_int)))))⟩) (spec_is_pair)
theorem ok_is_pair {f : Addr} {fd : FuncData} (Fu : Fun K "is_pair" "is_pair" s_is_pair f fd) (hm : mg "is_pair" = some (.ref f)) (hb : Binds K fd ["thing"] []) (B : Bt mg) : Do P w K mg base CX0 1 "is_pair" 1 (spP K 1 F_is_pair) :=
  ⟨f, fd, ["thing"], rfl, hm, Fu.kp, hb, fo_is_pair Fu B⟩
/-! ## is_sort -/
abbrev s_is_sort : Stmt := top 14
theorem sc_is_sort : FnScope ["thing"] ["thing"] (defScope s_is_sort) := ⟨rfl, rfl, rfl, by decide +kernel, rfl, by decide +kernel, by decide +kernel⟩
def isSort : PyData → Bool
  | .tuple [a, b] => isOneOf a [.str "fun"] && isKind b
  | .str x => isOneOf (.str x) [.str "if", .str "loop"]
  | _ => false
abbrev F_is_sort := F1 fun d => .bool (isSort d)
def w_is_sort : DS Unit :=
  (wSeq (wIfS (wT (wCallP (fun ds Q E => ds.length = 1 ∧ F_is_pair ds Q E) (wCons (wVar 0) wNil))) (wRet (wAnd (wCallP (fun ds Q E => ds.length = 2 ∧ F_is_one_of ds Q E) (wCons (wOp dIdx (wVar 0) (wC (.int 0))) (wCons (wTup (wCons (wC (.str "fun")) wNil)) wNil))) (wCallP (fun ds Q E => ds.length = 1 ∧ F_is_kind ds Q E) (wCons (wOp dIdx (wVar 0) (wC (.int 1))) wNil)))) wNext)
  (wRet (wCallP (fun ds Q E => ds.length = 2 ∧ F_is_one_of ds Q E) (wCons (wVar 0) (wCons (wTup (wCons (wC (.str "if")) (wCons (wC (.str "loop")) wNil))) wNil)))))
theorem spec_is_sort : ∀ ds Qd Ed, ds.length = 1 → F_is_sort ds Qd Ed → w_is_sort (argS 1 1 (ds.map Sl.d)) () (endP Qd Ed) := by
  intro ds Qd Ed hl h
  match ds, hl, h with
  | [d], _, h =>
    unfold w_is_sort
    cases d with
    | tuple xs =>
      match xs, h with
      | [], h => simpa [wRet, wRetN, wIfS, wSeq, wNext, wT, wTand, wTor, wTnot, wAnd_eq, wOr_eq, wNot, wIsi_int, wIsi_bool, wIsi_str, wIsi_tup, wIsi_lst, tyInt, tyBool, tyStr, tyTup, tyLst, wChain_eq, wOp, wUn, wC, wVar, wCB, wCallP, fLen, wL, wComp, wSeqI, wZip, zipS, wCons, wNil, wTup, allK, argS, endP, noOwn, wipeD, dLe, dLt, dGe, dGt, dCm, dEq, dNe, dIdx, atI_0, atI_1, atI_2, wAsg, gN, gT, gCs, gNs, List.set, dInG, flatD, F1, List.length, limL_eq, shp_i, shp_s, shp_b, shp_n, eqv_ii, eqv_ss, F_is_integer, F_is_number, F_is_name, F_is_nothing, F_is_kind, F_is_pair, F_is_sort, isPair, isSort, F_is_one_of, isOneOf] using h
      | [a], h => simpa [wRet, wRetN, wIfS, wSeq, wNext, wT, wTand, wTor, wTnot, wAnd_eq, wOr_eq, wNot, wIsi_int, wIsi_bool, wIsi_str, wIsi_tup, wIsi_lst, tyInt, tyBool, tyStr, tyTup, tyLst, wChain_eq, wOp, wUn, wC, wVar, wCB, wCallP, fLen, wL, wComp, wSeqI, wZip, zipS, wCons, wNil, wTup, allK, argS, endP, noOwn, wipeD, dLe, dLt, dGe, dGt, dCm, dEq, dNe, dIdx, atI_0, atI_1, atI_2, wAsg, gN, gT, gCs, gNs, List.set, dInG, flatD, F1, List.length, limL_eq, shp_i, shp_s, shp_b, shp_n, eqv_ii, eqv_ss, F_is_integer, F_is_number, F_is_name, F_is_nothing, F_is_kind, F_is_pair, F_is_sort, isPair, isSort, F_is_one_of, isOneOf] using h
      | [a, b], h =>
        have h : Qd (.bool (isOneOf a [.str "fun"] && isKind b)) := h
        by_cases c : isOneOf a [.str "fun"] = true <;> simpa [wRet, wRetN, wIfS, wSeq, wNext, wT, wTand, wTor, wTnot, wAnd_eq, wOr_eq, wNot, wIsi_int, wIsi_bool, wIsi_str, wIsi_tup, wIsi_lst, tyInt, tyBool, tyStr, tyTup, tyLst, wChain_eq, wOp, wUn, wC, wVar, wCB, wCallP, fLen, wL, wComp, wSeqI, wZip, zipS, wCons, wNil, wTup, allK, argS, endP, noOwn, wipeD, dLe, dLt, dGe, dGt, dCm, dEq, dNe, dIdx, atI_0, atI_1, atI_2, wAsg, gN, gT, gCs, gNs, List.set, dInG, flatD, F1, List.length, limL_eq, shp_i, shp_s, shp_b, shp_n, eqv_ii, eqv_ss, F_is_integer, F_is_number, F_is_name, F_is_nothing, F_is_kind, F_is_pair, F_is_sort, isPair, F_is_one_of, c] using h
      | a :: b :: c :: r, h => simpa [wRet, wRetN, wIfS, wSeq, wNext, wT, wTand, wTor, wTnot, wAnd_eq, wOr_eq, wNot, wIsi_int, wIsi_bool, wIsi_str, wIsi_tup, wIsi_lst, tyInt, tyBool, tyStr, tyTup, tyLst, wChain_eq, wOp, wUn, wC, wVar, wCB, wCallP, fLen, wL, wComp, wSeqI, wZip, zipS, wCons, wNil, wTup, allK, argS, endP, noOwn, wipeD, dLe, dLt, dGe, dGt, dCm, dEq, dNe, dIdx, atI_0, atI_1, atI_2, wAsg, gN, gT, gCs, gNs, List.set, dInG, flatD, F1, List.length, limL_eq, shp_i, shp_s, shp_b, shp_n, eqv_ii, eqv_ss, F_is_integer, F_is_number, F_is_name, F_is_nothing, F_is_kind, F_is_pair, F_is_sort, isPair, isSort, F_is_one_of, isOneOf] using h
    | str x => simpa [wRet, wRetN, wIfS, wSeq, wNext, wT, wTand, wTor, wTnot, wAnd_eq, wOr_eq, wNot, wIsi_int, wIsi_bool, wIsi_str, wIsi_tup, wIsi_lst, tyInt, tyBool, tyStr, tyTup, tyLst, wChain_eq, wOp, wUn, wC, wVar, wCB, wCallP, fLen, wL, wComp, wSeqI, wZip, zipS, wCons, wNil, wTup, allK, argS, endP, noOwn, wipeD, dLe, dLt, dGe, dGt, dCm, dEq, dNe, dIdx, atI_0, atI_1, atI_2, wAsg, gN, gT, gCs, gNs, List.set, dInG, flatD, F1, List.length, limL_eq, shp_i, shp_s, shp_b, shp_n, eqv_ii, eqv_ss, F_is_integer, F_is_number, F_is_name, F_is_nothing, F_is_kind, F_is_pair, F_is_sort, isPair, isSort, F_is_one_of] using h
    | _ => simpa [wRet, wRetN, wIfS, wSeq, wNext, wT, wTand, wTor, wTnot, wAnd_eq, wOr_eq, wNot, wIsi_int, wIsi_bool, wIsi_str, wIsi_tup, wIsi_lst, tyInt, tyBool, tyStr, tyTup, tyLst, wChain_eq, wOp, wUn, wC, wVar, wCB, wCallP, fLen, wL, wComp, wSeqI, wZip, zipS, wCons, wNil, wTup, allK, argS, endP, noOwn, wipeD, dLe, dLt, dGe, dGt, dCm, dEq, dNe, dIdx, atI_0, atI_1, atI_2, wAsg, gN, gT, gCs, gNs, List.set, dInG, flatD, F1, List.length, limL_eq, shp_i, shp_s, shp_b, shp_n, eqv_ii, eqv_ss, F_is_integer, F_is_number, F_is_name, F_is_nothing, F_is_kind, F_is_pair, F_is_sort, isPair, isSort, F_is_one_of, isOneOf] using h
theorem fo_is_sort {f : Addr} {fd : FuncData} (Fu : Fun K "is_sort" "is_sort" s_is_sort f fd) (B : Bt mg) (D_is_kind : Do P w K mg base CX0 2 "is_kind" 1 (spP K 1 F_is_kind)) (D_is_one_of : Do P w K mg base CX0 1 "is_one_of" 2 (spP K 2 F_is_one_of)) (D_is_pair : Do P w K mg base CX0 1 "is_pair" 1 (spP K 1 F_is_pair)) : FnOk P w K mg base CX0 3 f fd ["thing"] (spP K 1 F_is_sort) :=
  fnPO (wb := w_is_sort) Fu sc_is_sort rfl (fun cdv A outer s H E hr => ⟨_,
  (sd_cons (sd_if (td_val (e_callO D_is_pair (hr.mono (by decide)) pass00 (ad_cons (ed_var 0) ad_nil))) (sd_one (sd_ret (ed_and (e_callO D_is_one_of (hr.mono (by decide)) pass00 (ad_cons (e_ix (ed_var 0) ed_int) (ad_cons (ed_tup (ad_cons ed_str ad_nil)) ad_nil))) (ed_one (e_callO D_is_kind (hr.mono (by decide)) pass00 (ad_cons (e_ix (ed_var 0) ed_int) ad_nil)))))) sd_nil)
  (sd_one (sd_ret (e_callO D_is_one_of (hr.mono (by decide)) pass00 (ad_cons (ed_var 0) (ad_cons (ed_tup (ad_cons ed_str (ad_cons ed_str ad_nil))) ad_nil))))))⟩) (spec_is_sort)
theorem ok_is_sort {f : Addr} {fd : FuncData} (Fu : Fun K "is_sort" "is_sort" s_is_sort f fd) (hm : mg "is_sort" = some (.ref f)) (hb : Binds K fd ["thing"] []) (B : Bt mg) (D_is_kind : Do P w K mg base CX0 2 "is_kind" 1 (spP K 1 F_is_kind)) (D_is_one_of : Do P w K mg base CX0 1 "is_one_of" 2 (spP K 2 F_is_one_of)) (D_is_pair : Do P w K mg base CX0 1 "is_pair" 1 (spP K 1 F_is_pair)) : Do P w K mg base CX0 3 "is_sort" 1 (spP K 1 F_is_sort) :=
  ⟨f, fd, ["thing"], rfl, hm, Fu.kp, hb, fo_is_sort Fu B D_is_kind D_is_one_of D_is_pair⟩
/-! ## is_row -/
abbrev s_is_row : Stmt := top 15
theorem sc_is_row : FnScope ["thing", "word"] ["thing"] (defScope s_is_row) := ⟨rfl, rfl, rfl, by decide +kernel, rfl, by decide +kernel, by decide +kernel⟩
def isRow2 (w : PyData) (r : List PyData) : Bool :=
  if isOneOf w [.str "end", .str "stop"] = true then decide (r.length = 0)
  else if isOneOf w [.str "let", .str "use"] = true then (match r with | [a, b] => isName a && isName b | _ => false)
  else if isOneOf w [.str "open"] = true then (match r with | [a] => isSort a | _ => false)
  else isOneOf w [.str "give"] && (match r with | [a] => isKind a | _ => false)
def isRow : PyData → Bool
  | .tuple (w :: r) => isRow2 w r
  | _ => false
abbrev F_is_row := F1 fun d => .bool (isRow d)
def w_is_row : DS Unit :=
  (wSeq (wIfS (wTor (wTnot (wT (wIsi "tuple" (wVar 0)))) (wT (wOp dEq (wCB fLen (wCons (wVar 0) wNil)) (wC (.int 0))))) (wRet (wC (.bool false))) wNext)
  (wSeq (wAsg (wOp dIdx (wVar 0) (wC (.int 0))) (gN 1))
  (wSeq (wIfS (wT (wCallP (fun ds Q E => ds.length = 2 ∧ F_is_one_of ds Q E) (wCons (wVar 1) (wCons (wTup (wCons (wC (.str "end")) (wCons (wC (.str "stop")) wNil))) wNil)))) (wRet (wOp dEq (wCB fLen (wCons (wVar 0) wNil)) (wC (.int 1)))) wNext)
  (wSeq (wIfS (wT (wCallP (fun ds Q E => ds.length = 2 ∧ F_is_one_of ds Q E) (wCons (wVar 1) (wCons (wTup (wCons (wC (.str "let")) (wCons (wC (.str "use")) wNil))) wNil)))) (wRet (wAnd (wOp dEq (wCB fLen (wCons (wVar 0) wNil)) (wC (.int 3))) (wAnd (wCallP (fun ds Q E => ds.length = 1 ∧ F_is_name ds Q E) (wCons (wOp dIdx (wVar 0) (wC (.int 1))) wNil)) (wCallP (fun ds Q E => ds.length = 1 ∧ F_is_name ds Q E) (wCons (wOp dIdx (wVar 0) (wC (.int 2))) wNil))))) wNext)
  (wSeq (wIfS (wT (wCallP (fun ds Q E => ds.length = 2 ∧ F_is_one_of ds Q E) (wCons (wVar 1) (wCons (wTup (wCons (wC (.str "open")) wNil)) wNil)))) (wRet (wAnd (wOp dEq (wCB fLen (wCons (wVar 0) wNil)) (wC (.int 2))) (wCallP (fun ds Q E => ds.length = 1 ∧ F_is_sort ds Q E) (wCons (wOp dIdx (wVar 0) (wC (.int 1))) wNil)))) wNext)
  (wRet (wAnd (wCallP (fun ds Q E => ds.length = 2 ∧ F_is_one_of ds Q E) (wCons (wVar 1) (wCons (wTup (wCons (wC (.str "give")) wNil)) wNil))) (wAnd (wOp dEq (wCB fLen (wCons (wVar 0) wNil)) (wC (.int 2))) (wCallP (fun ds Q E => ds.length = 1 ∧ F_is_kind ds Q E) (wCons (wOp dIdx (wVar 0) (wC (.int 1))) wNil))))))))))
theorem spec_is_row : ∀ ds Qd Ed, ds.length = 1 → F_is_row ds Qd Ed → w_is_row (argS 1 2 (ds.map Sl.d)) () (endP Qd Ed) := by
  intro ds Qd Ed hl h
  match ds, hl, h with
  | [d], _, h =>
    unfold w_is_row
    cases d with
    | tuple xs =>
      match xs, h with
      | [], h => simpa [wRet, wRetN, wIfS, wSeq, wNext, wT, wTand, wTor, wTnot, wAnd_eq, wOr_eq, wNot, wIsi_int, wIsi_bool, wIsi_str, wIsi_tup, wIsi_lst, tyInt, tyBool, tyStr, tyTup, tyLst, wChain_eq, wOp, wUn, wC, wVar, wCB, wCallP, fLen, wL, wComp, wSeqI, wZip, zipS, wCons, wNil, wTup, allK, argS, endP, noOwn, wipeD, dLe, dLt, dGe, dGt, dCm, dEq, dNe, dIdx, atI_0, atI_1, atI_2, wAsg, gN, gT, gCs, gNs, List.set, dInG, flatD, F1, List.length, limL_eq, shp_i, shp_s, shp_b, shp_n, eqv_ii, eqv_ss, F_is_integer, F_is_number, F_is_name, F_is_nothing, F_is_kind, F_is_pair, F_is_sort, F_is_row, isRow] using h
      | k :: r, h =>
        have h : Qd (.bool (isRow2 k r)) := h
        have nz : ¬ ((r.length : Int) + 1 = 0) := by omega
        by_cases c1 : isOneOf k [.str "end", .str "stop"] = true
        · match r, h with
          | [], h => simpa [wRet, wRetN, wIfS, wSeq, wNext, wT, wTand, wTor, wTnot, wAnd_eq, wOr_eq, wNot, wIsi_int, wIsi_bool, wIsi_str, wIsi_tup, wIsi_lst, tyInt, tyBool, tyStr, tyTup, tyLst, wChain_eq, wOp, wUn, wC, wVar, wCB, wCallP, fLen, wL, wComp, wSeqI, wZip, zipS, wCons, wNil, wTup, allK, argS, endP, noOwn, wipeD, dLe, dLt, dGe, dGt, dCm, dEq, dNe, dIdx, atI_0, atI_1, atI_2, wAsg, gN, gT, gCs, gNs, List.set, dInG, flatD, F1, List.length, limL_eq, shp_i, shp_s, shp_b, shp_n, eqv_ii, eqv_ss, F_is_integer, F_is_number, F_is_name, F_is_nothing, F_is_kind, F_is_pair, F_is_sort, F_is_row, F_is_one_of, isRow2, c1] using h
          | a :: r, h =>
            have n1 : ¬ ((r.length : Int) + 1 + 1 = 1) := by omega
            have n0 : ¬ ((r.length : Int) + 1 + 1 = 0) := by omega
            simpa [wRet, wRetN, wIfS, wSeq, wNext, wT, wTand, wTor, wTnot, wAnd_eq, wOr_eq, wNot, wIsi_int, wIsi_bool, wIsi_str, wIsi_tup, wIsi_lst, tyInt, tyBool, tyStr, tyTup, tyLst, wChain_eq, wOp, wUn, wC, wVar, wCB, wCallP, fLen, wL, wComp, wSeqI, wZip, zipS, wCons, wNil, wTup, allK, argS, endP, noOwn, wipeD, dLe, dLt, dGe, dGt, dCm, dEq, dNe, dIdx, atI_0, atI_1, atI_2, wAsg, gN, gT, gCs, gNs, List.set, dInG, flatD, F1, List.length, limL_eq, shp_i, shp_s, shp_b, shp_n, eqv_ii, eqv_ss, F_is_integer, F_is_number, F_is_name, F_is_nothing, F_is_kind, F_is_pair, F_is_sort, F_is_row, F_is_one_of, isRow2, c1, n0, n1] using h
        · by_cases c2 : isOneOf k [.str "let", .str "use"] = true
          · match r, h with
            | [], h => simpa [wRet, wRetN, wIfS, wSeq, wNext, wT, wTand, wTor, wTnot, wAnd_eq, wOr_eq, wNot, wIsi_int, wIsi_bool, wIsi_str, wIsi_tup, wIsi_lst, tyInt, tyBool, tyStr, tyTup, tyLst, wChain_eq, wOp, wUn, wC, wVar, wCB, wCallP, fLen, wL, wComp, wSeqI, wZip, zipS, wCons, wNil, wTup, allK, argS, endP, noOwn, wipeD, dLe, dLt, dGe, dGt, dCm, dEq, dNe, dIdx, atI_0, atI_1, atI_2, wAsg, gN, gT, gCs, gNs, List.set, dInG, flatD, F1, List.length, limL_eq, shp_i, shp_s, shp_b, shp_n, eqv_ii, eqv_ss, F_is_integer, F_is_number, F_is_name, F_is_nothing, F_is_kind, F_is_pair, F_is_sort, F_is_row, F_is_one_of, isRow2, c1, c2] using h
            | [a], h => simpa [wRet, wRetN, wIfS, wSeq, wNext, wT, wTand, wTor, wTnot, wAnd_eq, wOr_eq, wNot, wIsi_int, wIsi_bool, wIsi_str, wIsi_tup, wIsi_lst, tyInt, tyBool, tyStr, tyTup, tyLst, wChain_eq, wOp, wUn, wC, wVar, wCB, wCallP, fLen, wL, wComp, wSeqI, wZip, zipS, wCons, wNil, wTup, allK, argS, endP, noOwn, wipeD, dLe, dLt, dGe, dGt, dCm, dEq, dNe, dIdx, atI_0, atI_1, atI_2, wAsg, gN, gT, gCs, gNs, List.set, dInG, flatD, F1, List.length, limL_eq, shp_i, shp_s, shp_b, shp_n, eqv_ii, eqv_ss, F_is_integer, F_is_number, F_is_name, F_is_nothing, F_is_kind, F_is_pair, F_is_sort, F_is_row, F_is_one_of, isRow2, c1, c2] using h
            | [a, b], h => by_cases c3 : isName a = true <;> simpa [wRet, wRetN, wIfS, wSeq, wNext, wT, wTand, wTor, wTnot, wAnd_eq, wOr_eq, wNot, wIsi_int, wIsi_bool, wIsi_str, wIsi_tup, wIsi_lst, tyInt, tyBool, tyStr, tyTup, tyLst, wChain_eq, wOp, wUn, wC, wVar, wCB, wCallP, fLen, wL, wComp, wSeqI, wZip, zipS, wCons, wNil, wTup, allK, argS, endP, noOwn, wipeD, dLe, dLt, dGe, dGt, dCm, dEq, dNe, dIdx, atI_0, atI_1, atI_2, wAsg, gN, gT, gCs, gNs, List.set, dInG, flatD, F1, List.length, limL_eq, shp_i, shp_s, shp_b, shp_n, eqv_ii, eqv_ss, F_is_integer, F_is_number, F_is_name, F_is_nothing, F_is_kind, F_is_pair, F_is_sort, F_is_row, F_is_one_of, isRow2, c1, c2, c3] using h
            | a :: b :: c :: r, h =>
              have n1 : ¬ ((r.length : Int) + 1 + 1 + 1 + 1 = 3) := by omega
              have n0 : ¬ ((r.length : Int) + 1 + 1 + 1 + 1 = 0) := by omega
              simpa [wRet, wRetN, wIfS, wSeq, wNext, wT, wTand, wTor, wTnot, wAnd_eq, wOr_eq, wNot, wIsi_int, wIsi_bool, wIsi_str, wIsi_tup, wIsi_lst, tyInt, tyBool, tyStr, tyTup, tyLst, wChain_eq, wOp, wUn, wC, wVar, wCB, wCallP, fLen, wL, wComp, wSeqI, wZip, zipS, wCons, wNil, wTup, allK, argS, endP, noOwn, wipeD, dLe, dLt, dGe, dGt, dCm, dEq, dNe, dIdx, atI_0, atI_1, atI_2, wAsg, gN, gT, gCs, gNs, List.set, dInG, flatD, F1, List.length, limL_eq, shp_i, shp_s, shp_b, shp_n, eqv_ii, eqv_ss, F_is_integer, F_is_number, F_is_name, F_is_nothing, F_is_kind, F_is_pair, F_is_sort, F_is_row, F_is_one_of, isRow2, c1, c2, n0, n1] using h
          · by_cases c3 : isOneOf k [.str "open"] = true
            · match r, h with
              | [], h => simpa [wRet, wRetN, wIfS, wSeq, wNext, wT, wTand, wTor, wTnot, wAnd_eq, wOr_eq, wNot, wIsi_int, wIsi_bool, wIsi_str, wIsi_tup, wIsi_lst, tyInt, tyBool, tyStr, tyTup, tyLst, wChain_eq, wOp, wUn, wC, wVar, wCB, wCallP, fLen, wL, wComp, wSeqI, wZip, zipS, wCons, wNil, wTup, allK, argS, endP, noOwn, wipeD, dLe, dLt, dGe, dGt, dCm, dEq, dNe, dIdx, atI_0, atI_1, atI_2, wAsg, gN, gT, gCs, gNs, List.set, dInG, flatD, F1, List.length, limL_eq, shp_i, shp_s, shp_b, shp_n, eqv_ii, eqv_ss, F_is_integer, F_is_number, F_is_name, F_is_nothing, F_is_kind, F_is_pair, F_is_sort, F_is_row, F_is_one_of, isRow2, c1, c2, c3] using h
              | [a], h => simpa [wRet, wRetN, wIfS, wSeq, wNext, wT, wTand, wTor, wTnot, wAnd_eq, wOr_eq, wNot, wIsi_int, wIsi_bool, wIsi_str, wIsi_tup, wIsi_lst, tyInt, tyBool, tyStr, tyTup, tyLst, wChain_eq, wOp, wUn, wC, wVar, wCB, wCallP, fLen, wL, wComp, wSeqI, wZip, zipS, wCons, wNil, wTup, allK, argS, endP, noOwn, wipeD, dLe, dLt, dGe, dGt, dCm, dEq, dNe, dIdx, atI_0, atI_1, atI_2, wAsg, gN, gT, gCs, gNs, List.set, dInG, flatD, F1, List.length, limL_eq, shp_i, shp_s, shp_b, shp_n, eqv_ii, eqv_ss, F_is_integer, F_is_number, F_is_name, F_is_nothing, F_is_kind, F_is_pair, F_is_sort, F_is_row, F_is_one_of, isRow2, c1, c2, c3] using h
              | a :: b :: r, h =>
                have n1 : ¬ ((r.length : Int) + 1 + 1 + 1 = 2) := by omega
                have n0 : ¬ ((r.length : Int) + 1 + 1 + 1 = 0) := by omega
                simpa [wRet, wRetN, wIfS, wSeq, wNext, wT, wTand, wTor, wTnot, wAnd_eq, wOr_eq, wNot, wIsi_int, wIsi_bool, wIsi_str, wIsi_tup, wIsi_lst, tyInt, tyBool, tyStr, tyTup, tyLst, wChain_eq, wOp, wUn, wC, wVar, wCB, wCallP, fLen, wL, wComp, wSeqI, wZip, zipS, wCons, wNil, wTup, allK, argS, endP, noOwn, wipeD, dLe, dLt, dGe, dGt, dCm, dEq, dNe, dIdx, atI_0, atI_1, atI_2, wAsg, gN, gT, gCs, gNs, List.set, dInG, flatD, F1, List.length, limL_eq, shp_i, shp_s, shp_b, shp_n, eqv_ii, eqv_ss, F_is_integer, F_is_number, F_is_name, F_is_nothing, F_is_kind, F_is_pair, F_is_sort, F_is_row, F_is_one_of, isRow2, c1, c2, c3, n0, n1] using h
            · by_cases c4 : isOneOf k [.str "give"] = true
              · match r, h with
                | [], h => simpa [wRet, wRetN, wIfS, wSeq, wNext, wT, wTand, wTor, wTnot, wAnd_eq, wOr_eq, wNot, wIsi_int, wIsi_bool, wIsi_str, wIsi_tup, wIsi_lst, tyInt, tyBool, tyStr, tyTup, tyLst, wChain_eq, wOp, wUn, wC, wVar, wCB, wCallP, fLen, wL, wComp, wSeqI, wZip, zipS, wCons, wNil, wTup, allK, argS, endP, noOwn, wipeD, dLe, dLt, dGe, dGt, dCm, dEq, dNe, dIdx, atI_0, atI_1, atI_2, wAsg, gN, gT, gCs, gNs, List.set, dInG, flatD, F1, List.length, limL_eq, shp_i, shp_s, shp_b, shp_n, eqv_ii, eqv_ss, F_is_integer, F_is_number, F_is_name, F_is_nothing, F_is_kind, F_is_pair, F_is_sort, F_is_row, F_is_one_of, isRow2, c1, c2, c3, c4] using h
                | [a], h => simpa [wRet, wRetN, wIfS, wSeq, wNext, wT, wTand, wTor, wTnot, wAnd_eq, wOr_eq, wNot, wIsi_int, wIsi_bool, wIsi_str, wIsi_tup, wIsi_lst, tyInt, tyBool, tyStr, tyTup, tyLst, wChain_eq, wOp, wUn, wC, wVar, wCB, wCallP, fLen, wL, wComp, wSeqI, wZip, zipS, wCons, wNil, wTup, allK, argS, endP, noOwn, wipeD, dLe, dLt, dGe, dGt, dCm, dEq, dNe, dIdx, atI_0, atI_1, atI_2, wAsg, gN, gT, gCs, gNs, List.set, dInG, flatD, F1, List.length, limL_eq, shp_i, shp_s, shp_b, shp_n, eqv_ii, eqv_ss, F_is_integer, F_is_number, F_is_name, F_is_nothing, F_is_kind, F_is_pair, F_is_sort, F_is_row, F_is_one_of, isRow2, c1, c2, c3, c4] using h
                | a :: b :: r, h =>
                  have n1 : ¬ ((r.length : Int) + 1 + 1 + 1 = 2) := by omega
                  have n0 : ¬ ((r.length : Int) + 1 + 1 + 1 = 0) := by omega
                  simpa [wRet, wRetN, wIfS, wSeq, wNext, wT, wTand, wTor, wTnot, wAnd_eq, wOr_eq, wNot, wIsi_int, wIsi_bool, wIsi_str, wIsi_tup, wIsi_lst, tyInt, tyBool, tyStr, tyTup, tyLst, wChain_eq, wOp, wUn, wC, wVar, wCB, wCallP, fLen, wL, wComp, wSeqI, wZip, zipS, wCons, wNil, wTup, allK, argS, endP, noOwn, wipeD, dLe, dLt, dGe, dGt, dCm, dEq, dNe, dIdx, atI_0, atI_1, atI_2, wAsg, gN, gT, gCs, gNs, List.set, dInG, flatD, F1, List.length, limL_eq, shp_i, shp_s, shp_b, shp_n, eqv_ii, eqv_ss, F_is_integer, F_is_number, F_is_name, F_is_nothing, F_is_kind, F_is_pair, F_is_sort, F_is_row, F_is_one_of, isRow2, c1, c2, c3, c4, n0, n1] using h
              · simpa [wRet, wRetN, wIfS, wSeq, wNext, wT, wTand, wTor, wTnot, wAnd_eq, wOr_eq, wNot, wIsi_int, wIsi_bool, wIsi_str, wIsi_tup, wIsi_lst, tyInt, tyBool, tyStr, tyTup, tyLst, wChain_eq, wOp, wUn, wC, wVar, wCB, wCallP, fLen, wL, wComp, wSeqI, wZip, zipS, wCons, wNil, wTup, allK, argS, endP, noOwn, wipeD, dLe, dLt, dGe, dGt, dCm, dEq, dNe, dIdx, atI_0, atI_1, atI_2, wAsg, gN, gT, gCs, gNs, List.set, dInG, flatD, F1, List.length, limL_eq, shp_i, shp_s, shp_b, shp_n, eqv_ii, eqv_ss, F_is_integer, F_is_number, F_is_name, F_is_nothing, F_is_kind, F_is_pair, F_is_sort, F_is_row, F_is_one_of, isRow2, c1, c2, c3, c4, nz] using h
    | _ => simpa [wRet, wRetN, wIfS, wSeq, wNext, wT, wTand, wTor, wTnot, wAnd_eq, wOr_eq, wNot, wIsi_int, wIsi_bool, wIsi_str, wIsi_tup, wIsi_lst, tyInt, tyBool, tyStr, tyTup, tyLst, wChain_eq, wOp, wUn, wC, wVar, wCB, wCallP, fLen, wL, wComp, wSeqI, wZip, zipS, wCons, wNil, wTup, allK, argS, endP, noOwn, wipeD, dLe, dLt, dGe, dGt, dCm, dEq, dNe, dIdx, atI_0, atI_1, atI_2, wAsg, gN, gT, gCs, gNs, List.set, dInG, flatD, F1, List.length, limL_eq, shp_i, shp_s, shp_b, shp_n, eqv_ii, eqv_ss, F_is_integer, F_is_number, F_is_name, F_is_nothing, F_is_kind, F_is_pair, F_is_sort, F_is_row, isRow] using h
theorem fo_is_row {f : Addr} {fd : FuncData} (Fu : Fun K "is_row" "is_row" s_is_row f fd) (B : Bt mg) (D_is_kind : Do P w K mg base CX0 2 "is_kind" 1 (spP K 1 F_is_kind)) (D_is_name : Do P w K mg base CX0 1 "is_name" 1 (spP K 1 F_is_name)) (D_is_one_of : Do P w K mg base CX0 1 "is_one_of" 2 (spP K 2 F_is_one_of)) (D_is_sort : Do P w K mg base CX0 3 "is_sort" 1 (spP K 1 F_is_sort)) : FnOk P w K mg base CX0 4 f fd ["thing"] (spP K 1 F_is_row) :=
  fnPO (wb := w_is_row) Fu sc_is_row rfl (fun cdv A outer s H E hr => ⟨_,
  (sd_cons (sd_if (td_bool (tw_or (td_not (td_val (e_isi (T' := "tuple") B (ed_var 0) (by decide +kernel)))) (tw_or1 (t_eq hr (e_len B (ad_cons (ed_var 0) ad_nil)) ed_int)))) (sd_one (sd_ret ed_bl)) sd_nil)
  (sd_cons (sd_set 1 sc_is_row.nd rfl (by first | exact .inl rfl | exact .inr rfl) (e_ix (ed_var 0) ed_int))
  (sd_cons (sd_if (td_val (e_callO D_is_one_of (hr.mono (by decide)) pass00 (ad_cons (ed_var 1) (ad_cons (ed_tup (ad_cons ed_str (ad_cons ed_str ad_nil))) ad_nil)))) (sd_one (sd_ret (e_eq hr (e_len B (ad_cons (ed_var 0) ad_nil)) ed_int))) sd_nil)
  (sd_cons (sd_if (td_val (e_callO D_is_one_of (hr.mono (by decide)) pass00 (ad_cons (ed_var 1) (ad_cons (ed_tup (ad_cons ed_str (ad_cons ed_str ad_nil))) ad_nil)))) (sd_one (sd_ret (ed_and (e_eq hr (e_len B (ad_cons (ed_var 0) ad_nil)) ed_int) (ed_and (e_callO D_is_name (hr.mono (by decide)) pass00 (ad_cons (e_ix (ed_var 0) ed_int) ad_nil)) (ed_one (e_callO D_is_name (hr.mono (by decide)) pass00 (ad_cons (e_ix (ed_var 0) ed_int) ad_nil))))))) sd_nil)
  (sd_cons (sd_if (td_val (e_callO D_is_one_of (hr.mono (by decide)) pass00 (ad_cons (ed_var 1) (ad_cons (ed_tup (ad_cons ed_str ad_nil)) ad_nil)))) (sd_one (sd_ret (ed_and (e_eq hr (e_len B (ad_cons (ed_var 0) ad_nil)) ed_int) (ed_one (e_callO D_is_sort (hr.mono (by decide)) pass00 (ad_cons (e_ix (ed_var 0) ed_int) ad_nil)))))) sd_nil)
  (sd_one (sd_ret (ed_and (e_callO D_is_one_of (hr.mono (by decide)) pass00 (ad_cons (ed_var 1) (ad_cons (ed_tup (ad_cons ed_str ad_nil)) ad_nil))) (ed_and (e_eq hr (e_len B (ad_cons (ed_var 0) ad_nil)) ed_int) (ed_one (e_callO D_is_kind (hr.mono (by decide)) pass00 (ad_cons (e_ix (ed_var 0) ed_int) ad_nil))))))))))))⟩) (spec_is_row)
theorem ok_is_row {f : Addr} {fd : FuncData} (Fu : Fun K "is_row" "is_row" s_is_row f fd) (hm : mg "is_row" = some (.ref f)) (hb : Binds K fd ["thing"] []) (B : Bt mg) (D_is_kind : Do P w K mg base CX0 2 "is_kind" 1 (spP K 1 F_is_kind)) (D_is_name : Do P w K mg base CX0 1 "is_name" 1 (spP K 1 F_is_name)) (D_is_one_of : Do P w K mg base CX0 1 "is_one_of" 2 (spP K 2 F_is_one_of)) (D_is_sort : Do P w K mg base CX0 3 "is_sort" 1 (spP K 1 F_is_sort)) : Do P w K mg base CX0 4 "is_row" 1 (spP K 1 F_is_row) :=
  ⟨f, fd, ["thing"], rfl, hm, Fu.kp, hb, fo_is_row Fu B D_is_kind D_is_name D_is_one_of D_is_sort⟩
/-! ## is_ascending -/
abbrev s_is_ascending : Stmt := top 16
theorem sc_is_ascending : FnScope ["things", "low", "high"] ["things"] (defScope s_is_ascending) := ⟨rfl, rfl, rfl, by decide +kernel, rfl, by decide +kernel, by decide +kernel⟩
def ascD : List PyData → Bool
  | .int a :: .int b :: r => decide (a < b) && ascD (.int b :: r)
  | _ => true
def ascB : List PyData → List Bool
  | .int a :: .int b :: r => decide (a < b) :: ascB (.int b :: r)
  | _ => []
def lt2 : PyData → PyData
  | .tuple [.int a, .int b] => .bool (decide (a < b))
  | _ => .none
theorem asc_all : ∀ xs : List PyData, xs.all isInt = true → (ascB xs).all id = ascD xs ∧ (zipD xs (xs.drop 1)).map lt2 = (ascB xs).map PyData.bool ∧ ∀ d ∈ zipD xs (xs.drop 1), ∃ a b : Int, d = .tuple [.int a, .int b]
  | [], _ => ⟨rfl, rfl, fun d h => by cases h⟩
  | [a], h => by
    cases a <;> simp [isInt] at h
    exact ⟨rfl, rfl, fun d h => by simp [zipD] at h⟩
  | a :: b :: r, h => by
    cases a <;> simp [isInt] at h
    cases b <;> simp [isInt] at h
    rename_i i j
    obtain ⟨h1, h2, h3⟩ := asc_all (.int j :: r) (by simpa [isInt] using h)
    refine ⟨?_, ?_, fun d hd => ?_⟩
    · rw [ascB, ascD, List.all_cons, h1]; rfl
    · show lt2 (.tuple [.int i, .int j]) :: (zipD (.int j :: r) r).map lt2 = _
      rw [ascB, List.map_cons]
      exact congrArg _ h2
    · rcases List.mem_cons.mp hd with e | hd
      · exact ⟨i, j, e⟩
      · exact h3 d hd
abbrev F_is_ascending : List PyData → (PyData → Prop) → (Er → Prop) → Prop := fun ds Q _ => match ds with
  | [.tuple xs] => xs.all isInt = true ∧ Q (.bool (ascD xs))
  | [.list xs] => xs.all isInt = true ∧ Q (.bool (ascD xs))
  | _ => False
def w_is_ascending : DS Unit :=
  (wRet (wCB (fAll fun bs => bs.all id) (wCons (wL (wComp (wZip (wCons (wVar 0) (wCons (wSl (wVar 0) (oSome (wC (.int 1))) oNo) wNil))) (gT 2 (gCs (gN 1) (gCs (gN 2) gNs))) wYes (wOp dLt (wVar 1) (wVar 2)) [1, 2])) wNil)))
theorem spec_is_ascending : ∀ ds Qd Ed, ds.length = 1 → F_is_ascending ds Qd Ed → w_is_ascending (argS 1 3 (ds.map Sl.d)) () (endP Qd Ed) := by
  intro ds Qd Ed hl h
  match ds, hl, h with
  | [d], _, h =>
    unfold w_is_ascending
    cases d with
    | tuple xs =>
        simp [wRet, wRetN, wIfS, wSeq, wNext, wT, wTand, wTor, wTnot, wAnd_eq, wOr_eq, wNot, wIsi_int, wIsi_bool, wIsi_str, wIsi_tup, wIsi_lst, tyInt, tyBool, tyStr, tyTup, tyLst, wChain_eq, wOp, wUn, wC, wVar, wCB, wCallP, fLen, wL, wComp, wSeqI, wZip, zipS, wCons, wNil, wTup, allK, argS, endP, noOwn, wipeD, dLe, dLt, dGe, dGt, dCm, dEq, dNe, dIdx, atI_0, atI_1, atI_2, wAsg, gN, gT, gCs, gNs, List.set, dInG, flatD, F1, List.length, limL_eq, shp_i, shp_s, shp_b, shp_n, eqv_ii, eqv_ss, F_is_integer, F_is_number, F_is_name, F_is_nothing, F_is_kind, F_is_pair, F_is_sort, F_is_row, F_is_ascending, wSl, oSome, oNo, dSl]
        refine comp_map lt2 _ _ _ (fun d hd s Y y => ?_) ?_
        · rw [cut_tail] at hd
          obtain ⟨a, b, rfl⟩ := (asc_all xs h.1).2.2 d hd
          simpa [wRet, wRetN, wIfS, wSeq, wNext, wT, wTand, wTor, wTnot, wAnd_eq, wOr_eq, wNot, wIsi_int, wIsi_bool, wIsi_str, wIsi_tup, wIsi_lst, tyInt, tyBool, tyStr, tyTup, tyLst, wChain_eq, wOp, wUn, wC, wVar, wCB, wCallP, fLen, wL, wComp, wSeqI, wZip, zipS, wCons, wNil, wTup, allK, argS, endP, noOwn, wipeD, dLe, dLt, dGe, dGt, dCm, dEq, dNe, dIdx, atI_0, atI_1, atI_2, wAsg, gN, gT, gCs, gNs, List.set, dInG, flatD, F1, List.length, limL_eq, shp_i, shp_s, shp_b, shp_n, eqv_ii, eqv_ss, F_is_integer, F_is_number, F_is_name, F_is_nothing, F_is_kind, F_is_pair, F_is_sort, F_is_row, F_is_ascending, lt2] using y
        · rw [cut_tail]
          refine ⟨ascB xs, (asc_all xs h.1).2.1, ?_⟩
          show Qd (.bool ((ascB xs).all id))
          rw [(asc_all xs h.1).1]
          exact h.2
    | list xs =>
        simp [wRet, wRetN, wIfS, wSeq, wNext, wT, wTand, wTor, wTnot, wAnd_eq, wOr_eq, wNot, wIsi_int, wIsi_bool, wIsi_str, wIsi_tup, wIsi_lst, tyInt, tyBool, tyStr, tyTup, tyLst, wChain_eq, wOp, wUn, wC, wVar, wCB, wCallP, fLen, wL, wComp, wSeqI, wZip, zipS, wCons, wNil, wTup, allK, argS, endP, noOwn, wipeD, dLe, dLt, dGe, dGt, dCm, dEq, dNe, dIdx, atI_0, atI_1, atI_2, wAsg, gN, gT, gCs, gNs, List.set, dInG, flatD, F1, List.length, limL_eq, shp_i, shp_s, shp_b, shp_n, eqv_ii, eqv_ss, F_is_integer, F_is_number, F_is_name, F_is_nothing, F_is_kind, F_is_pair, F_is_sort, F_is_row, F_is_ascending, wSl, oSome, oNo, dSl]
        refine comp_map lt2 _ _ _ (fun d hd s Y y => ?_) ?_
        · rw [cut_tail] at hd
          obtain ⟨a, b, rfl⟩ := (asc_all xs h.1).2.2 d hd
          simpa [wRet, wRetN, wIfS, wSeq, wNext, wT, wTand, wTor, wTnot, wAnd_eq, wOr_eq, wNot, wIsi_int, wIsi_bool, wIsi_str, wIsi_tup, wIsi_lst, tyInt, tyBool, tyStr, tyTup, tyLst, wChain_eq, wOp, wUn, wC, wVar, wCB, wCallP, fLen, wL, wComp, wSeqI, wZip, zipS, wCons, wNil, wTup, allK, argS, endP, noOwn, wipeD, dLe, dLt, dGe, dGt, dCm, dEq, dNe, dIdx, atI_0, atI_1, atI_2, wAsg, gN, gT, gCs, gNs, List.set, dInG, flatD, F1, List.length, limL_eq, shp_i, shp_s, shp_b, shp_n, eqv_ii, eqv_ss, F_is_integer, F_is_number, F_is_name, F_is_nothing, F_is_kind, F_is_pair, F_is_sort, F_is_row, F_is_ascending, lt2] using y
        · rw [cut_tail]
          refine ⟨ascB xs, (asc_all xs h.1).2.1, ?_⟩
          show Qd (.bool ((ascB xs).all id))
          rw [(asc_all xs h.1).1]
          exact h.2
    | _ => exact h.elim
theorem fo_is_ascending {f : Addr} {fd : FuncData} (Fu : Fun K "is_ascending" "is_ascending" s_is_ascending f fd) (B : Bt mg) : FnOk P w K mg base CX0 1 f fd ["things"] (spP K 1 F_is_ascending) :=
  fnPO (wb := w_is_ascending) Fu sc_is_ascending rfl (fun cdv A outer s H E hr => ⟨_,
  (sd_one (sd_ret (e_all B rfl (ad_cons (ed_new (fd_lc rfl sc_is_ascending.nd (own := [("low", 1), ("high", 2)]) (i_zip B (ad_cons (ed_var 0) (ad_cons (e_slice (ed_var 0) (od_some ed_int) od_no) ad_nil))) (blkOk_by (own := [("low", 1), ("high", 2)]) (N := ["things", "low", "high"]) (sc := defScope s_is_ascending) (by decide +kernel))
    (fun _ _ _ _ _ => (g_tup rfl (gds_cons (gd_name 1 sc_is_ascending.nd rfl (by first | exact .inl rfl | exact .inr rfl)) (gds_cons (gd_name 2 sc_is_ascending.nd rfl (by first | exact .inl rfl | exact .inr rfl)) gds_nil)))) (fun _ _ _ _ _ => ptd_nil) (fun _ _ _ _ _ => (e_lt (ed_var 1) (ed_var 2))) (by simp))) ad_nil))))⟩) (spec_is_ascending)
theorem ok_is_ascending {f : Addr} {fd : FuncData} (Fu : Fun K "is_ascending" "is_ascending" s_is_ascending f fd) (hm : mg "is_ascending" = some (.ref f)) (hb : Binds K fd ["things"] []) (B : Bt mg) : Do P w K mg base CX0 1 "is_ascending" 1 (spP K 1 F_is_ascending) :=
  ⟨f, fd, ["things"], rfl, hm, Fu.kp, hb, fo_is_ascending Fu B⟩
/-! ## is_gaps -/
abbrev s_is_gaps : Stmt := top 17
theorem sc_is_gaps : FnScope ["thing", "gap"] ["thing"] (defScope s_is_gaps) := ⟨rfl, rfl, rfl, by decide +kernel, rfl, by decide +kernel, by decide +kernel⟩
def isGaps : PyData → Bool
  | .tuple xs => xs.all isNum && ascD xs
  | _ => false
abbrev F_is_gaps := F1 fun d => .bool (isGaps d)
def w_is_gaps : DS Unit :=
  (wRet (wAnd (wIsi "tuple" (wVar 0)) (wAnd (wCB (fAll fun bs => bs.all id) (wCons (wL (wComp (wSeqI (wVar 0)) (gN 1) wYes (wCallP (fun ds Q E => ds.length = 1 ∧ F_is_number ds Q E) (wCons (wVar 1) wNil)) [1])) wNil)) (wCallP (fun ds Q E => ds.length = 1 ∧ F_is_ascending ds Q E) (wCons (wVar 0) wNil)))))
theorem spec_is_gaps : ∀ ds Qd Ed, ds.length = 1 → F_is_gaps ds Qd Ed → w_is_gaps (argS 1 2 (ds.map Sl.d)) () (endP Qd Ed) := by
  intro ds Qd Ed hl h
  match ds, hl, h with
  | [d], _, h =>
    unfold w_is_gaps
    cases d with
    | tuple xs =>
      simp [wRet, wRetN, wIfS, wSeq, wNext, wT, wTand, wTor, wTnot, wAnd_eq, wOr_eq, wNot, wIsi_int, wIsi_bool, wIsi_str, wIsi_tup, wIsi_lst, tyInt, tyBool, tyStr, tyTup, tyLst, wChain_eq, wOp, wUn, wC, wVar, wCB, wCallP, fLen, wL, wComp, wSeqI, wZip, zipS, wCons, wNil, wTup, allK, argS, endP, noOwn, wipeD, dLe, dLt, dGe, dGt, dCm, dEq, dNe, dIdx, atI_0, atI_1, atI_2, wAsg, gN, gT, gCs, gNs, List.set, dInG, flatD, F1, List.length, limL_eq, shp_i, shp_s, shp_b, shp_n, eqv_ii, eqv_ss, F_is_integer, F_is_number, F_is_name, F_is_nothing, F_is_kind, F_is_pair, F_is_sort, F_is_row, F_is_ascending, F_is_gaps]
      have h : Qd (.bool (xs.all isNum && ascD xs)) := h
      refine comp_map (fun d => .bool (isNum d)) _ _ _ (fun d hd s Y y => ?_) ?_
      · exact ⟨rfl, by simpa [wRet, wRetN, wIfS, wSeq, wNext, wT, wTand, wTor, wTnot, wAnd_eq, wOr_eq, wNot, wIsi_int, wIsi_bool, wIsi_str, wIsi_tup, wIsi_lst, tyInt, tyBool, tyStr, tyTup, tyLst, wChain_eq, wOp, wUn, wC, wVar, wCB, wCallP, fLen, wL, wComp, wSeqI, wZip, zipS, wCons, wNil, wTup, allK, argS, endP, noOwn, wipeD, dLe, dLt, dGe, dGt, dCm, dEq, dNe, dIdx, atI_0, atI_1, atI_2, wAsg, gN, gT, gCs, gNs, List.set, dInG, flatD, F1, List.length, limL_eq, shp_i, shp_s, shp_b, shp_n, eqv_ii, eqv_ss, F_is_integer, F_is_number, F_is_name, F_is_nothing, F_is_kind, F_is_pair, F_is_sort, F_is_row, F_is_ascending, F_is_gaps] using y⟩
      · refine ⟨xs.map isNum, by rw [List.map_map]; rfl, ?_⟩
        have e : (xs.map isNum).all id = xs.all isNum := by rw [List.all_map]; rfl
        simp only [e]
        by_cases c : xs.all isNum = true
        · rw [c] at h ⊢
          refine ⟨fun x hx => ?_, by simpa using h⟩
          have := List.all_eq_true.mp c x hx
          cases x <;> simp [isNum] at this ⊢ <;> rfl
        · simp only [Bool.not_eq_true] at c
          rw [c] at h ⊢
          simpa using h
    | _ => simpa [wRet, wRetN, wIfS, wSeq, wNext, wT, wTand, wTor, wTnot, wAnd_eq, wOr_eq, wNot, wIsi_int, wIsi_bool, wIsi_str, wIsi_tup, wIsi_lst, tyInt, tyBool, tyStr, tyTup, tyLst, wChain_eq, wOp, wUn, wC, wVar, wCB, wCallP, fLen, wL, wComp, wSeqI, wZip, zipS, wCons, wNil, wTup, allK, argS, endP, noOwn, wipeD, dLe, dLt, dGe, dGt, dCm, dEq, dNe, dIdx, atI_0, atI_1, atI_2, wAsg, gN, gT, gCs, gNs, List.set, dInG, flatD, F1, List.length, limL_eq, shp_i, shp_s, shp_b, shp_n, eqv_ii, eqv_ss, F_is_integer, F_is_number, F_is_name, F_is_nothing, F_is_kind, F_is_pair, F_is_sort, F_is_row, F_is_ascending, F_is_gaps, isGaps] using h
theorem fo_is_gaps {f : Addr} {fd : FuncData} (Fu : Fun K "is_gaps" "is_gaps" s_is_gaps f fd) (B : Bt mg) (D_is_ascending : Do P w K mg base CX0 1 "is_ascending" 1 (spP K 1 F_is_ascending)) (D_is_number : Do P w K mg base CX0 2 "is_number" 1 (spP K 1 F_is_number)) : FnOk P w K mg base CX0 3 f fd ["thing"] (spP K 1 F_is_gaps) :=
  fnPO (wb := w_is_gaps) Fu sc_is_gaps rfl (fun cdv A outer s H E hr => ⟨_,
  (sd_one (sd_ret (ed_and (e_isi (T' := "tuple") B (ed_var 0) (by decide +kernel)) (ed_and (e_all B rfl (ad_cons (ed_new (fd_lc rfl sc_is_gaps.nd (own := [("gap", 1)]) (i_seq (ed_var 0)) (blkOk_by (own := [("gap", 1)]) (N := ["thing", "gap"]) (sc := defScope s_is_gaps) (by decide +kernel))
    (fun _ _ _ _ _ => (gd_name 1 sc_is_gaps.nd rfl (by first | exact .inl rfl | exact .inr rfl))) (fun _ _ _ _ _ => ptd_nil) (fun _ _ _ _ _ => (e_callO D_is_number (hr.mono (by decide)) pass00 (ad_cons (ed_var 1) ad_nil))) (by simp))) ad_nil)) (ed_one (e_callO D_is_ascending (hr.mono (by decide)) pass00 (ad_cons (ed_var 0) ad_nil)))))))⟩) (spec_is_gaps)
theorem ok_is_gaps {f : Addr} {fd : FuncData} (Fu : Fun K "is_gaps" "is_gaps" s_is_gaps f fd) (hm : mg "is_gaps" = some (.ref f)) (hb : Binds K fd ["thing"] []) (B : Bt mg) (D_is_ascending : Do P w K mg base CX0 1 "is_ascending" 1 (spP K 1 F_is_ascending)) (D_is_number : Do P w K mg base CX0 2 "is_number" 1 (spP K 1 F_is_number)) : Do P w K mg base CX0 3 "is_gaps" 1 (spP K 1 F_is_gaps) :=
  ⟨f, fd, ["thing"], rfl, hm, Fu.kp, hb, fo_is_gaps Fu B D_is_ascending D_is_number⟩
end
end L34

set_option Elab.async false
set_option linter.all false
set_option autoImplicit false
set_option maxRecDepth 100000
set_option maxHeartbeats 1000000
namespace Dt
open PySem PySem.Spec PyProof.Rows L2
/-! ### repr of any data -/
def rRepr3 (K : PySem.W.Frag) : List V → Hp → VK → Prop := fun xs H Q => ∃ v d, xs = [v] ∧ Dp K H v d ∧ d.showable = true ∧ d.depth ≤ 60 ∧ d.shown.length ≤ sizeLine ∧ Q (.str d.shown) H
theorem cr_repr3 {X : Cx} {k : Nat} (hr : Room k X.A) (hG : X.A.guards = some []) : CallR X (.builtin "repr") (rRepr3 X.K) := by
  intro pins s σ H xs us Q I r h
  obtain ⟨v, d, rfl, hd, hs, hdep, hz, q⟩ := h
  match d, hd, hs, hdep, hz, q with
  | .list ds, hd, hs, hdep, hz, q =>
    cases hd with
    | lst a b => exact cr_repr hr hG pins s σ H _ us Q I r ⟨_, .list ds, rfl, .lst a b, hs, hdep, hz, q⟩
  | .tuple ds, hd, hs, hdep, hz, q =>
    cases hd with
    | tup a b => exact cr_repr hr hG pins s σ H _ us Q I r ⟨_, .tuple ds, rfl, .tup a b, hs, hdep, hz, q⟩
  | .none, hd, hs, hdep, hz, q =>
    cases hd
    cases r with
    | cons r rr =>
    cases rr
    cases r
    rw [PyData.shown_none] at q
    exact P.repr_of_none ⟨.str "None", H, I.kept (t' := s.toks + 1) (fun _ _ e => e), ⟨_, rfl⟩, q⟩
  | .bool b, hd, hs, hdep, hz, q =>
    cases hd
    cases r with
    | cons r rr =>
    cases rr
    cases r
    rw [PyData.shown_bool] at q
    exact P.repr_of_bool ⟨.str (if b then "True" else "False"), H, I.kept (t' := s.toks + 1) (fun _ _ e => e), ⟨_, rfl⟩, q⟩
  | .int i, hd, hs, hdep, hz, q =>
    cases hd
    cases r with
    | cons r rr =>
    cases rr
    obtain ⟨t, rfl⟩ := r
    rw [PyData.shown_int] at q
    simp only [PyData.showable, decide_eq_true_eq] at hs
    exact P.repr_of_int hs ⟨.str (toString i), H, I.kept (t' := s.toks + 1) (fun _ _ e => e), ⟨_, rfl⟩, q⟩
  | .str x, hd, hs, hdep, hz, q =>
    cases hd
    cases r with
    | cons r rr =>
    cases rr
    obtain ⟨t, rfl⟩ := r
    rw [PyData.shown_str] at q hz
    exact P.repr_of_str ⟨.str (reprText x), H, I.kept (t' := s.toks + 1) (fun _ _ e => e), ⟨_, rfl⟩, q⟩ hz
def fRepr3 : List PyData → (PyData → Prop) → Prop
  | [d], Q => d.depth ≤ 60 ∧ wg d ≤ limL ∧ Q (.str d.shown)
  | _, _ => False
theorem cd_repr3 {K : PySem.W.Frag} : CallD K (rRepr3 K) fRepr3 := by
  intro H l vs ds Qd Q ht ha hf hq
  unfold fRepr3 at hf
  split at hf
  · rename_i d
    obtain ⟨h2, h3, h4⟩ := hf
    cases ha with
    | cons a b =>
      cases b
      have up := Dv.same (hd_to H l) _ _ a
      have h0 := noDict_wg d h3
      have w := Dv.shownOk d _ h0 a
      have ok : okS d.shown := ⟨Nat.le_trans w.1 h3, w.2⟩
      exact ⟨_, d, rfl, Dv.dp _ _ h0 up, Dv.showable _ _ h0 up, h2, Nat.le_trans ok.1 limL_size, hq _ H _ (Same.refl _) (.str ok) h4⟩
  · exact hf.elim
section
variable {S : Type} {Wo : Wd S} {X : Cx} {W : WX} {K : PySem.W.Frag} {tl : TA} {a : Expr} {pos p : Pos} {wl : DA S} {k : Nat}
theorem e_repr3 (B : Bt X.mg) (hr : Room k X.A) (hG : X.A.guards = some []) (ha : AD Wo X W [a] tl wl) (hK : X.K = K := by rfl) (hg : Gl X "repr" := by rfl) (he : starEach [a] X.env = (false, eval a X.env) :: starEach [] X.env := by rfl) (hpl : (backTo pos (starEach [] X.env)).any (·.1) = false := by rfl) :
    ED Wo X W (.Call (.Name "repr" p) [a] [] pos) (tCB (rRepr3 K) tl) (wCB fRepr3 wl) := by subst hK; exact ed_callB (cr_repr3 hr hG) cd_repr3 hg (B.no _ (by decide)) (by decide +kernel) ha (by decide) (by decide) he hpl
end
end Dt

set_option Elab.async false
set_option linter.all false
set_option autoImplicit false
set_option maxRecDepth 100000
set_option maxHeartbeats 1000000
namespace Dt
open PySem PySem.Spec
open L2 hiding wT wNot
/-! ### words, unfolded once -/
theorem limL_eq : limL = 4194304 := rfl
theorem few_lim {n : Nat} (h : n ≤ 1000) : n ≤ limL := by rw [limL_eq]; omega
theorem rng_mem {n : Nat} {d : PyData} (hd : d ∈ rngD 0 ((n : Int)).toNat) : ∃ k : Nat, d = .int (k : Int) ∧ k < n := by
  unfold rngD at hd
  obtain ⟨k, hk, rfl⟩ := List.mem_map.mp hd
  exact ⟨k, by rw [Int.zero_add], by simpa using hk⟩
theorem rng_filter {n : Nat} (p : Nat → Bool) : ((rngD 0 ((n : Int)).toNat).filter fun d => match d with | .int i => p i.toNat | _ => false).map (fun d => d) = ((List.range n).filter p).map fun k : Nat => PyData.int (k : Int) := by
  rw [List.map_id']
  unfold rngD
  rw [List.filter_map]
  have g : ((fun d : PyData => match d with | .int i => p i.toNat | _ => false) ∘ fun i : Nat => PyData.int ((0 : Int) + (i : Nat))) = p := by
    funext k
    show p ((0 : Int) + (k : Int)).toNat = _
    rw [Int.zero_add]; rfl
  rw [g]
  simp
theorem seq_of {S : Type} {a v : DS S} {ρ : List Sl} {s : S} {D : DEnds S} (h : a ρ s { D with nx := fun ρ' s' => v ρ' s' D }) : wSeq a v ρ s D := h
theorem asg_of {S : Type} {w : DE S} {g : DG} {ρ : List Sl} {s : S} {D : DEnds S} (h : w ρ s (fun d s1 => g d ρ fun ρ' => D.nx ρ' s1) fun e s' => D.er e ρ s') : wAsg w g ρ s D := h
theorem par_of {S : Type} {i j : Nat} {w : DA S} {ρ : List Sl} {s : S} {D : DEnds S} (h : w ρ s (fun as s1 => allK as fun ds => match ds with
  | [a, b] => D.nx ((ρ.set i (.d a)).set j (.d b)) s1
  | _ => False) fun e s' => D.er e ρ s') : wPar i j w ρ s D := h
theorem cons_of {S : Type} {w : DE S} {r : DA S} {ρ : List Sl} {s : S} {Q : List Ag → S → Prop} {E : Er → S → Prop} (h : w ρ s (fun x s1 => r ρ s1 (fun as s2 => Q (.d x :: as) s2) E) E) : wCons w r ρ s Q E := h
theorem rngD_len (lo : Int) (n : Nat) : (rngD lo n).length = n := by simp [rngD]
theorem ret_of {S : Type} {w : DE S} {ρ : List Sl} {s : S} {D : DEnds S} (h : w ρ s D.rt fun e s' => D.er e ρ s') : wRet w ρ s D := h
theorem cb1_of {S : Type} {f : List PyData → (PyData → Prop) → Prop} {w : DE S} {ρ : List Sl} {s : S} {Q : PyData → S → Prop} {E : Er → S → Prop} (h : w ρ s (fun d s1 => f [d] fun z => Q z s1) E) : wCB f (wCons w wNil) ρ s Q E := h
theorem l_of {S : Type} {w : DL S} {ρ : List Sl} {s : S} {Q : PyData → S → Prop} {E : Er → S → Prop} (h : w ρ s (fun ds s1 => Q (.list ds) s1) E) : wL w ρ s Q E := h
theorem comp_of {S : Type} {w : DL S} {g : DG} {wt : DT S} {we : DE S} {vs : List Nat} {ρ : List Sl} {s : S} {Q : List PyData → S → Prop} {E : Er → S → Prop} (h0 : noOwn ρ vs = true) (h : w ρ s (fun ds s1 => wCompL g wt we vs (wipeD ρ vs) ds s1 Q) E) : wComp w g wt we vs ρ s Q E := ⟨h0, h⟩
theorem rng1_of {S : Type} {w : DE S} {ρ : List Sl} {s : S} {Q : List PyData → S → Prop} {E : Er → S → Prop} (h : w ρ s (fun d s1 => match [d] with
  | [.int j] => j ≤ 4194304 ∧ -(2 ^ 62) ≤ j ∧ Q (rngD 0 j.toNat) s1
  | _ => False) E) : wRng1 (wCons w wNil) ρ s Q E := h
theorem op_of {S : Type} {f : PyData → PyData → (PyData → Prop) → Prop} {wa wb : DE S} {ρ : List Sl} {s : S} {Q : PyData → S → Prop} {E : Er → S → Prop} (h : wa ρ s (fun x s1 => wb ρ s1 (fun y s2 => f x y fun z => Q z s2) E) E) : wOp f wa wb ρ s Q E := h
theorem c_of {S : Type} {d : PyData} {ρ : List Sl} {s : S} {Q : PyData → S → Prop} {E : Er → S → Prop} (h : Q d s) : wC d ρ s Q E := h
theorem var_of {S : Type} {i : Nat} {x : PyData} {ρ : List Sl} {s : S} {Q : PyData → S → Prop} {E : Er → S → Prop} (h0 : ρ[i]? = some (.d x)) (h : Q x s) : wVar i ρ s Q E := by
  unfold wVar
  rw [h0]; exact h
theorem for_of {S : Type} {w : DL S} {g : DG} {b : DS S} {ρ : List Sl} {s : S} {D : DEnds S} (h : w ρ s (fun ds s1 => wLoop g b ds ρ s1 D) fun e s' => D.er e ρ s') : wFor w g b ρ s D := h
theorem app_of {S : Type} {i : Nat} {w : DE S} {ρ : List Sl} {s : S} {D : DEnds S} {p : Addr} {xs : List PyData} (h0 : ρ[i]? = some (.own p xs)) (h : w ρ s (fun d s1 => xs.length < limL ∧ D.nx (ρ.set i (.own p (xs ++ [d]))) s1) fun e s' => D.er e ρ s') : wApp i w ρ s D := by
  unfold wApp
  rw [h0]; exact h
theorem tup_of {S : Type} {w : DA S} {ρ : List Sl} {s : S} {Q : PyData → S → Prop} {E : Er → S → Prop} (h : w ρ s (fun as s1 => allK as fun ds => ds.length ≤ limL ∧ Q (.tuple ds) s1) E) : wTup w ρ s Q E := h
theorem freeze_of {S : Type} {i : Nat} {w : DS S} {ρ : List Sl} {s : S} {D : DEnds S} {p : Addr} {xs : List PyData} (h0 : ρ[i]? = some (.own p xs)) (h : w (ρ.set i (.d (.list xs))) s D) : wFreeze i w ρ s D := by
  unfold wFreeze
  rw [h0]; exact h
theorem rngD_at {n i : Nat} {d : PyData} (h : (rngD 0 n)[i]? = some d) : i < n ∧ d = .int i := by
  unfold rngD at h
  rw [List.getElem?_map] at h
  by_cases c : i < n
  · rw [List.getElem?_range c] at h
    simp at h
    exact ⟨c, h.symm⟩
  · rw [List.getElem?_eq_none (by simpa using c)] at h
    cases h
theorem ifS_any {t : DT Unit} {a b : DS Unit} {ρ : List Sl} {D : DEnds Unit} (h : ∀ (Q : Bool → Unit → Prop) (E : Er → Unit → Prop), (∀ c, Q c ()) → t ρ () Q E) (ka : a ρ () D) (kb : b ρ () D) : wIfS t a b ρ () D := h _ _ fun c => by
  cases c with
  | true => rw [if_pos rfl]; exact ka
  | false => rw [if_neg (by decide)]; exact kb
theorem t_of {S : Type} {w : DE S} {ρ : List Sl} {s : S} {Q : Bool → S → Prop} {E : Er → S → Prop} (h : w ρ s (fun x s1 => match x with | .bool b => Q b s1 | _ => False) E) : wT w ρ s Q E := h
theorem tand_of {S : Type} {wa wb : DT S} {ρ : List Sl} {s : S} {Q : Bool → S → Prop} {E : Er → S → Prop} (h : wa ρ s (fun b s1 => if b = true then wb ρ s1 Q E else Q false s1) E) : wTand wa wb ρ s Q E := h
theorem tor_of {S : Type} {wa wb : DT S} {ρ : List Sl} {s : S} {Q : Bool → S → Prop} {E : Er → S → Prop} (h : wa ρ s (fun b s1 => if b = true then Q true s1 else wb ρ s1 Q E) E) : wTor wa wb ρ s Q E := h
theorem eqI_of {i j : Int} {Q : PyData → Prop} (h : Q (.bool (decide (i = j)))) : dEq (.int i) (.int j) Q := ⟨shp_i _, shp_i _, by rw [eqv_ii]; exact h⟩
theorem ss_of {S : Type} {w : DE S} {ρ : List Sl} {s : S} {Q : List PyData → S → Prop} {E : Er → S → Prop} (h : w ρ s (fun d s1 => intsOf d fun ns => ns.length ≤ 4000 ∧ ∀ ms : List Int, ms.Pairwise (· < ·) → (∀ k, k ∈ ms ↔ k ∈ ns) → Q (ms.map PyData.int) s1) E) : wSortedSet w ρ s Q E := h
theorem setF_of {S : Type} {i : Nat} {w : DL S} {ρ : List Sl} {s : S} {D : DEnds S} (h : w ρ s (fun ds s1 => ∀ p, D.nx (ρ.set i (.own p ds)) s1) fun e s' => D.er e ρ s') : wSetF i w ρ s D := h
theorem lst_of {S : Type} {w : DA S} {ρ : List Sl} {s : S} {Q : List PyData → S → Prop} {E : Er → S → Prop} (h : w ρ s (fun as s1 => allK as fun ds => ds.length ≤ limL ∧ Q ds s1) E) : wLst w ρ s Q E := h
theorem repr3_ok {d : PyData} {Q : PyData → Prop} (h2 : d.depth ≤ 60) (h3 : wg d ≤ limL) (h : Q (.str d.shown)) : fRepr3 [d] Q := ⟨h2, h3, h⟩
theorem eq_self (x : Str) {Q : PyData → Prop} (h : Q (.bool true)) : dEq (.str x) (.str x) Q := ⟨rfl, rfl, by rw [eqv_ss, decide_eq_true rfl]; exact h⟩
theorem ne_self (x : Str) {Q : PyData → Prop} (h : Q (.bool false)) : dNe (.str x) (.str x) Q := ⟨rfl, rfl, by rw [eqv_ss, decide_eq_true rfl]; exact h⟩
theorem callP1 {S : Type} {f : List PyData → (PyData → Prop) → (Er → Prop) → Prop} {w : DE S} {ρ : List Sl} {s : S} {Q : PyData → S → Prop} {E : Er → S → Prop} (h : w ρ s (fun x s1 => f [x] (fun d => Q d s1) fun e => E e s1) E) : wCallP f (wCons w wNil) ρ s Q E := h
theorem un_of {S : Type} {f : PyData → (PyData → Prop) → Prop} {w : DE S} {ρ : List Sl} {s : S} {Q : PyData → S → Prop} {E : Er → S → Prop} (h : w ρ s (fun d s1 => f d fun z => Q z s1) E) : wUn f w ρ s Q E := h
theorem ext_of {S : Type} {i : Nat} {w : DL S} {ρ : List Sl} {s : S} {D : DEnds S} {p : Addr} {xs : List PyData} (h0 : ρ[i]? = some (.own p xs)) (h : w ρ s (fun ds s1 => (xs ++ ds).length ≤ limL ∧ D.nx (ρ.set i (.own p (xs ++ ds))) s1) fun e s' => D.er e ρ s') : wExt i w ρ s D := by
  unfold wExt
  rw [h0]; exact h
theorem seqI_of {S : Type} {w : DE S} {ρ : List Sl} {s : S} {Q : List PyData → S → Prop} {E : Er → S → Prop} (h : w ρ s (fun d s1 => seqOf d fun ds => Q ds s1) E) : wSeqI w ρ s Q E := h
theorem nil_of {S : Type} {ρ : List Sl} {s : S} {Q : List Ag → S → Prop} {E : Er → S → Prop} (h : Q [] s) : wNil ρ s Q E := h
theorem len_tup {xs : List PyData} {Q : PyData → Prop} (h : Q (.int xs.length)) : fLen [.tuple xs] Q := h
theorem tru_of {S : Type} {w : DE S} {ρ : List Sl} {s : S} {Q : Bool → S → Prop} {E : Er → S → Prop} (h : w ρ s (fun d s1 => ∃ b, truD d = some b ∧ Q b s1) E) : wTru w ρ s Q E := h
theorem osN_of {S : Type} {k : Int} {ρ : List Sl} {s : S} {Q : Option Int → S → Prop} {E : Er → S → Prop} (h : Q (some (-k)) s) : oSome (wUn dNeg (wC (.int k))) ρ s Q E := h
theorem osC_of {S : Type} {k : Int} {ρ : List Sl} {s : S} {Q : Option Int → S → Prop} {E : Er → S → Prop} (h : Q (some k) s) : oSome (wC (.int k)) ρ s Q E := h
theorem os_of {S : Type} {w : DE S} {ρ : List Sl} {s : S} {Q : Option Int → S → Prop} {E : Er → S → Prop} (h : w ρ s (fun d s1 => match d with | .int i => Q (some i) s1 | _ => False) E) : oSome w ρ s Q E := h
theorem dSl_lst {xs : List PyData} {lo hi : Option Int} {Q : PyData → Prop} (h : Q (.list (cutD xs lo hi))) : dSl (.list xs) lo hi Q := h
theorem dAdd_lst' {xs ys : List PyData} {Q : PyData → Prop} (h1 : (xs ++ ys).length ≤ limL) (h : Q (.list (xs ++ ys))) : dAdd (.list xs) (.list ys) Q := ⟨h1, h⟩
theorem len_lst {xs : List PyData} {Q : PyData → Prop} (h : Q (.int xs.length)) : fLen [.list xs] Q := h
theorem ownIx_of {S : Type} {i : Nat} {w : DE S} {ρ : List Sl} {s : S} {Q : PyData → S → Prop} {E : Er → S → Prop} {p : Addr} {xs : List PyData} (h0 : ρ[i]? = some (.own p xs)) (h : w ρ s (fun d s1 => match d with
    | .int j => ∃ z, atI xs j = some z ∧ Q z s1
    | _ => False) E) : wOwnIx i w ρ s Q E := by
  unfold wOwnIx
  rw [h0]; exact h
theorem tnot_of {S : Type} {wa : DT S} {ρ : List Sl} {s : S} {Q : Bool → S → Prop} {E : Er → S → Prop} (h : wa ρ s (fun b s1 => Q (!b) s1) E) : wTnot wa ρ s Q E := h
theorem if_of {S : Type} {wc : DT S} {wa wb : DE S} {ρ : List Sl} {s : S} {Q : PyData → S → Prop} {E : Er → S → Prop} (h : wc ρ s (fun b s1 => if b = true then wa ρ s1 Q E else wb ρ s1 Q E) E) : wIf wc wa wb ρ s Q E := h
theorem ifS_f {t : DT Unit} {a : DS Unit} {ρ : List Sl} {D : DEnds Unit} (h : ∀ (Q : Bool → Unit → Prop) (E : Er → Unit → Prop), Q false () → t ρ () Q E) (k : D.nx ρ ()) : wIfS t a wNext ρ () D := h _ _ (by rw [if_neg (by decide)]; exact k)
theorem last_of {xs : List PyData} (h : xs ≠ []) : ∃ z, atI xs (-1) = some z ∧ z ∈ xs := by
  obtain ⟨l, z, rfl⟩ : ∃ l z, xs = l ++ [z] := ⟨_, _, (List.dropLast_concat_getLast h).symm⟩
  exact ⟨z, atI_last _ _, by simp⟩
theorem callP4 {S : Type} {f : List PyData → (PyData → Prop) → (Er → Prop) → Prop} {w1 w2 w3 w4 : DE S} {ρ : List Sl} {s : S} {Q : PyData → S → Prop} {E : Er → S → Prop} (h : w1 ρ s (fun a s1 => w2 ρ s1 (fun b s2 => w3 ρ s2 (fun c s3 => w4 ρ s3 (fun d s4 => f [a, b, c, d] (fun z => Q z s4) fun e => E e s4) E) E) E) E) : wCallP f (wCons w1 (wCons w2 (wCons w3 (wCons w4 wNil)))) ρ s Q E := h
theorem callP3 {S : Type} {f : List PyData → (PyData → Prop) → (Er → Prop) → Prop} {w1 w2 w3 : DE S} {ρ : List Sl} {s : S} {Q : PyData → S → Prop} {E : Er → S → Prop} (h : w1 ρ s (fun a s1 => w2 ρ s1 (fun b s2 => w3 ρ s2 (fun c s3 => f [a, b, c] (fun z => Q z s3) fun e => E e s3) E) E) E) : wCallP f (wCons w1 (wCons w2 (wCons w3 wNil))) ρ s Q E := h
theorem callP2 {S : Type} {f : List PyData → (PyData → Prop) → (Er → Prop) → Prop} {w1 w2 : DE S} {ρ : List Sl} {s : S} {Q : PyData → S → Prop} {E : Er → S → Prop} (h : w1 ρ s (fun a s1 => w2 ρ s1 (fun b s2 => f [a, b] (fun z => Q z s2) fun e => E e s2) E) E) : wCallP f (wCons w1 (wCons w2 wNil)) ρ s Q E := h
theorem rng_map {n : Nat} (f : Nat → PyData) : (rngD 0 ((n : Int)).toNat).map (fun d => match d with | .int i => f i.toNat | _ => .none) = (List.range n).map f := by
  unfold rngD
  rw [List.map_map, Int.toNat_natCast]
  refine List.map_congr_left fun k _ => ?_
  show f ((0 : Int) + (k : Int)).toNat = f k
  rw [Int.zero_add, Int.toNat_natCast]
theorem rng2_of {S : Type} {w : DA S} {ρ : List Sl} {s : S} {Q : List PyData → S → Prop} {E : Er → S → Prop} (h : w ρ s (fun as s1 => allK as fun ds => match ds with
  | [.int i, .int j] => (-1000000 ≤ i ∧ i ≤ 1000000 ∧ -1000000 ≤ j ∧ j ≤ 1000000) ∧ Q (rngD i (j - i).toNat) s1
  | _ => False) E) : wRng2 w ρ s Q E := h
theorem ftup_of {xs : List PyData} {Q : PyData → Prop} (h : Q (.tuple xs)) : fTuple [.list xs] Q := h
theorem neg_of {i : Int} {Q : PyData → Prop} (h : Q (.int (-i))) : dNeg (.int i) Q := h
theorem dMul_of {xs : List PyData} {k : Int} {Q : PyData → Prop} (h0 : xs ≠ []) (h1 : 2 ≤ k) (h2 : k ≤ 1000) (h3 : xs.length ≤ 1000) (h : Q (.tuple (List.replicate k.toNat xs).flatten)) : dMul (.tuple xs) (.int k) Q := ⟨h0, h1, h2, h3, h⟩
theorem sl_low {i : Nat} {w : DE Unit} {k : Int} {ρ : List Sl} {s : Unit} {Q : PyData → Unit → Prop} {E : Er → Unit → Prop} (h0 : ρ[i]? = some (.d (.int k))) (h : w ρ s (fun d s1 => dSl d (some k) none fun z => Q z s1) E) : wSl w (oSome (wVar i)) oNo ρ s Q E := by
  simpa [wSl, oSome, oNo, wVar, h0] using h
theorem callW_of {S : Type} {f : List Ag → S → (PyData → S → Prop) → (Er → S → Prop) → Prop} {w : DA S} {ρ : List Sl} {s : S} {Q : PyData → S → Prop} {E : Er → S → Prop} (h : w ρ s (fun as s1 => f as s1 Q E) E) : wCallW f w ρ s Q E := h
theorem sto_of {S : Type} {i : Nat} {w wi : DE S} {ρ : List Sl} {s : S} {D : DEnds S} {p : Addr} {xs : List PyData} (h0 : ρ[i]? = some (.own p xs)) (h : w ρ s (fun d s1 => wi ρ s1 (fun k s2 => match k with
    | .int j => ∃ n, ixN xs.length j = some n ∧ D.nx (ρ.set i (.own p (xs.set n d))) s2
    | _ => False) fun e s' => D.er e ρ s') fun e s' => D.er e ρ s') : wSto i w wi ρ s D := by
  unfold wSto
  rw [h0]; exact h
theorem ifS_t {t : DT Unit} {a : DS Unit} {ρ : List Sl} {D : DEnds Unit} (h : ∀ (Q : Bool → Unit → Prop) (E : Er → Unit → Prop), Q true () → t ρ () Q E) (k : a ρ () D) : wIfS t a wNext ρ () D := h _ _ (by rw [if_pos rfl]; exact k)
theorem addL_of {S : Type} {wa wb : DL S} {ρ : List Sl} {s : S} {Q : List PyData → S → Prop} {E : Er → S → Prop} (h : wa ρ s (fun xs s1 => wb ρ s1 (fun ys s2 => (xs ++ ys).length ≤ limL ∧ Q (xs ++ ys) s2) E) E) : wAddL wa wb ρ s Q E := h
theorem listOf_of {S : Type} {w : DE S} {ρ : List Sl} {s : S} {Q : List PyData → S → Prop} {E : Er → S → Prop} (h : w ρ s (fun x s1 => match [x] with
  | [.list xs] => Q xs s1
  | [.tuple xs] => Q xs s1
  | _ => False) E) : wListOf (wCons w wNil) ρ s Q E := h
theorem dRev_tup {xs : List PyData} {Q : PyData → Prop} (h : Q (.tuple xs.reverse)) : dRev (.tuple xs) Q := h
theorem dAdd_tup {xs ys : List PyData} {Q : PyData → Prop} (h1 : (xs ++ ys).length ≤ limL) (h : Q (.tuple (xs ++ ys))) : dAdd (.tuple xs) (.tuple ys) Q := ⟨h1, h⟩
theorem dAdd_lst {xs ys : List PyData} {Q : PyData → Prop} (h1 : (xs ++ ys).length ≤ limL) (h : Q (.list (xs ++ ys))) : dAdd (.list xs) (.list ys) Q := ⟨h1, h⟩
theorem dSl_tup {xs : List PyData} {lo hi : Option Int} {Q : PyData → Prop} (h : Q (.tuple (cutD xs lo hi))) : dSl (.tuple xs) lo hi Q := h
theorem seqIf_t {S : Type} {t : DT S} {a b v : DS S} {ρ : List Sl} {s : S} {D : DEnds S} (h : ∀ (Q : Bool → S → Prop) (E : Er → S → Prop), Q true s → t ρ s Q E) (k : a ρ s { D with nx := fun ρ' s' => v ρ' s' D }) : wSeq (wIfS t a b) v ρ s D := h _ _ (by rw [if_pos rfl]; exact k)
theorem seqIf_f {S : Type} {t : DT S} {a v : DS S} {ρ : List Sl} {s : S} {D : DEnds S} (h : ∀ (Q : Bool → S → Prop) (E : Er → S → Prop), Q false s → t ρ s Q E) (k : v ρ s D) : wSeq (wIfS t a wNext) v ρ s D := h _ _ (by rw [if_neg (by decide)]; exact k)
theorem seqIf_e {S : Type} {t : DT S} {a b v : DS S} {ρ : List Sl} {s : S} {D : DEnds S} (h : ∀ (Q : Bool → S → Prop) (E : Er → S → Prop), Q false s → t ρ s Q E) (k : b ρ s { D with nx := fun ρ' s' => v ρ' s' D }) : wSeq (wIfS t a b) v ρ s D := h _ _ (by rw [if_neg (by decide)]; exact k)
theorem if2_t {t : DT Unit} {a b : DS Unit} {ρ : List Sl} {s : Unit} {D : DEnds Unit} (h : ∀ (Q : Bool → Unit → Prop) (E : Er → Unit → Prop), Q true s → t ρ s Q E) (k : a ρ s D) : wIfS t a b ρ s D := h _ _ (by rw [if_pos rfl]; exact k)
theorem if2_f {t : DT Unit} {a : DS Unit} {ρ : List Sl} {s : Unit} {D : DEnds Unit} (h : ∀ (Q : Bool → Unit → Prop) (E : Er → Unit → Prop), Q false s → t ρ s Q E) (k : D.nx ρ s) : wIfS t a wNext ρ s D := h _ _ (by rw [if_neg (by decide)]; exact k)
theorem if_t {t : DT Unit} {a b : DE Unit} {ρ : List Sl} {Q : PyData → Unit → Prop} {E : Er → Unit → Prop} (h : ∀ (R : Bool → Unit → Prop) (E : Er → Unit → Prop), R true () → t ρ () R E) (k : a ρ () Q E) : wIf t a b ρ () Q E := h _ _ (by rw [if_pos rfl]; exact k)
theorem if_f {t : DT Unit} {a b : DE Unit} {ρ : List Sl} {Q : PyData → Unit → Prop} {E : Er → Unit → Prop} (h : ∀ (R : Bool → Unit → Prop) (E : Er → Unit → Prop), R false () → t ρ () R E) (k : b ρ () Q E) : wIf t a b ρ () Q E := h _ _ (by rw [if_neg (by decide)]; exact k)
theorem seq_gen {S : Type} {a v : DS S} {ρ : List Sl} {s : S} {D : DEnds S} (h : ∀ D1 : DEnds S, (∀ ρ' s', v ρ' s' D → D1.nx ρ' s') → (D1.rt = D.rt) → (D1.er = D.er) → a ρ s D1) : wSeq a v ρ s D := h _ (fun _ _ q => q) rfl rfl
theorem dTail_tup {xs : List PyData} {Q : PyData → Prop} (h : Q (.tuple (xs.drop 1).reverse)) : dTail (.tuple xs) Q := h
theorem sl_of {S : Type} {w : DE S} {wl wh : DO S} {ρ : List Sl} {s : S} {Q : PyData → S → Prop} {E : Er → S → Prop} (h : w ρ s (fun d s1 => wl ρ s1 (fun lo s2 => wh ρ s2 (fun hi s3 => dSl d lo hi fun z => Q z s3) E) E) E) : wSl w wl wh ρ s Q E := h
theorem oNo_of {S : Type} {ρ : List Sl} {s : S} {Q : Option Int → S → Prop} {E : Er → S → Prop} (h : Q none s) : oNo ρ s Q E := h
theorem wAsg_l {S : Type} {w : DE S} {i : Nat} {ρ : List Sl} {s : S} {D : DEnds S} (h : w ρ s (fun d s1 => D.nx (ρ.set i (.d d)) s1) fun e s' => D.er e ρ s') : wAsg w (gN i) ρ s D := h
theorem lstRg_of {S : Type} {w : DE S} {ρ : List Sl} {s : S} {Q : PyData → S → Prop} {E : Er → S → Prop} (h : w ρ s (fun d s1 => match d with
  | .int j => 0 ≤ j ∧ j ≤ 4194304 ∧ Q (.list (rngD 0 j.toNat)) s1
  | _ => False) E) : wLstRg w ρ s Q E := h
theorem aug_of {S : Type} {i : Nat} {w : DL S} {ρ : List Sl} {s : S} {D : DEnds S} {p : Addr} {xs : List PyData} (h0 : ρ[i]? = some (.own p xs)) (h : w ρ s (fun ds s1 => (xs ++ ds).length ≤ limL ∧ D.nx (ρ.set i (.own p (xs ++ ds))) s1) fun e s' => D.er e ρ s') : wAugL i w ρ s D := by
  unfold wAugL wExt
  rw [h0]; exact h
end Dt

set_option Elab.async false
set_option linter.all false
set_option autoImplicit false
set_option maxRecDepth 100000
set_option maxHeartbeats 1000000
namespace Dt
open PySem PySem.Spec
open L2 hiding wT wNot
/-! ### min(xs), dict([(k, v)]), xs.index(None), x, y, z = [..], [..], e -/
section
variable {K : PySem.W.Frag}
def fMinL : List PyData → (PyData → Prop) → Prop
  | [.list xs], Q => ∃ ns : List Int, xs = ns.map PyData.int ∧ ns ≠ [] ∧ (∀ m ∈ ns, okI m) ∧ ∀ m ∈ ns, (∀ a ∈ ns, m ≤ a) → Q (.int m)
  | _, _ => False
theorem cd_minL : CallD K (rMin K) fMinL := by
  intro H l vs ds Qd Q ht ha hf hq
  match ds, ha, hf with
  | [.list xs], ha, hf =>
    obtain ⟨ns, rfl, ne, ok, q⟩ := hf
    cases ha with
    | cons a b =>
    cases b
    cases a with
    | @lst p va _ h n dv =>
    have e := dv_ints dv
    subst e
    exact ⟨p, ns, rfl, SqL.of (hd_to _ _ _ _ h), List.length_pos_iff.mpr ne, fun m hm hl => hq _ H _ (Same.refl _) (.int (ok m hm)) (q m hm hl)⟩
abbrev rDict1 (K : PySem.W.Frag) : List V → Hp → VK → Prop := fun xs H Q => ∃ (a : Addr) (ps : List Addr) (kvs : List (Key × V)), xs = [.ref a] ∧ SqL K H a (ps.map V.ref) ∧ Paired (fun p kv => SqT K H p [kV kv.1, kv.2]) ps kvs ∧
    ∀ p, H p = none → Q (.ref p) (upd H p (.dK (mergeK [] kvs)))
def fDict1 : List PyData → (PyData → Prop) → Prop
  | [.list [.tuple [k, d]]], Q => ∃ kk : Key, k = kD kk ∧ Q (.dict (kvD [(kk, d)]))
  | _, _ => False
theorem cd_dict1 : CallD K (rDict1 K) fDict1 := by
  intro H l vs ds Qd Q ht ha hf hq
  match ds, ha, hf with
  | [.list [.tuple [k, d]]], ha, hf =>
    obtain ⟨kk, rfl, q⟩ := hf
    cases ha with
    | cons a b =>
    cases b
    cases a with
    | @lst p va _ h n dv =>
    cases dv with
    | cons a b =>
    cases b
    cases a with
    | @tup p2 va2 _ h2 n2 dv2 =>
    cases dv2 with
    | @cons u _ us _ a b =>
    cases b with
    | @cons u2 _ us2 _ b c =>
    cases c
    obtain ⟨e, ok⟩ := Dv.key a
    subst e
    refine ⟨p, [p2], [(kk, u2)], rfl, SqL.of (hd_to _ _ _ _ h), .cons (same_seqT (hd_to _ _) h2) .nil, fun t nt => ?_⟩
    have tn : t ∉ l := fun z => ht t z nt
    refine hq _ _ _ (same_upd nt) (.dct (kvs := [(kk, u2)]) (by rw [hd_out tn]; exact upd_same) (by rw [limL_eq]; simp [kvD]) ?_) q
    refine e_dvp (es := [(kk, d)]) ⟨rfl, Dv.same ?_ _ _ b, trivial⟩ fun x hx => by rw [List.mem_singleton.mp hx]; exact ok
    intro b o hb
    by_cases z : b ∈ l
    · rw [hd_in z] at hb; cases hb
    · rw [hd_out z] at hb ⊢
      rw [upd_ne (fun e => by rw [e, nt] at hb; cases hb)]
      exact hb
end
section
variable {S : Type} {Wo : Wd S} {X : Cx} {W : WX} {K : PySem.W.Frag} {ta tb tc te : TE} {tl : TA} {e a b d : Expr} {pos p apos cpos : Pos} {wa wb we wc : DE S} {wl : DA S}
theorem e_minL (B : Bt X.mg) (hc : X.calm = true) (ha : AD Wo X W [a] tl wl) (hK : X.K = K := by rfl) (hg : Gl X "min" := by rfl) (he : starEach [a] X.env = (false, eval a X.env) :: starEach [] X.env := by rfl) (hpl : (backTo pos (starEach [] X.env)).any (·.1) = false := by rfl) :
    ED Wo X W (.Call (.Name "min" p) [a] [] pos) (tCB (rMin K) tl) (wCB fMinL wl) := by subst hK; exact ed_callB (cr_min hc) cd_minL hg (B.no _ (by decide)) (by decide +kernel) ha (by decide) (by decide) he hpl
theorem e_dict1 (B : Bt X.mg) (hc : X.calm = true) (ha : AD Wo X W [a] tl wl) (hK : X.K = K := by rfl) (hg : Gl X "dict" := by rfl) (he : starEach [a] X.env = (false, eval a X.env) :: starEach [] X.env := by rfl) (hpl : (backTo pos (starEach [] X.env)).any (·.1) = false := by rfl) :
    ED Wo X W (.Call (.Name "dict" p) [a] [] pos) (tCB (rDict1 K) tl) (wCB fDict1 wl) := by subst hK; exact ed_callTy (call_dictP hc) cd_dict1 hg (B.no _ (by decide)) (by decide +kernel) ha (by decide) (by decide) he hpl
/-- x.index(None), x a list of ints and None -/
def wIndexN {S : Type} (wa we : DE S) : DE S := fun ρ s Q E => wa ρ s (fun x s1 => ∃ xs : List PyData, x = .list xs ∧ we ρ s1 (fun y s2 => ∃ j : Nat, y = .none ∧ xs[j]? = some .none ∧ (∀ z ∈ xs, z = .none ∨ ∃ i, z = .int i) ∧ (∀ m, m < j → xs[m]? ≠ some .none) ∧ Q (.int (j : Int)) s2) E) E
theorem dvall_back {H : Hp} : ∀ {vs : List V} {ds : List PyData}, DvAll K H vs ds → ∀ {m : Nat} {z : V}, vs[m]? = some z → ∃ d, ds[m]? = some d ∧ Dv K H z d
  | _, _, .nil, m, z, h => by simp at h
  | _, _, .cons a b, 0, z, h => by simp at h; subst h; exact ⟨_, rfl, a⟩
  | _, _, .cons a b, m + 1, z, h => dvall_back b (m := m) (by simpa using h)
theorem dvall_to {H : Hp} : ∀ {vs : List V} {ds : List PyData}, DvAll K H vs ds → ∀ {m : Nat} {d : PyData}, ds[m]? = some d → ∃ z, vs[m]? = some z ∧ Dv K H z d
  | _, _, .nil, m, z, h => by simp at h
  | _, _, .cons a b, 0, z, h => by simp at h; subst h; exact ⟨_, rfl, a⟩
  | _, _, .cons a b, m + 1, z, h => dvall_to b (m := m) (by simpa using h)
theorem e_indexN {o : Expr} (ho : ED Wo X W o ta wa) (h : ED Wo X W e te we) (hlen : limL ≤ limL := Nat.le_refl _)
    (hbase : attributeBase o "index" X.env (eval o X.env) = eval o X.env := by rfl)
    (hfew : ((backTo cpos (starEach [e] X.env)).all (fun x => !x.1) && (backToKw cpos (keywordEach [] X.env)).all (fun x => x.1.isSome)
      && decide (([e] : List Expr).length + ([] : List Keyword).length + (if ([] : List Keyword).isEmpty then 0 else 1) < 30)) = true := by rfl)
    (hline : (apos.endLine == cpos.line) = true := by rfl) (hs : starEach [e] X.env = (false, eval e X.env) :: starEach [] X.env := by rfl) (hplain : (backTo cpos (starEach [] X.env)).any (·.1) = false := by rfl) :
    ED Wo X W (.Call (.Attribute o "index" apos) [e] [] cpos) (tBM X.K "list" (rIndex X.K) ta (tCons te tNil)) (wIndexN wa we) :=
  ⟨pe_bm F.plainAttrs_list F.slot_list_index F.type_list_index mt_index ho.pe (pa_cons h.pe pa_nil hs) hbase hfew hline hs hplain, fun c σ H ρ s Qd Ed Q E hw hv he => ho.go c σ H ρ s _ _ _ E hw (fun v H1 x s1 E1 st1 dv q1 => by
    obtain ⟨xs, rfl, q1⟩ := q1
    cases dv with
    | @lst p va _ hp n dv =>
    refine ⟨.inl ⟨rfl, va, SqL.of (hd_to _ _ _ _ hp)⟩, h.go c σ H1 ρ s1 _ _ _ E1 q1 (fun u H2 y s2 E2 st2 du q2 => ?_) he⟩
    obtain ⟨j, rfl, hj, hf, hn, q2⟩ := q2
    cases du
    have hp2 : hd H2 (c.hs ρ) p = some (.lst va) := st2 _ _ hp
    have dv2 := DvAll.same st2 _ _ dv
    obtain ⟨z, hz, dz⟩ := dvall_to dv2 hj
    cases dz
    refine ⟨p, va, .non, j, .non, rfl, rfl, SqL.of (hd_to _ _ _ _ hp2), rfl, ?_, hz, rfl, fun m z' hm hz' => ?_, ?_⟩
    · refine List.all_eq_true.mpr fun w hw => ?_
      obtain ⟨m, hm⟩ := List.getElem?_of_mem hw
      obtain ⟨d, hd', dd⟩ := dvall_back dv2 hm
      rcases hf d (List.mem_of_getElem? hd') with rfl | ⟨i, rfl⟩
      · cases dd; rfl
      · cases dd; rfl
    · obtain ⟨d, hd', dd⟩ := dvall_back dv2 hz'
      rcases hf d (List.mem_of_getElem? hd') with rfl | ⟨i, rfl⟩
      · exact absurd hd' (hn m hm)
      · cases dd; rfl
    · have jl : j < xs.length := (List.getElem?_eq_some_iff.mp hj).1
      exact hv _ _ _ s2 E2 (st1.trans st2) (.int (by rw [limL_eq] at n; unfold okI; omega)) q2) he⟩
end
theorem EnvD.unbaseH {S : Type} {Wo : Wd S} {K : PySem.W.Frag} {c c2 : Cn Wo} {σ σ' : St} {H H' : Hp} {ρ : List Sl} {s s' : S} (e : c2.H0 = c.H0) (E : EnvD K c σ H ρ s) (E' : EnvD K (c2.base H ρ) σ' H' ρ s') : EnvD K c2 σ' H' ρ s' :=
  ⟨E'.len, E'.slot, E'.nd, E'.tr, E'.g, fun b o h n => E'.ext b o (by
    have h : c.H0 b = some o := by rw [← e]; exact h
    show (if b ∈ owns ρ then none else H b) = some o
    rw [if_neg fun z => by have := E.new b z; rw [h] at this; cases this]
    exact E.ext b o h n) n, fun p hp => by rw [e]; exact E.new p hp⟩
/-! ### x, y, z = [..], [..], e: the first two are lists that the body owns -/
def wPar3 {S : Type} (i j l : Nat) (wa wb : DL S) (wc : DE S) : DS S := fun ρ s D => wa ρ s (fun xs s1 => wb ρ s1 (fun ys s2 => wc ρ s2 (fun d s3 => ∀ p p2, D.nx (((ρ.set i (.own p xs)).set j (.own p2 ys)).set l (.d d)) s3) fun e s' => D.er e ρ s') fun e s' => D.er e ρ s') fun e s' => D.er e ρ s'
section
variable {S : Type} {Wo : Wd S} {X : Cx} {W : WX} {ta tb tc : TE} {a b d : Expr} {pos : Pos}
theorem sd_par3 (i j l : Nat) {x y z : Str} {px py pz pt : Pos} {kt k2 : Nat} {pt2 : Pos} {wa wb : DL S} {wc : DE S} (hN : X.N.Nodup) (hi : X.N[i]? = some x) (hj : X.N[j]? = some y) (hl : X.N[l]? = some z) (hij : i ≠ j) (hil : i ≠ l) (hjl : j ≠ l) (ha : FD Wo X W a ta wa) (hb : FD Wo X W b tb wb) (hcc : ED Wo X W d tc wc)
    (hx : X.env.scope.names.lookup x = some .local := by rfl) (hy : X.env.scope.names.lookup y = some .local := by rfl) (hz : X.env.scope.names.lookup z = some .local := by rfl) (hc : X.calm = true := by rfl)
    (hw : swappedStores [.Tuple [.Name x px, .Name y py, .Name z pz] kt pt] (.Tuple [a, b, d] k2 pt2) X.env = pure (some [x, y, z]) := by rfl)
    (hs : swapsWithSole [.Tuple [.Name x px, .Name y py, .Name z pz] kt pt] (.Tuple [a, b, d] k2 pt2) pos.line X.env = pure false := by rfl)
    (h1 : starEach [a, b, d] X.env = (false, eval a X.env) :: starEach [b, d] X.env := by rfl) (h2 : starEach [b, d] X.env = (false, eval b X.env) :: starEach [d] X.env := by rfl) (h3 : starEach [d] X.env = (false, eval d X.env) :: starEach [] X.env := by rfl) :
    SD Wo X W (.Assign [.Tuple [.Name x px, .Name y py, .Name z pz] kt pt] (.Tuple [a, b, d] k2 pt2) pos) (tPar3 i j l (tCons ta (tCons tb (tCons tc tNil)))) (wPar3 i j l wa wb wc) :=
  ⟨ps_par3 hc hN hi hj hl hij hil hjl hx hy hz (pa_cons ha.pe (pa_cons hb.pe (pa_cons hcc.pe pa_nil h3) h2) h1) hw hs, fun c σ H ρ s Dd D E hw to => ha.go c σ H ρ s _ _ _ E hw (fun p vs H1 xs s1 E1 sm1 hp av n hn q1 => by
    have np := (nodup_mid.mp E1.nd).1
    have po : p ∉ owns ρ := fun z => np (List.mem_append_right _ z)
    have pw : p ∉ Wo.wa := fun z => np (List.mem_append_left _ (List.mem_append_left _ z))
    refine hb.go ((c.hide p).base H1 ρ) σ H1 ρ s1 _ (fun e s' => Dd.er e ρ s') _ E1.rebase q1 (fun p2 vs2 H2 ys s2 E2 sm2 hp2 av2 n2 hn2 q2 => ?_) ?_
    · have E2 : EnvD X.K (((c.hide p).hide p2).base H1 ρ) σ H2 ρ s2 := E2
      have E2u : EnvD X.K ((c.hide p).hide p2) σ H2 ρ s2 := EnvD.unbaseH (c := c.hide p) (c2 := (c.hide p).hide p2) rfl E1 E2
      have np2 := (nodup_mid.mp E2u.nd).1
      have po2 : p2 ∉ owns ρ := fun z => np2 (List.mem_append_right _ z)
      have pw2 : p2 ∉ Wo.wa := fun z => np2 (List.mem_append_left _ (List.mem_append_left _ z))
      have hpH2 : H2 p = some (.lst vs) := E2.ext p _ (by
        show (if p ∈ owns ρ then none else H1 p) = some (.lst vs)
        rw [if_neg po]; exact hp) pw
      refine hcc.go (((c.hide p).hide p2).base H2 ρ) σ H2 ρ s2 _ (fun e s' => Dd.er e ρ s') _ E2u.rebase q2 (fun v H3 d s3 E3 st3 dv q3 => ?_) ?_
      · have hpH3 : H3 p = some (.lst vs) := E3.ext p _ (by
          show (if p ∈ owns ρ then none else H2 p) = some (.lst vs)
          rw [if_neg po]; exact hpH2) pw
        have hp2H3 : H3 p2 = some (.lst vs2) := E3.ext p2 _ (by
          show (if p2 ∈ owns ρ then none else H2 p2) = some (.lst vs2)
          rw [if_neg po2]; exact hp2) pw2
        have E3u := E2u.unbase E3
        have sm2' : Same (hd H1 ((c.hide p).hs ρ)) (hd H2 (((c.hide p).hide p2).hs ρ)) := sm2
        have st3' : Same (hd H2 (((c.hide p).hide p2).hs ρ)) (hd H3 (((c.hide p).hide p2).hs ρ)) := st3
        have dv' : Dv X.K (hd H3 (((c.hide p).hide p2).hs ρ)) v d := dv
        have av2' : DvAll X.K (hd H2 (((c.hide p).hide p2).hs ρ)) vs2 ys := av2
        obtain ⟨E4, st4⟩ := E3u.setOwn (i := j) hp2H3 (DvAll.same st3' _ _ av2') n2 (hidden_new E1 hn2)
        obtain ⟨E5, st5⟩ := E4.setOwn (i := i) hpH3 (DvAll.same (sm2'.trans (st3'.trans st4)) _ _ av) n (hidden_new E hn)
        obtain ⟨E6, st6⟩ := E5.setD (i := l) (x := .d d) (v := v) rfl ⟨v, rfl, Dv.same (st4.trans st5) _ _ dv'⟩
        rw [List.set_comm _ _ (Ne.symm hij)] at E6
        refine ⟨_, _, _, rfl, to.nx _ H3 _ s3 E6 (sm1.trans (sm2'.trans (st3'.trans (st4.trans (st5.trans st6))))) ?_⟩
        rw [List.set_comm _ _ (Ne.symm hij)]
        exact q3 p p2
      · intro e cls dd H' s' E' ei q
        have E4 := (E2u.unbase E').unhide.unhide
        obtain ⟨c1, d0, fs, c2, c3, c4⟩ := ei
        have sub : Same (hd H' (((c.hide p).hide p2).hs ρ)) (hd H' (c.hs ρ)) := hd_sub fun a h => hs_hide_sub a (hs_hide_sub a h)
        exact to.er e cls dd σ H' ρ s' E4 ⟨c1, d0, fs, c2, c3, FsOk.same sub _ _ c4⟩ q
    · intro e cls dd H' s' E' ei q
      have E3 := (E1.unbase E').unhide
      obtain ⟨c1, d0, fs, c2, c3, c4⟩ := ei
      have sub : Same (hd H' ((c.hide p).hs ρ)) (hd H' (c.hs ρ)) := hd_sub hs_hide_sub
      exact to.er e cls dd σ H' ρ s' E3 ⟨c1, d0, fs, c2, c3, FsOk.same sub _ _ c4⟩ q) (to.err σ ρ)⟩
end
end Dt

set_option Elab.async false
set_option linter.all false
set_option autoImplicit false
set_option maxRecDepth 100000
set_option maxHeartbeats 1000000
namespace Dt
open PySem PySem.Spec
open L2 hiding wT wNot
/-! ### what is walked within a world -/
structure ItG (K : PySem.W.Frag) {S : Type} (Wo : Wd S) (l : List Addr) (H1 : Hp) (J : It) (ds : List PyData) : Prop where
  go : ∀ (s : S) (l' : List Addr) (H : Hp) (i : Nat), Wo.G s H → Same (hd H1 l) (hd H l') → i < ds.length → J.go i H
  stop : ∀ (s : S) (l' : List Addr) (H : Hp) (i : Nat), Wo.G s H → Same (hd H1 l) (hd H l') → ds.length ≤ i → J.stop i H
  yld : ∀ (s : S) (l' : List Addr) (H : Hp) (i : Nat) (x : V) (H' : Hp) (d : PyData), Wo.G s H → Same (hd H1 l) (hd H l') → (∀ a ∈ l', H a ≠ none) → J.yld i H x H' → ds[i]? = some d → Same H H' ∧ Dv K (hd H' l') x d
structure IG {S : Type} (Wo : Wd S) (X : Cx) (W : WX) (tg iter : Expr) (wi : TI) (w : DL S) : Prop where
  pe : PI X tg iter wi
  go : ∀ (c : Cn Wo) σ H ρ s Qd Ed R, EnvD X.K c σ H ρ s → w ρ s Qd Ed →
    (∀ J H1 ds s1, EnvD X.K c σ H1 ρ s1 → Stp c ρ ρ H H1 → ItG X.K Wo (c.hs ρ) H1 J ds → ds.length ≤ limL → Qd ds s1 → R J H1) → ErTo X.K c σ ρ Ed W → wi σ H R
theorem ID.g {S : Type} {Wo : Wd S} {X : Cx} {W : WX} {tg iter : Expr} {wi : TI} {w : DL S} (h : ID Wo X W tg iter wi w) : IG Wo X W tg iter wi w :=
  ⟨h.pe, fun c σ H ρ s Qd Ed R E hw hr he => h.go c σ H ρ s Qd Ed R E hw (fun J H1 ds s1 E1 st it n q => hr J H1 ds s1 E1 st ⟨fun s l' H i _ a b => it.go l' H i a b, fun s l' H i _ a b => it.stop l' H i a b, fun s l' H i x H' d _ a b c' e => it.yld l' H i x H' d a b c' e⟩ n q) he⟩
theorem dve_same {K : PySem.W.Frag} {H H' : Hp} {κ : Type} [DecidableEq κ] (e : Same H H') : ∀ {r : List (κ × V)} {t : List (κ × PyData)}, DvE K H r t → DvE K H' r t
  | [], [], _ => trivial
  | (_, _) :: r, (_, d) :: t, h => ⟨h.1, Dv.same e d _ h.2.1, dve_same e h.2.2⟩
  | [], _ :: _, h => h.elim
  | _ :: _, [], h => h.elim
/-! ### {k: e for tg in iter if ..} -/
def wDcL {S : Type} (g : DG) (wt : DT S) (wk we : DE S) (vs : List Nat) (ρ : List Sl) : List PyData → S → List (Key × PyData) → (List (Key × PyData) → S → Prop) → Prop
  | [], s, acc, Q => Q acc s
  | d :: ds, s, acc, Q => g d ρ fun ρ1 => noOwn ρ1 vs = true ∧ wt ρ1 s (fun b s1 => if b = true then wk ρ1 s1 (fun y s2 => we ρ1 s2 (fun z s3 => ∃ k, y = kD k ∧ wDcL g wt wk we vs ρ ds s3 (pt acc k z) Q) noE) noE else wDcL g wt wk we vs ρ ds s1 acc Q) noE
def wDc {S : Type} (w : DL S) (g : DG) (wt : DT S) (wk we : DE S) (vs : List Nat) : DE S := fun ρ s Q E => noOwn ρ vs = true ∧ w ρ s (fun ds s1 => wDcL g wt wk we vs (wipeD ρ vs) ds s1 [] fun es s2 => Q (.dict (kvD es)) s2) E
section
variable {S : Type} {Wo : Wd S} {X : Cx} {W : WX} {ta tb tc te : TE} {tt : TT} {t u : TS} {wi : TI} {tg iter e elt : Expr} {body : List Stmt} {pos : Pos}
theorem tLcG_go {w : DL S} {g : TG} {ns : List Nat} {gd : DG} {wt : DT S} {we : DE S} {vs : List Nat} {X' : Cx} (hK : X'.K = X.K) (hns : ∀ i ∈ ns, i ∈ vs)
    (hi : IG Wo X W tg iter wi w) (hg : ∀ (c : Cn Wo) σ H ρ s v d Qd Q, EnvD X.K c σ H ρ s → Dv X.K (hd H (c.hs ρ)) v d → gd d ρ Qd → (∀ σ' ρ', EnvD X.K c σ' H ρ' s → Stp c ρ ρ' H H → Only1 ns σ σ' ρ ρ' → Qd ρ' → Q σ' H) → g v σ H Q)
    (ht : ∀ (c : Cn Wo) σ H ρ s Qd Ed Q, EnvD X.K c σ H ρ s → wt ρ s Qd Ed → BTo X.K c σ H ρ Qd Q → ErTo X.K c σ ρ Ed WF → tt σ H Q)
    (he : ∀ (c : Cn Wo) σ H ρ s Qd Ed Q, EnvD X.K c σ H ρ s → we ρ s Qd Ed → VTo X.K c σ H ρ Qd Q → ErTo X.K c σ ρ Ed WF → te σ H Q)
    {c : Cn Wo} {σ : St} {H : Hp} {ρ : List Sl} {s : S} {Qd : List PyData → S → Prop} {Ed : Er → S → Prop} {Q : VK} (E : EnvD X.K c σ H ρ s) (hw : wComp w gd wt we vs ρ s Qd Ed)
    (hq : ∀ p ws H' ds s', EnvD X.K (c.hide p) σ H' ρ s' → Same (hd H (c.hs ρ)) (hd H' ((c.hide p).hs ρ)) → H' p = some (.lst ws) → DvAll X.K (hd H' ((c.hide p).hs ρ)) ws ds → ds.length ≤ limL → H p = none → Qd ds s' → Q (.ref p) H')
    (her : ErTo X.K c σ ρ Ed W) : tLc wi g tt te vs σ H Q := by
  obtain ⟨hno, hw⟩ := hw
  refine hi.go c σ H ρ s _ _ _ E hw (fun J H1 ds s1 E1 st1 it n1 q1 => fun D hD => ?_) her
  have hDH : H D = none := by
    cases q : H D with
    | none => rfl
    | some u =>
      by_cases z : D ∈ c.hs ρ
      · exact absurd hD (E1.tr D z)
      · have := hd_to _ _ _ _ (st1 D u (hd_some.mpr ⟨z, q⟩))
        rw [hD] at this; cases this
  have hD0 : c.H0 D = none := by
    cases q : c.H0 D with
    | none => rfl
    | some u =>
      by_cases z : D ∈ c.W.wa
      · exact absurd hD (E1.tr D (List.mem_append_left _ (List.mem_append_left _ z)))
      · have := E1.ext D u q z
        rw [hD] at this; cases this
  obtain ⟨E2, sm2⟩ := E1.hideNew (o := .lst []) hD
  have eo := owns_wipe hno
  have eh : (c.hide D).hs (wipeD ρ vs) = (c.hide D).hs ρ := by show _ ++ owns _ = _; rw [eo]
  have E3 := E2.wipe hno
  refine ⟨fun i m H' => m = ds.length - i ∧ i ≤ ds.length ∧ ∃ s' acc ws, EnvD X.K (c.hide D) (wipe σ vs) H' (wipeD ρ vs) s' ∧ Same (hd H1 (c.hs ρ)) (hd H' ((c.hide D).hs ρ)) ∧ H' D = some (.lst ws) ∧ DvAll X.K (hd H' ((c.hide D).hs ρ)) ws acc ∧ acc.length ≤ i ∧
    wCompL gd wt we vs (wipeD ρ vs) (ds.drop i) s' (fun ys s'' => Qd (acc ++ ys) s''), ⟨_, rfl, Nat.zero_le _, s1, [], [], E3, sm2, upd_same, .nil, Nat.zero_le _, q1⟩, ?_⟩
  rintro i m H' ⟨rfl, hi', s', acc, ws, E', sm', hDl, hacc, hlen, q'⟩
  by_cases hlt : i < ds.length
  · refine .inr ⟨it.go s' _ _ _ E'.g sm' hlt, fun H2 => ∃ s2 acc2 ws2, EnvD X.K (c.hide D) (wipe σ vs) H2 (wipeD ρ vs) s2 ∧ Same (hd H1 (c.hs ρ)) (hd H2 ((c.hide D).hs ρ)) ∧ H2 D = some (.lst ws2) ∧ DvAll X.K (hd H2 ((c.hide D).hs ρ)) ws2 acc2 ∧ acc2.length ≤ i + 1 ∧
      wCompL gd wt we vs (wipeD ρ vs) (ds.drop (i + 1)) s2 (fun ys s'' => Qd (acc2 ++ ys) s''), fun H2 ⟨s2, acc2, ws2, a, b, c', d, e, f⟩ => ⟨ds.length - (i + 1), by omega, rfl, hlt, s2, acc2, ws2, a, b, c', d, e, f⟩, fun x H2 y => ?_⟩
    have tr' : ∀ a ∈ (c.hide D).hs ρ, H' a ≠ none := fun a ha => E'.tr a (eh ▸ ha)
    obtain ⟨sm, dv⟩ := it.yld s' _ _ _ _ _ ds[i] E'.g sm' tr' y (List.getElem?_eq_getElem hlt)
    rw [drop_cons hlt] at q'
    have E4 := E'.grow sm
    have hDl2 : H2 D = some (.lst ws) := sm _ _ hDl
    have st4 : Same (hd H' ((c.hide D).hs ρ)) (hd H2 ((c.hide D).hs ρ)) := hd_same _ fun b u _ q => sm b u q
    refine hg (c.hide D) (wipe σ vs) H2 (wipeD ρ vs) s' x ds[i] _ _ E4 (by rw [eh]; exact dv) q' fun σ5 ρ5 E5 st5 o5 q5 => ?_
    obtain ⟨hno5, q5⟩ := q5
    obtain ⟨w5, d5⟩ := o5 vs hns
    have w5' : wipe σ5 vs = wipe σ vs := by
      rw [w5]
      have : ∀ us : List Nat, (∀ i ∈ us, i ∈ vs) → wipe (wipe σ us) vs = wipe σ vs := by
        intro us
        induction us with
        | nil => intro _; rfl
        | cons a us ih =>
          intro h
          show wipe ((wipe σ us).set a none) vs = _
          rw [wipe_set (h a List.mem_cons_self), ih fun i hi => h i (List.mem_cons_of_mem _ hi)]
      exact this vs fun _ h => h
    have d5' : wipeD ρ5 vs = wipeD ρ vs := by
      rw [d5]
      have : ∀ us : List Nat, (∀ i ∈ us, i ∈ vs) → wipeD (wipeD ρ us) vs = wipeD ρ vs := by
        intro us
        induction us with
        | nil => intro _; rfl
        | cons a us ih =>
          intro h
          show wipeD ((wipeD ρ us).set a .no) vs = _
          rw [wipeD_set (h a List.mem_cons_self), ih fun i hi => h i (List.mem_cons_of_mem _ hi)]
      exact this vs fun _ h => h
    refine ⟨by rw [w5'], ?_⟩
    have eo5 : owns ρ5 = owns ρ := by rw [← owns_wipe hno5, d5', eo]
    have eh5 : (c.hide D).hs ρ5 = (c.hide D).hs ρ := by show _ ++ owns _ = _; rw [eo5]
    have DR : D ∉ owns ρ5 := fun z => by
      rw [eo5] at z
      exact (nodup_mid.mp E2.nd).1 (List.mem_append_right _ z)
    have Dw : D ∉ Wo.wa := fun z => (nodup_mid.mp E2.nd).1 (List.mem_append_left _ (List.mem_append_left _ z))
    -- the heap behind an evaluation within the turn
    have back : ∀ {H6 : Hp} {s6 : S}, EnvD X.K ((c.hide D).base H2 ρ5) σ5 H6 ρ5 s6 → Stp ((c.hide D).base H2 ρ5) ρ5 ρ5 H2 H6 → H6 D = some (.lst ws) ∧ EnvD X.K (c.hide D) σ5 H6 ρ5 s6 ∧ Same (hd H2 ((c.hide D).hs ρ)) (hd H6 ((c.hide D).hs ρ)) := fun {H6 s6} E6 st6 => by
      refine ⟨E6.ext D _ ?_ Dw, E5.unbase E6, ?_⟩
      · show (if D ∈ owns ρ5 then none else H2 D) = some (.lst ws)
        rw [if_neg DR]; exact hDl2
      · have := st6
        unfold Stp at this
        rw [Cn.hs_base, eh5] at this
        exact this
    refine ht ((c.hide D).base H2 ρ5) σ5 H2 ρ5 s' _ _ _ E5.rebase q5 (fun b H6 s6 E6 st6 q6 => ?_) fun _ _ _ _ _ _ _ z => z.elim
    cases b with
    | true =>
      rw [if_pos rfl] at q6 ⊢
      refine he ((c.hide D).base H2 ρ5) σ5 H6 ρ5 s6 _ _ _ E6 q6 (fun v H7 d7 s7 E7 st7 dv7 q7 => ?_) fun _ _ _ _ _ _ _ z => z.elim
      obtain ⟨hD7, E7', sm7⟩ := back E7 (st6.trans st7)
      have n7 : acc.length < sizeLine := Nat.lt_of_le_of_lt hlen (Nat.lt_of_lt_of_le hlt (Nat.le_trans n1 limL_size))
      have dv7 : Dv X.K (hd H7 ((c.hide D).hs ρ)) v d7 := by
        rw [Cn.hs_base, eh5] at dv7
        exact dv7
      obtain ⟨E8, e8⟩ := E7'.updHid (o := .lst (ws ++ [v])) hD0 ⟨_, hD7⟩
      rw [eh5] at e8
      have E9 := E8.wipe hno5
      rw [w5', d5'] at E9
      refine ⟨ws, hD7, by rw [hacc.length]; exact n7, s7, acc ++ [d7], ws ++ [v], E9, ?_, upd_same, ?_, by rw [List.length_append, List.length_singleton]; omega, ?_⟩
      · rw [e8]; exact sm'.trans (st4.trans sm7)
      · rw [e8]; exact (DvAll.same (st4.trans sm7) _ _ hacc).append (.cons dv7 .nil)
      · have e : (fun (ys : List PyData) (s'' : S) => Qd ((acc ++ [d7]) ++ ys) s'') = fun ys s'' => Qd (acc ++ (d7 :: ys)) s'' := by
          funext ys s''
          rw [List.append_assoc]; rfl
        rw [e]
        exact q7
    | false =>
      rw [if_neg Bool.false_ne_true] at q6 ⊢
      obtain ⟨hD7, E7', sm7⟩ := back E6 st6
      have E9 := E7'.wipe hno5
      rw [w5', d5'] at E9
      exact ⟨s6, acc, ws, E9, sm'.trans (st4.trans sm7), hD7, DvAll.same (st4.trans sm7) _ _ hacc, Nat.le_succ_of_le hlen, q6⟩
  · have e : i = ds.length := by omega
    subst e
    rw [List.drop_length] at q'
    have q' : Qd (acc ++ []) s' := q'
    rw [List.append_nil] at q'
    refine .inl ⟨it.stop s' _ _ _ E'.g sm' (Nat.le_refl _), hq D ws H' acc s' (E1.unwipe hno E' sm') (st1.trans sm') hDl hacc (Nat.le_trans hlen n1) hDH q'⟩
theorem fd_lcG {ifs : List Expr} {scope : Scope} {own : List (Str × Nat)} {w : DL S} {g : TG} {ns : List Nat} {gd : DG} {wt : DT S} {we : DE S} (hc : X.calm = true) (hN : X.N.Nodup) (hi : IG Wo X W tg iter wi w) (ok : BlkOk X.N X.env.scope scope own)
    (hg : ∀ (s : Shared) (H : Hp) (C : Addr) (cl : List (Str × Addr)) (fp : List Addr), GD Wo (X.blk s H scope (compEnvC scope cl C X.env) fp) tg g ns gd)
    (ht : ∀ (s : Shared) (H : Hp) (C : Addr) (cl : List (Str × Addr)) (fp : List Addr), PTD Wo (X.blk s H scope (compEnvC scope cl C X.env) fp) WF ifs tt wt)
    (he : ∀ (s : Shared) (H : Hp) (C : Addr) (cl : List (Str × Addr)) (fp : List Addr), ED Wo (X.blk s H scope (compEnvC scope cl C X.env) fp) WF elt te we) (hns : ∀ i ∈ ns, i ∈ own.map (·.2)) (hs : ∀ x, foldedSetIterable iter X.env x = pure x := by intro _; rfl) :
    FD Wo X W (.ListComp elt [⟨tg, iter, ifs, 0⟩] scope pos) (tLc wi g tt te (own.map (·.2))) (wComp w gd wt we (own.map (·.2))) :=
  ⟨pe_lc hc hN hi.pe ok (fun s H C cl fp => (hg s H C cl fp).pe) (fun s H C cl fp => (ht s H C cl fp).pe) (fun s H C cl fp => (he s H C cl fp).pe) hs, fun c σ H ρ s Qd Ed Q E hw hq her =>
    tLcG_go (X' := X) rfl hns hi (hg X.s_0 (fun _ => none) 0 [] []).go (ht X.s_0 (fun _ => none) 0 [] []).go (he X.s_0 (fun _ => none) 0 [] []).go E hw hq her⟩
theorem tDcG_go {w : DL S} {g : TG} {ns : List Nat} {gd : DG} {wt : DT S} {wk we : DE S} {tk : TE} {vs : List Nat} {X' : Cx} (hK : X'.K = X.K) (hns : ∀ i ∈ ns, i ∈ vs)
    (hi : IG Wo X W tg iter wi w) (hg : ∀ (c : Cn Wo) σ H ρ s v d Qd Q, EnvD X.K c σ H ρ s → Dv X.K (hd H (c.hs ρ)) v d → gd d ρ Qd → (∀ σ' ρ', EnvD X.K c σ' H ρ' s → Stp c ρ ρ' H H → Only1 ns σ σ' ρ ρ' → Qd ρ' → Q σ' H) → g v σ H Q)
    (ht : ∀ (c : Cn Wo) σ H ρ s Qd Ed Q, EnvD X.K c σ H ρ s → wt ρ s Qd Ed → BTo X.K c σ H ρ Qd Q → ErTo X.K c σ ρ Ed WF → tt σ H Q)
    (hk : ∀ (c : Cn Wo) σ H ρ s Qd Ed Q, EnvD X.K c σ H ρ s → wk ρ s Qd Ed → VTo X.K c σ H ρ Qd Q → ErTo X.K c σ ρ Ed WF → tk σ H Q)
    (he : ∀ (c : Cn Wo) σ H ρ s Qd Ed Q, EnvD X.K c σ H ρ s → we ρ s Qd Ed → VTo X.K c σ H ρ Qd Q → ErTo X.K c σ ρ Ed WF → te σ H Q)
    {c : Cn Wo} {σ : St} {H : Hp} {ρ : List Sl} {s : S} {Qd : List (Key × PyData) → S → Prop} {Ed : Er → S → Prop} {Q : VK} (E : EnvD X.K c σ H ρ s) (hw : noOwn ρ vs = true ∧ w ρ s (fun ds s1 => wDcL gd wt wk we vs (wipeD ρ vs) ds s1 [] Qd) Ed)
    (hq : ∀ p ws H' ds s', EnvD X.K (c.hide p) σ H' ρ s' → Same (hd H (c.hs ρ)) (hd H' ((c.hide p).hs ρ)) → H' p = some (.dK ws) → DvE X.K (hd H' ((c.hide p).hs ρ)) ws ds → (∀ e ∈ ds, okK e.1) → ds.length ≤ limL → H p = none → Qd ds s' → Q (.ref p) H')
    (her : ErTo X.K c σ ρ Ed W) : tDc wi g tt tk te vs σ H Q := by
  obtain ⟨hno, hw⟩ := hw
  refine hi.go c σ H ρ s _ _ _ E hw (fun J H1 ds s1 E1 st1 it n1 q1 => fun D hD => ?_) her
  have hDH : H D = none := by
    cases q : H D with
    | none => rfl
    | some u =>
      by_cases z : D ∈ c.hs ρ
      · exact absurd hD (E1.tr D z)
      · have := hd_to _ _ _ _ (st1 D u (hd_some.mpr ⟨z, q⟩))
        rw [hD] at this; cases this
  have hD0 : c.H0 D = none := by
    cases q : c.H0 D with
    | none => rfl
    | some u =>
      by_cases z : D ∈ c.W.wa
      · exact absurd hD (E1.tr D (List.mem_append_left _ (List.mem_append_left _ z)))
      · have := E1.ext D u q z
        rw [hD] at this; cases this
  obtain ⟨E2, sm2⟩ := E1.hideNew (o := .dK []) hD
  have eo := owns_wipe hno
  have eh : (c.hide D).hs (wipeD ρ vs) = (c.hide D).hs ρ := by show _ ++ owns _ = _; rw [eo]
  have E3 := E2.wipe hno
  refine ⟨fun i m H' => m = ds.length - i ∧ i ≤ ds.length ∧ ∃ s' acc ws, EnvD X.K (c.hide D) (wipe σ vs) H' (wipeD ρ vs) s' ∧ Same (hd H1 (c.hs ρ)) (hd H' ((c.hide D).hs ρ)) ∧ H' D = some (.dK ws) ∧ (DvE X.K (hd H' ((c.hide D).hs ρ)) ws acc ∧ ∀ e ∈ acc, okK e.1) ∧ acc.length ≤ i ∧
    wDcL gd wt wk we vs (wipeD ρ vs) (ds.drop i) s' acc Qd, ⟨_, rfl, Nat.zero_le _, s1, [], [], E3, sm2, upd_same, ⟨trivial, fun _ z => nomatch z⟩, Nat.zero_le _, q1⟩, ?_⟩
  rintro i m H' ⟨rfl, hi', s', acc, ws, E', sm', hDl, hacc, hlen, q'⟩
  by_cases hlt : i < ds.length
  · refine .inr ⟨it.go s' _ _ _ E'.g sm' hlt, fun H2 => ∃ s2 acc2 ws2, EnvD X.K (c.hide D) (wipe σ vs) H2 (wipeD ρ vs) s2 ∧ Same (hd H1 (c.hs ρ)) (hd H2 ((c.hide D).hs ρ)) ∧ H2 D = some (.dK ws2) ∧ (DvE X.K (hd H2 ((c.hide D).hs ρ)) ws2 acc2 ∧ ∀ e ∈ acc2, okK e.1) ∧ acc2.length ≤ i + 1 ∧
      wDcL gd wt wk we vs (wipeD ρ vs) (ds.drop (i + 1)) s2 acc2 Qd, fun H2 ⟨s2, acc2, ws2, a, b, c', d, e, f⟩ => ⟨ds.length - (i + 1), by omega, rfl, hlt, s2, acc2, ws2, a, b, c', d, e, f⟩, fun x H2 y => ?_⟩
    have tr' : ∀ a ∈ (c.hide D).hs ρ, H' a ≠ none := fun a ha => E'.tr a (eh ▸ ha)
    obtain ⟨sm, dv⟩ := it.yld s' _ _ _ _ _ ds[i] E'.g sm' tr' y (List.getElem?_eq_getElem hlt)
    rw [drop_cons hlt] at q'
    have E4 := E'.grow sm
    have hDl2 : H2 D = some (.dK ws) := sm _ _ hDl
    have st4 : Same (hd H' ((c.hide D).hs ρ)) (hd H2 ((c.hide D).hs ρ)) := hd_same _ fun b u _ q => sm b u q
    refine hg (c.hide D) (wipe σ vs) H2 (wipeD ρ vs) s' x ds[i] _ _ E4 (by rw [eh]; exact dv) q' fun σ5 ρ5 E5 st5 o5 q5 => ?_
    obtain ⟨hno5, q5⟩ := q5
    obtain ⟨w5, d5⟩ := o5 vs hns
    have w5' : wipe σ5 vs = wipe σ vs := by
      rw [w5]
      have : ∀ us : List Nat, (∀ i ∈ us, i ∈ vs) → wipe (wipe σ us) vs = wipe σ vs := by
        intro us
        induction us with
        | nil => intro _; rfl
        | cons a us ih =>
          intro h
          show wipe ((wipe σ us).set a none) vs = _
          rw [wipe_set (h a List.mem_cons_self), ih fun i hi => h i (List.mem_cons_of_mem _ hi)]
      exact this vs fun _ h => h
    have d5' : wipeD ρ5 vs = wipeD ρ vs := by
      rw [d5]
      have : ∀ us : List Nat, (∀ i ∈ us, i ∈ vs) → wipeD (wipeD ρ us) vs = wipeD ρ vs := by
        intro us
        induction us with
        | nil => intro _; rfl
        | cons a us ih =>
          intro h
          show wipeD ((wipeD ρ us).set a .no) vs = _
          rw [wipeD_set (h a List.mem_cons_self), ih fun i hi => h i (List.mem_cons_of_mem _ hi)]
      exact this vs fun _ h => h
    refine ⟨by rw [w5'], ?_⟩
    have eo5 : owns ρ5 = owns ρ := by rw [← owns_wipe hno5, d5', eo]
    have eh5 : (c.hide D).hs ρ5 = (c.hide D).hs ρ := by show _ ++ owns _ = _; rw [eo5]
    have DR : D ∉ owns ρ5 := fun z => by
      rw [eo5] at z
      exact (nodup_mid.mp E2.nd).1 (List.mem_append_right _ z)
    have Dw : D ∉ Wo.wa := fun z => (nodup_mid.mp E2.nd).1 (List.mem_append_left _ (List.mem_append_left _ z))
    -- the heap behind an evaluation within the turn
    have back : ∀ {H6 : Hp} {s6 : S}, EnvD X.K ((c.hide D).base H2 ρ5) σ5 H6 ρ5 s6 → Stp ((c.hide D).base H2 ρ5) ρ5 ρ5 H2 H6 → H6 D = some (.dK ws) ∧ EnvD X.K (c.hide D) σ5 H6 ρ5 s6 ∧ Same (hd H2 ((c.hide D).hs ρ)) (hd H6 ((c.hide D).hs ρ)) := fun {H6 s6} E6 st6 => by
      refine ⟨E6.ext D _ ?_ Dw, E5.unbase E6, ?_⟩
      · show (if D ∈ owns ρ5 then none else H2 D) = some (.dK ws)
        rw [if_neg DR]; exact hDl2
      · have := st6
        unfold Stp at this
        rw [Cn.hs_base, eh5] at this
        exact this
    refine ht ((c.hide D).base H2 ρ5) σ5 H2 ρ5 s' _ _ _ E5.rebase q5 (fun b H6 s6 E6 st6 q6 => ?_) fun _ _ _ _ _ _ _ z => z.elim
    cases b with
    | true =>
      rw [if_pos rfl] at q6 ⊢
      refine hk ((c.hide D).base H2 ρ5) σ5 H6 ρ5 s6 _ _ _ E6 q6 (fun y7 H7 dk7 s7 E7 st7 dk q7 => ?_) fun _ _ _ _ _ _ _ z => z.elim
      refine he ((c.hide D).base H2 ρ5) σ5 H7 ρ5 s7 _ _ _ E7 q7 (fun v H8 d8 s8 E8 st8 dv8 q8 => ?_) fun _ _ _ _ _ _ _ z => z.elim
      obtain ⟨kk, rfl, q8⟩ := q8
      obtain ⟨ku, ok⟩ := Dv.key dk
      subst ku
      obtain ⟨hD8, E8', sm8⟩ := back E8 (st6.trans (st7.trans st8))
      have n8 : acc.length < sizeLine := Nat.lt_of_le_of_lt hlen (Nat.lt_of_lt_of_le hlt (Nat.le_trans n1 limL_size))
      have dv8 : Dv X.K (hd H8 ((c.hide D).hs ρ)) v d8 := by
        rw [Cn.hs_base, eh5] at dv8
        exact dv8
      obtain ⟨E9, e9⟩ := E8'.updHidG (o := .dK (putK ws kk v)) hD0 ⟨_, hD8, .inr (.inl ⟨_, rfl⟩)⟩
      rw [eh5] at e9
      have E10 := E9.wipe hno5
      rw [w5', d5'] at E10
      have hE := dve_same (st4.trans sm8) hacc.1
      refine ⟨ws, kk, rfl, hD8, by rw [hacc.1.len]; exact n8, s8, pt acc kk d8, putK ws kk v, E10, ?_, upd_same, ⟨?_, pt_ok hacc.2 ok⟩, Nat.le_trans (pt_len acc kk d8) (Nat.succ_le_succ hlen), q8⟩
      · rw [e9]; exact sm'.trans (st4.trans sm8)
      · rw [e9]; exact hE.put dv8
    | false =>
      rw [if_neg Bool.false_ne_true] at q6 ⊢
      obtain ⟨hD7, E7', sm7⟩ := back E6 st6
      have E9 := E7'.wipe hno5
      rw [w5', d5'] at E9
      exact ⟨s6, acc, ws, E9, sm'.trans (st4.trans sm7), hD7, ⟨dve_same (st4.trans sm7) hacc.1, hacc.2⟩, Nat.le_succ_of_le hlen, q6⟩
  · have e : i = ds.length := by omega
    subst e
    rw [List.drop_length] at q'
    have q' : Qd acc s' := q'
    refine .inl ⟨it.stop s' _ _ _ E'.g sm' (Nat.le_refl _), hq D ws H' acc s' (E1.unwipe hno E' sm') (st1.trans sm') hDl hacc.1 hacc.2 (Nat.le_trans hlen n1) hDH q'⟩
theorem e_dcG {kx : Expr} {ifs : List Expr} {scope : Scope} {own : List (Str × Nat)} {w : DL S} {g : TG} {ns : List Nat} {gd : DG} {wt : DT S} {wk we : DE S} {tk : TE} (hi : IG Wo X W tg iter wi w) (hN : X.N.Nodup) (ok : BlkOk X.N X.env.scope scope own)
    (hg : ∀ (s : Shared) (H : Hp) (C : Addr) (cl : List (Str × Addr)) (fp : List Addr), GD Wo (X.blk s H scope (compEnvC scope cl C X.env) fp) tg g ns gd)
    (ht : ∀ (s : Shared) (H : Hp) (C : Addr) (cl : List (Str × Addr)) (fp : List Addr), PTD Wo (X.blk s H scope (compEnvC scope cl C X.env) fp) WF ifs tt wt)
    (hk : ∀ (s : Shared) (H : Hp) (C : Addr) (cl : List (Str × Addr)) (fp : List Addr), ED Wo (X.blk s H scope (compEnvC scope cl C X.env) fp) WF kx tk wk)
    (he : ∀ (s : Shared) (H : Hp) (C : Addr) (cl : List (Str × Addr)) (fp : List Addr), ED Wo (X.blk s H scope (compEnvC scope cl C X.env) fp) WF elt te we) (hns : ∀ i ∈ ns, i ∈ own.map (·.2)) (hc : X.calm = true := by rfl) (hs : ∀ x, foldedSetIterable iter X.env x = pure x := by intro _; rfl) :
    ED Wo X W (.DictComp kx elt [⟨tg, iter, ifs, 0⟩] scope pos) (tDc wi g tt tk te (own.map (·.2))) (wDc w gd wt wk we (own.map (·.2))) :=
  ⟨pe_dc hc hN hi.pe ok (fun s H C cl fp => (hg s H C cl fp).pe) (fun s H C cl fp => (ht s H C cl fp).pe) (fun s H C cl fp => (hk s H C cl fp).pe) (fun s H C cl fp => (he s H C cl fp).pe) hs, fun c σ H ρ s Qd Ed Q E hw hv her =>
    tDcG_go (X' := X) rfl hns hi (hg X.s_0 (fun _ => none) 0 [] []).go (ht X.s_0 (fun _ => none) 0 [] []).go (hk X.s_0 (fun _ => none) 0 [] []).go (he X.s_0 (fun _ => none) 0 [] []).go E hw (fun p ws H' es s' E' sm hp a ok n _ q => by
      have np : p ∉ c.hs ρ := (nodup_mid.mp E'.nd).1
      have s2 : Same (hd H' ((c.hide p).hs ρ)) (hd H' (c.hs ρ)) := hd_sub hs_hide_sub
      exact hv _ H' _ s' E'.unhide (sm.trans s2) (.dct (by rw [hd_out np]; exact hp) (by unfold kvD; rw [List.length_map]; exact n) (e_dvp (dve_same s2 a) ok)) q) her⟩
end
end Dt

set_option Elab.async false
set_option linter.all false
set_option autoImplicit false
set_option maxRecDepth 100000
set_option maxHeartbeats 1000000
namespace Dt
open PySem PySem.Spec
open L2 hiding wT wNot
/-! ### a dict that is walked: locked meanwhile -/
section
variable {K : PySem.W.Frag} {H H' : Hp}
theorem sqt_hideK {a : Addr} {xs : List V} (e : ∀ b o, H b = some o → (∀ kvs, o ≠ .dK kvs) → H' b = some o) (h : SqT K H a xs) : SqT K H' a xs := by
  rcases h with (h | ⟨o, h⟩) | h
  · exact .inl (.inl (e _ _ h fun _ z => nomatch z))
  · exact .inl (.inr ⟨o, e _ _ h fun _ z => nomatch z⟩)
  · exact .inr h
mutual
theorem Dv.hideK (e : ∀ b o, H b = some o → (∀ kvs, o ≠ .dK kvs) → H' b = some o) : ∀ (d : PyData) (v : V), d.hasDict = false → Dv K H v d → Dv K H' v d
  | .none, _, _, h => by cases h; exact .non
  | .bool b, _, _, h => by cases h; exact .bl b
  | .int i, _, _, h => by cases h with | int q => exact .int q
  | .str x, _, _, h => by cases h with | str q => exact .str q
  | .list ds, _, z, h => by cases h with | lst a n b => exact .lst (e _ _ a fun _ z => nomatch z) n (DvAll.hideK e ds _ (by simpa only [PyData.hasDict] using z) b)
  | .tuple ds, _, z, h => by cases h with | tup a n b => exact .tup (sqt_hideK e a) n (DvAll.hideK e ds _ (by simpa only [PyData.hasDict] using z) b)
  | .dict _, _, z, h => by simp only [PyData.hasDict] at z; cases z
theorem DvAll.hideK (e : ∀ b o, H b = some o → (∀ kvs, o ≠ .dK kvs) → H' b = some o) : ∀ (ds : List PyData) (vs : List V), PyData.hasDictAll ds = false → DvAll K H vs ds → DvAll K H' vs ds
  | [], _, _, h => by cases h; exact .nil
  | d :: ds, _, z, h => by cases h with | cons a b => exact .cons (Dv.hideK e d _ (hd_cons z).1 a) (DvAll.hideK e ds _ (hd_cons z).2 b)
end
def fvV : PyData → V
  | .bool b => .bl b
  | .int i => .int i
  | .str x => .str x
  | _ => .non
def fvs (es : List (Key × PyData)) : List (Key × V) := es.map fun e => (e.1, fvV e.2)
/-- a value that is told without the heap -/
def FvOk (d : PyData) : Prop := ∀ (K : PySem.W.Frag) (H : Hp), Dv K H (fvV d) d
theorem dv_flat {v : V} {d : PyData} (h : Dv K H v d) (f : flatD d = true) : v = fvV d ∧ FvOk d := by
  cases d with
  | none => cases h; exact ⟨rfl, fun _ _ => .non⟩
  | bool b => cases h; exact ⟨rfl, fun _ _ => .bl b⟩
  | int i => cases h with | int q => exact ⟨rfl, fun _ _ => .int q⟩
  | str x => cases h with | str q => exact ⟨rfl, fun _ _ => .str q⟩
  | _ => cases f
theorem dve_flat : ∀ {kvs : List (Key × V)} {es : List (Key × PyData)}, DvE K H kvs es → (∀ e ∈ es, flatD e.2 = true) → kvs = fvs es ∧ ∀ e ∈ es, FvOk e.2
  | [], [], _, _ => ⟨rfl, fun _ z => nomatch z⟩
  | (k, v) :: r, (l, d) :: t, ⟨e, dv, h⟩, f => by
    obtain ⟨h1, h2⟩ := dv_flat dv (f _ List.mem_cons_self)
    obtain ⟨g1, g2⟩ := dve_flat h fun x hx => f x (List.mem_cons_of_mem _ hx)
    subst e; subst h1; subst g1
    exact ⟨rfl, fun x hx => by
      rcases List.mem_cons.mp hx with z | z
      · rw [z]; exact h2
      · exact g2 x z⟩
  | [], _ :: _, h, _ => h.elim
  | _ :: _, [], h, _ => h.elim
theorem valV_fvs (k : Key) : ∀ es : List (Key × PyData), valV (fvs es) k = (lk es k).map fvV
  | [] => rfl
  | (a, d) :: r => by
    by_cases q : a = k
    · rw [lk_pos (p := (a, d)) q]
      show valV ((a, fvV d) :: fvs r) k = _
      rw [valV_pos (p := (a, fvV d)) q]; rfl
    · rw [lk_neg (p := (a, d)) q]
      show valV ((a, fvV d) :: fvs r) k = _
      rw [valV_neg (p := (a, fvV d)) q]
      exact valV_fvs k r
theorem lk_mem {k : Key} {d : PyData} : ∀ {es : List (Key × PyData)}, lk es k = some d → ∃ e ∈ es, e.2 = d
  | [], h => by cases h
  | (a, x) :: r, h => by
    by_cases q : a = k
    · rw [lk_pos (p := (a, x)) q] at h
      exact ⟨(a, x), List.mem_cons_self, by injection h⟩
    · rw [lk_neg (p := (a, x)) q] at h
      obtain ⟨e, he, h⟩ := lk_mem h
      exact ⟨e, List.mem_cons_of_mem _ he, h⟩
theorem dv_key {k : Key} (o : okK k) : Dv K H (kV k) (kD k) := by
  cases k with
  | inl i => exact .int o
  | inr x => exact .str o
end
/-- the world in which the dict at a is locked -/
def LkW (a : Addr) (od : Obj) (es : List (Key × PyData)) : Wd Unit :=
  ⟨fun _ H => H a = some (.frz od (.dK (fvs es))) ∧ ∀ e ∈ es, okK e.1 ∧ FvOk e.2, [], (fun _ _ _ _ h => nomatch h), fun _ H H' h _ st => ⟨st a _ h.1 (fun _ e => nomatch e) (fun _ e => nomatch e) (fun _ e => nomatch e), h.2⟩⟩
def plainSl : Sl → Bool
  | .no => true
  | .d x => !x.hasDict
  | .own _ xs => !PyData.hasDictAll xs
  | .raw _ => true
  | _ => false
section
variable {X : Cx} {W : WX} {ta te : TE} {e : Expr} {tg : Expr} {pos p apos cpos : Pos} {wk : DE Unit} {a : Addr} {od : Obj} {es : List (Key × PyData)} {k : Nat}
def wKeysL (i : Nat) (a : Addr) (es : List (Key × PyData)) : DL Unit := fun ρ s Q _ => ρ[i]? = some (.raw (.ref a)) ∧ es.length ≤ limL ∧ Q (es.map fun e => kD e.1) s
theorem i_keysL (i : Nat) {x : Str} (hN : X.N[i]? = some x := by rfl) (hv : Vis X.env.scope x := by first | exact Or.inl rfl | exact Or.inr (Or.inl rfl) | exact Or.inr (Or.inr rfl)) (hdb : (x == ("__debug__" : Str)) = false := by decide) (hcd : (x == ("__classdict__" : Str)) = false := by decide) :
    IG (LkW a od es) X W tg (.Name x p) (iKeys (tVar i)) (wKeysL i a es) :=
  ⟨pi_keys (pe_var hN hv hdb hcd), fun c σ H ρ s Qd Ed R E hw hr he => by
    obtain ⟨hi, hn, q⟩ := hw
    obtain ⟨o, h1, h2⟩ := E.slot i _ hi
    have h2 : o = some (.ref a) := h2
    subst h2
    refine ⟨.ref a, h1, a, od, rfl, .inl ⟨fvs es, E.g.1, hr _ H _ s E (Same.refl _) ⟨fun s l' H' j g st hj => ⟨g.1, ?_⟩, fun s l' H' j g st hj => ⟨g.1, ?_⟩, fun s l' H' j x H2 d g st tr y hd => ?_⟩ (by rw [List.length_map]; exact hn) q⟩⟩
    · unfold fvs; rw [List.length_map] at hj ⊢; exact hj
    · unfold fvs; rw [List.length_map] at hj ⊢; exact hj
    · obtain ⟨rfl, k, v, h3, rfl⟩ := y
      unfold fvs at h3
      rw [List.getElem?_map] at h3 hd
      cases z : es[j]? with
      | none => rw [z] at h3; cases h3
      | some e =>
        rw [z] at h3 hd
        simp only [Option.map_some, Option.some.injEq, Prod.mk.injEq] at h3 hd
        obtain ⟨rfl, _⟩ := h3
        subst hd
        exact ⟨Same.refl _, dv_key (g.2 e (List.mem_of_getElem? z)).1⟩⟩
def wItemsL (i : Nat) (a : Addr) (es : List (Key × PyData)) : DL Unit := fun ρ s Q _ => ρ[i]? = some (.raw (.ref a)) ∧ es.length ≤ limL ∧ Q (es.map fun e => .tuple [kD e.1, e.2]) s
theorem i_itemsL (i : Nat) {x : Str} {elts : List Expr} {kk : Nat} {tpos : Pos} (hN : X.N[i]? = some x := by rfl) (hv : Vis X.env.scope x := by first | exact Or.inl rfl | exact Or.inr (Or.inl rfl) | exact Or.inr (Or.inr rfl)) (hdb : (x == ("__debug__" : Str)) = false := by decide) (hcd : (x == ("__classdict__" : Str)) = false := by decide)
    (hbase : attributeBase (.Name x p) "items" X.env (eval (.Name x p) X.env) = eval (.Name x p) X.env := by rfl) (hline : (apos.endLine == cpos.line) = true := by rfl) :
    IG (LkW a od es) X W (.Tuple elts kk tpos) (.Call (.Attribute (.Name x p) "items" apos) [] [] cpos) (iItems (tVar i)) (wItemsL i a es) :=
  ⟨pi_items (pe_var hN hv hdb hcd) hbase hline, fun c σ H ρ s Qd Ed R E hw hr he => by
    obtain ⟨hi, hn, q⟩ := hw
    obtain ⟨o, h1, h2⟩ := E.slot i _ hi
    have h2 : o = some (.ref a) := h2
    subst h2
    refine ⟨.ref a, h1, a, od, fvs es, rfl, E.g.1, hr _ H _ s E (Same.refl _) ⟨fun s l' H' j g st hj => ⟨g.1, ?_⟩, fun s l' H' j g st hj => ⟨g.1, ?_⟩, fun s l' H' j x H2 d g st tr y hd => ?_⟩ (by rw [List.length_map]; exact hn) q⟩
    · unfold fvs; rw [List.length_map] at hj ⊢; exact hj
    · unfold fvs; rw [List.length_map] at hj ⊢; exact hj
    · obtain ⟨T, k, v, h3, rfl, nT, rfl⟩ := y
      unfold fvs at h3
      rw [List.getElem?_map] at h3 hd
      cases z : es[j]? with
      | none => rw [z] at h3; cases h3
      | some e =>
        rw [z] at h3 hd
        simp only [Option.map_some, Option.some.injEq, Prod.mk.injEq] at h3 hd
        obtain ⟨rfl, rfl⟩ := h3
        subst hd
        have tn : T ∉ l' := fun z => tr T z nT
        obtain ⟨o1, o2⟩ := g.2 e (List.mem_of_getElem? z)
        exact ⟨same_upd nT, .tup (.inl (.inl (by rw [hd_out tn]; exact upd_same))) (by rw [limL_eq]; simp) (.cons (dv_key o1) (.cons (o2 _ _) .nil))⟩⟩
def wDixL (i : Nat) (a : Addr) (es : List (Key × PyData)) (wk : DE Unit) : DE Unit := fun ρ s Q E => ρ[i]? = some (.raw (.ref a)) ∧ wk ρ s (fun y s1 => ∃ k d, y = kD k ∧ lk es k = some d ∧ Q d s1) E
theorem e_dixL (i : Nat) {x : Str} {px : Pos} (hr : Room k X.A) (h : ED (LkW a od es) X W e te wk) (hN : X.N[i]? = some x := by rfl) (hv : Vis X.env.scope x := by first | exact Or.inl rfl | exact Or.inr (Or.inl rfl) | exact Or.inr (Or.inr rfl)) (hdb : (x == ("__debug__" : Str)) = false := by decide) (hcd : (x == ("__classdict__" : Str)) = false := by decide) (hs : NoSl e := by exact fun _ _ => rfl) :
    ED (LkW a od es) X W (.Subscript (.Name x px) e pos) (tDGet (tVar i) te) (wDixL i a es wk) :=
  ⟨pe_dget (hu_of hr) (pe_var hN hv hdb hcd) h.pe hs, fun c σ H ρ s Qd Ed Q E hw hv he => by
    obtain ⟨hi, hw⟩ := hw
    obtain ⟨o, h1, h2⟩ := E.slot i _ hi
    have h2 : o = some (.ref a) := h2
    subst h2
    refine ⟨.ref a, h1, h.go c σ H ρ s _ _ _ E hw (fun v H1 y s1 E1 st1 dv q1 => ?_) he⟩
    obtain ⟨k, d, rfl, hl, q1⟩ := q1
    obtain ⟨ku, ok⟩ := Dv.key dv
    subst ku
    obtain ⟨e, hm, rfl⟩ := lk_mem hl
    have g : H1 a = some (.frz od (.dK (fvs es))) ∧ ∀ e ∈ es, okK e.1 ∧ FvOk e.2 := E1.g
    refine ⟨a, fvV e.2, rfl, .inl ⟨fvs es, k, .inr ⟨od, g.1⟩, rfl, by rw [valV_fvs, hl]; rfl⟩, hv _ _ _ s1 E1 st1 ((g.2 e hm).2 _ _) q1⟩⟩
end
/-- an expression within which x's dict is walked -/
def wLock (i : Nat) (w : Addr → List (Key × PyData) → DE Unit) : DE Unit := fun ρ s Q _ => ∃ es : List (Key × PyData), ρ[i]? = some (.d (.dict (kvD es))) ∧ (∀ e ∈ es, flatD e.2 = true) ∧ (∀ j x, j ≠ i → ρ[j]? = some x → plainSl x = true) ∧ ∀ a, w a es (ρ.set i (.raw (.ref a))) s Q noE
theorem slot_hide {K : PySem.W.Frag} {H : Hp} {l : List Addr} {a : Addr} {kvs : List (Key × V)} {u : HO} {x : Sl} {o : Option V} (ha : H a = some (.dK kvs)) (hp : plainSl x = true) (h : SlotOk K (hd H l) H x o) : SlotOk K (hd (upd H a u) (a :: l)) (upd H a u) x o := by
  have nd : ∀ b o, (hd H l) b = some o → (∀ kvs, o ≠ .dK kvs) → (hd (upd H a u) (a :: l)) b = some o := fun b o hb no => by
    obtain ⟨n, q⟩ := hd_some.mp hb
    have ne : b ≠ a := fun z => by rw [z, ha] at q; cases q; exact no _ rfl
    refine hd_some.mpr ⟨fun z => ?_, by rw [upd_ne ne]; exact q⟩
    rcases List.mem_cons.mp z with z | z
    · exact ne z
    · exact n z
  cases x with
  | no => trivial
  | d x =>
    obtain ⟨v, rfl, dv⟩ := h
    exact ⟨v, rfl, Dv.hideK nd x v (by simpa [plainSl] using hp) dv⟩
  | own p xs =>
    obtain ⟨rfl, n, vs, hl, dv⟩ := h
    have ne : p ≠ a := fun z => by rw [z, ha] at hl; cases hl
    exact ⟨rfl, n, vs, by rw [upd_ne ne]; exact hl, DvAll.hideK nd xs vs (by simpa [plainSl] using hp) dv⟩
  | raw v => exact h
  | ownK _ _ => cases hp
  | ownT _ _ => cases hp
theorem e_lock (i : Nat) {X : Cx} {W : WX} {e : Expr} {t : TE} {w : Addr → List (Key × PyData) → DE Unit} (h : ∀ (a : Addr) (od : Obj) (es : List (Key × PyData)), ED (LkW a od es) X W e t (w a es)) : ED W0 X W e (tLockE t) (wLock i w) :=
  ⟨pe_lock (h 0 ⟨.none, none, .fields #[], #[]⟩ []).pe, fun c σ H ρ s Qd Ed Q E hw hv he => by
    obtain ⟨es, hi, hf, hp, hw⟩ := hw
    obtain ⟨o, h1, v, rfl, dv⟩ := E.slot i _ hi
    generalize hes : kvD es = ps at dv
    cases dv with
    | @dct a kvs _ ha n dvp =>
    subst hes
    obtain ⟨dve, ok⟩ := dvp_e dvp
    obtain ⟨ek, fok⟩ := dve_flat dve hf
    subst ek
    obtain ⟨hna, hHa⟩ := hd_some.mp ha
    refine ⟨a, .dK (fvs es), hHa, trivial, fun od => ?_⟩
    have own' : owns (ρ.set i (.raw (.ref a))) = owns ρ := owns_set (fun y e => by rw [hi] at e; cases e; rfl) rfl
    have c0 : ∃ c' : Cn (LkW a od es), c' = ⟨a :: c.R, fun b => if b = a then none else c.H0 b⟩ := ⟨_, rfl⟩
    obtain ⟨c', hc'⟩ := c0
    have hs' : c'.hs (ρ.set i (.raw (.ref a))) = a :: c.hs ρ := by
      rw [hc']
      show [] ++ (a :: c.R) ++ owns (ρ.set i (.raw (.ref a))) = a :: ([] ++ c.R ++ owns ρ)
      rw [own']; rfl
    have E' : EnvD X.K c' σ (upd H a (.frz od (.dK (fvs es)))) (ρ.set i (.raw (.ref a))) s := by
      refine ⟨by rw [List.length_set]; exact E.len, fun j x hx => ?_, ?_, fun b hb => ?_, ⟨upd_same, fun e he => ⟨ok e he, fok e he⟩⟩, fun b o hb _ => ?_, fun p hp => ?_⟩
      · by_cases hj : i = j
        · subst hj
          rw [List.getElem?_set_self (List.getElem?_eq_some_iff.mp hi).1] at hx
          cases hx
          exact ⟨_, h1, rfl⟩
        · rw [List.getElem?_set_ne hj] at hx
          obtain ⟨o, g1, g2⟩ := E.slot j x hx
          refine ⟨o, g1, ?_⟩
          rw [hs']
          exact slot_hide hHa (hp j x (Ne.symm hj) hx) g2
      · rw [hs']; exact List.nodup_cons.mpr ⟨hna, E.nd⟩
      · rw [hs'] at hb
        rcases List.mem_cons.mp hb with z | z
        · rw [z, upd_same]; exact fun z => nomatch z
        · rw [upd_ne (fun e => hna (by rw [← e]; exact z))]; exact E.tr b z
      · rw [hc'] at hb
        have hb : (if b = a then none else c.H0 b) = some o := hb
        split at hb
        · cases hb
        · rename_i ne
          rw [upd_ne ne]
          exact E.ext b o hb fun z => nomatch z
      · rw [own'] at hp
        rw [hc']
        show (if p = a then none else c.H0 p) = none
        split
        · rfl
        · exact E.new p hp
    refine (h a od es).go c' σ _ _ s Qd noE _ E' (hw a) (fun v H3 d s3 E3 st3 dv3 q => ?_) fun _ _ _ _ _ _ _ z => z.elim
    have g3 : H3 a = some (.frz od (.dK (fvs es))) := E3.g.1
    rw [hs'] at dv3
    have st3 : Same (hd (upd H a (.frz od (.dK (fvs es)))) (a :: c.hs ρ)) (hd H3 (a :: c.hs ρ)) := by
      have := st3
      unfold Stp at this
      rw [hs'] at this
      exact this
    have sub : Same (hd H3 (a :: c.hs ρ)) (hd (upd H3 a (.dK (fvs es))) (c.hs ρ)) := fun b o hb => by
      obtain ⟨n, q⟩ := hd_some.mp hb
      have n1 : b ≠ a := fun z => n (z ▸ List.mem_cons_self)
      exact hd_some.mpr ⟨fun z => n (List.mem_cons_of_mem _ z), by rw [upd_ne n1]; exact q⟩
    have st4 : Same (hd H (c.hs ρ)) (hd (upd H3 a (.dK (fvs es))) (c.hs ρ)) := fun b o hb => by
      obtain ⟨n, q⟩ := hd_some.mp hb
      by_cases z : b = a
      · subst z
        rw [hHa] at q
        cases q
        exact hd_some.mpr ⟨n, upd_same⟩
      · refine sub b o (st3 b o (hd_some.mpr ⟨fun y => ?_, by rw [upd_ne z]; exact q⟩))
        rcases List.mem_cons.mp y with y | y
        · exact z y
        · exact n y
    have E4 : EnvD X.K c σ (upd H3 a (.dK (fvs es))) ρ s3 := by
      refine ⟨E.len, fun j x hx => ?_, E.nd, fun b hb => ?_, trivial, fun b o hb _ => ?_, E.new⟩
      · by_cases hj : i = j
        · subst hj
          obtain ⟨o, g1, g2⟩ := E.slot i x hx
          rw [hi] at hx
          cases hx
          obtain ⟨v, rfl, dv⟩ := g2
          exact ⟨_, g1, v, rfl, Dv.same st4 _ _ dv⟩
        · obtain ⟨o, g1, g2⟩ := E3.slot j x (by rw [List.getElem?_set_ne hj]; exact hx)
          refine ⟨o, g1, ?_⟩
          rw [hs'] at g2
          have pl := hp j x (Ne.symm hj) hx
          cases x with
          | no => trivial
          | d x =>
            obtain ⟨v, rfl, dv⟩ := g2
            exact ⟨v, rfl, Dv.same sub _ _ dv⟩
          | own p xs =>
            obtain ⟨rfl, n, vs, hl, dv⟩ := g2
            have ne : p ≠ a := fun z => by rw [z, g3] at hl; cases hl
            exact ⟨rfl, n, vs, by rw [upd_ne ne]; exact hl, DvAll.same sub _ _ dv⟩
          | raw v => exact g2
          | ownK _ _ => cases pl
          | ownT _ _ => cases pl
      · rw [upd_ne (fun e => hna (by rw [← e]; exact hb))]
        exact E3.tr b (by rw [hs']; exact List.mem_cons_of_mem _ hb)
      · by_cases z : b = a
        · subst z
          have := E.ext b o hb fun z => nomatch z
          rw [hHa] at this
          cases this
          exact upd_same
        · rw [upd_ne z]
          refine E3.ext b o ?_ fun z => nomatch z
          rw [hc']
          show (if b = a then none else c.H0 b) = some o
          rw [if_neg z]; exact hb
    exact ⟨g3, hv v _ d s3 E4 st4 (Dv.same sub _ _ dv3) q⟩⟩
end Dt
namespace Dt
open PySem PySem.Spec
open L2 hiding wT wNot
theorem dc_inv {S : Type} {g : DG} {wt : DT S} {wk we : DE S} {vs : List Nat} {ρ : List Sl} (I : Nat → List (Key × PyData) → Prop) : ∀ (ds : List PyData) (k : Nat) (s : S) (acc : List (Key × PyData)) (Q : List (Key × PyData) → S → Prop),
    (∀ (i : Nat) (d : PyData), ds[i]? = some d → ∀ (acc : List (Key × PyData)) (s : S) (Y : List (Key × PyData) → S → Prop), I (k + i) acc → (∀ acc' s', I (k + i + 1) acc' → Y acc' s') →
      g d ρ fun ρ1 => noOwn ρ1 vs = true ∧ wt ρ1 s (fun b s1 => if b = true then wk ρ1 s1 (fun y s2 => we ρ1 s2 (fun z s3 => ∃ kk, y = kD kk ∧ Y (pt acc kk z) s3) noE) noE else Y acc s1) noE) →
    I k acc → (∀ acc' s', I (k + ds.length) acc' → Q acc' s') → wDcL g wt wk we vs ρ ds s acc Q
  | [], k, s, acc, Q, _, i0, h => h _ _ i0
  | d :: ds, k, s, acc, Q, hb, i0, h => by
    have go : ∀ acc' s', I (k + 0 + 1) acc' → wDcL g wt wk we vs ρ ds s' acc' Q := fun acc' s' i1 =>
      dc_inv I ds (k + 1) s' acc' Q (fun i d hd acc s Y a b => hb (i + 1) d (by simpa using hd) acc s Y (by rw [show k + (i + 1) = k + 1 + i by omega]; exact a) fun acc' s' c => b _ _ (by rw [show k + 1 + i + 1 = k + (i + 1) + 1 by omega]; exact c)) i1 fun acc' s' c => h _ _ (by rw [List.length_cons, show k + (ds.length + 1) = k + 1 + ds.length by omega]; exact c)
    exact hb 0 d rfl acc s (fun acc' s' => wDcL g wt wk we vs ρ ds s' acc' Q) i0 go
theorem dc_of {S : Type} {w : DL S} {g : DG} {wt : DT S} {wk we : DE S} {vs : List Nat} {ρ : List Sl} {s : S} {Q : PyData → S → Prop} {E : Er → S → Prop} (h0 : noOwn ρ vs = true) (h : w ρ s (fun ds s1 => wDcL g wt wk we vs (wipeD ρ vs) ds s1 [] fun es s2 => Q (.dict (kvD es)) s2) E) : wDc w g wt wk we vs ρ s Q E := ⟨h0, h⟩
end Dt

set_option Elab.async false
set_option linter.all false
set_option autoImplicit false
set_option maxRecDepth 100000
set_option maxHeartbeats 1000000
namespace Dt
open PySem PySem.Spec PyProof.Rows
open L2 hiding wT wNot
/-! ### defs with a star parameter behind n others -/
/-- the promise of such a def by data: what is left over comes as a tuple -/
def starF (n : Nat) (F : List PyData → (PyData → Prop) → (Er → Prop) → Prop) : List PyData → (PyData → Prop) → (Er → Prop) → Prop := fun ds Q E => n ≤ ds.length ∧ ds.length ≤ limL ∧ F (ds.take n ++ [.tuple (ds.drop n)]) Q E
def spS (K : PySem.W.Frag) (n : Nat) (F : List PyData → (PyData → Prop) → (Er → Prop) → Prop) : Sp := fun vs H Q E =>
  ∃ (l : List Addr) (ds : List PyData) (Qd : PyData → Prop) (Ed : Er → Prop), l.Nodup ∧ (∀ a ∈ l, H a ≠ none) ∧ DvAll K (hd H l) vs ds ∧ starF n F ds Qd Ed ∧
    (∀ v H' d, Same H H' → Dv K (hd H' l) v d → Qd d → Q v H') ∧ ∀ e cls dd H', Same H H' → ErIs K (hd H' l) H' e cls dd → Ed e → E cls dd H'
structure DoS (P : Program) (w : World) (K : PySem.W.Frag) (mg : Str → Option Value) (base : Heap) (CX : CXT) (k : Nat) (x : Str) (n : Nat) (F : List PyData → (PyData → Prop) → (Er → Prop) → Prop) : Prop where
  ex : ∃ f : Addr, mg x = some (.ref f) ∧ PySem.W.keepIn K (.ref f) = true ∧ L2.FnR P w K mg base CX k f (spS K n F)
section
variable {P : Program} {w : World} {K : PySem.W.Frag} {mg : Str → Option Value} {base : Heap} {CX : CXT} {k n : Nat} {f : Addr} {fd : FuncData} {N ps : List Str} {x qual : Str} {st : Stmt}
theorem body_p {F : List PyData → (PyData → Prop) → (Er → Prop) → Prop} {wb : DS Unit} {cdv : Value} {A : Around} {outer : List Env} {s : Shared} {H : Hp} {vs : List V} {Q : VK} {E : XK} {t : TS}
    (B : SSD W0 (cxOf CX P w K mg base N qual (defScope st) f cdv A outer s H E) (WXE E) (defBody st) t wb) (spec : ∀ ds Qd Ed, ds.length = n → F ds Qd Ed → wb (argS n N.length (ds.map Sl.d)) () (endP Qd Ed)) (h : spP K n F vs H Q E) :
    t ⟨fun _ H' => Q .non H', Q, fun _ _ => False, fun _ _ => False⟩ (start N vs) H := by
  obtain ⟨hl, l, ds, Qd, Ed, nd, tr, da, hf, hq, he⟩ := h
  have hdl : ds.length = n := by rw [← da.length]; exact hl
  have e1 : (ds.map Ag.d).map toSl = ds.map Sl.d := by rw [List.map_map]; rfl
  have E0 := env_start (Wo := W0) (N := N) (R := l) (s := ()) (by simpa [W0] using nd) (by simpa [W0] using tr) trivial (by simpa [W0] using dvs_ag da)
  rw [e1, hl] at E0
  refine B.go _ _ H _ () (endP Qd Ed) _ E0 (spec ds Qd Ed hdl hf) ⟨fun σ' H' ρ' s' E' st' q => ?_, fun _ _ _ _ _ _ z => z.elim, fun _ _ _ _ _ _ z => z.elim, fun v H' d s' g ex dv q => ?_, fun e cls dd σ' H' ρ' s' E' ei q => ?_⟩
  · exact hq .non H' .none (fun b o h => E'.ext b o h (by simp [W0, Cn.W])) .non q
  · exact hq v H' d (fun b o h => ex b o h (by simp [W0, Cn.W])) (by have dv2 : Dv K (hd H' (([] : List Addr) ++ l)) v d := dv; simpa using dv2) q
  · refine he e cls dd H' (fun b o h => E'.ext b o h (by simp [W0, Cn.W])) ?_ q
    have sub : Same (hd H' ((⟨l, H⟩ : Cn W0).hs ρ')) (hd H' l) := hd_sub fun a ha => List.mem_append_left _ (by simpa [W0, Cn.W] using ha)
    obtain ⟨c1, d, fs, c2, c3, c4⟩ := ei
    exact ⟨c1, d, fs, c2, c3, FsOk.same sub _ _ c4⟩
/-- def f(a, *v) by its body -/
theorem fnS1 {p1 pv : Str} {F : List PyData → (PyData → Prop) → (Er → Prop) → Prop} {wb : DS Unit} (Fu : Fun K x qual st f fd) (Sc : FnScope N ([p1] ++ [pv]) (defScope st)) (hCX : StX.CXUp CX)
    (h0 : ∀ (kV doc pm : Value) (an : Option Addr) (cdv ct a : Value), bindArgs (PySem.W.fnOf x qual (defArgs st) (defBody st) (defScope st) .none kV doc pm an cdv ct) ⟨[a], []⟩ = (newTuple [] >>= fun t => pure [(p1, a), (pv, t)]))
    (h1 : ∀ (kV doc pm : Value) (an : Option Addr) (cdv ct a r : Value) (rs : List Value), bindArgs (PySem.W.fnOf x qual (defArgs st) (defBody st) (defScope st) .none kV doc pm an cdv ct) ⟨a :: r :: rs, []⟩ = (newTuple (r :: rs) >>= fun t => pure [(p1, a), (pv, t)]))
    (hbody : ∀ (cdv : Value) (A : Around) (outer : List Env) (s : Shared) (H : Hp) (E : XK), Room k (A.deeper (PyProof.Rows.envOfC qual (defScope st) s.heap.objs.size f cdv)) →
      ∃ t, SSD W0 (cxOf CX P w K mg base N qual (defScope st) f cdv A outer s H E) (WXE E) (defBody st) t wb)
    (spec : ∀ ds Qd Ed, ds.length = 2 → F ds Qd Ed → wb (argS 2 N.length (ds.map Sl.d)) () (endP Qd Ed)) : L2.FnR P w K mg base CX (k + 1) f (spS K 1 F) := by
  obtain ⟨oc, od, kV, doc, pm, an, cdv, ct, osl, rfl, lk, hcd⟩ := Fu.ex
  refine (StX.fn_star (sp := spP K 2 F) lk hcd Sc hCX (StX.bind_star1 (B := fun us => bindArgs (PySem.W.fnOf x qual (defArgs st) (defBody st) (defScope st) .none kV doc pm an cdv ct) ⟨us, []⟩) (h0 kV doc pm an cdv ct) (h1 kV doc pm an cdv ct)) fun A outer s H vs Q E hr h => ?_).imp fun vs H Q E h => ?_
  · obtain ⟨t, B⟩ := hbody cdv A outer s H E hr
    exact ⟨t, B.pe, body_p B spec h⟩
  · obtain ⟨l, ds, Qd, Ed, nd, tr, da, ⟨hn, hm, hf⟩, hq, he⟩ := h
    have hl := da.length
    match vs, ds, da, hn, hm, hf, hl with
    | v :: vs, d :: ds, .cons dv da, hn, hm, hf, hl =>
      refine ⟨[v], vs, rfl, rfl, ?_, fun p hp => ?_⟩
      · have : (v :: vs).length ≤ limL := by rw [hl]; exact hm
        exact Nat.le_trans (Nat.le_trans (Nat.le_succ _) this) limL_size
      have up : Same H (upd H p (.tup vs)) := same_upd hp
      have hm' : ds.length ≤ limL := Nat.le_trans (Nat.le_succ _) hm
      refine ⟨rfl, l, [d, .tuple ds], Qd, Ed, nd, fun a ha z => ?_, .cons (Dv.same (hd_same l fun b o _ q => up b o q) _ _ dv) (.cons (Dv.newT tr hp da hm') .nil), hf, fun v' H' d' sm => hq v' H' d' (up.trans sm), fun e cls dd H' sm => he e cls dd H' (up.trans sm)⟩
      have := tr a ha
      cases q : H a with
      | none => exact this q
      | some o => rw [up a o q] at z; cases z
    | _, [], _, hn, _, _, _ => exact absurd hn (by simp)
end
section
variable {X : Cx} {CX : CXT} {k n : Nat} {f : Addr} {sp : Sp} {E : L2.St → XK} {x : Str} {p pos : Pos} {e : Expr} {es : List Expr} {t : TA}
theorem run_fnRA {pins : List (Addr × Obj)} {σ : L2.St} {H : Hp} {s : Shared} {Q : VK} {us : List Value} {vs : List V} (F : L2.FnR X.prog X.w X.K X.mg X.base CX k f sp) (hr : Room k X.A)
    (hx : PassesAt CX X σ (E σ)) (I : Inv X pins σ H s) (r : Vals vs us) (h : sp vs H Q (E σ)) : wpAny (model X.prog X.w) X.A (call (.ref f) us) (EP X pins σ Q) X.xe s := by
  refine wpAny_call (codeAny_mono (F X.A X.stack s H us vs Q (E σ) hr I.env0 r h) fun r s' hq => ?_)
  match r, hq with
  | .error e, hq => exact hx pins H s e s' I hq
  | .ok (.ret u), hq => exact I.after hq
  | .ok .next, hq => cases hq
  | .ok .brk, hq => cases hq
  | .ok .cont, hq => cases hq
theorem pe_callRA (F : L2.FnR X.prog X.w X.K X.mg X.base CX k f sp) (hr : Room k X.A) (hg : Gl X x) (hm : X.mg x = some (.ref f)) (hk : PySem.W.keepIn X.K (.ref f) = true) (hx : ∀ σ, PassesAt CX X σ (E σ))
    (ha : PA X (e :: es) t) (hdb : (x == ("__debug__" : Str)) = false := by decide) (he : starEach (e :: es) X.env = (false, eval e X.env) :: starEach es X.env := by rfl) (hpl : (backTo pos (starEach es X.env)).any (·.1) = false := by rfl) :
    PE X (.Call (.Name x p) (e :: es) [] pos) (tCallS sp E t) := by
  refine ⟨fun pins s σ H Q I h => wpAny_Call_Name_kw (ld_glob I hg hm (PySem.W.callWith_K (h₀ := X.base) I.ok.mod.kin hk (thn (ha.run pos pins s σ H _ I h) ?_) he hpl) hdb)⟩
  rintro us s1 ⟨vs, H1, I1, r, q⟩
  exact ⟨I1.kIn, run_fnRA F hr (hx σ) I1 r q⟩
end
section
variable {S : Type} {Wo : Wd S} {X : Cx} {W : WX} {K : PySem.W.Frag} {tl : TA} {e : Expr} {es : List Expr} {pos p : Pos} {wl : DA S} {n : Nat}
theorem e_callSO {CX : CXT} {j : Nat} {x : Str} {F : List PyData → (PyData → Prop) → (Er → Prop) → Prop} (D : DoS X.prog X.w K X.mg X.base CX j x n F) (hr : Room j X.A) (hx : ∀ σ, PassesAt CX X σ (WE W σ)) (ha : AD Wo X W (e :: es) tl wl) (hK : X.K = K := by rfl)
    (hg : Gl X x := by rfl) (hdb : (x == ("__debug__" : Str)) = false := by decide) (he : starEach (e :: es) X.env = (false, eval e X.env) :: starEach es X.env := by rfl) (hpl : (backTo pos (starEach es X.env)).any (·.1) = false := by rfl) :
    ED Wo X W (.Call (.Name x p) (e :: es) [] pos) (tCallS (spS K n F) (WE W) tl) (wCallP (starF n F) wl) := by
  subst hK
  obtain ⟨f, h2, h3, h5⟩ := D.ex
  exact ⟨pe_callRA h5 hr hg h2 h3 hx ha.pe hdb he hpl, fun c σ H ρ s Qd Ed Q E hw hv he => ha.go c σ H ρ s _ Ed _ E hw (fun vs H1 as s1 E1 st1 a1 q1 => by
    obtain ⟨ds, g1, g3⟩ := a1.all q1
    exact ⟨c.hs ρ, ds, _, _, E1.nd, E1.tr, g1, g3, fun v H' d sm dv q => hv v H' d s1 (E1.grow sm) (st1.trans (stp_grow sm)) dv q,
      fun e cls dd H' sm ei q => he e cls dd H' s1 (E1.grow sm) ei q⟩) he⟩
theorem e_callSN {j : Nat} {x : Str} {F : List PyData → (PyData → Prop) → (Er → Prop) → Prop} (D : DoS X.prog X.w K X.mg X.base (L2.CX X.prog X.w) j x n F) (hr : Room j X.A) (ha : AD Wo X W (e :: es) tl wl) (hK : X.K = K := by rfl)
    (hg : Gl X x := by rfl) (hdb : (x == ("__debug__" : Str)) = false := by decide) (he : starEach (e :: es) X.env = (false, eval e X.env) :: starEach es X.env := by rfl) (hpl : (backTo pos (starEach es X.env)).any (·.1) = false := by rfl) :
    ED Wo X W (.Call (.Name x p) (e :: es) [] pos) (tCallS (spS K n F) (fun _ _ _ _ => False) tl) (wCallP (fun ds Q _ => starF n F ds Q fun _ => False) wl) := by
  subst hK
  obtain ⟨f, h2, h3, h5⟩ := D.ex
  exact ⟨pe_callRA h5 hr hg h2 h3 (pass_no X) ha.pe hdb he hpl, fun c σ H ρ s Qd Ed Q E hw hv he => ha.go c σ H ρ s _ Ed _ E hw (fun vs H1 as s1 E1 st1 a1 q1 => by
    obtain ⟨ds, g1, g3⟩ := a1.all q1
    exact ⟨c.hs ρ, ds, _, _, E1.nd, E1.tr, g1, g3, fun v H' d sm dv q => hv v H' d s1 (E1.grow sm) (st1.trans (stp_grow sm)) dv q,
      fun e cls dd H' sm ei q => q.elim⟩) he⟩
end
/-! ### reads of lists and dicts that the body owns -/
section
variable {S : Type} {Wo : Wd S} {X : Cx} {W : WX} {K : PySem.W.Frag} {tb te : TE} {b e : Expr} {pos p : Pos} {wb we : DE S} {k : Nat}
/-- len(x), x a list of its own -/
theorem e_lenO (i : Nat) {x : Str} {px : Pos} (B : Bt X.mg) (hN : X.N[i]? = some x := by rfl) (hv : Vis X.env.scope x := by first | exact Or.inl rfl | exact Or.inr (Or.inl rfl) | exact Or.inr (Or.inr rfl)) (hdb : (x == ("__debug__" : Str)) = false := by decide) (hcd : (x == ("__classdict__" : Str)) = false := by decide)
    (hg : Gl X "len" := by rfl) (he : starEach (.Name x px :: []) X.env = (false, eval (.Name x px) X.env) :: starEach [] X.env := by rfl) (hpl : (backTo pos (starEach [] X.env)).any (·.1) = false := by rfl) :
    ED Wo X W (.Call (.Name "len" p) [.Name x px] [] pos) (tCB (rLenG X.K) (tCons (tVar i) tNil)) (wOwnE i fun xs Q => Q (.int xs.length)) :=
  ⟨pe_callB cr_lenG hg (B.no _ (by decide)) (by decide +kernel) (pa_cons (pe_var hN hv hdb hcd) pa_nil he) (by decide) (by decide) he hpl, fun c σ H ρ s Qd Ed Q E hw hv he => by
    unfold wOwnE at hw
    split at hw
    · rename_i q xs hq
      obtain ⟨o, h1, rfl, n, vs, hH, hA⟩ := E.slot i _ hq
      refine ⟨_, h1, .inl ⟨q, vs, rfl, .inl (SqL.of hH), ?_⟩⟩
      rw [hA.length]
      exact hv _ _ _ s E (Same.refl _) (.int (okI_len n)) hw
    · exact hw.elim⟩
/-- x op e, x a list of its own -/
def wOpO {S : Type} (i : Nat) (f : PyData → PyData → (PyData → Prop) → Prop) (wb : DE S) : DT S := fun ρ s Q E => match ρ[i]? with
  | some (.own _ xs) => wb ρ s (fun y s1 => f (.list xs) y fun z => match z with | .bool b => Q b s1 | _ => False) E
  | _ => False
theorem td_cmpO (i : Nat) {x : Str} {px : Pos} {op : CmpOp} {r : R2} {f : PyData → PyData → (PyData → Prop) → Prop} (ho : OpR X (compareOp op) r) (hf : OpD X.K r f) (hb : ED Wo X W b tb wb) (hm : behindInMarks op b = false)
    (hN : X.N[i]? = some x := by rfl) (hv : Vis X.env.scope x := by first | exact Or.inl rfl | exact Or.inr (Or.inl rfl) | exact Or.inr (Or.inr rfl)) (hdb : (x == ("__debug__" : Str)) = false := by decide) (hcd : (x == ("__classdict__" : Str)) = false := by decide) :
    TD Wo X W (.Compare (.Name x px) [op] [b] pos) (tTest (tOp r (tVar i) tb)) (wOpO i f wb) :=
  ⟨pt_cmpR ho (pe_var hN hv hdb hcd) hb.pe hm, fun c σ H ρ s Qd Ed Q E hw hv he => by
    unfold wOpO at hw
    split at hw
    · rename_i q xs hq
      obtain ⟨o, h1, rfl, _⟩ := E.slot i _ hq
      refine ⟨.ref q, h1, hb.go c σ H ρ s _ Ed _ E hw (fun v H1 d s1 E1 st1 dv q1 => ?_) he⟩
      obtain ⟨EF, stf⟩ := E1.freeze hq
      obtain ⟨o2, g1, u, g2, du⟩ := EF.slot i (.d (.list xs)) (List.getElem?_set_self (List.getElem?_eq_some_iff.mp hq).1)
      rw [h1] at g1
      cases g1
      cases g2
      refine hf H1 (c.hs (ρ.set i (.d (.list xs)))) _ v _ d _ _ EF.tr du (Dv.same stf _ _ dv) q1 fun v' H' z sm dz qz => ?_
      cases z with
      | bool b => exact ⟨b, dz.of_bool, hv b H' s1 (E1.grow sm) (st1.trans (stp_grow sm)) qz⟩
      | _ => exact qz.elim
    · exact hw.elim⟩
theorem t_neO (i : Nat) {x : Str} {px : Pos} (hr : Room k X.A) (hb : ED Wo X W b tb wb) (hK : X.K = K := by rfl) (hN : X.N[i]? = some x := by rfl) (hv : Vis X.env.scope x := by first | exact Or.inl rfl | exact Or.inr (Or.inl rfl) | exact Or.inr (Or.inr rfl)) (hdb : (x == ("__debug__" : Str)) = false := by decide) (hcd : (x == ("__classdict__" : Str)) = false := by decide) :
    TD Wo X W (.Compare (.Name x px) [.NotEq] [b] pos) (tTest (tOp (rNeD K) (tVar i) tb)) (wOpO i dNe wb) := by subst hK; exact td_cmpO i (op_neD hr.units) od_ne hb (nomark _) hN hv hdb hcd
theorem t_eqO (i : Nat) {x : Str} {px : Pos} (hr : Room k X.A) (hb : ED Wo X W b tb wb) (hK : X.K = K := by rfl) (hN : X.N[i]? = some x := by rfl) (hv : Vis X.env.scope x := by first | exact Or.inl rfl | exact Or.inr (Or.inl rfl) | exact Or.inr (Or.inr rfl)) (hdb : (x == ("__debug__" : Str)) = false := by decide) (hcd : (x == ("__classdict__" : Str)) = false := by decide) :
    TD Wo X W (.Compare (.Name x px) [.Eq] [b] pos) (tTest (tOp (rEqD K) (tVar i) tb)) (wOpO i dEq wb) := by subst hK; exact td_cmpO i (op_eqD hr.units) od_eq hb (nomark _) hN hv hdb hcd
/-- e in x, x a list of its own -/
def wInO {S : Type} (i : Nat) (f : PyData → PyData → (PyData → Prop) → Prop) (wa : DE S) : DT S := fun ρ s Q E => match ρ[i]? with
  | some (.own _ xs) => wa ρ s (fun y s1 => f y (.list xs) fun z => match z with | .bool b => Q b s1 | _ => False) E
  | _ => False
theorem td_cmpR (i : Nat) {x : Str} {px : Pos} {op : CmpOp} {r : R2} {f : PyData → PyData → (PyData → Prop) → Prop} (ho : OpR X (compareOp op) r) (hf : OpD X.K r f) (hb : ED Wo X W b tb wb) (hm : behindInMarks op (.Name x px) = false)
    (hN : X.N[i]? = some x := by rfl) (hv : Vis X.env.scope x := by first | exact Or.inl rfl | exact Or.inr (Or.inl rfl) | exact Or.inr (Or.inr rfl)) (hdb : (x == ("__debug__" : Str)) = false := by decide) (hcd : (x == ("__classdict__" : Str)) = false := by decide) :
    TD Wo X W (.Compare b [op] [.Name x px] pos) (tTest (tOp r tb (tVar i))) (wInO i f wb) :=
  ⟨pt_cmpR ho hb.pe (pe_var hN hv hdb hcd) hm, fun c σ H ρ s Qd Ed Q E hw hv he => by
    unfold wInO at hw
    split at hw
    · rename_i q xs hq
      obtain ⟨o, h1, rfl, _⟩ := E.slot i _ hq
      refine hb.go c σ H ρ s _ Ed _ E hw (fun v H1 d s1 E1 st1 dv q1 => ?_) he
      obtain ⟨EF, stf⟩ := E1.freeze hq
      obtain ⟨o2, g1, u, g2, du⟩ := EF.slot i (.d (.list xs)) (List.getElem?_set_self (List.getElem?_eq_some_iff.mp hq).1)
      rw [h1] at g1
      cases g1
      cases g2
      refine ⟨.ref q, h1, hf H1 (c.hs (ρ.set i (.d (.list xs)))) v _ d _ _ _ EF.tr (Dv.same stf _ _ dv) du q1 fun v' H' z sm dz qz => ?_⟩
      cases z with
      | bool b => exact ⟨b, dz.of_bool, hv b H' s1 (E1.grow sm) (st1.trans (stp_grow sm)) qz⟩
      | _ => exact qz.elim
    · exact hw.elim⟩
theorem t_inO (i : Nat) {x : Str} {px : Pos} (hr : Room k X.A) (hb : ED Wo X W b tb wb) (hK : X.K = K := by rfl) (hm : behindInMarks .In (.Name x px) = false := by rfl) (hN : X.N[i]? = some x := by rfl) (hv : Vis X.env.scope x := by first | exact Or.inl rfl | exact Or.inr (Or.inl rfl) | exact Or.inr (Or.inr rfl)) (hdb : (x == ("__debug__" : Str)) = false := by decide) (hcd : (x == ("__classdict__" : Str)) = false := by decide) :
    TD Wo X W (.Compare b [.In] [.Name x px] pos) (tTest (tOp (rInG K) tb (tVar i))) (wInO i dIn wb) := by subst hK; exact td_cmpR i (or_in hr) od_in hb hm hN hv hdb hcd
/-- e in x, x a dict of its own, as a test -/
theorem t_inK (i : Nat) {x : Str} {px : Pos} (hr : Room k X.A) (h : ED Wo X W e te we) (hm : behindInMarks .In (.Name x px) = false := by rfl) (hN : X.N[i]? = some x := by rfl) (hv : Vis X.env.scope x := by first | exact Or.inl rfl | exact Or.inr (Or.inl rfl) | exact Or.inr (Or.inr rfl)) (hdb : (x == ("__debug__" : Str)) = false := by decide) (hcd : (x == ("__classdict__" : Str)) = false := by decide) :
    TD Wo X W (.Compare e [.In] [.Name x px] pos) (tB (tDIn te (tVar i))) (wT (wInK i we)) := by
  obtain ⟨pc, go⟩ := e_inK (Wo := Wo) (W := W) (px := px) i hr h hN hv hdb hcd
  exact ⟨pt_cmp pc hm, fun c σ H ρ s Qd Ed Q E hw hv he => go c σ H ρ s _ Ed _ E hw (fun v H' d s' E' st' dv q => by
    cases d with
    | bool b => exact ⟨b, dv.of_bool, hv b H' s' E' st' q⟩
    | _ => exact q.elim) he⟩
end
end Dt

set_option Elab.async false
set_option linter.all false
set_option autoImplicit false
set_option maxRecDepth 100000
set_option maxHeartbeats 1000000
namespace Dt
open PySem PySem.Spec
open L2 hiding wT wNot
/-! ### max(xs); a, b, c = e, [..], {}; calls by three keywords -/
section
variable {K : PySem.W.Frag}
abbrev rMaxL (K : PySem.W.Frag) : List V → Hp → VK → Prop := fun vs H Q => ∃ (a : Addr) (ns : List Int), vs = [V.ref a] ∧ SqL K H a (ns.map V.int) ∧ 0 < ns.length ∧ ∀ m, m ∈ ns → (∀ y, y ∈ ns → y ≤ m) → Q (.int m) H
theorem cr_maxL {X : Cx} (hc : X.calm = true) : CallR X (.builtin "max") (rMaxL X.K) := fun pins s σ H vs us Q I r h => by
  obtain ⟨a, ns, rfl, hs, hne, q⟩ := h
  obtain ⟨its, rv, hl, -⟩ := I.list hs
  rw [Vals.ref1 r]
  refine max_raw (I.ok.hd hc) hl.isList rv.ints hne fun h' tk m t' hk h1 h2 => ?_
  exact ⟨.int m, H, I.kept hk, ⟨t', rfl⟩, q m h1 h2⟩
def fMaxL : List PyData → (PyData → Prop) → Prop
  | [.list xs], Q => ∃ ns : List Int, xs = ns.map PyData.int ∧ ns ≠ [] ∧ (∀ m ∈ ns, okI m) ∧ ∀ m ∈ ns, (∀ a ∈ ns, a ≤ m) → Q (.int m)
  | _, _ => False
theorem cd_maxL : CallD K (rMaxL K) fMaxL := by
  intro H l vs ds Qd Q ht ha hf hq
  match ds, ha, hf with
  | [.list xs], ha, hf =>
    obtain ⟨ns, rfl, ne, ok, q⟩ := hf
    cases ha with
    | cons a b =>
    cases b
    cases a with
    | @lst p va _ h n dv =>
    have e := dv_ints dv
    subst e
    exact ⟨p, ns, rfl, SqL.of (hd_to _ _ _ _ h), List.length_pos_iff.mpr ne, fun m hm hl => hq _ H _ (Same.refl _) (.int (ok m hm)) (q m hm hl)⟩
end
def swap3 {α : Type} : List α → List α
  | [a, b, c] => [c, b, a]
  | l => l
theorem swap3_rel {α β : Type} {R : α → β → Prop} {l : List α} {m : List β} (h : l.length = 3) (p : Paired R l m) : Paired R (swap3 l) (swap3 m) := by
  match l, h with
  | [a, b, c], _ =>
    cases p with
    | cons p1 p =>
    cases p with
    | cons p2 p =>
    cases p with
    | cons p3 p =>
    cases p
    exact .cons p3 (.cons p2 (.cons p1 .nil))
theorem swap3_len {α : Type} {l : List α} (h : l.length = 3) : (swap3 l).length = 3 := by
  match l, h with
  | [a, b, c], _ => rfl
section
variable {S : Type} {Wo : Wd S} {X : Cx} {W : WX} {K : PySem.W.Frag} {ta tb tc te : TE} {tl : TA} {e a b d : Expr} {pos p apos cpos : Pos} {wa wb we wc : DE S} {wl : DA S}
theorem e_maxL (B : Bt X.mg) (hc : X.calm = true) (ha : AD Wo X W [a] tl wl) (hK : X.K = K := by rfl) (hg : Gl X "max" := by rfl) (he : starEach [a] X.env = (false, eval a X.env) :: starEach [] X.env := by rfl) (hpl : (backTo pos (starEach [] X.env)).any (·.1) = false := by rfl) :
    ED Wo X W (.Call (.Name "max" p) [a] [] pos) (tCB (rMaxL K) tl) (wCB fMaxL wl) := by subst hK; exact ed_callB (cr_maxL hc) cd_maxL hg (B.no _ (by decide)) (by decide +kernel) ha (by decide) (by decide) he hpl
/-- a, b, c = e, [..], {}: b a list, c a dict that the body owns -/
def wPar3D {S : Type} (i j l : Nat) (wa : DE S) (wb : DL S) : DS S := fun ρ s D => wa ρ s (fun d s1 => wb ρ s1 (fun ys s2 => ∀ p p2, D.nx (((ρ.set i (.d d)).set j (.own p ys)).set l (.ownK p2 [])) s2) fun e s' => D.er e ρ s') fun e s' => D.er e ρ s'
theorem sd_par3D (i j l : Nat) {x y z : Str} {px py pz pt pd : Pos} {kt k2 : Nat} {pt2 : Pos} {wa : DE S} {wb : DL S} (hN : X.N.Nodup) (hi : X.N[i]? = some x) (hj : X.N[j]? = some y) (hl : X.N[l]? = some z) (hij : i ≠ j) (hil : i ≠ l) (hjl : j ≠ l) (ha : ED Wo X W a ta wa) (hb : FD Wo X W b tb wb)
    (hx : X.env.scope.names.lookup x = some .local := by rfl) (hy : X.env.scope.names.lookup y = some .local := by rfl) (hz : X.env.scope.names.lookup z = some .local := by rfl) (hc : X.calm = true := by rfl)
    (hw : swappedStores [.Tuple [.Name x px, .Name y py, .Name z pz] kt pt] (.Tuple [a, b, .Dict [] [] pd] k2 pt2) X.env = pure (some [x, y, z]) := by rfl)
    (hs : swapsWithSole [.Tuple [.Name x px, .Name y py, .Name z pz] kt pt] (.Tuple [a, b, .Dict [] [] pd] k2 pt2) pos.line X.env = pure false := by rfl)
    (h1 : starEach [a, b, .Dict [] [] pd] X.env = (false, eval a X.env) :: starEach [b, .Dict [] [] pd] X.env := by rfl) (h2 : starEach [b, .Dict [] [] pd] X.env = (false, eval b X.env) :: starEach [.Dict [] [] pd] X.env := by rfl) (h3 : starEach [.Dict [] [] pd] X.env = (false, eval (.Dict [] [] pd) X.env) :: starEach [] X.env := by rfl) :
    SD Wo X W (.Assign [.Tuple [.Name x px, .Name y py, .Name z pz] kt pt] (.Tuple [a, b, .Dict [] [] pd] k2 pt2) pos) (tPar3 i j l (tCons ta (tCons tb (tCons tDNewK tNil)))) (wPar3D i j l wa wb) :=
  ⟨ps_par3 hc hN hi hj hl hij hil hjl hx hy hz (pa_cons ha.pe (pa_cons hb.pe (pa_cons pe_dnewK pa_nil h3) h2) h1) hw hs, fun c σ H ρ s Dd D E hw to => by
    refine ha.go c σ H ρ s _ _ _ E hw (fun v H1 d s1 E1 st1 dv q1 => ?_) (to.err σ ρ)
    refine hb.go c σ H1 ρ s1 _ (fun e s' => Dd.er e ρ s') _ E1 q1 (fun p2 vs2 H2 ys s2 E2 sm2 hp2 av2 n2 hn2 q2 => ?_) (to.err σ ρ)
    intro q hq
    have ne : p2 ≠ q := fun z => by rw [z, hq] at hp2; cases hp2
    obtain ⟨E3, sm3⟩ := E2.hideNew (o := .dK []) hq
    obtain ⟨E4, st4⟩ := E3.setOwnG (i := l) (x := .ownK q []) rfl (fun Hh st => ⟨rfl, Nat.zero_le _, [], upd_same, .nil⟩) (hidden_new E2 hq)
    obtain ⟨E5, st5⟩ := E4.setOwn (i := j) (by rw [upd_ne ne]; exact hp2) (DvAll.same (sm3.trans st4) _ _ av2) n2 (hidden_new E1 hn2)
    obtain ⟨E6, st6⟩ := E5.setD (i := i) (x := .d d) (v := v) rfl ⟨v, rfl, Dv.same (sm2.trans (sm3.trans (st4.trans st5))) _ _ dv⟩
    have cm : ∀ {α : Type} (r : List α) (A B C : α), ((r.set l A).set j B).set i C = ((r.set i C).set j B).set l A := fun r A B C => by
      rw [List.set_comm B C (Ne.symm hij), List.set_comm A C (Ne.symm hil), List.set_comm A B (Ne.symm hjl)]
    rw [cm, cm] at E6
    rw [cm] at st6
    exact ⟨_, _, _, rfl, to.nx _ _ _ s2 E6 (st1.trans (sm2.trans (sm3.trans (st4.trans (st5.trans st6))))) (q2 p2 q)⟩⟩
end
/-! ### enumerate(xs), xs a list -/
section
variable {S : Type} {Wo : Wd S} {X : Cx} {W : WX} {K : PySem.W.Frag} {tl : TA} {e a : Expr} {pos p q : Pos} {wl : DA S}
def wEnumL {S : Type} (w : DA S) : DL S := fun ρ s Q E => w ρ s (fun as s1 => allK as fun ds => match ds with
  | [.list xs] => Q (enumD 0 xs) s1
  | _ => False) E
theorem i_enumL {elts : List Expr} {kk : Nat} {tpos : Pos} (B : Bt X.mg) (h : AD Wo X W [e] tl wl) (hK : X.K = K := by rfl) (hg : Gl X "enumerate" := by rfl) (hs : starEach [e] X.env = [(false, eval e X.env)] := by rfl) :
    ID Wo X W (.Tuple elts kk tpos) (.Call (.Name "enumerate" p) [e] [] pos) (iEnum K tl) (wEnumL wl) := by
  subst hK
  refine ⟨pi_enum hg (B.no _ (by decide)) h.pe hs, fun c σ H ρ s Qd Ed R E hw hq he => h.go c σ H ρ s _ Ed _ E hw (fun vs H1 as s1 E1 st1 a1 q1 => ?_) he⟩
  obtain ⟨ds, h1, h2⟩ := a1.all q1
  match ds, h1, h2 with
  | [.list xs], h1, h2 =>
    cases h1 with
    | cons a b =>
    cases b
    cases a with
    | @lst pa va _ ha na da =>
    have up : ∀ {l' : List Addr} {H : Hp}, Same (hd H1 (c.hs ρ)) (hd H l') → SqL X.K H pa va := fun st => SqL.of (hd_to _ _ _ _ (st _ _ ha))
    refine ⟨pa, va, rfl, SqL.of (hd_to _ _ _ _ ha), hq _ H1 _ s1 E1 st1 ⟨fun l' H i st hi => ?_, fun l' H i st hi => ?_, fun l' H i x' H' d st tr yl hd' => ?_⟩ (by rw [enumD_len]; exact na) h2⟩
    · rw [enumD_len] at hi
      obtain ⟨u, hu, _⟩ := da.get' (List.getElem?_eq_getElem hi)
      exact ⟨va, u, up st, hu⟩
    · rw [enumD_len] at hi
      exact ⟨va, up st, by rw [da.length]; exact hi⟩
    · obtain ⟨T, u, rfl, hT, rfl, k1⟩ := yl
      obtain ⟨d1, g1, rfl⟩ := enumD_get _ _ _ _ hd'
      obtain ⟨e1, f1, f2⟩ := da.get (k1 va (up st))
      rw [g1] at f1; cases f1
      rw [Nat.zero_add]
      have il : i < xs.length := (List.getElem?_eq_some_iff.mp g1).1
      exact dv_pair tr hT (.int (okI_small (by have : xs.length ≤ 4194304 := na; omega))) (Dv.same st _ _ f2)
end
end Dt

set_option Elab.async false
set_option linter.all false
set_option autoImplicit false
set_option maxRecDepth 100000
set_option maxHeartbeats 1000000
namespace L34
open PySem PySem.Spec Dt
open L2 hiding wT wNot
theorem seqIf_t {S : Type} {t : DT S} {a b v : DS S} {ρ : List Sl} {s : S} {D : DEnds S} (h : ∀ (Q : Bool → S → Prop) (E : Er → S → Prop), Q true s → t ρ s Q E) (k : a ρ s { D with nx := fun ρ' s' => v ρ' s' D }) : wSeq (wIfS t a b) v ρ s D := h _ _ (by rw [if_pos rfl]; exact k)
theorem seqIf_f {S : Type} {t : DT S} {a v : DS S} {ρ : List Sl} {s : S} {D : DEnds S} (h : ∀ (Q : Bool → S → Prop) (E : Er → S → Prop), Q false s → t ρ s Q E) (k : v ρ s D) : wSeq (wIfS t a wNext) v ρ s D := h _ _ (by rw [if_neg (by decide)]; exact k)
def elemsD : PyData → List PyData
  | .tuple xs => xs
  | _ => []
/-! ### chains: the open rows at each gap -/
/-- a row's first word -/
def fw : PyData → Str
  | .tuple (.str w :: _) => w
  | _ => ""
/-- the chain behind a row -/
def stepC (c : List Int) (k : Int) (d : PyData) : List Int :=
  if fw d = "open" then c ++ [k] else if fw d = "end" then (if c.dropLast.isEmpty then [k] else c.dropLast) else c
def chn (xs : List PyData) : Nat → List Int
  | 0 => [-1]
  | r + 1 => stepC (chn xs r) r (xs[r]?.getD .none)
def cD (c : List Int) : PyData := .tuple (c.map PyData.int)
def chnD (xs : List PyData) (n : Nat) : List PyData := (List.range n).map fun r => cD (chn xs r)
theorem chn_ne (xs : List PyData) : ∀ r, chn xs r ≠ []
  | 0 => by simp [chn]
  | r + 1 => by
    have ih := chn_ne xs r
    show stepC _ _ _ ≠ []
    unfold stepC
    split
    · simp
    · split
      · split
        · simp
        · rename_i h; intro e; rw [e] at h; exact h rfl
      · exact ih
theorem chn_len (xs : List PyData) : ∀ r, (chn xs r).length ≤ r + 1
  | 0 => by simp [chn]
  | r + 1 => by
    have ih := chn_len xs r
    show (stepC _ _ _).length ≤ _
    unfold stepC
    split
    · rw [List.length_append]; simp; omega
    · split
      · split
        · simp
        · rw [List.length_dropLast]; omega
      · omega
/-- what a scan upwards from row k finds, d ends passed -/
def scanUp (xs : List PyData) : Nat → Nat → Option Int
  | 0, _ => none
  | k + 1, d => if fw (xs[k]?.getD .none) = "open" then (if d = 0 then some (k : Int) else scanUp xs k (d - 1)) else if fw (xs[k]?.getD .none) = "end" then scanUp xs k (d + 1) else scanUp xs k d
theorem ne_open_end : ¬ ("open" : Str) = "end" := by decide +kernel
theorem scanUp_eq (xs : List PyData) : ∀ k d, scanUp xs k d = if d + 2 ≤ (chn xs k).length then (chn xs k)[(chn xs k).length - 1 - d]? else none
  | 0, d => by simp [scanUp, chn]
  | k + 1, d => by
    have ih := scanUp_eq xs k
    have ne := chn_ne xs k
    have pos : 0 < (chn xs k).length := List.length_pos_iff.mpr ne
    show (if fw (xs[k]?.getD .none) = "open" then (if d = 0 then some (k : Int) else scanUp xs k (d - 1)) else if fw (xs[k]?.getD .none) = "end" then scanUp xs k (d + 1) else scanUp xs k d) = _
    have e : chn xs (k + 1) = stepC (chn xs k) k (xs[k]?.getD .none) := rfl
    rw [e]
    unfold stepC
    by_cases c1 : fw (xs[k]?.getD .none) = "open"
    · rw [if_pos c1, if_pos c1]
      rw [List.length_append]
      by_cases c0 : d = 0
      · subst c0
        rw [if_pos rfl, if_pos (by simp; omega)]
        simp
      · rw [if_neg c0, ih]
        by_cases l : d + 1 ≤ (chn xs k).length
        · rw [if_pos (by omega), if_pos (by simp; omega), List.getElem?_append_left (by simp; omega)]
          congr 1
          simp; omega
        · rw [if_neg (by omega), if_neg (by simp; omega)]
    · rw [if_neg c1, if_neg c1]
      by_cases c2 : fw (xs[k]?.getD .none) = "end"
      · rw [if_pos c2, if_pos c2, ih]
        by_cases l : (chn xs k).length = 1
        · have m : (chn xs k).dropLast.isEmpty = true := by
            rw [List.isEmpty_iff_length_eq_zero, List.length_dropLast]; omega
          rw [if_pos m, if_neg (by omega), if_neg (by simp)]
        · have m : ¬ (chn xs k).dropLast.isEmpty = true := by
            rw [List.isEmpty_iff_length_eq_zero, List.length_dropLast]; omega
          rw [if_neg m, List.length_dropLast]
          by_cases g : d + 1 + 2 ≤ (chn xs k).length
          · rw [if_pos g, if_pos (by omega), List.getElem?_dropLast, if_pos (by omega)]
            congr 1
            omega
          · rw [if_neg g, if_neg (by omega)]
      · rw [if_neg c2, if_neg c2, ih]
section
variable {P : Program} {w : World} {K : PySem.W.Frag} {mg : Str → Option Value} {base : Heap} {cNU cIP : Addr}
/-! ## is_gap_of -/
abbrev s_is_gap_of : Stmt := top 23
theorem sc_is_gap_of : FnScope ["text", "gap"] ["text", "gap"] (defScope s_is_gap_of) := ⟨rfl, rfl, rfl, by decide +kernel, rfl, by decide +kernel, by decide +kernel⟩
def isGapD (n : Nat) : PyData → Bool
  | .int i => decide (0 ≤ i) && decide (i ≤ (n : Int))
  | _ => false
abbrev F_is_gap_of : List PyData → (PyData → Prop) → (Er → Prop) → Prop := fun ds Q _ => match ds with
  | [.tuple xs, g] => Q (.bool (isGapD xs.length g))
  | _ => False
def w_is_gap_of : DS Unit :=
  (wRet (wAnd (wCallP (fun ds Q E => ds.length = 1 ∧ F_is_number ds Q E) (wCons (wVar 1) wNil)) (wOp dLe (wVar 1) (wCB fLen (wCons (wVar 0) wNil)))))
theorem spec_is_gap_of : ∀ ds Qd Ed, ds.length = 2 → F_is_gap_of ds Qd Ed → w_is_gap_of (argS 2 2 (ds.map Sl.d)) () (endP Qd Ed) := by
  intro ds Qd Ed hl h
  match ds, hl, h with
  | [.tuple xs, g], _, h =>
    have h : Qd (.bool (isGapD xs.length g)) := h
    unfold w_is_gap_of
    cases g with
    | int i => by_cases c : 0 ≤ i <;> simpa [wRet, wRetN, wIfS, wSeq, wNext, wT, wTand, wTor, wTnot, wAnd_eq, wOr_eq, wNot, wIsi_int, wIsi_bool, wIsi_str, wIsi_tup, wIsi_lst, tyInt, tyBool, tyStr, tyTup, tyLst, wChain_eq, wOp, wUn, wC, wVar, wCB, wCallP, fLen, wL, wComp, wSeqI, wZip, zipS, wCons, wNil, wTup, allK, argS, endP, noOwn, wipeD, dLe, dLt, dGe, dGt, dCm, dEq, dNe, dIdx, atI_0, atI_1, atI_2, wAsg, gN, gT, gCs, gNs, List.set, dInG, flatD, F1, List.length, limL_eq, shp_i, shp_s, shp_b, shp_n, eqv_ii, eqv_ss, F_is_number, isNum, isGapD, c] using h
    | _ => simpa [wRet, wRetN, wIfS, wSeq, wNext, wT, wTand, wTor, wTnot, wAnd_eq, wOr_eq, wNot, wIsi_int, wIsi_bool, wIsi_str, wIsi_tup, wIsi_lst, tyInt, tyBool, tyStr, tyTup, tyLst, wChain_eq, wOp, wUn, wC, wVar, wCB, wCallP, fLen, wL, wComp, wSeqI, wZip, zipS, wCons, wNil, wTup, allK, argS, endP, noOwn, wipeD, dLe, dLt, dGe, dGt, dCm, dEq, dNe, dIdx, atI_0, atI_1, atI_2, wAsg, gN, gT, gCs, gNs, List.set, dInG, flatD, F1, List.length, limL_eq, shp_i, shp_s, shp_b, shp_n, eqv_ii, eqv_ss, F_is_number, isNum, isGapD] using h
theorem fo_is_gap_of {f : Addr} {fd : FuncData} (Fu : Fun K "is_gap_of" "is_gap_of" s_is_gap_of f fd) (B : Bt mg) (D_is_number : Do P w K mg base CX0 2 "is_number" 1 (spP K 1 F_is_number)) : FnOk P w K mg base CX0 3 f fd ["text", "gap"] (spP K 2 F_is_gap_of) :=
  fnPO (wb := w_is_gap_of) Fu sc_is_gap_of rfl (fun cdv A outer s H E hr => ⟨_,
  (sd_one (sd_ret (ed_and (e_callO D_is_number (hr.mono (by decide)) pass00 (ad_cons (ed_var 1) ad_nil)) (ed_one (e_le (ed_var 1) (e_len B (ad_cons (ed_var 0) ad_nil)))))))⟩) (spec_is_gap_of)
theorem ok_is_gap_of {f : Addr} {fd : FuncData} (Fu : Fun K "is_gap_of" "is_gap_of" s_is_gap_of f fd) (hm : mg "is_gap_of" = some (.ref f)) (hb : Binds K fd ["text", "gap"] []) (B : Bt mg) (D_is_number : Do P w K mg base CX0 2 "is_number" 1 (spP K 1 F_is_number)) : Do P w K mg base CX0 3 "is_gap_of" 2 (spP K 2 F_is_gap_of) :=
  ⟨f, fd, ["text", "gap"], rfl, hm, Fu.kp, hb, fo_is_gap_of Fu B D_is_number⟩
/-! ## check_rows -/
abbrev s_check_rows : Stmt := top 19
theorem sc_check_rows : FnScope ["word", "rows", "k", "row"] ["word", "rows"] (defScope s_check_rows) := ⟨rfl, rfl, rfl, by decide +kernel, rfl, by decide +kernel, by decide +kernel⟩
/-- the first element that is no row; -1 if it is no tuple -/
def rowsFault : PyData → Option Int
  | .tuple xs => (xs.findIdx? fun x => !isRow x).map fun k => (k : Int)
  | _ => some (-1)
def nuE (cNU : Addr) (wd : Str) (k : PyData) : Er := ⟨cNU, [("at", k), ("word", .str wd)]⟩
abbrev F_check_rows (cNU : Addr) : List PyData → (PyData → Prop) → (Er → Prop) → Prop := fun ds Q E => match ds with
  | [.str wd, r] => (match rowsFault r with
    | none => Q .none
    | some k => E (nuE cNU wd (.int k)))
  | _ => False
def w_check_rows (cNU : Addr) : DS Unit :=
  (wSeq (wIfS (wTnot (wT (wIsi "tuple" (wVar 1)))) (wRaise cNU "word" "at" (wCons (wVar 0) (wCons (wUn dNeg (wC (.int 1))) wNil))) wNext)
  (wFor (wEnum (wCons (wVar 1) wNil)) (gT 2 (gCs (gN 2) (gCs (gN 3) gNs))) (wIfS (wTnot (wT (wCallP (fun ds Q E => ds.length = 1 ∧ F_is_row ds Q E) (wCons (wVar 3) wNil)))) (wRaise cNU "word" "at" (wCons (wVar 0) (wCons (wVar 2) wNil))) wNext)))
theorem rows_loop {g : DG} {b : DS Unit} {wd : Str} {r : PyData} {D : DEnds Unit}
    (hg : ∀ (k : Nat) (x : PyData) (D' : DEnds Unit) (z1 z2 : Sl), (if isRow x = true then ∀ z1 z2, D'.nx [.d (.str wd), .d r, z1, z2] () else D'.er (nuE cNU wd (.int (k : Int))) [.d (.str wd), .d r, .d (.int (k : Int)), .d x] ()) → g (.tuple [.int (k : Int), x]) [.d (.str wd), .d r, z1, z2] fun ρ1 => b ρ1 () D') : ∀ (xs : List PyData) (k : Nat) (z1 z2 : Sl),
    (match xs.findIdx? fun x => !isRow x with
      | none => ∀ ρ, D.nx ρ ()
      | some j => ∀ ρ, D.er (nuE cNU wd (.int ((k + j : Nat) : Int))) ρ ()) → wLoop g b (enumD k xs) [.d (.str wd), .d r, z1, z2] () D
  | [], k, z1, z2, h => h _
  | x :: xs, k, z1, z2, h => by
    refine hg k x _ z1 z2 ?_
    by_cases c : isRow x = true
    · rw [if_pos c]
      intro z3 z4
      refine rows_loop hg xs (k + 1) z3 z4 ?_
      rw [List.findIdx?_cons, if_neg (by simp [c])] at h
      cases e : xs.findIdx? fun x => !isRow x with
      | none => rw [e] at h; exact h
      | some j =>
        rw [e] at h
        intro ρ
        rw [show k + 1 + j = k + (j + 1) by omega]
        exact h ρ
    · rw [if_neg c]
      rw [List.findIdx?_cons, if_pos (by simpa using c)] at h
      simpa using h _
theorem spec_check_rows (cNU : Addr) : ∀ ds Qd Ed, ds.length = 2 → F_check_rows cNU ds Qd Ed → w_check_rows cNU (argS 2 4 (ds.map Sl.d)) () (endP Qd Ed) := by
  intro ds Qd Ed hl h
  match ds, hl, h with
  | [.str wd, r], _, h =>
    unfold w_check_rows
    cases r with
    | tuple xs =>
      simp [wRaise, wEnum, wFor, wRet, wRetN, wIfS, wSeq, wNext, wT, wTand, wTor, wTnot, wAnd_eq, wOr_eq, wNot, wIsi_int, wIsi_bool, wIsi_str, wIsi_tup, wIsi_lst, tyInt, tyBool, tyStr, tyTup, tyLst, wChain_eq, wOp, wUn, wC, wVar, wCB, wCallP, fLen, wL, wComp, wSeqI, wZip, zipS, wCons, wNil, wTup, allK, argS, endP, noOwn, wipeD, dLe, dLt, dGe, dGt, dCm, dEq, dNe, dIdx, atI_0, atI_1, atI_2, wAsg, gN, gT, gCs, gNs, List.set, dInG, flatD, F1, List.length, limL_eq, shp_i, shp_s, shp_b, shp_n, eqv_ii, eqv_ss]
      refine rows_loop (cNU := cNU) (fun k x D' z1 z2 q => ?_) xs 0 _ _ ?_
      · by_cases c : isRow x = true
        · rw [if_pos c] at q
          simpa [wRaise, wRet, wRetN, wIfS, wSeq, wNext, wT, wTand, wTor, wTnot, wAnd_eq, wOr_eq, wNot, wIsi_int, wIsi_bool, wIsi_str, wIsi_tup, wIsi_lst, tyInt, tyBool, tyStr, tyTup, tyLst, wChain_eq, wOp, wUn, wC, wVar, wCB, wCallP, fLen, wL, wComp, wSeqI, wZip, zipS, wCons, wNil, wTup, allK, argS, endP, noOwn, wipeD, dLe, dLt, dGe, dGt, dCm, dEq, dNe, dIdx, atI_0, atI_1, atI_2, wAsg, gN, gT, gCs, gNs, List.set, dInG, flatD, F1, List.length, limL_eq, shp_i, shp_s, shp_b, shp_n, eqv_ii, eqv_ss, F_is_row, c, nuE, dNeg] using q _ _
        · rw [if_neg c] at q
          simpa [wRaise, wRet, wRetN, wIfS, wSeq, wNext, wT, wTand, wTor, wTnot, wAnd_eq, wOr_eq, wNot, wIsi_int, wIsi_bool, wIsi_str, wIsi_tup, wIsi_lst, tyInt, tyBool, tyStr, tyTup, tyLst, wChain_eq, wOp, wUn, wC, wVar, wCB, wCallP, fLen, wL, wComp, wSeqI, wZip, zipS, wCons, wNil, wTup, allK, argS, endP, noOwn, wipeD, dLe, dLt, dGe, dGt, dCm, dEq, dNe, dIdx, atI_0, atI_1, atI_2, wAsg, gN, gT, gCs, gNs, List.set, dInG, flatD, F1, List.length, limL_eq, shp_i, shp_s, shp_b, shp_n, eqv_ii, eqv_ss, F_is_row, c, nuE, dNeg] using q
      · have h : (match (xs.findIdx? fun x => !isRow x).map fun k => (k : Int) with | none => Qd .none | some k => Ed (nuE cNU wd (.int k))) := h
        cases e : xs.findIdx? fun x => !isRow x with
        | none => rw [e] at h; intro ρ; exact h
        | some j => rw [e] at h; intro ρ; simpa using h
    | _ =>
      have h : Ed (nuE cNU wd (.int (-1))) := h
      simpa [wRaise, wRet, wRetN, wIfS, wSeq, wNext, wT, wTand, wTor, wTnot, wAnd_eq, wOr_eq, wNot, wIsi_int, wIsi_bool, wIsi_str, wIsi_tup, wIsi_lst, tyInt, tyBool, tyStr, tyTup, tyLst, wChain_eq, wOp, wUn, wC, wVar, wCB, wCallP, fLen, wL, wComp, wSeqI, wZip, zipS, wCons, wNil, wTup, allK, argS, endP, noOwn, wipeD, dLe, dLt, dGe, dGt, dCm, dEq, dNe, dIdx, atI_0, atI_1, atI_2, wAsg, gN, gT, gCs, gNs, List.set, dInG, flatD, F1, List.length, limL_eq, shp_i, shp_s, shp_b, shp_n, eqv_ii, eqv_ss, nuE, dNeg, rowsFault] using h
theorem fo_check_rows {f : Addr} {fd : FuncData} (Fu : Fun K "check_rows" "check_rows" s_check_rows f fd) (B : Bt mg) (D_is_row : Do P w K mg base CX0 4 "is_row" 1 (spP K 1 F_is_row)) (R_NotUsable : Ec P w K mg base "NotUsable" cNU "word" "at") : FnOk P w K mg base (L2.CX P w) 5 f fd ["word", "rows"] (spP K 2 (F_check_rows cNU)) :=
  fnPO (wb := w_check_rows cNU) Fu sc_check_rows rfl (fun cdv A outer s H E hr => ⟨_,
  (sd_cons (sd_if (td_not (td_val (e_isi (T' := "tuple") B (ed_var 1) (by decide +kernel)))) (sd_one (sd_raise R_NotUsable (hr.mono (by decide)) rfl (takes_of rfl rfl rfl rfl) (ad_cons (ed_var 0) (ad_cons (e_neg ed_int) ad_nil)))) sd_nil)
  (sd_one (sd_for (L2.passes_of rfl) rfl (i_enum B (ad_cons (ed_var 1) ad_nil)) (g_tup rfl (gds_cons (gd_name 2 sc_check_rows.nd rfl (by first | exact .inl rfl | exact .inr rfl)) (gds_cons (gd_name 3 sc_check_rows.nd rfl (by first | exact .inl rfl | exact .inr rfl)) gds_nil))) (sd_one (sd_if (td_not (td_val (e_callO D_is_row (hr.mono (by decide)) pass00 (ad_cons (ed_var 3) ad_nil)))) (sd_one (sd_raise R_NotUsable (hr.mono (by decide)) rfl (takes_of rfl rfl rfl rfl) (ad_cons (ed_var 0) (ad_cons (ed_var 2) ad_nil)))) sd_nil)))))⟩) (spec_check_rows cNU)
theorem ok_check_rows {f : Addr} {fd : FuncData} (Fu : Fun K "check_rows" "check_rows" s_check_rows f fd) (hm : mg "check_rows" = some (.ref f)) (hb : Binds K fd ["word", "rows"] []) (B : Bt mg) (D_is_row : Do P w K mg base CX0 4 "is_row" 1 (spP K 1 F_is_row)) (R_NotUsable : Ec P w K mg base "NotUsable" cNU "word" "at") : Do P w K mg base (L2.CX P w) 5 "check_rows" 2 (spP K 2 (F_check_rows cNU)) :=
  ⟨f, fd, ["word", "rows"], rfl, hm, Fu.kp, hb, fo_check_rows Fu B D_is_row R_NotUsable⟩
/-! ## check_text -/
abbrev s_check_text : Stmt := top 20
theorem sc_check_text : FnScope ["text"] ["text"] (defScope s_check_text) := ⟨rfl, rfl, rfl, by decide +kernel, rfl, by decide +kernel, by decide +kernel⟩
abbrev F_check_text (cNU : Addr) : List PyData → (PyData → Prop) → (Er → Prop) → Prop := fun ds Q E => match ds with
  | [r] => (match rowsFault r with
    | none => Q .none
    | some k => E (nuE cNU "text" (.int k)))
  | _ => False
def w_check_text (cNU : Addr) : DS Unit :=
  (wExpr (wCallP (fun ds Q E => ds.length = 2 ∧ (F_check_rows cNU) ds Q E) (wCons (wC (.str "text")) (wCons (wVar 0) wNil))))
theorem spec_check_text (cNU : Addr) : ∀ ds Qd Ed, ds.length = 1 → F_check_text cNU ds Qd Ed → w_check_text cNU (argS 1 1 (ds.map Sl.d)) () (endP Qd Ed) := by
  intro ds Qd Ed hl h
  match ds, hl, h with
  | [r], _, h =>
    unfold w_check_text
    have h : (match rowsFault r with | none => Qd .none | some k => Ed (nuE cNU "text" (.int k))) := h
    cases e : rowsFault r with
    | none => rw [e] at h; simpa [wExpr, wRet, wRetN, wIfS, wSeq, wNext, wT, wTand, wTor, wTnot, wAnd_eq, wOr_eq, wNot, wIsi_int, wIsi_bool, wIsi_str, wIsi_tup, wIsi_lst, tyInt, tyBool, tyStr, tyTup, tyLst, wChain_eq, wOp, wUn, wC, wVar, wCB, wCallP, fLen, wL, wComp, wSeqI, wZip, zipS, wCons, wNil, wTup, allK, argS, endP, noOwn, wipeD, dLe, dLt, dGe, dGt, dCm, dEq, dNe, dIdx, atI_0, atI_1, atI_2, wAsg, gN, gT, gCs, gNs, List.set, dInG, flatD, F1, List.length, limL_eq, shp_i, shp_s, shp_b, shp_n, eqv_ii, eqv_ss, F_check_rows, e] using h
    | some k => rw [e] at h; simpa [wExpr, wRet, wRetN, wIfS, wSeq, wNext, wT, wTand, wTor, wTnot, wAnd_eq, wOr_eq, wNot, wIsi_int, wIsi_bool, wIsi_str, wIsi_tup, wIsi_lst, tyInt, tyBool, tyStr, tyTup, tyLst, wChain_eq, wOp, wUn, wC, wVar, wCB, wCallP, fLen, wL, wComp, wSeqI, wZip, zipS, wCons, wNil, wTup, allK, argS, endP, noOwn, wipeD, dLe, dLt, dGe, dGt, dCm, dEq, dNe, dIdx, atI_0, atI_1, atI_2, wAsg, gN, gT, gCs, gNs, List.set, dInG, flatD, F1, List.length, limL_eq, shp_i, shp_s, shp_b, shp_n, eqv_ii, eqv_ss, F_check_rows, e] using h
theorem fo_check_text {f : Addr} {fd : FuncData} (Fu : Fun K "check_text" "check_text" s_check_text f fd) (B : Bt mg) (D_check_rows : Do P w K mg base (L2.CX P w) 5 "check_rows" 2 (spP K 2 (F_check_rows cNU))) : FnOk P w K mg base (L2.CX P w) 6 f fd ["text"] (spP K 1 (F_check_text cNU)) :=
  fnPO (wb := w_check_text cNU) Fu sc_check_text rfl (fun cdv A outer s H E hr => ⟨_,
  (sd_one (sd_expr (e_callO D_check_rows (hr.mono (by decide)) (passT (takes_of rfl rfl rfl rfl)) (ad_cons ed_str (ad_cons (ed_var 0) ad_nil)))))⟩) (spec_check_text cNU)
theorem ok_check_text {f : Addr} {fd : FuncData} (Fu : Fun K "check_text" "check_text" s_check_text f fd) (hm : mg "check_text" = some (.ref f)) (hb : Binds K fd ["text"] []) (B : Bt mg) (D_check_rows : Do P w K mg base (L2.CX P w) 5 "check_rows" 2 (spP K 2 (F_check_rows cNU))) : Do P w K mg base (L2.CX P w) 6 "check_text" 1 (spP K 1 (F_check_text cNU)) :=
  ⟨f, fd, ["text"], rfl, hm, Fu.kp, hb, fo_check_text Fu B D_check_rows⟩
/-! ## is_gaps_of -/
abbrev s_is_gaps_of : Stmt := top 24
theorem sc_is_gaps_of : FnScope ["text", "thing", "gap"] ["text", "thing"] (defScope s_is_gaps_of) := ⟨rfl, rfl, rfl, by decide +kernel, rfl, by decide +kernel, by decide +kernel⟩
def isCarets (n : Nat) : PyData → Bool
  | .tuple cs => isGaps (.tuple cs) && cs.all (isGapD n)
  | _ => false
abbrev F_is_gaps_of : List PyData → (PyData → Prop) → (Er → Prop) → Prop := fun ds Q _ => match ds with
  | [.tuple xs, c] => Q (.bool (isCarets xs.length c))
  | _ => False
def w_is_gaps_of : DS Unit :=
  (wRet (wAnd (wCallP (fun ds Q E => ds.length = 1 ∧ F_is_gaps ds Q E) (wCons (wVar 1) wNil)) (wCB (fAll fun bs => bs.all id) (wCons (wL (wComp (wSeqI (wVar 1)) (gN 2) wYes (wCallP (fun ds Q E => ds.length = 2 ∧ F_is_gap_of ds Q E) (wCons (wVar 0) (wCons (wVar 2) wNil))) [2])) wNil))))
theorem spec_is_gaps_of : ∀ ds Qd Ed, ds.length = 2 → F_is_gaps_of ds Qd Ed → w_is_gaps_of (argS 2 3 (ds.map Sl.d)) () (endP Qd Ed) := by
  intro ds Qd Ed hl h
  match ds, hl, h with
  | [.tuple xs, c], _, h =>
    have h : Qd (.bool (isCarets xs.length c)) := h
    unfold w_is_gaps_of
    cases c with
    | tuple cs =>
      by_cases g : isGaps (.tuple cs) = true
      · simp [wRet, wRetN, wIfS, wSeq, wNext, wT, wTand, wTor, wTnot, wAnd_eq, wOr_eq, wNot, wIsi_int, wIsi_bool, wIsi_str, wIsi_tup, wIsi_lst, tyInt, tyBool, tyStr, tyTup, tyLst, wChain_eq, wOp, wUn, wC, wVar, wCB, wCallP, fLen, wL, wComp, wSeqI, wZip, zipS, wCons, wNil, wTup, allK, argS, endP, noOwn, wipeD, dLe, dLt, dGe, dGt, dCm, dEq, dNe, dIdx, atI_0, atI_1, atI_2, wAsg, gN, gT, gCs, gNs, List.set, dInG, flatD, F1, List.length, limL_eq, shp_i, shp_s, shp_b, shp_n, eqv_ii, eqv_ss, F_is_gaps, g]
        refine comp_map (fun d => .bool (isGapD xs.length d)) _ _ _ (fun d hd s Y y => ?_) ?_
        · exact ⟨rfl, by simpa [wRet, wRetN, wIfS, wSeq, wNext, wT, wTand, wTor, wTnot, wAnd_eq, wOr_eq, wNot, wIsi_int, wIsi_bool, wIsi_str, wIsi_tup, wIsi_lst, tyInt, tyBool, tyStr, tyTup, tyLst, wChain_eq, wOp, wUn, wC, wVar, wCB, wCallP, fLen, wL, wComp, wSeqI, wZip, zipS, wCons, wNil, wTup, allK, argS, endP, noOwn, wipeD, dLe, dLt, dGe, dGt, dCm, dEq, dNe, dIdx, atI_0, atI_1, atI_2, wAsg, gN, gT, gCs, gNs, List.set, dInG, flatD, F1, List.length, limL_eq, shp_i, shp_s, shp_b, shp_n, eqv_ii, eqv_ss, F_is_gap_of] using y⟩
        · refine ⟨cs.map (isGapD xs.length), by rw [List.map_map]; rfl, ?_⟩
          have e : (cs.map (isGapD xs.length)).all id = cs.all (isGapD xs.length) := by rw [List.all_map]; rfl
          simp only [e]
          have e2 : isCarets xs.length (.tuple cs) = cs.all (isGapD xs.length) := by simp [isCarets, g]
          rw [e2] at h
          exact h
      · have e2 : isCarets xs.length (.tuple cs) = false := by simp [isCarets, g]
        rw [e2] at h
        simp only [Bool.not_eq_true] at g
        simpa [wRet, wRetN, wIfS, wSeq, wNext, wT, wTand, wTor, wTnot, wAnd_eq, wOr_eq, wNot, wIsi_int, wIsi_bool, wIsi_str, wIsi_tup, wIsi_lst, tyInt, tyBool, tyStr, tyTup, tyLst, wChain_eq, wOp, wUn, wC, wVar, wCB, wCallP, fLen, wL, wComp, wSeqI, wZip, zipS, wCons, wNil, wTup, allK, argS, endP, noOwn, wipeD, dLe, dLt, dGe, dGt, dCm, dEq, dNe, dIdx, atI_0, atI_1, atI_2, wAsg, gN, gT, gCs, gNs, List.set, dInG, flatD, F1, List.length, limL_eq, shp_i, shp_s, shp_b, shp_n, eqv_ii, eqv_ss, F_is_gaps, g] using h
    | _ => simpa [wRet, wRetN, wIfS, wSeq, wNext, wT, wTand, wTor, wTnot, wAnd_eq, wOr_eq, wNot, wIsi_int, wIsi_bool, wIsi_str, wIsi_tup, wIsi_lst, tyInt, tyBool, tyStr, tyTup, tyLst, wChain_eq, wOp, wUn, wC, wVar, wCB, wCallP, fLen, wL, wComp, wSeqI, wZip, zipS, wCons, wNil, wTup, allK, argS, endP, noOwn, wipeD, dLe, dLt, dGe, dGt, dCm, dEq, dNe, dIdx, atI_0, atI_1, atI_2, wAsg, gN, gT, gCs, gNs, List.set, dInG, flatD, F1, List.length, limL_eq, shp_i, shp_s, shp_b, shp_n, eqv_ii, eqv_ss, F_is_gaps, isGaps, isCarets] using h
theorem fo_is_gaps_of {f : Addr} {fd : FuncData} (Fu : Fun K "is_gaps_of" "is_gaps_of" s_is_gaps_of f fd) (B : Bt mg) (D_is_gap_of : Do P w K mg base CX0 3 "is_gap_of" 2 (spP K 2 F_is_gap_of)) (D_is_gaps : Do P w K mg base CX0 3 "is_gaps" 1 (spP K 1 F_is_gaps)) : FnOk P w K mg base CX0 4 f fd ["text", "thing"] (spP K 2 F_is_gaps_of) :=
  fnPO (wb := w_is_gaps_of) Fu sc_is_gaps_of rfl (fun cdv A outer s H E hr => ⟨_,
  (sd_one (sd_ret (ed_and (e_callO D_is_gaps (hr.mono (by decide)) pass00 (ad_cons (ed_var 1) ad_nil)) (ed_one (e_all B rfl (ad_cons (ed_new (fd_lc rfl sc_is_gaps_of.nd (own := [("gap", 2)]) (i_seq (ed_var 1)) (blkOk_by (own := [("gap", 2)]) (N := ["text", "thing", "gap"]) (sc := defScope s_is_gaps_of) (by decide +kernel))
    (fun _ _ _ _ _ => (gd_name 2 sc_is_gaps_of.nd rfl (by first | exact .inl rfl | exact .inr rfl))) (fun _ _ _ _ _ => ptd_nil) (fun _ _ _ _ _ => (e_callO D_is_gap_of (hr.mono (by decide)) pass00 (ad_cons (ed_var 0) (ad_cons (ed_var 2) ad_nil)))) (by simp))) ad_nil))))))⟩) (spec_is_gaps_of)
theorem ok_is_gaps_of {f : Addr} {fd : FuncData} (Fu : Fun K "is_gaps_of" "is_gaps_of" s_is_gaps_of f fd) (hm : mg "is_gaps_of" = some (.ref f)) (hb : Binds K fd ["text", "thing"] []) (B : Bt mg) (D_is_gap_of : Do P w K mg base CX0 3 "is_gap_of" 2 (spP K 2 F_is_gap_of)) (D_is_gaps : Do P w K mg base CX0 3 "is_gaps" 1 (spP K 1 F_is_gaps)) : Do P w K mg base CX0 4 "is_gaps_of" 2 (spP K 2 F_is_gaps_of) :=
  ⟨f, fd, ["text", "thing"], rfl, hm, Fu.kp, hb, fo_is_gaps_of Fu B D_is_gap_of D_is_gaps⟩
/-! ## check_carets -/
abbrev s_check_carets : Stmt := top 21
theorem sc_check_carets : FnScope ["text", "carets"] ["text", "carets"] (defScope s_check_carets) := ⟨rfl, rfl, rfl, by decide +kernel, rfl, by decide +kernel, by decide +kernel⟩
abbrev F_check_carets (cNU : Addr) : List PyData → (PyData → Prop) → (Er → Prop) → Prop := fun ds Q E => match ds with
  | [.tuple xs, c] => if isCarets xs.length c = true then Q .none else E (nuE cNU "carets" (.int (-1)))
  | _ => False
def w_check_carets (cNU : Addr) : DS Unit :=
  (wIfS (wTnot (wT (wCallP (fun ds Q E => ds.length = 2 ∧ F_is_gaps_of ds Q E) (wCons (wVar 0) (wCons (wVar 1) wNil))))) (wRaise cNU "word" "at" (wCons (wC (.str "carets")) (wCons (wUn dNeg (wC (.int 1))) wNil))) wNext)
theorem spec_check_carets (cNU : Addr) : ∀ ds Qd Ed, ds.length = 2 → F_check_carets cNU ds Qd Ed → w_check_carets cNU (argS 2 2 (ds.map Sl.d)) () (endP Qd Ed) := by
  intro ds Qd Ed hl h
  match ds, hl, h with
  | [.tuple xs, c], _, h =>
    have h : if isCarets xs.length c = true then Qd .none else Ed (nuE cNU "carets" (.int (-1))) := h
    unfold w_check_carets
    by_cases g : isCarets xs.length c = true
    · rw [if_pos g] at h
      simpa [wRaise, wRet, wRetN, wIfS, wSeq, wNext, wT, wTand, wTor, wTnot, wAnd_eq, wOr_eq, wNot, wIsi_int, wIsi_bool, wIsi_str, wIsi_tup, wIsi_lst, tyInt, tyBool, tyStr, tyTup, tyLst, wChain_eq, wOp, wUn, wC, wVar, wCB, wCallP, fLen, wL, wComp, wSeqI, wZip, zipS, wCons, wNil, wTup, allK, argS, endP, noOwn, wipeD, dLe, dLt, dGe, dGt, dCm, dEq, dNe, dIdx, atI_0, atI_1, atI_2, wAsg, gN, gT, gCs, gNs, List.set, dInG, flatD, F1, List.length, limL_eq, shp_i, shp_s, shp_b, shp_n, eqv_ii, eqv_ss, F_is_gaps_of, g, nuE, dNeg] using h
    · rw [if_neg g] at h
      simp only [Bool.not_eq_true] at g
      simpa [wRaise, wRet, wRetN, wIfS, wSeq, wNext, wT, wTand, wTor, wTnot, wAnd_eq, wOr_eq, wNot, wIsi_int, wIsi_bool, wIsi_str, wIsi_tup, wIsi_lst, tyInt, tyBool, tyStr, tyTup, tyLst, wChain_eq, wOp, wUn, wC, wVar, wCB, wCallP, fLen, wL, wComp, wSeqI, wZip, zipS, wCons, wNil, wTup, allK, argS, endP, noOwn, wipeD, dLe, dLt, dGe, dGt, dCm, dEq, dNe, dIdx, atI_0, atI_1, atI_2, wAsg, gN, gT, gCs, gNs, List.set, dInG, flatD, F1, List.length, limL_eq, shp_i, shp_s, shp_b, shp_n, eqv_ii, eqv_ss, F_is_gaps_of, g, nuE, dNeg] using h
theorem fo_check_carets {f : Addr} {fd : FuncData} (Fu : Fun K "check_carets" "check_carets" s_check_carets f fd) (B : Bt mg) (D_is_gaps_of : Do P w K mg base CX0 4 "is_gaps_of" 2 (spP K 2 F_is_gaps_of)) (R_NotUsable : Ec P w K mg base "NotUsable" cNU "word" "at") : FnOk P w K mg base (L2.CX P w) 5 f fd ["text", "carets"] (spP K 2 (F_check_carets cNU)) :=
  fnPO (wb := w_check_carets cNU) Fu sc_check_carets rfl (fun cdv A outer s H E hr => ⟨_,
  (sd_one (sd_if (td_not (td_val (e_callO D_is_gaps_of (hr.mono (by decide)) pass00 (ad_cons (ed_var 0) (ad_cons (ed_var 1) ad_nil))))) (sd_one (sd_raise R_NotUsable (hr.mono (by decide)) rfl (takes_of rfl rfl rfl rfl) (ad_cons ed_str (ad_cons (e_neg ed_int) ad_nil)))) sd_nil))⟩) (spec_check_carets cNU)
theorem ok_check_carets {f : Addr} {fd : FuncData} (Fu : Fun K "check_carets" "check_carets" s_check_carets f fd) (hm : mg "check_carets" = some (.ref f)) (hb : Binds K fd ["text", "carets"] []) (B : Bt mg) (D_is_gaps_of : Do P w K mg base CX0 4 "is_gaps_of" 2 (spP K 2 F_is_gaps_of)) (R_NotUsable : Ec P w K mg base "NotUsable" cNU "word" "at") : Do P w K mg base (L2.CX P w) 5 "check_carets" 2 (spP K 2 (F_check_carets cNU)) :=
  ⟨f, fd, ["text", "carets"], rfl, hm, Fu.kp, hb, fo_check_carets Fu B D_is_gaps_of R_NotUsable⟩
/-! ## check_row -/
abbrev s_check_row : Stmt := top 22
theorem sc_check_row : FnScope ["text", "row"] ["text", "row"] (defScope s_check_row) := ⟨rfl, rfl, rfl, by decide +kernel, rfl, by decide +kernel, by decide +kernel⟩
/-- a whole number, a row of n rows -/
def isIn (n : Nat) : PyData → Bool
  | .int i => decide (0 ≤ i) && decide (i < (n : Int))
  | _ => false
abbrev F_check_row (cNU : Addr) : List PyData → (PyData → Prop) → (Er → Prop) → Prop := fun ds Q E => match ds with
  | [.tuple xs, r] => if isIn xs.length r = true then Q .none else E (nuE cNU "row" r)
  | _ => False
def w_check_row (cNU : Addr) : DS Unit :=
  (wIfS (wTor (wTnot (wT (wCallP (fun ds Q E => ds.length = 1 ∧ F_is_number ds Q E) (wCons (wVar 1) wNil)))) (wT (wOp dGe (wVar 1) (wCB fLen (wCons (wVar 0) wNil))))) (wRaise cNU "word" "at" (wCons (wC (.str "row")) (wCons (wVar 1) wNil))) wNext)
theorem spec_check_row (cNU : Addr) : ∀ ds Qd Ed, ds.length = 2 → F_check_row cNU ds Qd Ed → w_check_row cNU (argS 2 2 (ds.map Sl.d)) () (endP Qd Ed) := by
  intro ds Qd Ed hl h
  match ds, hl, h with
  | [.tuple xs, r], _, h =>
    have h : if isIn xs.length r = true then Qd .none else Ed (nuE cNU "row" r) := h
    unfold w_check_row
    cases r with
    | int i =>
      by_cases c : 0 ≤ i
      · by_cases c2 : i < (xs.length : Int)
        · have c3 : ¬ (xs.length : Int) ≤ i := by omega
          have e : isIn xs.length (.int i) = true := by simp [isIn, c, c2]
          rw [if_pos e] at h
          simpa [wRaise, wRet, wRetN, wIfS, wSeq, wNext, wT, wTand, wTor, wTnot, wAnd_eq, wOr_eq, wNot, wIsi_int, wIsi_bool, wIsi_str, wIsi_tup, wIsi_lst, tyInt, tyBool, tyStr, tyTup, tyLst, wChain_eq, wOp, wUn, wC, wVar, wCB, wCallP, fLen, wL, wComp, wSeqI, wZip, zipS, wCons, wNil, wTup, allK, argS, endP, noOwn, wipeD, dLe, dLt, dGe, dGt, dCm, dEq, dNe, dIdx, atI_0, atI_1, atI_2, wAsg, gN, gT, gCs, gNs, List.set, dInG, flatD, F1, List.length, limL_eq, shp_i, shp_s, shp_b, shp_n, eqv_ii, eqv_ss, F_is_number, isNum, c, c3, nuE] using h
        · have c3 : (xs.length : Int) ≤ i := by omega
          have e : ¬ isIn xs.length (.int i) = true := by simp [isIn, c2]
          rw [if_neg e] at h
          simpa [wRaise, wRet, wRetN, wIfS, wSeq, wNext, wT, wTand, wTor, wTnot, wAnd_eq, wOr_eq, wNot, wIsi_int, wIsi_bool, wIsi_str, wIsi_tup, wIsi_lst, tyInt, tyBool, tyStr, tyTup, tyLst, wChain_eq, wOp, wUn, wC, wVar, wCB, wCallP, fLen, wL, wComp, wSeqI, wZip, zipS, wCons, wNil, wTup, allK, argS, endP, noOwn, wipeD, dLe, dLt, dGe, dGt, dCm, dEq, dNe, dIdx, atI_0, atI_1, atI_2, wAsg, gN, gT, gCs, gNs, List.set, dInG, flatD, F1, List.length, limL_eq, shp_i, shp_s, shp_b, shp_n, eqv_ii, eqv_ss, F_is_number, isNum, c, c3, nuE] using h
      · have e : ¬ isIn xs.length (.int i) = true := by simp [isIn, c]
        rw [if_neg e] at h
        simpa [wRaise, wRet, wRetN, wIfS, wSeq, wNext, wT, wTand, wTor, wTnot, wAnd_eq, wOr_eq, wNot, wIsi_int, wIsi_bool, wIsi_str, wIsi_tup, wIsi_lst, tyInt, tyBool, tyStr, tyTup, tyLst, wChain_eq, wOp, wUn, wC, wVar, wCB, wCallP, fLen, wL, wComp, wSeqI, wZip, zipS, wCons, wNil, wTup, allK, argS, endP, noOwn, wipeD, dLe, dLt, dGe, dGt, dCm, dEq, dNe, dIdx, atI_0, atI_1, atI_2, wAsg, gN, gT, gCs, gNs, List.set, dInG, flatD, F1, List.length, limL_eq, shp_i, shp_s, shp_b, shp_n, eqv_ii, eqv_ss, F_is_number, isNum, c, nuE] using h
    | _ =>
      have h : Ed (nuE cNU "row" _) := h
      simpa [wRaise, wRet, wRetN, wIfS, wSeq, wNext, wT, wTand, wTor, wTnot, wAnd_eq, wOr_eq, wNot, wIsi_int, wIsi_bool, wIsi_str, wIsi_tup, wIsi_lst, tyInt, tyBool, tyStr, tyTup, tyLst, wChain_eq, wOp, wUn, wC, wVar, wCB, wCallP, fLen, wL, wComp, wSeqI, wZip, zipS, wCons, wNil, wTup, allK, argS, endP, noOwn, wipeD, dLe, dLt, dGe, dGt, dCm, dEq, dNe, dIdx, atI_0, atI_1, atI_2, wAsg, gN, gT, gCs, gNs, List.set, dInG, flatD, F1, List.length, limL_eq, shp_i, shp_s, shp_b, shp_n, eqv_ii, eqv_ss, F_is_number, isNum, nuE] using h
theorem fo_check_row {f : Addr} {fd : FuncData} (Fu : Fun K "check_row" "check_row" s_check_row f fd) (B : Bt mg) (D_is_number : Do P w K mg base CX0 2 "is_number" 1 (spP K 1 F_is_number)) (R_NotUsable : Ec P w K mg base "NotUsable" cNU "word" "at") : FnOk P w K mg base (L2.CX P w) 3 f fd ["text", "row"] (spP K 2 (F_check_row cNU)) :=
  fnPO (wb := w_check_row cNU) Fu sc_check_row rfl (fun cdv A outer s H E hr => ⟨_,
  (sd_one (sd_if (td_bool (tw_or (td_not (td_val (e_callO D_is_number (hr.mono (by decide)) pass00 (ad_cons (ed_var 1) ad_nil)))) (tw_or1 (t_ge (ed_var 1) (e_len B (ad_cons (ed_var 0) ad_nil)))))) (sd_one (sd_raise R_NotUsable (hr.mono (by decide)) rfl (takes_of rfl rfl rfl rfl) (ad_cons ed_str (ad_cons (ed_var 1) ad_nil)))) sd_nil))⟩) (spec_check_row cNU)
theorem ok_check_row {f : Addr} {fd : FuncData} (Fu : Fun K "check_row" "check_row" s_check_row f fd) (hm : mg "check_row" = some (.ref f)) (hb : Binds K fd ["text", "row"] []) (B : Bt mg) (D_is_number : Do P w K mg base CX0 2 "is_number" 1 (spP K 1 F_is_number)) (R_NotUsable : Ec P w K mg base "NotUsable" cNU "word" "at") : Do P w K mg base (L2.CX P w) 3 "check_row" 2 (spP K 2 (F_check_row cNU)) :=
  ⟨f, fd, ["text", "row"], rfl, hm, Fu.kp, hb, fo_check_row Fu B D_is_number R_NotUsable⟩
/-! ## places_of -/
abbrev s_places_of : Stmt := top 30
theorem sc_places_of : FnScope ["text", "carets", "places", "place", "opened", "row", "words"] ["text", "carets"] (defScope s_places_of) := ⟨rfl, rfl, rfl, by decide +kernel, rfl, by decide +kernel, by decide +kernel⟩
/-- rows that begin with a word -/
def RowS (xs : List PyData) : Prop := ∀ x ∈ xs, ∃ (w : Str) (r : List PyData), x = .tuple (.str w :: r)
/-- ahead of a row: at a caret a segment begins -/
def preP (cs : List Nat) (r : Nat) (st : Option (Nat × Nat) × Nat) : Option (Nat × Nat) × Nat := if r ∈ cs then (some (r, 0), 0) else st
/-- behind a row -/
def postP (d : PyData) (st : Option (Nat × Nat) × Nat) : Option (Nat × Nat) × Nat :=
  if fw d = "open" then (st.1, st.2 + 1) else if fw d = "end" then (if 0 < st.2 then (st.1, st.2 - 1) else (st.1.map fun p => (p.1, p.2 + 1), st.2)) else st
def stP (xs : List PyData) (cs : List Nat) : Nat → Option (Nat × Nat) × Nat
  | 0 => (none, 0)
  | r + 1 => postP (xs[r]?.getD .none) (preP cs r (stP xs cs r))
/-- the place of a row: its caret, its layer -/
def plc (xs : List PyData) (cs : List Nat) (r : Nat) : Option (Nat × Nat) := (preP cs r (stP xs cs r)).1
def plD : Option (Nat × Nat) → PyData
  | none => .none
  | some p => .tuple [.int (p.1 : Int), .int (p.2 : Int)]
def placesD (xs : List PyData) (cs : List Nat) (n : Nat) : List PyData := (List.range n).map fun r => plD (plc xs cs r)
def marksD (cs : List Nat) : List PyData := cs.map fun c : Nat => PyData.int (c : Int)
abbrev F_places_of : List PyData → (PyData → Prop) → (Er → Prop) → Prop := fun ds Q _ => match ds with
  | [.tuple xs, .tuple ms] => ∃ cs : List Nat, ms = marksD cs ∧ RowS xs ∧ xs.length ≤ 1000 ∧ Q (.list (placesD xs cs xs.length))
  | _ => False
def w_places_of : DS Unit :=
  (wSeq (wSetF 2 (wLst wNil))
  (wSeq (wAsg (wC .none) (gN 3))
  (wSeq (wAsg (wC (.int 0)) (gN 4))
  (wSeq (wFor (wEnum (wCons (wVar 0) wNil)) (gT 2 (gCs (gN 5) (gCs (gN 6) gNs))) (wSeq (wIfS (wT (wOp dIn (wVar 5) (wVar 1))) (wSeq (wAsg (wTup (wCons (wVar 5) (wCons (wC (.int 0)) wNil))) (gN 3))
  (wAsg (wC (.int 0)) (gN 4))) wNext)
  (wSeq (wApp 2 (wVar 3))
  (wIfS (wT (wOp dEq (wOp dIdx (wVar 6) (wC (.int 0))) (wC (.str "open")))) (wAsg (wOp dAdd (wVar 4) (wC (.int 1))) (gN 4)) (wIfS (wTand (wT (wOp dEq (wOp dIdx (wVar 6) (wC (.int 0))) (wC (.str "end")))) (wT (wOp dGt (wVar 4) (wC (.int 0))))) (wAsg (wOp (dI0 fun i j => i - j) (wVar 4) (wC (.int 1))) (gN 4)) (wIfS (wTand (wT (wOp dEq (wOp dIdx (wVar 6) (wC (.int 0))) (wC (.str "end")))) (wT (wOp dNotN (wVar 3) (wC .none)))) (wAsg (wTup (wCons (wOp dIdx (wVar 3) (wC (.int 0))) (wCons (wOp dAdd (wOp dIdx (wVar 3) (wC (.int 1))) (wC (.int 1))) wNil))) (gN 3)) wNext))))))
  (wFreeze 2 (wRet (wVar 2)))))))
theorem exprCall1 {F : List PyData → (PyData → Prop) → (Er → Prop) → Prop} {i : Nat} {ρ : List Sl} {d : PyData} {D : DEnds Unit} {v : DS Unit} (hi : ρ[i]? = some (.d d)) (h : F [d] (fun _ => v ρ () D) (fun e => D.er e ρ ())) : wSeq (wExpr (wCallP (fun ds Q E => ds.length = 1 ∧ F ds Q E) (wCons (wVar i) wNil))) v ρ () D := by
  simpa [wExpr, wRet, wRetN, wIfS, wSeq, wNext, wT, wTand, wTor, wTnot, wAnd_eq, wOr_eq, wNot, wIsi_int, wIsi_bool, wIsi_str, wIsi_tup, wIsi_lst, tyInt, tyBool, tyStr, tyTup, tyLst, wChain_eq, wOp, wUn, wC, wVar, wCB, wCallP, fLen, wL, wComp, wSeqI, wZip, zipS, wCons, wNil, wTup, allK, argS, endP, noOwn, wipeD, dLe, dLt, dGe, dGt, dCm, dEq, dNe, dIdx, atI_0, atI_1, atI_2, wAsg, gN, gT, gCs, gNs, List.set, dInG, flatD, F1, List.length, limL_eq, shp_i, shp_s, shp_b, shp_n, eqv_ii, eqv_ss, hi] using h
theorem exprCall2 {F : List PyData → (PyData → Prop) → (Er → Prop) → Prop} {i j : Nat} {ρ : List Sl} {d e : PyData} {D : DEnds Unit} {v : DS Unit} (hi : ρ[i]? = some (.d d)) (hj : ρ[j]? = some (.d e)) (h : F [d, e] (fun _ => v ρ () D) (fun e => D.er e ρ ())) : wSeq (wExpr (wCallP (fun ds Q E => ds.length = 2 ∧ F ds Q E) (wCons (wVar i) (wCons (wVar j) wNil)))) v ρ () D := by
  simpa [wExpr, wRet, wRetN, wIfS, wSeq, wNext, wT, wTand, wTor, wTnot, wAnd_eq, wOr_eq, wNot, wIsi_int, wIsi_bool, wIsi_str, wIsi_tup, wIsi_lst, tyInt, tyBool, tyStr, tyTup, tyLst, wChain_eq, wOp, wUn, wC, wVar, wCB, wCallP, fLen, wL, wComp, wSeqI, wZip, zipS, wCons, wNil, wTup, allK, argS, endP, noOwn, wipeD, dLe, dLt, dGe, dGt, dCm, dEq, dNe, dIdx, atI_0, atI_1, atI_2, wAsg, gN, gT, gCs, gNs, List.set, dInG, flatD, F1, List.length, limL_eq, shp_i, shp_s, shp_b, shp_n, eqv_ii, eqv_ss, hi, hj] using h
theorem allK_map : ∀ {ds : List PyData} {as : List Ag} {k : List PyData → Prop}, allK (ds.map Ag.d ++ as) k = allK as fun es => k (ds ++ es)
  | [], as, k => rfl
  | d :: ds, as, k => by
    show allK (ds.map Ag.d ++ as) (fun es => k (d :: es)) = _
    rw [allK_map]; rfl
theorem allK_map0 {ds : List PyData} {k : List PyData → Prop} : allK (ds.map Ag.d) k = k ds := by
  have h := allK_map (ds := ds) (as := []) (k := k)
  rw [List.append_nil] at h
  rw [h]
  show k (ds ++ []) = _
  rw [List.append_nil]
theorem cutD_le {α : Type} {xs : List α} {lo hi : Option Int} : (cutD xs lo hi).length ≤ xs.length := by
  unfold cutD
  rw [List.length_take, List.length_drop]
  omega
theorem enumD_at : ∀ (xs : List PyData) (j k : Nat) (d : PyData), (enumD j xs)[k]? = some d → ∃ x, xs[k]? = some x ∧ d = .tuple [.int ((j + k : Nat) : Int), x]
  | [], j, k, d, h => by simp [enumD] at h
  | x :: xs, j, 0, d, h => by
    simp only [enumD, List.getElem?_cons_zero, Option.some.injEq] at h
    exact ⟨x, rfl, h.symm⟩
  | x :: xs, j, k + 1, d, h => by
    simp only [enumD, List.getElem?_cons_succ] at h
    obtain ⟨y, hy, e⟩ := enumD_at xs (j + 1) k d h
    exact ⟨y, hy, by rw [e, show j + 1 + k = j + (k + 1) by omega]⟩
theorem okI_sm {i : Int} (h : -1000000 ≤ i ∧ i ≤ 1000000) : okI i := okI_small (by omega)
theorem marks_in (k : Nat) : ∀ cs : List Nat, ((marksD cs).any fun y => PyData.eqv y (.int (k : Int))) = decide (k ∈ cs)
  | [] => rfl
  | c :: cs => by
    have ih := marks_in k cs
    show (PyData.eqv (.int (c : Int)) (.int (k : Int)) || (marksD cs).any _) = _
    rw [eqv_ii, ih]
    by_cases e : c = k
    · subst e; simp
    · have : ¬ (c : Int) = (k : Int) := by omega
      simp [this, Ne.symm e]
theorem marks_flat (cs : List Nat) : (marksD cs).all flatD = true := List.all_eq_true.mpr fun d hd => by
  obtain ⟨c, _, rfl⟩ := List.mem_map.mp hd
  rfl
theorem preP_le {cs : List Nat} {r : Nat} {st : Option (Nat × Nat) × Nat} (h : st.2 ≤ r ∧ ∀ p, st.1 = some p → p.1 ≤ r ∧ p.2 ≤ r) : (preP cs r st).2 ≤ r ∧ ∀ p, (preP cs r st).1 = some p → p.1 ≤ r ∧ p.2 ≤ r := by
  unfold preP
  split
  · exact ⟨Nat.zero_le _, fun p e => by cases e; exact ⟨Nat.le_refl _, Nat.zero_le _⟩⟩
  · exact h
theorem stP_le (xs : List PyData) (cs : List Nat) : ∀ r, (stP xs cs r).2 ≤ r ∧ ∀ p, (stP xs cs r).1 = some p → p.1 ≤ r ∧ p.2 ≤ r
  | 0 => ⟨Nat.le_refl _, fun p e => by cases e⟩
  | r + 1 => by
    obtain ⟨a, b⟩ := preP_le (cs := cs) (stP_le xs cs r)
    show (postP _ _).2 ≤ r + 1 ∧ ∀ p, (postP _ _).1 = some p → _
    unfold postP
    split
    · exact ⟨by show _ + 1 ≤ _; omega, fun p e => by have := b p e; omega⟩
    · split
      · split
        · exact ⟨by show _ - 1 ≤ _; omega, fun p e => by have := b p e; omega⟩
        · refine ⟨by show _ ≤ _; omega, fun p e => ?_⟩
          obtain ⟨q, hq, rfl⟩ := Option.map_eq_some_iff.mp e
          have := b q hq
          exact ⟨by show q.1 ≤ _; omega, by show q.2 + 1 ≤ _; omega⟩
      · exact ⟨by omega, fun p e => by have := b p e; omega⟩
theorem if2_t {t : DT Unit} {a b : DS Unit} {ρ : List Sl} {s : Unit} {D : DEnds Unit} (h : ∀ (Q : Bool → Unit → Prop) (E : Er → Unit → Prop), Q true s → t ρ s Q E) (k : a ρ s D) : wIfS t a b ρ s D := h _ _ (by rw [if_pos rfl]; exact k)
theorem if2_e {t : DT Unit} {a b : DS Unit} {ρ : List Sl} {s : Unit} {D : DEnds Unit} (h : ∀ (Q : Bool → Unit → Prop) (E : Er → Unit → Prop), Q false s → t ρ s Q E) (k : b ρ s D) : wIfS t a b ρ s D := h _ _ (by rw [if_neg (by decide)]; exact k)
theorem placesD_app (xs : List PyData) (cs : List Nat) (n : Nat) : placesD xs cs n ++ [plD (plc xs cs n)] = placesD xs cs (n + 1) := by
  unfold placesD
  rw [List.range_succ, List.map_append]; rfl
theorem placesD_len (xs : List PyData) (cs : List Nat) (n : Nat) : (placesD xs cs n).length = n := by simp [placesD]
theorem w_is {w z : Str} {i : Nat} {r : List PyData} {ρ : List Sl} {Q : Bool → Unit → Prop} {E : Er → Unit → Prop} (h0 : ρ[i]? = some (.d (.tuple (.str w :: r)))) (q : Q (decide (w = z)) ()) : wT (wOp dEq (wOp dIdx (wVar i) (wC (.int 0))) (wC (.str z))) ρ () Q E :=
  t_of (op_of (op_of (var_of h0 (c_of ⟨_, atI_0, c_of ⟨rfl, rfl, by rw [eqv_ss]; exact q⟩⟩))))
theorem spec_places_of : ∀ ds Qd Ed, ds.length = 2 → F_places_of ds Qd Ed → w_places_of (argS 2 7 (ds.map Sl.d)) () (endP Qd Ed) := by
  intro ds Qd Ed hl h
  match ds, hl, h with
  | [.tuple xs, .tuple ms], _, h =>
    obtain ⟨cs, rfl, hr, hn, h⟩ := h
    unfold w_places_of
    show wSeq _ _ [.d (.tuple xs), .d (.tuple (marksD cs)), .no, .no, .no, .no, .no] () _
    refine seq_of (setF_of (lst_of (nil_of ⟨few_lim (by simp), fun p => ?_⟩)))
    dsimp only [List.set]
    refine seq_of (asg_of (c_of ?_))
    dsimp only [gN, List.set]
    refine seq_of (asg_of (c_of ?_))
    dsimp only [gN, List.set]
    refine seq_gen fun D1 hnx _ _ => for_of ?_
    show wLoop _ _ (enumD 0 xs) _ _ _
    refine loop_inv (fun k ρ _ => ∃ z5 z6, ρ = [.d (.tuple xs), .d (.tuple (marksD cs)), .own p (placesD xs cs k), .d (plD (stP xs cs k).1), .d (.int ((stP xs cs k).2 : Int)), z5, z6]) _ 0 _ _ ?_ ⟨_, _, rfl⟩ ?_
    · rintro k d hd ρ s ⟨z5, z6, rfl⟩ D' _ _ _ hx _
      rw [Nat.zero_add] at hx ⊢
      obtain ⟨x, hk, rfl⟩ := enumD_at xs 0 k d hd
      have kl : k < xs.length := (List.getElem?_eq_some_iff.mp hk).1
      obtain ⟨w, r, rfl⟩ := hr x (List.mem_of_getElem? hk)
      rw [Nat.zero_add]
      simp only [gT, gCs, gN, gNs, List.set]
      refine ⟨rfl, ?_⟩
      have hst : stP xs cs (k + 1) = postP (.tuple (.str w :: r)) (preP cs k (stP xs cs k)) := by
        show postP (xs[k]?.getD .none) _ = _
        rw [hk]; rfl
      have hpl : plc xs cs k = (preP cs k (stP xs cs k)).1 := rfl
      have bd := preP_le (cs := cs) (stP_le xs cs k)
      rw [hst, ← placesD_app, hpl] at hx
      have go : ∀ pr : Option (Nat × Nat) × Nat, preP cs k (stP xs cs k) = pr → wSeq (wApp 2 (wVar 3)) (wIfS (wT (wOp dEq (wOp dIdx (wVar 6) (wC (.int 0))) (wC (.str "open")))) (wAsg (wOp dAdd (wVar 4) (wC (.int 1))) (gN 4)) (wIfS (wTand (wT (wOp dEq (wOp dIdx (wVar 6) (wC (.int 0))) (wC (.str "end")))) (wT (wOp dGt (wVar 4) (wC (.int 0))))) (wAsg (wOp (dI0 fun i j => i - j) (wVar 4) (wC (.int 1))) (gN 4)) (wIfS (wTand (wT (wOp dEq (wOp dIdx (wVar 6) (wC (.int 0))) (wC (.str "end")))) (wT (wOp dNotN (wVar 3) (wC .none)))) (wAsg (wTup (wCons (wOp dIdx (wVar 3) (wC (.int 0))) (wCons (wOp dAdd (wOp dIdx (wVar 3) (wC (.int 1))) (wC (.int 1))) wNil))) (gN 3)) wNext))) [.d (.tuple xs), .d (.tuple (marksD cs)), .own p (placesD xs cs k), .d (plD pr.1), .d (.int (pr.2 : Int)), .d (.int (k : Int)), .d (.tuple (.str w :: r))] () D' := fun pr e => by
        rw [e] at hx bd
        obtain ⟨b1, b2⟩ := bd
        obtain ⟨pl, o⟩ := pr
        dsimp only at hx b1 b2 ⊢
        refine seq_of (app_of (p := p) (xs := placesD xs cs k) rfl (var_of rfl ⟨by rw [placesD_len, limL_eq]; omega, ?_⟩))
        dsimp only [List.set]
        by_cases c1 : w = "open"
        · have ep : postP (.tuple (.str w :: r)) (pl, o) = (pl, o + 1) := by
            unfold postP
            rw [if_pos (show fw (.tuple (.str w :: r)) = "open" from c1)]
          rw [ep] at hx
          refine if2_t (fun Q E q => w_is rfl (by rw [decide_eq_true c1]; exact q)) (asg_of (op_of (var_of rfl (c_of ⟨okI_sm (by omega), ?_⟩))))
          exact hx _ _ ⟨_, _, rfl⟩
        refine if2_e (fun Q E q => w_is rfl (by rw [decide_eq_false c1]; exact q)) ?_
        have c1' : ¬ fw (.tuple (.str w :: r)) = "open" := c1
        by_cases c2 : w = "end"
        · have c2' : fw (.tuple (.str w :: r)) = "end" := c2
          by_cases c3 : 0 < o
          · have ep : postP (.tuple (.str w :: r)) (pl, o) = (pl, o - 1) := by
              unfold postP
              rw [if_neg c1', if_pos c2', if_pos c3]
            rw [ep] at hx
            refine if2_t (fun Q E q => tand_of (w_is rfl ?_)) ?_
            · rw [decide_eq_true c2, if_pos rfl]
              refine t_of (op_of (var_of rfl (c_of ?_)))
              show Q (decide ((0 : Int) < (o : Int))) ()
              rw [decide_eq_true (by omega)]
              exact q
            · refine asg_of (op_of (var_of rfl (c_of ⟨okI_sm (by show -1000000 ≤ (o : Int) - 1 ∧ (o : Int) - 1 ≤ 1000000; omega), ?_⟩)))
              dsimp only [gN, List.set]
              have en : (o : Int) - 1 = ((o - 1 : Nat) : Int) := by omega
              rw [en]
              exact hx _ _ ⟨_, _, rfl⟩
          · have ep : postP (.tuple (.str w :: r)) (pl, o) = (pl.map fun p => (p.1, p.2 + 1), o) := by
              unfold postP
              rw [if_neg c1', if_pos c2', if_neg c3]
            rw [ep] at hx
            refine if2_e (fun Q E q => tand_of (w_is rfl ?_)) ?_
            · rw [decide_eq_true c2, if_pos rfl]
              refine t_of (op_of (var_of rfl (c_of ?_)))
              show Q (decide ((0 : Int) < (o : Int))) ()
              rw [decide_eq_false (by omega)]
              exact q
            · cases pl with
              | none =>
                refine if2_f (fun Q E q => tand_of (w_is rfl ?_)) (hx _ _ ⟨_, _, rfl⟩)
                rw [decide_eq_true c2, if_pos rfl]
                exact t_of (op_of (var_of rfl (c_of q)))
              | some pp =>
                obtain ⟨c, l⟩ := pp
                obtain ⟨b3, b4⟩ := b2 _ rfl
                refine if2_t (fun Q E q => tand_of (w_is rfl ?_)) ?_
                · rw [decide_eq_true c2, if_pos rfl]
                  exact t_of (op_of (var_of rfl (c_of q)))
                · refine asg_of (tup_of (cons_of (op_of (var_of rfl (c_of ⟨_, atI_0, cons_of (op_of (op_of (var_of rfl (c_of ⟨_, atI_1, c_of ⟨okI_sm (by dsimp only at b4; omega), nil_of ⟨few_lim (by simp), ?_⟩⟩⟩))))⟩)))))
                  exact hx _ _ ⟨_, _, rfl⟩
        · have ep : postP (.tuple (.str w :: r)) (pl, o) = (pl, o) := by
            unfold postP
            rw [if_neg c1', if_neg (show ¬ fw (.tuple (.str w :: r)) = "end" from c2)]
          rw [ep] at hx
          refine if2_e (fun Q E q => tand_of (w_is rfl (by rw [decide_eq_false c2, if_neg (by decide)]; exact q))) ?_
          exact if2_f (fun Q E q => tand_of (w_is rfl (by rw [decide_eq_false c2, if_neg (by decide)]; exact q))) (hx _ _ ⟨_, _, rfl⟩)
      have tst : ∀ (Q : Bool → Unit → Prop) (E : Er → Unit → Prop) (b : Bool), decide (k ∈ cs) = b → Q b () → wT (wOp dIn (wVar 5) (wVar 1)) [.d (.tuple xs), .d (.tuple (marksD cs)), .own p (placesD xs cs k), .d (plD (stP xs cs k).1), .d (.int ((stP xs cs k).2 : Int)), .d (.int (k : Int)), .d (.tuple (.str w :: r))] () Q E := fun Q E b e q => by
        refine t_of (op_of (var_of rfl (var_of rfl ⟨rfl, marks_flat cs, ?_⟩)))
        rw [marks_in, e]
        exact q
      by_cases ck : k ∈ cs
      · refine seqIf_t (fun Q E q => tst Q E true (decide_eq_true ck) q) ?_
        refine seq_of (asg_of (tup_of (cons_of (var_of rfl (cons_of (c_of (nil_of ⟨few_lim (by simp), ?_⟩)))))))
        dsimp only [gN, List.set]
        refine asg_of (c_of ?_)
        exact go (some (k, 0), 0) (by unfold preP; rw [if_pos ck])
      · refine seqIf_f (fun Q E q => tst Q E false (decide_eq_false ck) q) ?_
        exact go (stP xs cs k) (by unfold preP; rw [if_neg ck])
    · rintro ρ s ⟨z5, z6, rfl⟩
      refine hnx _ _ ?_
      have el : 0 + (enumD 0 xs).length = xs.length := by
        have : ∀ (ys : List PyData) (j : Nat), (enumD j ys).length = ys.length := fun ys => by
          induction ys with
          | nil => intro j; rfl
          | cons y ys ih => intro j; simp [enumD, ih]
        rw [this, Nat.zero_add]
      rw [el]
      refine freeze_of (p := p) (xs := placesD xs cs xs.length) rfl ?_
      dsimp only [List.set]
      exact ret_of (var_of rfl h)
theorem fo_places_of {f : Addr} {fd : FuncData} (Fu : Fun K "places_of" "places_of" s_places_of f fd) (B : Bt mg) : FnOk P w K mg base CX0 1 f fd ["text", "carets"] (spP K 2 F_places_of) :=
  fnPO (wb := w_places_of) Fu sc_places_of rfl (fun cdv A outer s H E hr => ⟨_,
  (sd_cons (sd_setF 2 sc_places_of.nd rfl (by first | exact .inl rfl | exact .inr rfl) (fd_lst ad_nil))
  (sd_cons (sd_set 3 sc_places_of.nd rfl (by first | exact .inl rfl | exact .inr rfl) ed_non)
  (sd_cons (sd_set 4 sc_places_of.nd rfl (by first | exact .inl rfl | exact .inr rfl) ed_int)
  (sd_cons (sd_for (L2.passes_of rfl) rfl (i_enum B (ad_cons (ed_var 0) ad_nil)) (g_tup rfl (gds_cons (gd_name 5 sc_places_of.nd rfl (by first | exact .inl rfl | exact .inr rfl)) (gds_cons (gd_name 6 sc_places_of.nd rfl (by first | exact .inl rfl | exact .inr rfl)) gds_nil))) (sd_cons (sd_if (t_in hr (ed_var 5) (ed_var 1)) (sd_cons (sd_set 3 sc_places_of.nd rfl (by first | exact .inl rfl | exact .inr rfl) (ed_tup (ad_cons (ed_var 5) (ad_cons ed_int ad_nil))))
  (sd_one (sd_set 4 sc_places_of.nd rfl (by first | exact .inl rfl | exact .inr rfl) ed_int))) sd_nil)
  (sd_cons (sd_append 2 (ed_var 3))
  (sd_one (sd_if (t_eq hr (e_ix (ed_var 6) ed_int) ed_str) (sd_one (sd_set 4 sc_places_of.nd rfl (by first | exact .inl rfl | exact .inr rfl) (e_add (ed_var 4) ed_int))) (sd_one (sd_if (td_bool (tw_and (t_eq hr (e_ix (ed_var 6) ed_int) ed_str) (tw_and1 (t_gt (ed_var 4) ed_int)))) (sd_one (sd_set 4 sc_places_of.nd rfl (by first | exact .inl rfl | exact .inr rfl) (e_sub (ed_var 4) ed_int))) (sd_one (sd_if (td_bool (tw_and (t_eq hr (e_ix (ed_var 6) ed_int) ed_str) (tw_and1 (t_notN (ed_var 3) ed_non)))) (sd_one (sd_set 3 sc_places_of.nd rfl (by first | exact .inl rfl | exact .inr rfl) (ed_tup (ad_cons (e_ix (ed_var 3) ed_int) (ad_cons (e_add (e_ix (ed_var 3) ed_int) ed_int) ad_nil))))) sd_nil)))))))))
  (sd_freeze 2 (sd_one (sd_ret (ed_var 2))))))))⟩) (spec_places_of)
theorem ok_places_of {f : Addr} {fd : FuncData} (Fu : Fun K "places_of" "places_of" s_places_of f fd) (hm : mg "places_of" = some (.ref f)) (hb : Binds K fd ["text", "carets"] []) (B : Bt mg) : Do P w K mg base CX0 1 "places_of" 2 (spP K 2 F_places_of) :=
  ⟨f, fd, ["text", "carets"], rfl, hm, Fu.kp, hb, fo_places_of Fu B⟩
/-! ## checked_places -/
abbrev s_checked_places : Stmt := top 29
theorem sc_checked_places : FnScope ["text", "carets", "row"] ["text", "carets", "row"] (defScope s_checked_places) := ⟨rfl, rfl, rfl, by decide +kernel, rfl, by decide +kernel, by decide +kernel⟩
/-- a text, carets of it, a row of it -/
structure Seg (xs : List PyData) (cs : List Nat) (k : Nat) : Prop where
  rows : ∀ x ∈ xs, isRow x = true
  len : xs.length ≤ 200
  asc : cs.Pairwise (· < ·)
  le : ∀ c ∈ cs, c ≤ xs.length
  kl : k < xs.length
abbrev F_checked_places (cNU : Addr) : List PyData → (PyData → Prop) → (Er → Prop) → Prop := fun ds Q _ => match ds with
  | [.tuple xs, .tuple ms, .int i] => ∃ (cs : List Nat) (k : Nat), ms = marksD cs ∧ i = (k : Int) ∧ Seg xs cs k ∧ Q (.list (placesD xs cs xs.length))
  | _ => False
def w_checked_places (cNU : Addr) : DS Unit :=
  (wSeq (wExpr (wCallP (fun ds Q E => ds.length = 1 ∧ (F_check_text cNU) ds Q E) (wCons (wVar 0) wNil)))
  (wSeq (wExpr (wCallP (fun ds Q E => ds.length = 2 ∧ (F_check_carets cNU) ds Q E) (wCons (wVar 0) (wCons (wVar 1) wNil))))
  (wSeq (wExpr (wCallP (fun ds Q E => ds.length = 2 ∧ (F_check_row cNU) ds Q E) (wCons (wVar 0) (wCons (wVar 2) wNil))))
  (wRet (wCallP (fun ds Q E => ds.length = 2 ∧ F_places_of ds Q E) (wCons (wVar 0) (wCons (wVar 1) wNil)))))))
theorem asc_marks : ∀ {cs : List Nat}, cs.Pairwise (· < ·) → ascD (marksD cs) = true
  | [], _ => rfl
  | [c], _ => rfl
  | c :: d :: cs, h => by
    obtain ⟨h1, h2⟩ := List.pairwise_cons.mp h
    have ih := asc_marks h2
    have lt : c < d := h1 d List.mem_cons_self
    show (decide ((c : Int) < (d : Int)) && ascD (marksD (d :: cs))) = true
    rw [ih, decide_eq_true (by omega)]; rfl
theorem seg_carets {xs : List PyData} {cs : List Nat} {k : Nat} (h : Seg xs cs k) : isCarets xs.length (.tuple (marksD cs)) = true := by
  show (isGaps (.tuple (marksD cs)) && (marksD cs).all (isGapD xs.length)) = true
  rw [Bool.and_eq_true]
  refine ⟨?_, List.all_eq_true.mpr fun d hd => ?_⟩
  · show ((marksD cs).all isNum && ascD (marksD cs)) = true
    rw [Bool.and_eq_true]
    refine ⟨List.all_eq_true.mpr fun d hd => ?_, asc_marks h.asc⟩
    obtain ⟨c, _, rfl⟩ := List.mem_map.mp hd
    show decide ((0 : Int) ≤ (c : Int)) = true
    exact decide_eq_true (by omega)
  · obtain ⟨c, hc, rfl⟩ := List.mem_map.mp hd
    have := h.le c hc
    show (decide ((0 : Int) ≤ (c : Int)) && decide ((c : Int) ≤ (xs.length : Int))) = true
    rw [decide_eq_true (by omega), decide_eq_true (by omega)]; rfl
theorem rowS_one {x : PyData} (h : isRow x = true) : ∃ (w : Str) (r : List PyData), x = .tuple (.str w :: r) := by
  match x, h with
  | .tuple (.str w :: r), _ => exact ⟨w, r, rfl⟩
  | .tuple (.none :: r), h => exact absurd h (by simp [isRow, isRow2, isOneOf])
  | .tuple (.bool _ :: r), h => exact absurd h (by simp [isRow, isRow2, isOneOf])
  | .tuple (.int _ :: r), h => exact absurd h (by simp [isRow, isRow2, isOneOf])
  | .tuple (.list _ :: r), h => exact absurd h (by simp [isRow, isRow2, isOneOf])
  | .tuple (.tuple _ :: r), h => exact absurd h (by simp [isRow, isRow2, isOneOf])
  | .tuple (.dict _ :: r), h => exact absurd h (by simp [isRow, isRow2, isOneOf])
theorem fault_none {xs : List PyData} (h : ∀ x ∈ xs, isRow x = true) : rowsFault (.tuple xs) = none := by
  show ((xs.findIdx? fun x => !isRow x).map fun k => (k : Int)) = none
  have e : xs.findIdx? (fun x => !isRow x) = none := List.findIdx?_eq_none_iff.mpr fun x hx => by simp [h x hx]
  rw [e]; rfl
theorem spec_checked_places (cNU : Addr) : ∀ ds Qd Ed, ds.length = 3 → F_checked_places cNU ds Qd Ed → w_checked_places cNU (argS 3 3 (ds.map Sl.d)) () (endP Qd Ed) := by
  intro ds Qd Ed hl h
  match ds, hl, h with
  | [.tuple xs, .tuple ms, .int i], _, h =>
    obtain ⟨cs, k, rfl, rfl, sg, h⟩ := h
    unfold w_checked_places
    refine exprCall1 (d := .tuple xs) rfl ?_
    show match rowsFault (.tuple xs) with | none => _ | some k => _
    rw [fault_none sg.rows]
    refine exprCall2 (d := .tuple xs) (e := .tuple (marksD cs)) rfl rfl ?_
    show if isCarets xs.length (.tuple (marksD cs)) = true then _ else _
    rw [if_pos (seg_carets sg)]
    refine exprCall2 (d := .tuple xs) (e := .int (k : Int)) rfl rfl ?_
    show if isIn xs.length (.int (k : Int)) = true then _ else _
    have kl := sg.kl
    have ii : isIn xs.length (.int (k : Int)) = true := by
      show (decide ((0 : Int) ≤ (k : Int)) && decide ((k : Int) < (xs.length : Int))) = true
      rw [decide_eq_true (by omega), decide_eq_true (by omega)]; rfl
    rw [if_pos ii]
    exact ret_of (callP2 (var_of rfl (var_of rfl ⟨rfl, cs, rfl, fun x hx => rowS_one (sg.rows x hx), by have := sg.len; omega, h⟩)))
theorem fo_checked_places {f : Addr} {fd : FuncData} (Fu : Fun K "checked_places" "checked_places" s_checked_places f fd) (B : Bt mg) (D_check_carets : Do P w K mg base (L2.CX P w) 5 "check_carets" 2 (spP K 2 (F_check_carets cNU))) (D_check_row : Do P w K mg base (L2.CX P w) 3 "check_row" 2 (spP K 2 (F_check_row cNU))) (D_check_text : Do P w K mg base (L2.CX P w) 6 "check_text" 1 (spP K 1 (F_check_text cNU))) (D_places_of : Do P w K mg base CX0 1 "places_of" 2 (spP K 2 F_places_of)) : FnOk P w K mg base (L2.CX P w) 7 f fd ["text", "carets", "row"] (spP K 3 (F_checked_places cNU)) :=
  fnPO (wb := w_checked_places cNU) Fu sc_checked_places rfl (fun cdv A outer s H E hr => ⟨_,
  (sd_cons (sd_expr (e_callO D_check_text (hr.mono (by decide)) (passT (takes_of rfl rfl rfl rfl)) (ad_cons (ed_var 0) ad_nil)))
  (sd_cons (sd_expr (e_callO D_check_carets (hr.mono (by decide)) (passT (takes_of rfl rfl rfl rfl)) (ad_cons (ed_var 0) (ad_cons (ed_var 1) ad_nil))))
  (sd_cons (sd_expr (e_callO D_check_row (hr.mono (by decide)) (passT (takes_of rfl rfl rfl rfl)) (ad_cons (ed_var 0) (ad_cons (ed_var 2) ad_nil))))
  (sd_one (sd_ret (e_callO D_places_of (hr.mono (by decide)) pass00 (ad_cons (ed_var 0) (ad_cons (ed_var 1) ad_nil))))))))⟩) (spec_checked_places cNU)
theorem ok_checked_places {f : Addr} {fd : FuncData} (Fu : Fun K "checked_places" "checked_places" s_checked_places f fd) (hm : mg "checked_places" = some (.ref f)) (hb : Binds K fd ["text", "carets", "row"] []) (B : Bt mg) (D_check_carets : Do P w K mg base (L2.CX P w) 5 "check_carets" 2 (spP K 2 (F_check_carets cNU))) (D_check_row : Do P w K mg base (L2.CX P w) 3 "check_row" 2 (spP K 2 (F_check_row cNU))) (D_check_text : Do P w K mg base (L2.CX P w) 6 "check_text" 1 (spP K 1 (F_check_text cNU))) (D_places_of : Do P w K mg base CX0 1 "places_of" 2 (spP K 2 F_places_of)) : Do P w K mg base (L2.CX P w) 7 "checked_places" 3 (spP K 3 (F_checked_places cNU)) :=
  ⟨f, fd, ["text", "carets", "row"], rfl, hm, Fu.kp, hb, fo_checked_places Fu B D_check_carets D_check_row D_check_text D_places_of⟩
/-! ## segment_of -/
abbrev s_segment_of : Stmt := top 26
theorem sc_segment_of : FnScope ["text", "carets", "row", "places", "caret", "_", "other", "place"] ["text", "carets", "row"] (defScope s_segment_of) := ⟨rfl, rfl, rfl, by decide +kernel, rfl, by decide +kernel, by decide +kernel⟩
/-- the last row whose segment begins at c -/
def lastR (xs : List PyData) (cs : List Nat) (c : Nat) : List Nat := (List.range xs.length).filter fun r => decide ((plc xs cs r).map (·.1) = some c)
abbrev F_segment_of (cNU : Addr) : List PyData → (PyData → Prop) → (Er → Prop) → Prop := fun ds Q _ => match ds with
  | [.tuple xs, .tuple ms, .int i] => ∃ (cs : List Nat) (k : Nat), ms = marksD cs ∧ i = (k : Int) ∧ Seg xs cs k ∧ (match plc xs cs k with
    | none => Q .none
    | some p => ∀ m : Nat, m ∈ lastR xs cs p.1 → (∀ r ∈ lastR xs cs p.1, r ≤ m) → Q (.tuple [.int (p.1 : Int), .int (m : Int)]))
  | _ => False
def w_segment_of (cNU : Addr) : DS Unit :=
  (wSeq (wAsg (wCallP (fun ds Q E => ds.length = 3 ∧ (F_checked_places cNU) ds Q E) (wCons (wVar 0) (wCons (wVar 1) (wCons (wVar 2) wNil)))) (gN 3))
  (wSeq (wIfS (wT (wOp dIsN (wOp dIdx (wVar 3) (wVar 2)) (wC .none))) (wRet (wC .none)) wNext)
  (wSeq (wAsg (wOp dIdx (wVar 3) (wVar 2)) (gT 2 (gCs (gN 4) (gCs (gN 5) gNs))))
  (wRet (wTup (wCons (wVar 4) (wCons (wCB fMaxL (wCons (wL (wComp (wEnumL (wCons (wVar 3) wNil)) (gT 2 (gCs (gN 6) (gCs (gN 7) gNs))) (wTand (wT (wOp dNotN (wVar 7) (wC .none))) (wT (wOp dEq (wOp dIdx (wVar 7) (wC (.int 0))) (wVar 4)))) (wVar 6) [6, 7])) wNil)) wNil)))))))
theorem isN_n {Q : PyData → Prop} (h : Q (.bool true)) : dIsN (plD none) .none Q := h
theorem isN_s {p : Nat × Nat} {Q : PyData → Prop} (h : Q (.bool false)) : dIsN (plD (some p)) .none Q := h
theorem notN_n {Q : PyData → Prop} (h : Q (.bool false)) : dNotN (plD none) .none Q := h
theorem notN_s {p : Nat × Nat} {Q : PyData → Prop} (h : Q (.bool true)) : dNotN (plD (some p)) .none Q := h
theorem enumL_of {S : Type} {i : Nat} {xs : List PyData} {ρ : List Sl} {s : S} {Q : List PyData → S → Prop} {E : Er → S → Prop} (h0 : ρ[i]? = some (.d (.list xs))) (h : Q (enumD 0 xs) s) : wEnumL (wCons (wVar i) wNil) ρ s Q E := by
  unfold wEnumL wCons wVar
  rw [h0]; exact h
theorem places_at {xs : List PyData} {cs : List Nat} {k n : Nat} (h : k < n) : atI (placesD xs cs n) (k : Int) = some (plD (plc xs cs k)) := by
  refine atI_nat ?_
  unfold placesD
  rw [List.getElem?_map, List.getElem?_range h]; rfl
theorem places_enum {xs : List PyData} {cs : List Nat} {n i : Nat} {d : PyData} (h : (enumD 0 (placesD xs cs n))[i]? = some d) : d = .tuple [.int (i : Int), plD (plc xs cs i)] ∧ i < n := by
  obtain ⟨x, hx, rfl⟩ := enumD_at _ 0 i d h
  unfold placesD at hx
  rw [List.getElem?_map] at hx
  by_cases c : i < n
  · rw [List.getElem?_range c] at hx
    simp at hx
    subst hx
    rw [Nat.zero_add]
    exact ⟨rfl, c⟩
  · rw [List.getElem?_eq_none (by simpa using c)] at hx
    cases hx
theorem enumD_map (f : Nat → PyData) : ∀ (n j k : Nat), enumD j ((List.range' k n).map f) = (List.range n).map fun i => .tuple [.int ((j + i : Nat) : Int), f (k + i)]
  | 0, j, k => rfl
  | n + 1, j, k => by
    rw [List.range'_succ, List.map_cons, enumD, enumD_map f n (j + 1) (k + 1), List.range_succ_eq_map, List.map_cons, List.map_map]
    refine congr (congrArg _ (by simp)) (List.map_congr_left fun i _ => ?_)
    show _ = PyData.tuple [.int ((j + (i + 1) : Nat) : Int), f (k + (i + 1))]
    rw [show j + (i + 1) = j + 1 + i by omega, show k + (i + 1) = k + 1 + i by omega]
theorem enum_places (xs : List PyData) (cs : List Nat) (n : Nat) : enumD 0 (placesD xs cs n) = (List.range n).map fun i => .tuple [.int (i : Int), plD (plc xs cs i)] := by
  unfold placesD
  rw [List.range_eq_range', enumD_map]
  rw [← List.range_eq_range']
  refine List.map_congr_left fun i _ => ?_
  rw [Nat.zero_add]
/-- an item of the places by its number -/
def pJ (p : Nat → Bool) : PyData → Bool
  | .tuple [.int i, _] => p i.toNat
  | _ => false
def fJ : PyData → PyData
  | .tuple [.int i, _] => .int i
  | _ => .none
theorem pJ_filter (xs : List PyData) (cs : List Nat) (n : Nat) (p : Nat → Bool) : ((enumD 0 (placesD xs cs n)).filter (pJ p)).map fJ = ((List.range n).filter p).map fun r : Nat => PyData.int (r : Int) := by
  rw [enum_places, List.filter_map, List.map_map]
  rfl
theorem fM_of {ns : List Nat} {Q : PyData → Prop} (ne : ns ≠ []) (hb : ∀ n ∈ ns, n ≤ 1000) (h : ∀ m ∈ ns, (∀ r ∈ ns, r ≤ m) → Q (.int (m : Int))) : fMaxL [.list (ns.map fun r : Nat => PyData.int (r : Int))] Q := by
  refine ⟨ns.map fun r : Nat => (r : Int), by rw [List.map_map]; rfl, by simpa using ne, fun m hm => ?_, fun m hm hl => ?_⟩
  · obtain ⟨n, hn, rfl⟩ := List.mem_map.mp hm
    have := hb n hn
    exact okI_sm (by omega)
  · obtain ⟨n, hn, rfl⟩ := List.mem_map.mp hm
    exact h n hn fun r hr => by have := hl _ (List.mem_map.mpr ⟨r, hr, rfl⟩); omega
theorem spec_segment_of (cNU : Addr) : ∀ ds Qd Ed, ds.length = 3 → F_segment_of cNU ds Qd Ed → w_segment_of cNU (argS 3 8 (ds.map Sl.d)) () (endP Qd Ed) := by
  intro ds Qd Ed hl h
  match ds, hl, h with
  | [.tuple xs, .tuple ms, .int i], _, h =>
    obtain ⟨cs, k, rfl, rfl, sg, h⟩ := h
    have kl := sg.kl
    have nl := sg.len
    unfold w_segment_of
    show wSeq _ _ [.d (.tuple xs), .d (.tuple (marksD cs)), .d (.int (k : Int)), .no, .no, .no, .no, .no] () _
    refine seq_of (asg_of (callP3 (var_of rfl (var_of rfl (var_of rfl ⟨rfl, cs, k, rfl, rfl, sg, ?_⟩)))))
    dsimp only [gN, List.set]
    cases e : plc xs cs k with
    | none =>
      rw [e] at h
      refine seqIf_t (fun Q E q => t_of (op_of (op_of (var_of rfl (var_of rfl ⟨_, places_at kl, c_of ?_⟩))))) (ret_of (c_of h))
      rw [e]
      exact q
    | some pp =>
      obtain ⟨c, l⟩ := pp
      rw [e] at h
      refine seqIf_f (fun Q E q => t_of (op_of (op_of (var_of rfl (var_of rfl ⟨_, places_at kl, c_of ?_⟩))))) ?_
      · rw [e]
        exact q
      refine seq_of (asg_of (op_of (var_of rfl (var_of rfl ⟨_, places_at kl, ?_⟩))))
      rw [e]
      simp only [plD, gT, gCs, gN, gNs, List.set]
      refine ⟨rfl, ?_⟩
      refine ret_of (tup_of (cons_of (var_of rfl (cons_of (cb1_of (l_of (comp_of rfl (enumL_of rfl ?_))))))))
      dsimp only [wipeD, List.set]
      refine comp_fm (pJ fun r => decide ((plc xs cs r).map (·.1) = some c)) fJ _ _ _ (fun d hd s Y N y => ?_) ?_
      · obtain ⟨r, hr⟩ := List.getElem?_of_mem hd
        obtain ⟨rfl, rl⟩ := places_enum hr
        simp only [gT, gCs, gN, gNs, List.set]
        refine ⟨rfl, rfl, ?_⟩
        have y : if decide ((plc xs cs r).map (·.1) = some c) = true then Y (.int (r : Int)) s else N s := y
        cases er : plc xs cs r with
        | none =>
          rw [er] at y
          have y : N s := by simpa using y
          refine tand_of (t_of (op_of (var_of rfl (c_of (notN_n ?_)))))
          dsimp only
          rw [if_neg (by decide), if_neg (by decide)]
          exact y
        | some q =>
          obtain ⟨c2, l2⟩ := q
          rw [er] at y
          refine tand_of (t_of (op_of (var_of rfl (c_of (notN_s ?_)))))
          dsimp only
          rw [if_pos rfl]
          refine t_of (op_of (op_of (var_of rfl (c_of ⟨_, atI_0, var_of rfl (eqI_of ?_)⟩))))
          dsimp only
          by_cases cc : c2 = c
          · subst cc
            rw [if_pos (by simp)] at y
            rw [if_pos (by simp)]
            exact var_of rfl y
          · rw [if_neg (by simp; omega)]
            rw [if_neg (by simp; omega)] at y
            exact y
      · rw [pJ_filter]
        refine fM_of (ns := lastR xs cs c) ?_ (fun r hr => ?_) fun m hm hl => ?_
        · intro z
          have : k ∈ lastR xs cs c := List.mem_filter.mpr ⟨List.mem_range.mpr kl, by rw [e]; simp⟩
          rw [z] at this; cases this
        · have := List.mem_range.mp (List.mem_filter.mp hr).1
          omega
        · exact nil_of ⟨few_lim (by simp), h m hm hl⟩
theorem fo_segment_of {f : Addr} {fd : FuncData} (Fu : Fun K "segment_of" "segment_of" s_segment_of f fd) (B : Bt mg) (D_checked_places : Do P w K mg base (L2.CX P w) 7 "checked_places" 3 (spP K 3 (F_checked_places cNU))) : FnOk P w K mg base (L2.CX P w) 8 f fd ["text", "carets", "row"] (spP K 3 (F_segment_of cNU)) :=
  fnPO (wb := w_segment_of cNU) Fu sc_segment_of rfl (fun cdv A outer s H E hr => ⟨_,
  (sd_cons (sd_set 3 sc_segment_of.nd rfl (by first | exact .inl rfl | exact .inr rfl) (e_callO D_checked_places (hr.mono (by decide)) (passT (takes_of rfl rfl rfl rfl)) (ad_cons (ed_var 0) (ad_cons (ed_var 1) (ad_cons (ed_var 2) ad_nil)))))
  (sd_cons (sd_if (t_isN (e_ix (ed_var 3) (ed_var 2)) ed_non) (sd_one (sd_ret ed_non)) sd_nil)
  (sd_cons (sd_asg (e_ix (ed_var 3) (ed_var 2)) (g_tup rfl (gds_cons (gd_name 4 sc_segment_of.nd rfl (by first | exact .inl rfl | exact .inr rfl)) (gds_cons (gd_name 5 sc_segment_of.nd rfl (by first | exact .inl rfl | exact .inr rfl)) gds_nil))))
  (sd_one (sd_ret (ed_tup (ad_cons (ed_var 4) (ad_cons (e_maxL B rfl (ad_cons (ed_new (fd_lc rfl sc_segment_of.nd (own := [("other", 6), ("place", 7)]) (i_enumL B (ad_cons (ed_var 3) ad_nil)) (blkOk_by (own := [("other", 6), ("place", 7)]) (N := ["text", "carets", "row", "places", "caret", "_", "other", "place"]) (sc := defScope s_segment_of) (by decide +kernel))
    (fun _ _ _ _ _ => (g_tup rfl (gds_cons (gd_name 6 sc_segment_of.nd rfl (by first | exact .inl rfl | exact .inr rfl)) (gds_cons (gd_name 7 sc_segment_of.nd rfl (by first | exact .inl rfl | exact .inr rfl)) gds_nil)))) (fun _ _ _ _ _ => (ptd_one (td_bool (tw_and (t_notN (ed_var 7) ed_non) (tw_and1 (t_eq hr (e_ix (ed_var 7) ed_int) (ed_var 4))))))) (fun _ _ _ _ _ => (ed_var 6)) (by simp))) ad_nil)) ad_nil))))))))⟩) (spec_segment_of cNU)
theorem ok_segment_of {f : Addr} {fd : FuncData} (Fu : Fun K "segment_of" "segment_of" s_segment_of f fd) (hm : mg "segment_of" = some (.ref f)) (hb : Binds K fd ["text", "carets", "row"] []) (B : Bt mg) (D_checked_places : Do P w K mg base (L2.CX P w) 7 "checked_places" 3 (spP K 3 (F_checked_places cNU))) : Do P w K mg base (L2.CX P w) 8 "segment_of" 3 (spP K 3 (F_segment_of cNU)) :=
  ⟨f, fd, ["text", "carets", "row"], rfl, hm, Fu.kp, hb, fo_segment_of Fu B D_checked_places⟩
/-! ## layer_of -/
abbrev s_layer_of : Stmt := top 27
theorem sc_layer_of : FnScope ["text", "carets", "row", "place"] ["text", "carets", "row"] (defScope s_layer_of) := ⟨rfl, rfl, rfl, by decide +kernel, rfl, by decide +kernel, by decide +kernel⟩
abbrev F_layer_of (cNU : Addr) : List PyData → (PyData → Prop) → (Er → Prop) → Prop := fun ds Q _ => match ds with
  | [.tuple xs, .tuple ms, .int i] => ∃ (cs : List Nat) (k : Nat), ms = marksD cs ∧ i = (k : Int) ∧ Seg xs cs k ∧ Q (match plc xs cs k with
    | none => .none
    | some p => .int (p.2 : Int))
  | _ => False
def w_layer_of (cNU : Addr) : DS Unit :=
  (wSeq (wAsg (wOp dIdx (wCallP (fun ds Q E => ds.length = 3 ∧ (F_checked_places cNU) ds Q E) (wCons (wVar 0) (wCons (wVar 1) (wCons (wVar 2) wNil)))) (wVar 2)) (gN 3))
  (wRet (wIf (wT (wOp dIsN (wVar 3) (wC .none))) (wC .none) (wOp dIdx (wVar 3) (wC (.int 1))))))
theorem spec_layer_of (cNU : Addr) : ∀ ds Qd Ed, ds.length = 3 → F_layer_of cNU ds Qd Ed → w_layer_of cNU (argS 3 4 (ds.map Sl.d)) () (endP Qd Ed) := by
  intro ds Qd Ed hl h
  match ds, hl, h with
  | [.tuple xs, .tuple ms, .int i], _, h =>
    obtain ⟨cs, k, rfl, rfl, sg, h⟩ := h
    have kl := sg.kl
    unfold w_layer_of
    show wSeq _ _ [.d (.tuple xs), .d (.tuple (marksD cs)), .d (.int (k : Int)), .no] () _
    refine seq_of (asg_of (op_of (callP3 (var_of rfl (var_of rfl (var_of rfl ⟨rfl, cs, k, rfl, rfl, sg, var_of rfl ⟨_, places_at kl, ?_⟩⟩))))))
    dsimp only [gN, List.set]
    cases e : plc xs cs k with
    | none =>
      rw [e] at h
      refine ret_of (if_of (t_of (op_of (var_of rfl (c_of (isN_n ?_))))))
      dsimp only
      rw [if_pos rfl]
      exact c_of h
    | some pp =>
      rw [e] at h
      refine ret_of (if_of (t_of (op_of (var_of rfl (c_of (isN_s ?_))))))
      dsimp only
      rw [if_neg (by decide)]
      exact op_of (var_of rfl (c_of ⟨_, atI_1, h⟩))
theorem fo_layer_of {f : Addr} {fd : FuncData} (Fu : Fun K "layer_of" "layer_of" s_layer_of f fd) (B : Bt mg) (D_checked_places : Do P w K mg base (L2.CX P w) 7 "checked_places" 3 (spP K 3 (F_checked_places cNU))) : FnOk P w K mg base (L2.CX P w) 8 f fd ["text", "carets", "row"] (spP K 3 (F_layer_of cNU)) :=
  fnPO (wb := w_layer_of cNU) Fu sc_layer_of rfl (fun cdv A outer s H E hr => ⟨_,
  (sd_cons (sd_set 3 sc_layer_of.nd rfl (by first | exact .inl rfl | exact .inr rfl) (e_ix (e_callO D_checked_places (hr.mono (by decide)) (passT (takes_of rfl rfl rfl rfl)) (ad_cons (ed_var 0) (ad_cons (ed_var 1) (ad_cons (ed_var 2) ad_nil)))) (ed_var 2)))
  (sd_one (sd_ret (ed_if (t_isN (ed_var 3) ed_non) ed_non (e_ix (ed_var 3) ed_int)))))⟩) (spec_layer_of cNU)
theorem ok_layer_of {f : Addr} {fd : FuncData} (Fu : Fun K "layer_of" "layer_of" s_layer_of f fd) (hm : mg "layer_of" = some (.ref f)) (hb : Binds K fd ["text", "carets", "row"] []) (B : Bt mg) (D_checked_places : Do P w K mg base (L2.CX P w) 7 "checked_places" 3 (spP K 3 (F_checked_places cNU))) : Do P w K mg base (L2.CX P w) 8 "layer_of" 3 (spP K 3 (F_layer_of cNU)) :=
  ⟨f, fd, ["text", "carets", "row"], rfl, hm, Fu.kp, hb, fo_layer_of Fu B D_checked_places⟩
/-! ## rows_of_layer -/
abbrev s_rows_of_layer : Stmt := top 28
theorem sc_rows_of_layer : FnScope ["text", "carets", "row", "places", "other", "place"] ["text", "carets", "row"] (defScope s_rows_of_layer) := ⟨rfl, rfl, rfl, by decide +kernel, rfl, by decide +kernel, by decide +kernel⟩
abbrev F_rows_of_layer (cNU : Addr) : List PyData → (PyData → Prop) → (Er → Prop) → Prop := fun ds Q _ => match ds with
  | [.tuple xs, .tuple ms, .int i] => ∃ (cs : List Nat) (k : Nat), ms = marksD cs ∧ i = (k : Int) ∧ Seg xs cs k ∧ Q (.tuple (match plc xs cs k with
    | none => []
    | some p => ((List.range xs.length).filter fun r => decide (plc xs cs r = some p)).map fun r : Nat => PyData.int (r : Int)))
  | _ => False
def w_rows_of_layer (cNU : Addr) : DS Unit :=
  (wSeq (wAsg (wCallP (fun ds Q E => ds.length = 3 ∧ (F_checked_places cNU) ds Q E) (wCons (wVar 0) (wCons (wVar 1) (wCons (wVar 2) wNil)))) (gN 3))
  (wSeq (wIfS (wT (wOp dIsN (wOp dIdx (wVar 3) (wVar 2)) (wC .none))) (wRet (wTup wNil)) wNext)
  (wRet (wCB fTuple (wCons (wL (wComp (wEnumL (wCons (wVar 3) wNil)) (gT 2 (gCs (gN 4) (gCs (gN 5) gNs))) (wT (wOp dEq (wVar 5) (wOp dIdx (wVar 3) (wVar 2)))) (wVar 4) [4, 5])) wNil)))))
theorem plD_eq (a : Option (Nat × Nat)) (p : Nat × Nat) {Q : PyData → Prop} (h : Q (.bool (decide (a = some p)))) : dEq (plD a) (plD (some p)) Q := by
  cases a with
  | none => exact ⟨rfl, rfl, h⟩
  | some q =>
    obtain ⟨a1, a2⟩ := q
    obtain ⟨b1, b2⟩ := p
    refine ⟨rfl, rfl, ?_⟩
    have e : PyData.eqv (plD (some (a1, a2))) (plD (some (b1, b2))) = decide (some (a1, a2) = some (b1, b2)) := by
      show (PyData.eqv (.int (a1 : Int)) (.int (b1 : Int)) && (PyData.eqv (.int (a2 : Int)) (.int (b2 : Int)) && true)) = _
      rw [eqv_ii, eqv_ii, Bool.and_true]
      by_cases c1 : a1 = b1
      · by_cases c2 : a2 = b2
        · subst c1 c2; simp
        · have : ¬ (a2 : Int) = (b2 : Int) := by omega
          simp [c2, this]
      · have : ¬ (a1 : Int) = (b1 : Int) := by omega
        simp [c1, this]
    rw [e]; exact h
theorem spec_rows_of_layer (cNU : Addr) : ∀ ds Qd Ed, ds.length = 3 → F_rows_of_layer cNU ds Qd Ed → w_rows_of_layer cNU (argS 3 6 (ds.map Sl.d)) () (endP Qd Ed) := by
  intro ds Qd Ed hl h
  match ds, hl, h with
  | [.tuple xs, .tuple ms, .int i], _, h =>
    obtain ⟨cs, k, rfl, rfl, sg, h⟩ := h
    have kl := sg.kl
    unfold w_rows_of_layer
    show wSeq _ _ [.d (.tuple xs), .d (.tuple (marksD cs)), .d (.int (k : Int)), .no, .no, .no] () _
    refine seq_of (asg_of (callP3 (var_of rfl (var_of rfl (var_of rfl ⟨rfl, cs, k, rfl, rfl, sg, ?_⟩)))))
    dsimp only [gN, List.set]
    cases e : plc xs cs k with
    | none =>
      rw [e] at h
      refine seqIf_t (fun Q E q => t_of (op_of (op_of (var_of rfl (var_of rfl ⟨_, places_at kl, c_of ?_⟩))))) (ret_of (tup_of (nil_of ⟨few_lim (by simp), h⟩)))
      rw [e]
      exact q
    | some pp =>
      rw [e] at h
      refine seqIf_f (fun Q E q => t_of (op_of (op_of (var_of rfl (var_of rfl ⟨_, places_at kl, c_of ?_⟩))))) ?_
      · rw [e]
        exact q
      refine ret_of (cb1_of (l_of (comp_of rfl (enumL_of rfl ?_))))
      dsimp only [wipeD, List.set]
      refine comp_fm (pJ fun r => decide (plc xs cs r = some pp)) fJ _ _ _ (fun d hd s Y N y => ?_) ?_
      · obtain ⟨r, hr⟩ := List.getElem?_of_mem hd
        obtain ⟨rfl, rl⟩ := places_enum hr
        simp only [gT, gCs, gN, gNs, List.set]
        refine ⟨rfl, rfl, ?_⟩
        have y : if decide (plc xs cs r = some pp) = true then Y (.int (r : Int)) s else N s := y
        refine t_of (op_of (var_of rfl (op_of (var_of rfl (var_of rfl ⟨_, places_at kl, ?_⟩)))))
        rw [e]
        refine plD_eq _ pp ?_
        dsimp only
        by_cases cc : plc xs cs r = some pp
        · rw [if_pos (decide_eq_true cc)] at y ⊢
          exact var_of rfl y
        · rw [if_neg (by simpa using cc)] at y ⊢
          exact y
      · rw [pJ_filter]
        exact ftup_of h
theorem fo_rows_of_layer {f : Addr} {fd : FuncData} (Fu : Fun K "rows_of_layer" "rows_of_layer" s_rows_of_layer f fd) (B : Bt mg) (D_checked_places : Do P w K mg base (L2.CX P w) 7 "checked_places" 3 (spP K 3 (F_checked_places cNU))) : FnOk P w K mg base (L2.CX P w) 8 f fd ["text", "carets", "row"] (spP K 3 (F_rows_of_layer cNU)) :=
  fnPO (wb := w_rows_of_layer cNU) Fu sc_rows_of_layer rfl (fun cdv A outer s H E hr => ⟨_,
  (sd_cons (sd_set 3 sc_rows_of_layer.nd rfl (by first | exact .inl rfl | exact .inr rfl) (e_callO D_checked_places (hr.mono (by decide)) (passT (takes_of rfl rfl rfl rfl)) (ad_cons (ed_var 0) (ad_cons (ed_var 1) (ad_cons (ed_var 2) ad_nil)))))
  (sd_cons (sd_if (t_isN (e_ix (ed_var 3) (ed_var 2)) ed_non) (sd_one (sd_ret (ed_tup ad_nil))) sd_nil)
  (sd_one (sd_ret (e_tupleOf B (ad_cons (ed_new (fd_lc rfl sc_rows_of_layer.nd (own := [("other", 4), ("place", 5)]) (i_enumL B (ad_cons (ed_var 3) ad_nil)) (blkOk_by (own := [("other", 4), ("place", 5)]) (N := ["text", "carets", "row", "places", "other", "place"]) (sc := defScope s_rows_of_layer) (by decide +kernel))
    (fun _ _ _ _ _ => (g_tup rfl (gds_cons (gd_name 4 sc_rows_of_layer.nd rfl (by first | exact .inl rfl | exact .inr rfl)) (gds_cons (gd_name 5 sc_rows_of_layer.nd rfl (by first | exact .inl rfl | exact .inr rfl)) gds_nil)))) (fun _ _ _ _ _ => (ptd_one (t_eq hr (ed_var 5) (e_ix (ed_var 3) (ed_var 2))))) (fun _ _ _ _ _ => (ed_var 4)) (by simp))) ad_nil))))))⟩) (spec_rows_of_layer cNU)
theorem ok_rows_of_layer {f : Addr} {fd : FuncData} (Fu : Fun K "rows_of_layer" "rows_of_layer" s_rows_of_layer f fd) (hm : mg "rows_of_layer" = some (.ref f)) (hb : Binds K fd ["text", "carets", "row"] []) (B : Bt mg) (D_checked_places : Do P w K mg base (L2.CX P w) 7 "checked_places" 3 (spP K 3 (F_checked_places cNU))) : Do P w K mg base (L2.CX P w) 8 "rows_of_layer" 3 (spP K 3 (F_rows_of_layer cNU)) :=
  ⟨f, fd, ["text", "carets", "row"], rfl, hm, Fu.kp, hb, fo_rows_of_layer Fu B D_checked_places⟩
end
end L34

set_option Elab.async false
set_option linter.all false
set_option autoImplicit false
set_option maxRecDepth 100000
set_option maxHeartbeats 1000000
namespace Dt
open PySem PySem.Spec PyProof.Rows
open L2 hiding wT wNot
/-! ### tuple(range(0, n, c)) -/
/-- the steps of c below n -/
def stpN (n c : Int) : Nat := (Builtin.Range.rangeSize 0 n c).toNat
def stpD (n c : Int) : List PyData := (List.range (stpN n c)).map fun k : Nat => PyData.int ((k : Int) * c)
def stpV (n c : Int) : List V := (List.range (stpN n c)).map fun k : Nat => V.int ((k : Int) * c)
def StOk (i n c : Int) : Prop := i = 0 ∧ 0 ≤ n ∧ n ≤ 100000 ∧ 1 ≤ c ∧ c ≤ 100000
theorem stpN_le {n c : Int} (h : StOk 0 n c) : stpN n c ≤ n.toNat := by
  obtain ⟨_, h1, h2, h3, h4⟩ := h
  unfold stpN Builtin.Range.rangeSize
  rw [if_pos (by omega)]
  by_cases z : 0 < n
  · rw [if_pos z]
    have : (n - 0 - 1) / c ≤ n - 0 - 1 := Int.ediv_le_self _ (by omega)
    omega
  · rw [if_neg z]; omega
theorem stpN_int {n c : Int} (h : StOk 0 n c) : Builtin.Range.rangeSize 0 n c = (stpN n c : Int) := by
  obtain ⟨_, h1, h2, h3, h4⟩ := h
  unfold stpN
  have : 0 ≤ Builtin.Range.rangeSize 0 n c := by
    unfold Builtin.Range.rangeSize
    rw [if_pos (by omega)]
    by_cases z : 0 < n
    · rw [if_pos z]
      have : 0 ≤ (n - 0 - 1) / c := Int.ediv_nonneg (by omega) (by omega)
      omega
    · rw [if_neg z]; omega
  omega
theorem stp_mul {n c : Int} (h : StOk 0 n c) {k : Nat} (hk : k < stpN n c) : (k : Int) * c < n ∧ 0 ≤ (k : Int) * c := by
  obtain ⟨_, h1, h2, h3, h4⟩ := h
  refine ⟨?_, Int.mul_nonneg (by omega) (by omega)⟩
  unfold stpN Builtin.Range.rangeSize at hk
  rw [if_pos (by omega)] at hk
  by_cases z : 0 < n
  · rw [if_pos z] at hk
    have e : (k : Int) ≤ (n - 0 - 1) / c := by omega
    have e2 : (k : Int) * c ≤ (n - 0 - 1) / c * c := Int.mul_le_mul_of_nonneg_right e (by omega)
    have e3 : (n - 0 - 1) / c * c ≤ n - 0 - 1 := Int.ediv_mul_le _ (by omega)
    omega
  · rw [if_neg z] at hk; simp at hk
theorem st_small {n c : Int} (h : StOk 0 n c) : Builtin.Range.small 0 n c = true := by
  obtain ⟨_, h1, h2, h3, h4⟩ := h
  have sz := stpN_int (n := n) (c := c) ⟨rfl, h1, h2, h3, h4⟩
  have le := stpN_le (n := n) (c := c) ⟨rfl, h1, h2, h3, h4⟩
  have f : ∀ i : Int, -1000000 ≤ i → i ≤ 1000000 → Builtin.Range.rangeFitsLong i = true := fun i a b => by
    unfold Builtin.Range.rangeFitsLong
    rw [Bool.and_eq_true]
    exact ⟨decide_eq_true (by omega), decide_eq_true (by omega)⟩
  unfold Builtin.Range.small
  rw [f 0 (by omega) (by omega), f n (by omega) (by omega), f c (by omega) (by omega), sz, f _ (by omega) (by omega), if_pos (by omega), f (n + (c - 1)) (by omega) (by omega), Bool.or_true]; rfl
def tTup3 (tl : TA) : TE := fun σ H Q => tl σ H fun vs H1 => ∃ n c : Int, vs = [.int 0, .int n, .int c] ∧ StOk 0 n c ∧ ∀ q, H1 q = none → Q (.ref q) (upd H1 q (.tup (stpV n c)))
theorem stp_vals {n c : Int} {acc : Array Value} (h : ItemsOf (fun i v => ∃ t, v = .int (0 + i * c) t) acc (stpN n c)) : Vals (stpV n c) acc.toList := by
  have e : acc.toList.length = stpN n c := by rw [Array.length_toList]; exact h.1
  unfold stpV
  rw [← e]
  refine vals_of_get acc.toList _ fun j u hj => ?_
  obtain ⟨t, rfl⟩ := h.2 j u (by rw [← hj, Array.getElem?_toList])
  exact ⟨t, by rw [Int.zero_add]⟩
section
variable {X : Cx} {a b c : Expr} {tl : TA} {p q pos pos2 : Pos}
theorem pe_tup3 (hcal : X.calm = true) (hg : Gl X "tuple") (hm : X.mg "tuple" = none) (hg2 : Gl X "range") (hm2 : X.mg "range" = none) (ha : PA X [a, b, c] tl)
    (hs : starEach [a, b, c] X.env = (false, eval a X.env) :: starEach [b, c] X.env := by rfl) (hpl : (backTo pos (starEach [b, c] X.env)).any (·.1) = false := by rfl)
    (na : starEach [.Call (.Name "range" p) [a, b, c] [] pos] X.env = (false, eval (.Call (.Name "range" p) [a, b, c] [] pos) X.env) :: starEach [] X.env := by rfl) :
    PE X (.Call (.Name "tuple" q) [.Call (.Name "range" p) [a, b, c] [] pos] [] pos2) (tTup3 tl) := by
  refine ⟨fun pins s σ H Q I h => ?_⟩
  refine Call_ (ld_blt I hg hm boot_tuple (callWith_type1 (args_cons (thn (Q := fun x s1 => ∃ (r : Addr) (n d : Int) (t u v : Tok) (H1 : Hp), x = .ref r ∧ IsRange s1.heap r 0 n d t u v ∧ Inv X pins σ H1 s1 ∧ StOk 0 n d ∧ ∀ q, H1 q = none → Q (.ref q) (upd H1 q (.tup (stpV n d)))) ?_ fun x s1 h2 => args_nil ?_) na) na))
  · refine Call_ (ld_blt I hg2 hm2 boot_range (callWith_type1 (thn (ha.run pos pins s σ H _ I h) fun us s1 h1 => ?_) hs hpl))
    obtain ⟨vs, H1, I1, r1, n, d, e, ok, k⟩ := h1
    subst e
    match us, r1 with
    | [x1, x2, x3], .cons r (.cons r' (.cons r'' .nil)) =>
      obtain ⟨t, rfl⟩ := r
      obtain ⟨t', rfl⟩ := r'
      obtain ⟨t'', rfl⟩ := r''
      refine call_range_3 (by have := ok.2.2.2.1; omega) ?_ (.inl (PyProof.noPylong_small (by have := ok.2; omega)))
      exact ⟨_, n, d, _, _, _, H1, rfl, IsRange.new .., I1.kept fun b o e => Heap.get?_push_of_some _ e, ok, k⟩
  · obtain ⟨r, n, d, t, u, v, H1, rfl, hr, I1, ok, k⟩ := h2
    refine call_tuple_range (n := stpN n d) (I1.ok.hd hcal) hr (st_small ok) (stpN_int ok) (by have := stpN_le ok; have := ok.2.2.1; omega) fun h' tk acc hk hi => ?_
    have I2 : Inv X pins σ H1 { s1 with heap := h', toks := tk } := I1.kept hk
    refine ⟨.ref h'.objs.size, _, I2.laid (t' := tk) (fun c o e => Heap.get?_push_of_some _ e) (Nat.le_refl _) (show ObjOk X.prog X.w _ _ _ (.tup (stpV n d)) from ⟨?_, acc.toList, stp_vals hi, ?_⟩), rfl, k _ (I2.hok.fresh (Nat.le_refl _))⟩
    · unfold stpV
      rw [List.length_map, List.length_range, sizeLine_eq]
      have := stpN_le ok; have := ok.2.2.1; omega
    · rw [Array.toArray_toList]; exact IsTup.new _ _
end
section
variable {S : Type} {Wo : Wd S} {X : Cx} {W : WX} {K : PySem.W.Frag} {a b c : Expr} {tl : TA} {wl : DA S} {p q pos pos2 : Pos}
def wTup3 {S : Type} (w : DA S) : DE S := fun ρ s Q E => w ρ s (fun as s1 => allK as fun ds => match ds with
  | [.int i, .int n, .int c] => StOk i n c ∧ Q (.tuple (stpD n c)) s1
  | _ => False) E
theorem dv_stp {H : Hp} {n c : Int} (h : StOk 0 n c) : DvAll K H (stpV n c) (stpD n c) := by
  have go : ∀ l : List Nat, (∀ k ∈ l, k < stpN n c) → DvAll K H (l.map fun k : Nat => V.int ((k : Int) * c)) (l.map fun k : Nat => PyData.int ((k : Int) * c)) := by
    intro l
    induction l with
    | nil => intro _; exact .nil
    | cons i l ih =>
      intro h2
      have m := stp_mul h (h2 i List.mem_cons_self)
      have := h.2.2.1
      exact .cons (.int (okI_small (by omega))) (ih fun j hj => h2 j (List.mem_cons_of_mem _ hj))
  exact go _ fun k hk => List.mem_range.mp hk
theorem e_tup3 (B : Bt X.mg) (hc : X.calm = true) (ha : AD Wo X W [a, b, c] tl wl) (hg : Gl X "tuple" := by rfl) (hg2 : Gl X "range" := by rfl)
    (hs : starEach [a, b, c] X.env = (false, eval a X.env) :: starEach [b, c] X.env := by rfl) (hpl : (backTo pos (starEach [b, c] X.env)).any (·.1) = false := by rfl)
    (na : starEach [.Call (.Name "range" p) [a, b, c] [] pos] X.env = (false, eval (.Call (.Name "range" p) [a, b, c] [] pos) X.env) :: starEach [] X.env := by rfl) :
    ED Wo X W (.Call (.Name "tuple" q) [.Call (.Name "range" p) [a, b, c] [] pos] [] pos2) (tTup3 tl) (wTup3 wl) :=
  ⟨pe_tup3 hc hg (B.no _ (by decide)) hg2 (B.no _ (by decide)) ha.pe hs hpl na, fun cc σ H ρ s Qd Ed Q E hw hv he => ha.go cc σ H ρ s _ Ed _ E hw (fun vs H1 as s1 E1 st1 a1 q1 => by
    obtain ⟨ds, h1, h2⟩ := a1.all q1
    match ds, h1, h2 with
    | [.int i, .int n, .int d], h1, h2 =>
      obtain ⟨ok, q2⟩ := h2
      have i0 := ok.1
      subst i0
      cases h1 with
      | cons d1 h1 =>
      cases h1 with
      | cons d2 h1 =>
      cases h1 with
      | cons d3 h1 =>
      cases h1
      cases d1
      cases d2
      cases d3
      refine ⟨n, d, rfl, ok, fun t nt => hv _ _ _ s1 (E1.grow (same_upd nt)) (st1.trans (stp_grow (same_upd nt))) ?_ q2⟩
      exact Dv.newT E1.tr nt (dv_stp ok) (by unfold stpD limL; rw [List.length_map, List.length_range]; have := stpN_le ok; have := ok.2.2.1; omega)) he⟩
end
end Dt

set_option Elab.async false
set_option linter.all false
set_option autoImplicit false
set_option maxRecDepth 100000
set_option maxHeartbeats 1000000
set_option pp.maxSteps 600
namespace L34
open PySem PySem.Spec Dt
open L2 hiding wT wNot
section
variable {P : Program} {w : World} {K : PySem.W.Frag} {mg : Str → Option Value} {base : Heap} {T : List (Addr × Str)} {cNU : Addr}
/-! ## _law_stand -/
abbrev s__law_stand : Stmt := top 34
theorem sc__law_stand : FnScope ["_law_page_here", "_law_stack", "_law_around", "_law_ends", "_law_k"] ["_law_page_here"] (defScope s__law_stand) := ⟨rfl, rfl, rfl, by decide +kernel, rfl, by decide +kernel, by decide +kernel⟩
/-- the block or ground at whose level a row is -/
def blkL (xs : List PyData) (j : Nat) : Int := (chn xs j).getLast (chn_ne xs j)
abbrev F__law_stand : List PyData → (PyData → Prop) → (Er → Prop) → Prop := fun ds Q _ => match ds with
  | [.tuple xs] => (∀ x ∈ xs, isRow x = true) ∧ xs.length ≤ 1000 ∧ ∀ e : PyData, Q (.tuple [.list (chnD xs xs.length), e])
  | _ => False
def w__law_stand : DS Unit :=
  (wSeq (wPar3D 1 2 3 (wL (wLst (wCons (wUn dNeg (wC (.int 1))) wNil))) (wLst wNil))
  (wSeq (wFor (wRng1 (wCons (wCB fLen (wCons (wVar 0) wNil)) wNil)) (gN 4) (wSeq (wApp 2 (wCB fTuple (wCons (wVar 1) wNil)))
  (wSeq (wIfS (wT (wOp dEq (wOp dIdx (wOp dIdx (wVar 0) (wVar 4)) (wC (.int 0))) (wC (.str "open")))) (wAsg (wOp dAdd (wVar 1) (wL (wLst (wCons (wVar 4) wNil)))) (gN 1)) wNext)
  (wIfS (wT (wOp dEq (wOp dIdx (wOp dIdx (wVar 0) (wVar 4)) (wC (.int 0))) (wC (.str "end")))) (wSeq (wPutK 3 (wVar 4) (wOp dIdx (wVar 1) (wUn dNeg (wC (.int 1)))))
  (wAsg (wIf (wT (wOp dGt (wCB fLen (wCons (wVar 1) wNil)) (wC (.int 1)))) (wSl (wVar 1) oNo (oSome (wUn dNeg (wC (.int 1))))) (wL (wLst (wCons (wVar 4) wNil)))) (gN 1))) wNext))))
  (wFreezeK 3 (wFreeze 2 (wRet (wTup (wCons (wVar 2) (wCons (wVar 3) wNil))))))))
theorem putK_of {S : Type} {i : Nat} {w wk : DE S} {ρ : List Sl} {s : S} {D : DEnds S} {p : Addr} {es : List (Key × PyData)} (h0 : ρ[i]? = some (.ownK p es)) (h : w ρ s (fun d s1 => wk ρ s1 (fun y s2 => ∃ k, y = kD k ∧ es.length < limL ∧ D.nx (ρ.set i (.ownK p (pt es k d))) s2) fun e s' => D.er e ρ s') fun e s' => D.er e ρ s') : wPutK i w wk ρ s D := by
  unfold wPutK
  rw [h0]; exact h
theorem freezeK_of {S : Type} {i : Nat} {w : DS S} {ρ : List Sl} {s : S} {D : DEnds S} {p : Addr} {es : List (Key × PyData)} (h0 : ρ[i]? = some (.ownK p es)) (h : w (ρ.set i (.d (.dict (kvD es)))) s D) : wFreezeK i w ρ s D := by
  unfold wFreezeK
  rw [h0]; exact h
theorem par3D_of {S : Type} {i j l : Nat} {wa : DE S} {wb : DL S} {ρ : List Sl} {s : S} {D : DEnds S} (h : wa ρ s (fun d s1 => wb ρ s1 (fun ys s2 => ∀ p p2, D.nx (((ρ.set i (.d d)).set j (.own p ys)).set l (.ownK p2 [])) s2) fun e s' => D.er e ρ s') fun e s' => D.er e ρ s') : wPar3D i j l wa wb ρ s D := h
theorem chn_split (xs : List PyData) (k : Nat) : chn xs k = (chn xs k).dropLast ++ [blkL xs k] := (List.dropLast_concat_getLast (chn_ne xs k)).symm
theorem chn_last (xs : List PyData) (k : Nat) : atI ((chn xs k).map PyData.int) (-1) = some (.int (blkL xs k)) := by
  rw [chn_split, List.map_append]
  exact atI_last _ _
theorem chnD_app (xs : List PyData) (n : Nat) : chnD xs n ++ [cD (chn xs n)] = chnD xs (n + 1) := by
  unfold chnD
  rw [List.range_succ (n := n), List.map_append]; rfl
theorem chnD_len (xs : List PyData) (n : Nat) : (chnD xs n).length = n := by simp [chnD]
theorem cut_last {α : Type} (xs : List α) : cutD xs none (some (-1)) = xs.dropLast := by
  unfold cutD
  have e : HT.sIx xs.length xs.length (some (-1)) = xs.length - 1 := by
    show (if (-1 : Int) < 0 then ((-1 : Int) + (xs.length : Int)).toNat else min (-1 : Int).toNat xs.length) = _
    rw [if_pos (by decide)]
    omega
  rw [e, HT.sIx_none, Nat.sub_zero, List.drop_zero, List.dropLast_eq_take]
theorem row_w {xs : List PyData} (hr : ∀ x ∈ xs, isRow x = true) {k : Nat} (kl : k < xs.length) : ∃ (w : Str) (t : List PyData), xs[k]? = some (.tuple (.str w :: t)) ∧ xs[k]?.getD .none = .tuple (.str w :: t) := by
  have hx : xs[k] ∈ xs := List.getElem_mem kl
  obtain ⟨w, t, e⟩ := rowS_one (hr _ hx)
  exact ⟨w, t, by rw [List.getElem?_eq_getElem kl, e], by rw [List.getElem?_eq_getElem kl, e]; rfl⟩
theorem h_is {z w : Str} {a b : Nat} {xs t : List PyData} {k : Nat} {ρ : List Sl} {Q : Bool → Unit → Prop} {E : Er → Unit → Prop} (ha : ρ[a]? = some (.d (.tuple xs))) (hb : ρ[b]? = some (.d (.int (k : Int)))) (hk : xs[k]? = some (.tuple (.str w :: t))) (q : Q (decide (w = z)) ()) :
    wT (wOp dEq (wOp dIdx (wOp dIdx (wVar a) (wVar b)) (wC (.int 0))) (wC (.str z))) ρ () Q E :=
  t_of (op_of (op_of (op_of (var_of ha (var_of hb ⟨_, atI_nat hk, c_of ⟨_, atI_0, c_of ⟨rfl, rfl, by rw [eqv_ss]; exact q⟩⟩⟩)))))
theorem spec__law_stand : ∀ ds Qd Ed, ds.length = 1 → F__law_stand ds Qd Ed → w__law_stand (argS 1 5 (ds.map Sl.d)) () (endP Qd Ed) := by
  intro ds Qd Ed hl h
  match ds, hl, h with
  | [.tuple xs], _, h =>
    obtain ⟨hr, hn, h⟩ := h
    unfold w__law_stand
    show wSeq _ _ [.d (.tuple xs), .no, .no, .no, .no] () _
    refine seq_of (par3D_of (l_of (lst_of (cons_of (un_of (c_of (neg_of (nil_of ⟨few_lim (by simp), lst_of (nil_of ⟨few_lim (by simp), fun p p2 => ?_⟩)⟩))))))))
    dsimp only [List.set]
    refine seq_gen fun D1 hnx _ _ => for_of (rng1_of (cb1_of (var_of rfl (len_tup ⟨by omega, by omega, ?_⟩))))
    refine loop_inv (fun k ρ _ => ∃ es z, ρ = [.d (.tuple xs), .d (.list ((chn xs k).map PyData.int)), .own p (chnD xs k), .ownK p2 es, z] ∧ es.length ≤ k) _ 0 _ _ ?_ ⟨[], _, rfl, Nat.le_refl _⟩ ?_
    · rintro k d hd ρ s ⟨es, z, rfl, el⟩ D' _ _ _ hx _
      rw [Nat.zero_add] at hx el ⊢
      obtain ⟨kl, rfl⟩ := rngD_at hd
      have kl : k < xs.length := by omega
      obtain ⟨w, t, hk, hk2⟩ := row_w hr kl
      have hst : chn xs (k + 1) = stepC (chn xs k) (k : Int) (.tuple (.str w :: t)) := by
        show stepC _ _ (xs[k]?.getD .none) = _
        rw [hk2]
      have cl := chn_len xs k
      dsimp only [gN, List.set]
      refine seq_of (app_of (p := p) (xs := chnD xs k) rfl (cb1_of (var_of rfl (ftup_of ⟨by rw [chnD_len, limL_eq]; omega, ?_⟩))))
      dsimp only [List.set]
      have ea : chnD xs k ++ [.tuple ((chn xs k).map PyData.int)] = chnD xs (k + 1) := chnD_app xs k
      rw [ea]
      rw [hst] at hx
      by_cases c1 : w = "open"
      · have e1 : stepC (chn xs k) (k : Int) (.tuple (.str w :: t)) = chn xs k ++ [(k : Int)] := by
          unfold stepC
          rw [if_pos (show fw (.tuple (.str w :: t)) = "open" from c1)]
        rw [e1, List.map_append] at hx
        refine seqIf_t (fun Q E q => h_is rfl rfl hk (by rw [decide_eq_true c1]; exact q)) ?_
        refine asg_of (op_of (var_of rfl (l_of (lst_of (cons_of (var_of rfl (nil_of ⟨few_lim (by simp), dAdd_lst (by rw [List.length_append, List.length_map, limL_eq]; simp; omega) ?_⟩)))))))
        dsimp only [gN, List.set]
        refine if2_f (fun Q E q => h_is rfl rfl hk (by rw [decide_eq_false (by rw [c1]; decide +kernel)]; exact q)) (hx _ _ ⟨es, _, rfl, by omega⟩)
      · refine seqIf_f (fun Q E q => h_is rfl rfl hk (by rw [decide_eq_false c1]; exact q)) ?_
        have c1' : ¬ fw (.tuple (.str w :: t)) = "open" := c1
        by_cases c2 : w = "end"
        · have e1 : stepC (chn xs k) (k : Int) (.tuple (.str w :: t)) = if (chn xs k).dropLast.isEmpty then [(k : Int)] else (chn xs k).dropLast := by
            unfold stepC
            rw [if_neg c1', if_pos (show fw (.tuple (.str w :: t)) = "end" from c2)]
          rw [e1] at hx
          refine if2_t (fun Q E q => h_is rfl rfl hk (by rw [decide_eq_true c2]; exact q)) ?_
          refine seq_of (putK_of (p := p2) (es := es) rfl (var_of rfl (op_of (var_of rfl (un_of (c_of (neg_of ⟨_, chn_last xs k, .inl (blkL xs k), rfl, by rw [limL_eq]; omega, ?_⟩)))))))
          dsimp only [List.set]
          have pl := pt_len es (Sum.inl (blkL xs k) : Key) (.int (k : Int))
          generalize pt es (Sum.inl (blkL xs k) : Key) (.int (k : Int)) = es2 at pl
          refine asg_of (if_of (t_of (op_of (cb1_of (var_of rfl (len_lst (c_of ?_)))))))
          rw [List.length_map]
          have ne := chn_ne xs k
          by_cases c3 : 1 < (chn xs k).length
          · have e3 : (chn xs k).dropLast.isEmpty = false := by
              cases z : (chn xs k).dropLast with
              | nil => have := congrArg List.length z; rw [List.length_dropLast] at this; simp at this; omega
              | cons _ _ => rfl
            rw [e3] at hx
            show if decide ((1 : Int) < ((chn xs k).length : Int)) = true then _ else _
            rw [if_pos (decide_eq_true (by omega))]
            refine sl_of (var_of rfl (oNo_of (osN_of (dSl_lst ?_))))
            rw [cut_last, ← List.map_dropLast]
            exact hx _ _ ⟨es2, _, rfl, by omega⟩
          · have e3 : (chn xs k).dropLast.isEmpty = true := by
              rw [List.isEmpty_iff_length_eq_zero, List.length_dropLast]; omega
            rw [e3] at hx
            show if decide ((1 : Int) < ((chn xs k).length : Int)) = true then _ else _
            rw [if_neg (by simp; omega)]
            exact l_of (lst_of (cons_of (var_of rfl (nil_of ⟨few_lim (by simp), hx _ _ ⟨es2, _, rfl, by omega⟩⟩))))
        · have e1 : stepC (chn xs k) (k : Int) (.tuple (.str w :: t)) = chn xs k := by
            unfold stepC
            rw [if_neg c1', if_neg (show ¬ fw (.tuple (.str w :: t)) = "end" from c2)]
          rw [e1] at hx
          exact if2_f (fun Q E q => h_is rfl rfl hk (by rw [decide_eq_false c2]; exact q)) (hx _ _ ⟨es, _, rfl, by omega⟩)
    · rintro ρ s ⟨es, z, rfl, el⟩
      have ell : 0 + (rngD 0 ((xs.length : Int)).toNat).length = xs.length := by rw [rngD_len, Nat.zero_add]; rfl
      rw [ell] at el ⊢
      refine hnx _ _ ?_
      refine freezeK_of (i := 3) (p := p2) (es := es) rfl ?_
      dsimp only [List.set]
      refine freeze_of (i := 2) (p := p) (xs := chnD xs xs.length) rfl ?_
      dsimp only [List.set]
      exact ret_of (tup_of (cons_of (var_of rfl (cons_of (var_of rfl (nil_of ⟨few_lim (by simp), h _⟩))))))
theorem ok__law_stand {f : Addr} {fd : FuncData} (Fu : Fun K "_law_stand" "_law_stand" s__law_stand f fd) (hm : mg "_law_stand" = some (.ref f)) (hb : Binds K fd ["_law_page_here"] []) (B : Bt mg) : Df P w K mg base CX0 1 "_law_stand" 1 (spP K 1 F__law_stand) :=
  ⟨f, fd, ["_law_page_here"], rfl, hm, Fu.kp, hb, fnP (wb := w__law_stand) Fu sc__law_stand rfl (fun cdv A outer s H E hG hr => ⟨_,
  (sd_cons (sd_par3D 1 2 3 sc__law_stand.nd rfl rfl rfl (by decide) (by decide) (by decide) (ed_new (fd_lst (ad_cons (e_neg ed_int) ad_nil))) (fd_lst ad_nil))
  (sd_cons (sd_for (L2.passes_of rfl) rfl (i_rng1 B (ad_cons (e_len B (ad_cons (ed_var 0) ad_nil)) ad_nil)) (gd_name 4 sc__law_stand.nd rfl (by first | exact .inl rfl | exact .inr rfl)) (sd_cons (sd_append 2 (e_tupleOf B (ad_cons (ed_var 1) ad_nil)))
  (sd_cons (sd_if (t_eq hr (e_ix (e_ix (ed_var 0) (ed_var 4)) ed_int) ed_str) (sd_one (sd_set 1 sc__law_stand.nd rfl (by first | exact .inl rfl | exact .inr rfl) (e_add (ed_var 1) (ed_new (fd_lst (ad_cons (ed_var 4) ad_nil)))))) sd_nil)
  (sd_one (sd_if (t_eq hr (e_ix (e_ix (ed_var 0) (ed_var 4)) ed_int) ed_str) (sd_cons (sd_putK 3 hr (ed_var 4) (e_ix (ed_var 1) (e_neg ed_int)))
  (sd_one (sd_set 1 sc__law_stand.nd rfl (by first | exact .inl rfl | exact .inr rfl) (ed_if (t_gt (e_len B (ad_cons (ed_var 1) ad_nil)) ed_int) (e_slice (ed_var 1) od_no (od_some (e_neg ed_int))) (ed_new (fd_lst (ad_cons (ed_var 4) ad_nil))))))) sd_nil)))))
  (sd_freezeK 3 (sd_freeze 2 (sd_one (sd_ret (ed_tup (ad_cons (ed_var 2) (ad_cons (ed_var 3) ad_nil)))))))))⟩) (spec__law_stand)⟩
/-! ## _law_segment -/
abbrev s__law_segment : Stmt := top 40
theorem sc__law_segment : FnScope ["_law_page_here", "_law_marks_here", "_law_k", "_law_ahead", "_law_behind", "_law_c"] ["_law_page_here", "_law_marks_here", "_law_k"] (defScope s__law_segment) := ⟨rfl, rfl, rfl, by decide +kernel, rfl, by decide +kernel, by decide +kernel⟩
/-- the carets ahead of a row, those behind it -/
def ahead (cs : List Nat) (k : Nat) : List Nat := cs.filter fun c => decide (c ≤ k)
def behind (cs : List Nat) (k : Nat) : List Nat := cs.filter fun c => decide (k < c)
def segD (n : Nat) (cs : List Nat) (k : Nat) : PyData := match (ahead cs k).getLast? with
  | none => .none
  | some c => .tuple [.int (c : Int), .int (match (behind cs k).head? with
    | none => (n : Int) - 1
    | some d => (d : Int) - 1)]
abbrev F__law_segment : List PyData → (PyData → Prop) → (Er → Prop) → Prop := fun ds Q _ => match ds with
  | [.tuple xs, .tuple ms, .int i] => ∃ (cs : List Nat) (k : Nat), ms = marksD cs ∧ i = (k : Int) ∧ Seg xs cs k ∧ Q (segD xs.length cs k)
  | _ => False
def w__law_segment : DS Unit :=
  (wSeq (wPar 3 4 (wCons (wL (wComp (wSeqI (wVar 1)) (gN 5) (wT (wOp dLe (wVar 5) (wVar 2))) (wVar 5) [5])) (wCons (wL (wComp (wSeqI (wVar 1)) (gN 5) (wT (wOp dGt (wVar 5) (wVar 2))) (wVar 5) [5])) wNil)))
  (wSeq (wIfS (wT (wOp dEq (wVar 3) (wL (wLst wNil)))) (wRet (wC .none)) wNext)
  (wRet (wTup (wCons (wOp dIdx (wVar 3) (wUn dNeg (wC (.int 1)))) (wCons (wIf (wT (wOp dNe (wVar 4) (wL (wLst wNil)))) (wOp (dI0 fun i j => i - j) (wOp dIdx (wVar 4) (wC (.int 0))) (wC (.int 1))) (wOp (dI0 fun i j => i - j) (wCB fLen (wCons (wVar 0) wNil)) (wC (.int 1)))) wNil))))))
/-- an item by its number -/
def pN (p : Nat → Bool) : PyData → Bool
  | .int i => p i.toNat
  | _ => false
theorem pN_marks (p : Nat → Bool) : ∀ cs : List Nat, ((marksD cs).filter (pN p)).map (fun d => d) = marksD (cs.filter p)
  | [] => rfl
  | c :: cs => by
    have ih := pN_marks p cs
    show ((PyData.int (c : Int) :: marksD cs).filter (pN p)).map _ = _
    have e : pN p (.int (c : Int)) = p c := by
      show p ((c : Int)).toNat = p c
      rw [Int.toNat_natCast]
    by_cases z : p c = true
    · rw [List.filter_cons_of_pos (by rw [e]; exact z), List.filter_cons_of_pos z, List.map_cons, ih]; rfl
    · rw [List.filter_cons_of_neg (by rw [e]; exact z), List.filter_cons_of_neg z, ih]
theorem marks_shp (cs : List Nat) : shp (.list (marksD cs)) = true := by
  have g : PyData.depthAll (marksD cs) ≤ 1 ∧ PyData.hasDictAll (marksD cs) = false := by
    induction cs with
    | nil => exact ⟨by simp [marksD, PyData.depthAll], rfl⟩
    | cons c cs ih =>
      show PyData.depthAll (.int (c : Int) :: marksD cs) ≤ 1 ∧ PyData.hasDictAll (.int (c : Int) :: marksD cs) = false
      simp only [PyData.depthAll, PyData.depth, PyData.hasDictAll, ih.2]
      exact ⟨by omega, rfl⟩
  rw [shp_iff]
  simp only [PyData.depth, PyData.hasDict]
  exact ⟨by omega, g.2⟩
theorem marks_nil (cs : List Nat) : PyData.eqv (.list (marksD cs)) (.list []) = cs.isEmpty := by cases cs <;> rfl
theorem marks_lastI {cs : List Nat} {c : Nat} (h : cs.getLast? = some c) : atI (marksD cs) (-1) = some (.int (c : Int)) := by
  obtain ⟨l, rfl⟩ : ∃ l, cs = l ++ [c] := by
    have ne : cs ≠ [] := fun z => by rw [z] at h; cases h
    rw [List.getLast?_eq_some_getLast ne] at h
    injection h with h
    exact ⟨_, by rw [← h]; exact (List.dropLast_concat_getLast ne).symm⟩
  unfold marksD
  rw [List.map_append]
  exact atI_last _ _
theorem comp_marks {g : DG} {wt : DT Unit} {we : DE Unit} {vs : List Nat} {ρ : List Sl} (p : Nat → Bool) (cs : List Nat) (s : Unit) (Q : List PyData → Unit → Prop)
    (hd : ∀ c ∈ cs, ∀ (s : Unit) (Y : PyData → Unit → Prop) (N : Unit → Prop), (if p c = true then Y (.int (c : Int)) s else N s) → g (.int (c : Int)) ρ fun ρ1 => noOwn ρ1 vs = true ∧ wt ρ1 s (fun b s1 => if b = true then we ρ1 s1 Y noE else N s1) noE)
    (h : Q (marksD (cs.filter p)) s) : wCompL g wt we vs ρ (marksD cs) s Q := by
  refine comp_fm (pN p) (fun d => d) _ _ _ (fun d hd' s Y N y => ?_) ?_
  · obtain ⟨c, hc, rfl⟩ := List.mem_map.mp hd'
    refine hd c hc s Y N ?_
    have e : pN p (.int (c : Int)) = p c := by
      show p ((c : Int)).toNat = p c
      rw [Int.toNat_natCast]
    rw [e] at y
    exact y
  · rw [pN_marks]; exact h
theorem spec__law_segment : ∀ ds Qd Ed, ds.length = 3 → F__law_segment ds Qd Ed → w__law_segment (argS 3 6 (ds.map Sl.d)) () (endP Qd Ed) := by
  intro ds Qd Ed hl h
  match ds, hl, h with
  | [.tuple xs, .tuple ms, .int i], _, h =>
    obtain ⟨cs, k, rfl, rfl, sg, h⟩ := h
    have kl := sg.kl
    have nl := sg.len
    unfold w__law_segment
    show wSeq _ _ [.d (.tuple xs), .d (.tuple (marksD cs)), .d (.int (k : Int)), .no, .no, .no] () _
    refine seq_of (par_of (cons_of (l_of (comp_of rfl (seqI_of (var_of rfl ?_))))))
    show wCompL _ _ _ _ _ (marksD cs) _ _
    dsimp only [wipeD, List.set]
    refine comp_marks (fun c => decide (c ≤ k)) cs _ _ (fun c hc s Y N y => ?_) ?_
    · dsimp only [gN, List.set]
      refine ⟨rfl, t_of (op_of (var_of rfl (var_of rfl ?_)))⟩
      show if decide ((c : Int) ≤ (k : Int)) = true then _ else _
      by_cases z : c ≤ k
      · rw [if_pos (decide_eq_true z)] at y
        rw [if_pos (decide_eq_true (by omega))]
        exact var_of rfl y
      · rw [if_neg (by simpa using z)] at y
        rw [if_neg (by simp; omega)]
        exact y
    refine cons_of (l_of (comp_of rfl (seqI_of (var_of rfl ?_))))
    show wCompL _ _ _ _ _ (marksD cs) _ _
    dsimp only [wipeD, List.set]
    refine comp_marks (fun c => decide (k < c)) cs _ _ (fun c hc s Y N y => ?_) ?_
    · dsimp only [gN, List.set]
      refine ⟨rfl, t_of (op_of (var_of rfl (var_of rfl ?_)))⟩
      show if decide ((k : Int) < (c : Int)) = true then _ else _
      by_cases z : k < c
      · rw [if_pos (decide_eq_true z)] at y
        rw [if_pos (decide_eq_true (by omega))]
        exact var_of rfl y
      · rw [if_neg (by simpa using z)] at y
        rw [if_neg (by simp; omega)]
        exact y
    refine nil_of ?_
    dsimp only [allK, List.set]
    have h : Qd (segD xs.length cs k) := h
    unfold segD at h
    show wSeq _ _ [.d (.tuple xs), .d (.tuple (marksD cs)), .d (.int (k : Int)), .d (.list (marksD (ahead cs k))), .d (.list (marksD (behind cs k))), .no] () _
    cases ea : (ahead cs k).getLast? with
    | none =>
      rw [ea] at h
      have e0 : ahead cs k = [] := List.getLast?_eq_none_iff.mp ea
      refine seqIf_t (fun Q E q => t_of (op_of (var_of rfl (l_of (lst_of (nil_of ⟨few_lim (by simp), marks_shp _, by decide +kernel, ?_⟩)))))) (ret_of (c_of h))
      rw [marks_nil, e0]
      exact q
    | some c =>
      rw [ea] at h
      have e0 : (ahead cs k).isEmpty = false := by
        cases z : ahead cs k with
        | nil => rw [z] at ea; cases ea
        | cons _ _ => rfl
      refine seqIf_f (fun Q E q => t_of (op_of (var_of rfl (l_of (lst_of (nil_of ⟨few_lim (by simp), marks_shp _, by decide +kernel, ?_⟩)))))) ?_
      · rw [marks_nil, e0]
        exact q
      refine ret_of (tup_of (cons_of (op_of (var_of rfl (un_of (c_of (neg_of ⟨_, marks_lastI ea, cons_of (if_of (t_of (op_of (var_of rfl (l_of (lst_of (nil_of ⟨few_lim (by simp), marks_shp _, by decide +kernel, ?_⟩)))))))⟩)))))))
      rw [marks_nil]
      cases eb : behind cs k with
      | nil =>
        rw [eb] at h
        show if false = true then _ else _
        rw [if_neg (by decide)]
        exact op_of (cb1_of (var_of rfl (len_tup (c_of ⟨okI_sm (by show -1000000 ≤ (xs.length : Int) - 1 ∧ (xs.length : Int) - 1 ≤ 1000000; omega), nil_of ⟨few_lim (by simp), h⟩⟩))))
      | cons d r =>
        rw [eb] at h
        have dl : d ≤ xs.length := sg.le d (List.mem_filter.mp (show d ∈ behind cs k by rw [eb]; exact List.mem_cons_self)).1
        show if true = true then _ else _
        rw [if_pos rfl]
        exact op_of (op_of (var_of rfl (c_of ⟨_, atI_0, c_of ⟨okI_sm (by show -1000000 ≤ (d : Int) - 1 ∧ (d : Int) - 1 ≤ 1000000; omega), nil_of ⟨few_lim (by simp), h⟩⟩⟩)))
theorem ok__law_segment {f : Addr} {fd : FuncData} (Fu : Fun K "_law_segment" "_law_segment" s__law_segment f fd) (hm : mg "_law_segment" = some (.ref f)) (hb : Binds K fd ["_law_page_here", "_law_marks_here", "_law_k"] []) (B : Bt mg) : Df P w K mg base CX0 1 "_law_segment" 3 (spP K 3 F__law_segment) :=
  ⟨f, fd, ["_law_page_here", "_law_marks_here", "_law_k"], rfl, hm, Fu.kp, hb, fnP (wb := w__law_segment) Fu sc__law_segment rfl (fun cdv A outer s H E hG hr => ⟨_,
  (sd_cons (sd_par 3 4 sc__law_segment.nd rfl rfl (by decide) (ad_cons (ed_new (fd_lc rfl sc__law_segment.nd (own := [("_law_c", 5)]) (i_seq (ed_var 1)) (blkOk_by (own := [("_law_c", 5)]) (N := ["_law_page_here", "_law_marks_here", "_law_k", "_law_ahead", "_law_behind", "_law_c"]) (sc := defScope s__law_segment) (by decide +kernel))
    (fun _ _ _ _ _ => (gd_name 5 sc__law_segment.nd rfl (by first | exact .inl rfl | exact .inr rfl))) (fun _ _ _ _ _ => (ptd_one (t_le (ed_var 5) (ed_var 2)))) (fun _ _ _ _ _ => (ed_var 5)) (by simp))) (ad_cons (ed_new (fd_lc rfl sc__law_segment.nd (own := [("_law_c", 5)]) (i_seq (ed_var 1)) (blkOk_by (own := [("_law_c", 5)]) (N := ["_law_page_here", "_law_marks_here", "_law_k", "_law_ahead", "_law_behind", "_law_c"]) (sc := defScope s__law_segment) (by decide +kernel))
    (fun _ _ _ _ _ => (gd_name 5 sc__law_segment.nd rfl (by first | exact .inl rfl | exact .inr rfl))) (fun _ _ _ _ _ => (ptd_one (t_gt (ed_var 5) (ed_var 2)))) (fun _ _ _ _ _ => (ed_var 5)) (by simp))) ad_nil)))
  (sd_cons (sd_if (t_eq hr (ed_var 3) (ed_new (fd_lst ad_nil))) (sd_one (sd_ret ed_non)) sd_nil)
  (sd_one (sd_ret (ed_tup (ad_cons (e_ix (ed_var 3) (e_neg ed_int)) (ad_cons (ed_if (t_ne hr (ed_var 4) (ed_new (fd_lst ad_nil))) (e_sub (e_ix (ed_var 4) ed_int) ed_int) (e_sub (e_len B (ad_cons (ed_var 0) ad_nil)) ed_int)) ad_nil)))))))⟩) (spec__law_segment)⟩
/-! ## _law_layer -/
abbrev s__law_layer : Stmt := top 41
theorem sc__law_layer : FnScope ["_law_page_here", "_law_around", "_law_first", "_law_k", "_law_rows", "_law_j"] ["_law_page_here", "_law_around", "_law_first", "_law_k"] (defScope s__law_layer) := ⟨rfl, rfl, rfl, by decide +kernel, rfl, by decide +kernel, by decide +kernel⟩
/-- an end row of a ground, or of a block that was opened ahead of c -/
def outE (xs : List PyData) (c j : Nat) : Bool := decide (fw (xs[j]?.getD .none) = "end") && (decide ((chn xs j).length = 1) || decide (blkL xs j < (c : Int)))
/-- how many stand from c up to k -/
def layN (xs : List PyData) (c k : Nat) : Nat := ((List.range' c (k - c)).filter (outE xs c)).length
abbrev F__law_layer : List PyData → (PyData → Prop) → (Er → Prop) → Prop := fun ds Q _ => match ds with
  | [.tuple xs, a, .int c, .int k] => ∃ c' k' : Nat, a = .list (chnD xs xs.length) ∧ c = (c' : Int) ∧ k = (k' : Int) ∧ (∀ x ∈ xs, isRow x = true) ∧ xs.length ≤ 200 ∧ k' ≤ xs.length ∧ c' ≤ xs.length ∧ Q (.int (layN xs c' k' : Int))
  | _ => False
def w__law_layer : DS Unit :=
  (wSeq (wAsg (wL (wComp (wRng2 (wCons (wVar 2) (wCons (wVar 3) wNil))) (gN 5) (wT (wOp dEq (wOp dIdx (wOp dIdx (wVar 0) (wVar 5)) (wC (.int 0))) (wC (.str "end")))) (wVar 5) [5])) (gN 4))
  (wRet (wCB fLen (wCons (wL (wComp (wSeqI (wVar 4)) (gN 5) (wTor (wT (wOp dEq (wCB fLen (wCons (wOp dIdx (wVar 1) (wVar 5)) wNil)) (wC (.int 1)))) (wT (wOp dLt (wOp dIdx (wOp dIdx (wVar 1) (wVar 5)) (wUn dNeg (wC (.int 1)))) (wVar 2)))) (wVar 5) [5])) wNil))))
theorem rng_marks (c : Nat) : ∀ n : Nat, rngD (c : Int) n = marksD (List.range' c n) := fun n => by
  unfold rngD marksD
  rw [List.range_eq_range', List.range'_eq_map_range, List.range'_eq_map_range, List.map_map, List.map_map]
  refine List.map_congr_left fun i _ => ?_
  show PyData.int ((c : Int) + ((0 + i : Nat) : Int)) = .int ((c + i : Nat) : Int)
  congr 1
  omega
theorem chnD_at {xs : List PyData} {n k : Nat} (h : k < n) : atI (chnD xs n) (k : Int) = some (cD (chn xs k)) := by
  refine atI_nat ?_
  unfold chnD
  rw [List.getElem?_map, List.getElem?_range h]; rfl
theorem spec__law_layer : ∀ ds Qd Ed, ds.length = 4 → F__law_layer ds Qd Ed → w__law_layer (argS 4 6 (ds.map Sl.d)) () (endP Qd Ed) := by
  intro ds Qd Ed hl h
  match ds, hl, h with
  | [.tuple xs, a, .int c, .int k], _, h =>
    obtain ⟨c, k, rfl, rfl, rfl, hr, nl, kl, cl, h⟩ := h
    unfold w__law_layer
    show wSeq _ _ [.d (.tuple xs), .d (.list (chnD xs xs.length)), .d (.int (c : Int)), .d (.int (k : Int)), .no, .no] () _
    refine seq_of (asg_of (l_of (comp_of rfl (rng2_of (cons_of (var_of rfl (cons_of (var_of rfl (nil_of ⟨⟨by omega, by omega, by omega, by omega⟩, ?_⟩)))))))))
    have em : ((k : Int) - (c : Int)).toNat = k - c := by omega
    rw [em, rng_marks]
    dsimp only [wipeD, List.set]
    refine comp_marks (fun j => decide (fw (xs[j]?.getD .none) = "end")) _ _ _ (fun j hj s Y N y => ?_) ?_
    · have jl : j < xs.length := by have := List.mem_range'.mp hj; omega
      obtain ⟨w, t, hk, hk2⟩ := row_w hr jl
      dsimp only [gN, List.set]
      refine ⟨rfl, h_is rfl rfl hk ?_⟩
      rw [hk2] at y
      have y : if decide (w = "end") = true then Y (.int (j : Int)) s else N s := y
      by_cases z : w = "end"
      · rw [if_pos (decide_eq_true z)] at y ⊢
        exact var_of rfl y
      · rw [if_neg (by simpa using z)] at y ⊢
        exact y
    dsimp only [gN, List.set]
    refine ret_of (cb1_of (l_of (comp_of rfl (seqI_of (var_of rfl ?_)))))
    show wCompL _ _ _ _ _ (marksD _) _ _
    dsimp only [wipeD, List.set]
    refine comp_marks (fun j => decide ((chn xs j).length = 1) || decide (blkL xs j < (c : Int))) _ _ _ (fun j hj s Y N y => ?_) ?_
    · have jl : j < xs.length := by have := List.mem_range'.mp (List.mem_filter.mp hj).1; omega
      dsimp only [gN, List.set]
      refine ⟨rfl, tor_of (t_of (op_of (cb1_of (op_of (var_of rfl (var_of rfl ⟨_, chnD_at jl, len_tup (c_of (eqI_of ?_))⟩))))))⟩
      rw [List.length_map]
      by_cases z1 : (chn xs j).length = 1
      · rw [decide_eq_true z1, Bool.true_or, if_pos rfl] at y
        show if decide (((chn xs j).length : Int) = 1) = true then _ else _
        rw [if_pos (decide_eq_true (by omega)), if_pos rfl]
        exact var_of rfl y
      · rw [decide_eq_false z1, Bool.false_or] at y
        show if decide (((chn xs j).length : Int) = 1) = true then _ else _
        rw [if_neg (by simp; omega)]
        refine t_of (op_of (op_of (op_of (var_of rfl (var_of rfl ⟨_, chnD_at jl, un_of (c_of (neg_of ⟨_, chn_last xs j, var_of rfl ?_⟩))⟩)))))
        show if decide (blkL xs j < (c : Int)) = true then _ else _
        by_cases z2 : blkL xs j < (c : Int)
        · rw [if_pos (decide_eq_true z2)] at y ⊢
          exact var_of rfl y
        · rw [if_neg (by simpa using z2)] at y ⊢
          exact y
    refine len_lst ?_
    unfold marksD
    rw [List.length_map, List.filter_filter]
    have e : (List.range' c (k - c)).filter (fun a => (decide ((chn xs a).length = 1) || decide (blkL xs a < (c : Int))) && decide (fw (xs[a]?.getD .none) = "end")) = (List.range' c (k - c)).filter (outE xs c) := List.filter_congr fun j _ => by
      unfold outE
      rw [Bool.and_comm]
    rw [e]
    exact h
theorem ok__law_layer {f : Addr} {fd : FuncData} (Fu : Fun K "_law_layer" "_law_layer" s__law_layer f fd) (hm : mg "_law_layer" = some (.ref f)) (hb : Binds K fd ["_law_page_here", "_law_around", "_law_first", "_law_k"] []) (B : Bt mg) : Df P w K mg base CX0 1 "_law_layer" 4 (spP K 4 F__law_layer) :=
  ⟨f, fd, ["_law_page_here", "_law_around", "_law_first", "_law_k"], rfl, hm, Fu.kp, hb, fnP (wb := w__law_layer) Fu sc__law_layer rfl (fun cdv A outer s H E hG hr => ⟨_,
  (sd_cons (sd_setLc 4 sc__law_layer.nd rfl rfl (own := [("_law_j", 5)]) (i_rng2 B (ad_cons (ed_var 2) (ad_cons (ed_var 3) ad_nil))) (blkOk_by (own := [("_law_j", 5)]) (N := ["_law_page_here", "_law_around", "_law_first", "_law_k", "_law_rows", "_law_j"]) (sc := defScope s__law_layer) (by decide +kernel))
    (fun _ _ _ _ _ => (gd_name 5 sc__law_layer.nd rfl (by first | exact .inl rfl | exact .inr rfl))) (fun _ _ _ _ _ => (ptd_one (t_eq hr (e_ix (e_ix (ed_var 0) (ed_var 5)) ed_int) ed_str))) (fun _ _ _ _ _ => (ed_var 5)) (by simp))
  (sd_one (sd_ret (e_len B (ad_cons (ed_new (fd_lc rfl sc__law_layer.nd (own := [("_law_j", 5)]) (i_seq (ed_var 4)) (blkOk_by (own := [("_law_j", 5)]) (N := ["_law_page_here", "_law_around", "_law_first", "_law_k", "_law_rows", "_law_j"]) (sc := defScope s__law_layer) (by decide +kernel))
    (fun _ _ _ _ _ => (gd_name 5 sc__law_layer.nd rfl (by first | exact .inl rfl | exact .inr rfl))) (fun _ _ _ _ _ => (ptd_one (td_bool (tw_or (t_eq hr (e_len B (ad_cons (e_ix (ed_var 1) (ed_var 5)) ad_nil)) ed_int) (tw_or1 (t_lt (e_ix (e_ix (ed_var 1) (ed_var 5)) (e_neg ed_int)) (ed_var 2))))))) (fun _ _ _ _ _ => (ed_var 5)) (by simp))) ad_nil)))))⟩) (spec__law_layer)⟩
/-! ## _law_due -/
abbrev s__law_due : Stmt := top 42
theorem sc__law_due : FnScope ["_law_page_here", "_law_marks_here", "_law_around", "_law_k", "_law_part", "_law_level", "_law_rows", "_law_j"] ["_law_page_here", "_law_marks_here", "_law_around", "_law_k"] (defScope s__law_due) := ⟨rfl, rfl, rfl, by decide +kernel, rfl, by decide +kernel, by decide +kernel⟩
def dueL (xs : List PyData) (cs : List Nat) (k : Nat) : PyData := match (ahead cs k).getLast? with
  | none => .list [.none, .none, .tuple []]
  | some c => .list [segD xs.length cs k, .int (layN xs c k : Int), .tuple (((List.range' c (match (behind cs k).head? with
    | none => xs.length - c
    | some d => d - c)).filter fun j => decide (layN xs c j = layN xs c k)).map fun r : Nat => PyData.int (r : Int))]
abbrev F__law_due : List PyData → (PyData → Prop) → (Er → Prop) → Prop := fun ds Q _ => match ds with
  | [.tuple xs, .tuple ms, a, .int i] => ∃ (cs : List Nat) (k : Nat), ms = marksD cs ∧ a = .list (chnD xs xs.length) ∧ i = (k : Int) ∧ Seg xs cs k ∧ Q (dueL xs cs k)
  | _ => False
def w__law_due : DS Unit :=
  (wSeq (wAsg (wCallP (fun ds Q E => ds.length = 3 ∧ F__law_segment ds Q E) (wCons (wVar 0) (wCons (wVar 1) (wCons (wVar 3) wNil)))) (gN 4))
  (wSeq (wIfS (wT (wOp dIsN (wVar 4) (wC .none))) (wRet (wL (wLst (wCons (wC .none) (wCons (wC .none) (wCons (wTup wNil) wNil)))))) wNext)
  (wSeq (wAsg (wCallP (fun ds Q E => ds.length = 4 ∧ F__law_layer ds Q E) (wCons (wVar 0) (wCons (wVar 2) (wCons (wOp dIdx (wVar 4) (wC (.int 0))) (wCons (wVar 3) wNil))))) (gN 5))
  (wSeq (wAsg (wL (wComp (wRng2 (wCons (wOp dIdx (wVar 4) (wC (.int 0))) (wCons (wOp dAdd (wOp dIdx (wVar 4) (wC (.int 1))) (wC (.int 1))) wNil))) (gN 7) (wT (wOp dEq (wCallP (fun ds Q E => ds.length = 4 ∧ F__law_layer ds Q E) (wCons (wVar 0) (wCons (wVar 2) (wCons (wOp dIdx (wVar 4) (wC (.int 0))) (wCons (wVar 7) wNil))))) (wVar 5))) (wVar 7) [7])) (gN 6))
  (wRet (wL (wLst (wCons (wVar 4) (wCons (wVar 5) (wCons (wCB fTuple (wCons (wVar 6) wNil)) wNil))))))))))
theorem ahead_mem {cs : List Nat} {k c : Nat} (h : (ahead cs k).getLast? = some c) : c ∈ cs ∧ c ≤ k := by
  obtain ⟨a, b⟩ := List.mem_filter.mp (List.mem_of_getLast? h)
  exact ⟨a, of_decide_eq_true b⟩
theorem isN_v {d : PyData} {Q : PyData → Prop} (hd : d ≠ .none) (h : Q (.bool false)) : dIsN d .none Q := by
  cases d with
  | none => exact absurd rfl hd
  | _ => exact h
theorem spec__law_due : ∀ ds Qd Ed, ds.length = 4 → F__law_due ds Qd Ed → w__law_due (argS 4 8 (ds.map Sl.d)) () (endP Qd Ed) := by
  intro ds Qd Ed hl h
  match ds, hl, h with
  | [.tuple xs, .tuple ms, a, .int i], _, h =>
    obtain ⟨cs, k, rfl, rfl, rfl, sg, h⟩ := h
    have kl := sg.kl
    have nl := sg.len
    unfold w__law_due
    show wSeq _ _ [.d (.tuple xs), .d (.tuple (marksD cs)), .d (.list (chnD xs xs.length)), .d (.int (k : Int)), .no, .no, .no, .no] () _
    refine seq_of (asg_of (callP3 (var_of rfl (var_of rfl (var_of rfl ⟨rfl, cs, k, rfl, rfl, sg, ?_⟩)))))
    dsimp only [gN, List.set]
    unfold dueL at h
    cases ea : (ahead cs k).getLast? with
    | none =>
      rw [ea] at h
      have es : segD xs.length cs k = .none := by unfold segD; rw [ea]
      rw [es]
      refine seqIf_t (fun Q E q => t_of (op_of (var_of rfl (c_of q)))) ?_
      exact ret_of (l_of (lst_of (cons_of (c_of (cons_of (c_of (cons_of (tup_of (nil_of ⟨few_lim (by simp), nil_of ⟨few_lim (by simp), h⟩⟩)))))))))
    | some c =>
      rw [ea] at h
      dsimp only at h
      obtain ⟨cm, ck⟩ := ahead_mem ea
      generalize hE : (match (behind cs k).head? with
        | none => xs.length - c
        | some d => d - c) = m at h
      have mE : ∃ e : Int, segD xs.length cs k = .tuple [.int (c : Int), .int e] ∧ (e + 1 - (c : Int)).toNat = m ∧ (-1 : Int) ≤ e ∧ e + 1 ≤ (xs.length : Int) := by
        unfold segD
        rw [ea]
        cases eb : (behind cs k).head? with
        | none =>
          rw [eb] at hE
          exact ⟨_, rfl, by rw [← hE]; show ((xs.length : Int) - 1 + 1 - (c : Int)).toNat = xs.length - c; omega, by show (-1 : Int) ≤ (xs.length : Int) - 1; omega, by show (xs.length : Int) - 1 + 1 ≤ _; omega⟩
        | some d =>
          rw [eb] at hE
          have dl : d ≤ xs.length := sg.le d (List.mem_filter.mp (List.mem_of_mem_head? eb)).1
          exact ⟨_, rfl, by rw [← hE]; show ((d : Int) - 1 + 1 - (c : Int)).toNat = d - c; omega, by show (-1 : Int) ≤ (d : Int) - 1; omega, by show (d : Int) - 1 + 1 ≤ _; omega⟩
      obtain ⟨e, es, e1, e2, e3⟩ := mE
      rw [es] at h ⊢
      refine seqIf_f (fun Q E q => t_of (op_of (var_of rfl (c_of (isN_v (fun z => nomatch z) q))))) ?_
      refine seq_of (asg_of (callP4 (var_of rfl (var_of rfl (op_of (var_of rfl (c_of ⟨_, atI_0, var_of rfl ⟨rfl, c, k, rfl, rfl, rfl, sg.rows, sg.len, by omega, by omega, ?_⟩⟩)))))))
      dsimp only [gN, List.set]
      refine seq_of (asg_of (l_of (comp_of rfl (rng2_of (cons_of (op_of (var_of rfl (c_of ⟨_, atI_0, cons_of (op_of (op_of (var_of rfl (c_of ⟨_, atI_1, c_of ⟨okI_sm (by omega), nil_of ⟨⟨by omega, by omega, by omega, by omega⟩, ?_⟩⟩⟩))))⟩))))))))
      rw [e1, rng_marks]
      dsimp only [wipeD, List.set]
      refine comp_marks (fun j => decide (layN xs c j = layN xs c k)) _ _ _ (fun j hj s Y N y => ?_) ?_
      · have jl : j < xs.length := by have := List.mem_range'.mp hj; omega
        dsimp only [gN, List.set]
        refine ⟨rfl, t_of (op_of (callP4 (var_of rfl (var_of rfl (op_of (var_of rfl (c_of ⟨_, atI_0, var_of rfl ⟨rfl, c, j, rfl, rfl, rfl, sg.rows, sg.len, by omega, by omega, var_of rfl (eqI_of ?_)⟩⟩)))))))⟩
        show if decide ((layN xs c j : Int) = (layN xs c k : Int)) = true then _ else _
        by_cases z : layN xs c j = layN xs c k
        · rw [if_pos (decide_eq_true z)] at y
          rw [if_pos (decide_eq_true (by omega))]
          exact var_of rfl y
        · rw [if_neg (by simpa using z)] at y
          rw [if_neg (by simp; omega)]
          exact y
      dsimp only [gN, List.set]
      exact ret_of (l_of (lst_of (cons_of (var_of rfl (cons_of (var_of rfl (cons_of (cb1_of (var_of rfl (ftup_of (nil_of ⟨few_lim (by simp), h⟩)))))))))))
theorem ok__law_due {f : Addr} {fd : FuncData} (Fu : Fun K "_law_due" "_law_due" s__law_due f fd) (hm : mg "_law_due" = some (.ref f)) (hb : Binds K fd ["_law_page_here", "_law_marks_here", "_law_around", "_law_k"] []) (B : Bt mg) (D__law_layer : Df P w K mg base CX0 1 "_law_layer" 4 (spP K 4 F__law_layer)) (D__law_segment : Df P w K mg base CX0 1 "_law_segment" 3 (spP K 3 F__law_segment)) : Df P w K mg base CX0 2 "_law_due" 4 (spP K 4 F__law_due) :=
  ⟨f, fd, ["_law_page_here", "_law_marks_here", "_law_around", "_law_k"], rfl, hm, Fu.kp, hb, fnP (wb := w__law_due) Fu sc__law_due rfl (fun cdv A outer s H E hG hr => ⟨_,
  (sd_cons (sd_set 4 sc__law_due.nd rfl (by first | exact .inl rfl | exact .inr rfl) (e_callP D__law_segment hG (hr.mono (by decide)) pass00 (ad_cons (ed_var 0) (ad_cons (ed_var 1) (ad_cons (ed_var 3) ad_nil)))))
  (sd_cons (sd_if (t_isN (ed_var 4) ed_non) (sd_one (sd_ret (ed_new (fd_lst (ad_cons ed_non (ad_cons ed_non (ad_cons (ed_tup ad_nil) ad_nil))))))) sd_nil)
  (sd_cons (sd_set 5 sc__law_due.nd rfl (by first | exact .inl rfl | exact .inr rfl) (e_callP D__law_layer hG (hr.mono (by decide)) pass00 (ad_cons (ed_var 0) (ad_cons (ed_var 2) (ad_cons (e_ix (ed_var 4) ed_int) (ad_cons (ed_var 3) ad_nil))))))
  (sd_cons (sd_setLc 6 sc__law_due.nd rfl rfl (own := [("_law_j", 7)]) (i_rng2 B (ad_cons (e_ix (ed_var 4) ed_int) (ad_cons (e_add (e_ix (ed_var 4) ed_int) ed_int) ad_nil))) (blkOk_by (own := [("_law_j", 7)]) (N := ["_law_page_here", "_law_marks_here", "_law_around", "_law_k", "_law_part", "_law_level", "_law_rows", "_law_j"]) (sc := defScope s__law_due) (by decide +kernel))
    (fun _ _ _ _ _ => (gd_name 7 sc__law_due.nd rfl (by first | exact .inl rfl | exact .inr rfl))) (fun _ _ _ _ _ => (ptd_one (t_eq hr (e_callP D__law_layer hG (hr.mono (by decide)) pass00 (ad_cons (ed_var 0) (ad_cons (ed_var 2) (ad_cons (e_ix (ed_var 4) ed_int) (ad_cons (ed_var 7) ad_nil))))) (ed_var 5)))) (fun _ _ _ _ _ => (ed_var 7)) (by simp))
  (sd_one (sd_ret (ed_new (fd_lst (ad_cons (ed_var 4) (ad_cons (ed_var 5) (ad_cons (e_tupleOf B (ad_cons (ed_var 6) ad_nil)) ad_nil)))))))))))⟩) (spec__law_due)⟩
/-! ## _law_is_right -/
abbrev s__law_is_right : Stmt := top 43
theorem sc__law_is_right : FnScope ["_law_page_here", "_law_marks_here", "_law_around", "_law_k", "_law_told", "_law_own"] ["_law_page_here", "_law_marks_here"] (defScope s__law_is_right) := ⟨rfl, rfl, rfl, by decide +kernel, rfl, by decide +kernel, by decide +kernel⟩
abbrev F__law_is_right : List PyData → (PyData → Prop) → (Er → Prop) → Prop := fun ds Q _ => match ds with
  | [.tuple xs, .tuple ms] => ∃ cs : List Nat, ms = marksD cs ∧ (∀ x ∈ xs, isRow x = true) ∧ xs.length ≤ 200 ∧ cs.Pairwise (· < ·) ∧ (∀ c ∈ cs, c ≤ xs.length) ∧ Q (.bool true)
  | _ => False
def w__law_is_right (cNU : Addr) : DS Unit :=
  (wSeq (wAsg (wOp dIdx (wCallP (fun ds Q E => ds.length = 1 ∧ F__law_stand ds Q E) (wCons (wVar 0) wNil)) (wC (.int 0))) (gN 2))
  (wSeq (wFor (wRng1 (wCons (wCB fLen (wCons (wVar 0) wNil)) wNil)) (gN 3) (wSeq (wAsg (wL (wLst (wCons (wCallP (fun ds Q _ => ds.length = 3 ∧ (F_segment_of cNU) ds Q fun _ => False) (wCons (wVar 0) (wCons (wVar 1) (wCons (wVar 3) wNil)))) (wCons (wCallP (fun ds Q _ => ds.length = 3 ∧ (F_layer_of cNU) ds Q fun _ => False) (wCons (wVar 0) (wCons (wVar 1) (wCons (wVar 3) wNil)))) (wCons (wCallP (fun ds Q _ => ds.length = 3 ∧ (F_rows_of_layer cNU) ds Q fun _ => False) (wCons (wVar 0) (wCons (wVar 1) (wCons (wVar 3) wNil)))) wNil))))) (gN 4))
  (wIfS (wT (wOp dNe (wCB fRepr3 (wCons (wVar 4) wNil)) (wCB fRepr3 (wCons (wCallP (fun ds Q E => ds.length = 4 ∧ F__law_due ds Q E) (wCons (wVar 0) (wCons (wVar 1) (wCons (wVar 2) (wCons (wVar 3) wNil))))) wNil)))) (wRet (wC (.bool false))) wNext)))
  (wSeq (wFor (wSeqI (wL (wComp (wSeqI (wTup (wCons (wC (.int 0)) wNil))) (gN 5) (wT (wOp dLt (wVar 5) (wCB fLen (wCons (wVar 0) wNil)))) (wVar 5) [5]))) (gN 3) (wSeq (wSetF 4 (wLst (wCons (wCallK 3 swap3 (fun ds Q _ => (F_segment_of cNU) ds Q fun _ => False) (wCons (wVar 3) (wCons (wVar 1) (wCons (wVar 0) wNil)))) (wCons (wCallK 3 swap3 (fun ds Q _ => (F_layer_of cNU) ds Q fun _ => False) (wCons (wVar 3) (wCons (wVar 1) (wCons (wVar 0) wNil)))) wNil))))
  (wSeq (wApp 4 (wCallK 3 swap3 (fun ds Q _ => (F_rows_of_layer cNU) ds Q fun _ => False) (wCons (wVar 3) (wCons (wVar 1) (wCons (wVar 0) wNil)))))
  (wFreeze 4 (wIfS (wT (wOp dNe (wCB fRepr3 (wCons (wVar 4) wNil)) (wCB fRepr3 (wCons (wCallP (fun ds Q E => ds.length = 4 ∧ F__law_due ds Q E) (wCons (wVar 0) (wCons (wVar 1) (wCons (wVar 2) (wCons (wVar 3) wNil))))) wNil)))) (wRet (wC (.bool false))) wNext)))))
  (wRet (wC (.bool true))))))
theorem last_iff {l : List Nat} (h : l.Pairwise (· < ·)) {c : Nat} : l.getLast? = some c ↔ c ∈ l ∧ ∀ d ∈ l, d ≤ c := by
  constructor
  · intro e
    refine ⟨List.mem_of_getLast? e, fun d hd => ?_⟩
    have ne : l ≠ [] := fun z => by rw [z] at e; cases e
    rw [List.getLast?_eq_some_getLast ne] at e
    injection e with e
    rw [← List.dropLast_concat_getLast ne, e] at hd h
    rcases List.mem_append.mp hd with hd | hd
    · exact Nat.le_of_lt ((List.pairwise_append.mp h).2.2 d hd c (by simp))
    · rw [List.mem_singleton.mp hd]; exact Nat.le_refl _
  · rintro ⟨hc, hm⟩
    obtain ⟨a, b, rfl⟩ := List.append_of_mem hc
    have : b = [] := by
      cases b with
      | nil => rfl
      | cons d b =>
        have := hm d (by simp)
        have h2 := (List.pairwise_append.mp h).2.1
        have := (List.pairwise_cons.mp h2).1 d List.mem_cons_self
        omega
    subst this
    simp
theorem ahead_iff {cs : List Nat} (h : cs.Pairwise (· < ·)) {k c : Nat} : (ahead cs k).getLast? = some c ↔ c ∈ cs ∧ c ≤ k ∧ ∀ d ∈ cs, d ≤ k → d ≤ c := by
  rw [last_iff (l := ahead cs k) (h.filter _)]
  unfold ahead
  simp only [List.mem_filter, decide_eq_true_eq]
  exact ⟨fun ⟨⟨a, b⟩, q⟩ => ⟨a, b, fun d hd dk => q d ⟨hd, dk⟩⟩, fun ⟨a, b, q⟩ => ⟨⟨a, b⟩, fun d hd => q d hd.1 hd.2⟩⟩
theorem post_fst (d : PyData) (st : Option (Nat × Nat) × Nat) : (postP d st).1.map (·.1) = st.1.map (·.1) := by
  unfold postP
  split
  · rfl
  · split
    · split
      · rfl
      · cases st.1 <;> rfl
    · rfl
/-- the caret of a row's place -/
theorem plc_caret (xs : List PyData) {cs : List Nat} (h : cs.Pairwise (· < ·)) : ∀ k, (plc xs cs k).map (·.1) = (ahead cs k).getLast?
  | 0 => by
    show (preP cs 0 (none, 0)).1.map (·.1) = _
    unfold preP
    by_cases c : 0 ∈ cs
    · rw [if_pos c]
      exact ((ahead_iff h).mpr ⟨c, Nat.le_refl _, fun d _ q => q⟩).symm
    · rw [if_neg c]
      cases e : (ahead cs 0).getLast? with
      | none => rfl
      | some d =>
        obtain ⟨a, b, _⟩ := (ahead_iff h).mp e
        have : d = 0 := by omega
        subst this
        exact absurd a c
  | k + 1 => by
    have ih := plc_caret xs h k
    show (preP cs (k + 1) (postP (xs[k]?.getD .none) (preP cs k (stP xs cs k)))).1.map (·.1) = _
    by_cases c : k + 1 ∈ cs
    · unfold preP
      rw [if_pos c]
      exact ((ahead_iff h).mpr ⟨c, Nat.le_refl _, fun d _ q => q⟩).symm
    · have e : ∀ st, preP cs (k + 1) st = st := fun st => by unfold preP; rw [if_neg c]
      rw [e, post_fst]
      have ih : (preP cs k (stP xs cs k)).1.map (·.1) = _ := ih
      rw [ih]
      have ea : ahead cs (k + 1) = ahead cs k := List.filter_congr fun d hd => by
        by_cases z : d ≤ k
        · rw [decide_eq_true z, decide_eq_true (by omega)]
        · rw [decide_eq_false z, decide_eq_false (fun y => c (by have : d = k + 1 := by omega
                                                                 rw [← this]; exact hd))]
      rw [ea]
/-- chains ascend, and end ahead of their row -/
theorem chn_asc (xs : List PyData) : ∀ k, (chn xs k).Pairwise (· < ·) ∧ ∀ b ∈ chn xs k, b < (k : Int)
  | 0 => ⟨List.pairwise_singleton _ _, fun b hb => by rw [List.mem_singleton.mp hb]; decide⟩
  | k + 1 => by
    obtain ⟨a, b⟩ := chn_asc xs k
    show (stepC (chn xs k) (k : Int) (xs[k]?.getD .none)).Pairwise (· < ·) ∧ ∀ b ∈ stepC (chn xs k) (k : Int) (xs[k]?.getD .none), b < ((k + 1 : Nat) : Int)
    unfold stepC
    split
    · refine ⟨List.pairwise_append.mpr ⟨a, List.pairwise_singleton _ _, fun x hx y hy => by rw [List.mem_singleton.mp hy]; exact b x hx⟩, fun x hx => ?_⟩
      rcases List.mem_append.mp hx with hx | hx
      · have := b x hx; omega
      · rw [List.mem_singleton.mp hx]; omega
    · split
      · split
        · exact ⟨List.pairwise_singleton _ _, fun x hx => by rw [List.mem_singleton.mp hx]; omega⟩
        · exact ⟨a.sublist (List.dropLast_sublist _), fun x hx => by have := b x ((List.dropLast_sublist _).subset hx); omega⟩
      · exact ⟨a, fun x hx => by have := b x hx; omega⟩
/-- the blocks that are open at a row and were opened from c on -/
def nb (xs : List PyData) (c k : Nat) : Nat := ((chn xs k).drop 1).countP fun b => decide ((c : Int) ≤ b)
theorem nb_self (xs : List PyData) (k : Nat) : nb xs k k = 0 := by
  unfold nb
  rw [List.countP_eq_zero]
  intro b hb
  have := (chn_asc xs k).2 b (List.mem_of_mem_drop hb)
  simp; omega
theorem layN_self (xs : List PyData) (k : Nat) : layN xs k k = 0 := by
  unfold layN
  rw [Nat.sub_self]; rfl
theorem layN_succ (xs : List PyData) {c k : Nat} (h : c ≤ k) : layN xs c (k + 1) = layN xs c k + if outE xs c k = true then 1 else 0 := by
  unfold layN
  have e : k + 1 - c = (k - c) + 1 := by omega
  rw [e, List.range'_concat, List.filter_append, List.length_append]
  have e2 : c + 1 * (k - c) = k := by omega
  rw [e2]
  by_cases z : outE xs c k = true
  · rw [if_pos z, List.filter_cons_of_pos z]; rfl
  · rw [if_neg z, List.filter_cons_of_neg z]; rfl
theorem drop1_len {α : Type} {l : List α} (h : l.length = 1) : l.drop 1 = [] := List.drop_eq_nil_iff.mpr (by omega)
/-- where the last block was opened -/
theorem nb_last (xs : List PyData) (c k : Nat) (h : 1 < (chn xs k).length) : nb xs c k = ((chn xs k).dropLast.drop 1).countP (fun b => decide ((c : Int) ≤ b)) + if (c : Int) ≤ blkL xs k then 1 else 0 := by
  unfold nb
  have e := chn_split xs k
  have dl : 1 ≤ (chn xs k).dropLast.length := by rw [List.length_dropLast]; omega
  have e2 : (chn xs k).drop 1 = (chn xs k).dropLast.drop 1 ++ [blkL xs k] := by
    conv => lhs; rw [e]
    rw [List.drop_append_of_le_length dl]
  rw [e2, List.countP_append]
  congr 1
  by_cases z : (c : Int) ≤ blkL xs k
  · rw [if_pos z, List.countP_singleton, if_pos (decide_eq_true z)]
  · rw [if_neg z, List.countP_singleton, if_neg (by simpa using z)]
theorem nb_below (xs : List PyData) (c k : Nat) (h : blkL xs k < (c : Int)) : ∀ b ∈ chn xs k, ¬ (c : Int) ≤ b := fun b hb => by
  have a := (chn_asc xs k).1
  rw [chn_split xs k] at hb a
  rcases List.mem_append.mp hb with hb | hb
  · have := (List.pairwise_append.mp a).2.2 b hb (blkL xs k) (by simp)
    omega
  · rw [List.mem_singleton.mp hb]; omega
/-- the layer of a row's place -/
theorem plc_layer (xs : List PyData) (cs : List Nat) : ∀ k c l, plc xs cs k = some (c, l) → l = layN xs c k ∧ (preP cs k (stP xs cs k)).2 = nb xs c k
  | 0, c, l, h => by
    have h : (preP cs 0 (none, 0)).1 = some (c, l) := h
    show l = _ ∧ (preP cs 0 (none, 0)).2 = _
    unfold preP at h ⊢
    by_cases z : 0 ∈ cs
    · rw [if_pos z] at h ⊢
      injection h with h
      injection h with h1 h2
      subst h1 h2
      exact ⟨(layN_self xs 0).symm, (nb_self xs 0).symm⟩
    · rw [if_neg z] at h
      cases h
  | k + 1, c, l, h => by
    have ih := plc_layer xs cs k
    have h : (preP cs (k + 1) (postP (xs[k]?.getD .none) (preP cs k (stP xs cs k)))).1 = some (c, l) := h
    show l = _ ∧ (preP cs (k + 1) (postP (xs[k]?.getD .none) (preP cs k (stP xs cs k)))).2 = _
    by_cases z : k + 1 ∈ cs
    · have e : ∀ st, preP cs (k + 1) st = (some (k + 1, 0), 0) := fun st => by unfold preP; rw [if_pos z]
      rw [e] at h ⊢
      injection h with h
      injection h with h1 h2
      subst h1 h2
      exact ⟨(layN_self xs _).symm, (nb_self xs _).symm⟩
    · have e : ∀ st, preP cs (k + 1) st = st := fun st => by unfold preP; rw [if_neg z]
      rw [e] at h ⊢
      have bd := preP_le (cs := cs) (stP_le xs cs k)
      have hp : plc xs cs k = (preP cs k (stP xs cs k)).1 := rfl
      rw [hp] at ih
      generalize preP cs k (stP xs cs k) = st at h ih bd ⊢
      obtain ⟨pl, o⟩ := st
      dsimp only at ih bd
      have hch : chn xs (k + 1) = stepC (chn xs k) (k : Int) (xs[k]?.getD .none) := rfl
      have nn : nb xs c (k + 1) = ((stepC (chn xs k) (k : Int) (xs[k]?.getD .none)).drop 1).countP fun b => decide ((c : Int) ≤ b) := by
        unfold nb; rw [hch]
      rw [nn]
      have pos : 1 ≤ (chn xs k).length := List.length_pos_iff.mpr (chn_ne xs k)
      unfold postP at h ⊢
      unfold stepC
      by_cases c1 : fw (xs[k]?.getD .none) = "open"
      · rw [if_pos c1] at h ⊢
        obtain ⟨i1, i2⟩ := ih c l h
        have ck : c ≤ k := (bd.2 _ h).1
        rw [if_pos c1, layN_succ xs ck]
        have no : outE xs c k = false := by
          unfold outE
          rw [c1, decide_eq_false (by decide +kernel), Bool.false_and]
        rw [no, if_neg (by decide), Nat.add_zero]
        refine ⟨i1, ?_⟩
        show o + 1 = _
        rw [List.drop_append_of_le_length pos, List.countP_append, List.countP_singleton, if_pos (decide_eq_true (by omega)), i2]; rfl
      · rw [if_neg c1] at h ⊢
        by_cases c2 : fw (xs[k]?.getD .none) = "end"
        · rw [if_pos c2] at h ⊢
          rw [if_neg c1, if_pos c2]
          by_cases c3 : 0 < o
          · rw [if_pos c3] at h ⊢
            obtain ⟨i1, i2⟩ := ih c l h
            have ck : c ≤ k := (bd.2 _ h).1
            have l1 : 1 < (chn xs k).length := by
              rcases Nat.lt_or_ge 1 (chn xs k).length with q | q
              · exact q
              · have : nb xs c k = 0 := by unfold nb; rw [drop1_len (by omega)]; rfl
                omega
            have nl := nb_last xs c k l1
            have top : (c : Int) ≤ blkL xs k := by
              rcases Int.lt_or_le (blkL xs k) (c : Int) with q | q
              · have := nb_below xs c k q
                have z : nb xs c k = 0 := by
                  unfold nb
                  rw [List.countP_eq_zero]
                  intro b hb
                  simpa using this b (List.mem_of_mem_drop hb)
                omega
              · exact q
            rw [if_pos top] at nl
            have em : ¬ (chn xs k).dropLast.isEmpty = true := by
              rw [List.isEmpty_iff_length_eq_zero, List.length_dropLast]; omega
            rw [if_neg em, layN_succ xs ck]
            have no : outE xs c k = false := by
              unfold outE
              rw [decide_eq_false (show ¬ (chn xs k).length = 1 by omega), decide_eq_false (show ¬ blkL xs k < (c : Int) by omega), Bool.or_self, Bool.and_false]
            rw [no, if_neg (by decide), Nat.add_zero]
            refine ⟨i1, ?_⟩
            show o - 1 = _
            omega
          · rw [if_neg c3] at h ⊢
            dsimp only at h
            obtain ⟨q, hq, eq⟩ := Option.map_eq_some_iff.mp h
            obtain ⟨c', l'⟩ := q
            injection eq with e1 e2
            dsimp only at e1 e2
            subst e1 e2
            obtain ⟨i1, i2⟩ := ih c' l' hq
            have ck : c' ≤ k := (bd.2 _ hq).1
            have o0 : o = 0 := by omega
            have out : outE xs c' k = true := by
              unfold outE
              rw [decide_eq_true c2, Bool.true_and, Bool.or_eq_true]
              rcases Nat.lt_or_ge 1 (chn xs k).length with l1 | l1
              · have nl := nb_last xs c' k l1
                right
                rw [decide_eq_true_eq]
                rcases Int.lt_or_le (blkL xs k) (c' : Int) with q | q
                · exact q
                · rw [if_pos q] at nl; omega
              · left
                exact decide_eq_true (by omega)
            rw [layN_succ xs ck, out, if_pos rfl]
            refine ⟨by omega, ?_⟩
            show o = _
            rw [o0]
            symm
            by_cases em : (chn xs k).dropLast.isEmpty = true
            · rw [if_pos em]; rfl
            · rw [if_neg em]
              have l1 : 1 < (chn xs k).length := by
                rw [List.isEmpty_iff_length_eq_zero, List.length_dropLast] at em; omega
              have nl := nb_last xs c' k l1
              omega
        · rw [if_neg c2] at h ⊢
          obtain ⟨i1, i2⟩ := ih c l h
          have ck : c ≤ k := (bd.2 _ h).1
          rw [if_neg c1, if_neg c2, layN_succ xs ck]
          have no : outE xs c k = false := by
            unfold outE
            rw [decide_eq_false c2, Bool.false_and]
          rw [no, if_neg (by decide), Nat.add_zero]
          exact ⟨i1, i2⟩
theorem head_iff {l : List Nat} (h : l.Pairwise (· < ·)) {d : Nat} (e : l.head? = some d) : d ∈ l ∧ ∀ x ∈ l, d ≤ x := by
  cases l with
  | nil => cases e
  | cons a l =>
    injection e with e
    subst e
    refine ⟨List.mem_cons_self, fun x hx => ?_⟩
    rcases List.mem_cons.mp hx with rfl | hx
    · exact Nat.le_refl _
    · exact Nat.le_of_lt ((List.pairwise_cons.mp h).1 x hx)
/-- the row behind a segment -/
def segE (n : Nat) (cs : List Nat) (k : Nat) : Nat := match (behind cs k).head? with
  | none => n
  | some d => d
theorem segE_ok {n : Nat} {cs : List Nat} {k c : Nat} (h : cs.Pairwise (· < ·)) (hle : ∀ d ∈ cs, d ≤ n) (kl : k < n) (hc : (ahead cs k).getLast? = some c) : k < segE n cs k ∧ segE n cs k ≤ n ∧ ∀ r, r < n → ((ahead cs r).getLast? = some c ↔ c ≤ r ∧ r < segE n cs k) := by
  obtain ⟨c1, c2, c3⟩ := (ahead_iff h).mp hc
  unfold segE
  cases e : (behind cs k).head? with
  | none =>
    have no : ∀ d ∈ cs, d ≤ k := fun d hd => by
      have e : behind cs k = [] := List.head?_eq_none_iff.mp e
      rcases Nat.lt_or_ge k d with q | q
      · have : d ∈ behind cs k := List.mem_filter.mpr ⟨hd, decide_eq_true q⟩
        rw [e] at this; cases this
      · exact q
    refine ⟨kl, Nat.le_refl _, fun r rl => ?_⟩
    rw [ahead_iff h]
    exact ⟨fun ⟨a, b, _⟩ => ⟨b, rl⟩, fun ⟨a, _⟩ => ⟨c1, a, fun d hd _ => c3 d hd (no d hd)⟩⟩
  | some d0 =>
    obtain ⟨h1, h2⟩ := head_iff (h.filter _) e
    obtain ⟨h3, h4⟩ := List.mem_filter.mp h1
    have h4 : k < d0 := of_decide_eq_true h4
    refine ⟨h4, hle d0 h3, fun r rl => ?_⟩
    rw [ahead_iff h]
    constructor
    · rintro ⟨a, b, q⟩
      refine ⟨b, ?_⟩
      rcases Nat.lt_or_ge r d0 with z | z
      · exact z
      · have := q d0 h3 z
        show r < d0
        omega
    · rintro ⟨a, b⟩
      have b : r < d0 := b
      refine ⟨c1, a, fun d hd dr => ?_⟩
      rcases Nat.lt_or_ge k d with z | z
      · have := h2 d (List.mem_filter.mpr ⟨hd, decide_eq_true z⟩)
        omega
      · exact c3 d hd z
theorem range_part (n c E : Nat) (hc : c ≤ E) (hE : E ≤ n) (p : Nat → Bool) (q : Nat → Bool) (h : ∀ r, r < n → q r = (decide (c ≤ r ∧ r < E) && p r)) : (List.range n).filter q = (List.range' c (E - c)).filter p := by
  have e : List.range n = List.range' 0 c ++ (List.range' c (E - c) ++ List.range' E (n - E)) := by
    have a : List.range' c (E - c) ++ List.range' E (n - E) = List.range' c (n - c) := by
      have := List.range'_append (s := c) (m := E - c) (n := n - E) (step := 1)
      rw [show c + 1 * (E - c) = E by omega] at this
      rw [this, show E - c + (n - E) = n - c by omega]
    rw [a, List.range_eq_range']
    have := List.range'_append (s := 0) (m := c) (n := n - c) (step := 1)
    rw [show 0 + 1 * c = c by omega] at this
    rw [this, show c + (n - c) = n by omega]
  rw [e, List.filter_append, List.filter_append]
  have f1 : (List.range' 0 c).filter q = [] := List.filter_eq_nil_iff.mpr fun r hr => by
    have := List.mem_range'.mp hr
    rw [h r (by omega), decide_eq_false (by omega)]; simp
  have f3 : (List.range' E (n - E)).filter q = [] := List.filter_eq_nil_iff.mpr fun r hr => by
    have := List.mem_range'.mp hr
    rw [h r (by omega), decide_eq_false (by omega)]; simp
  have f2 : (List.range' c (E - c)).filter q = (List.range' c (E - c)).filter p := List.filter_congr fun r hr => by
    have := List.mem_range'.mp hr
    rw [h r (by omega), decide_eq_true (by omega), Bool.true_and]
  rw [f1, f2, f3, List.nil_append, List.append_nil]
theorem ints_sz : ∀ ns : List Nat, PyData.depthAll (ns.map fun r : Nat => PyData.int (r : Int)) ≤ 1 ∧ wgAll (ns.map fun r : Nat => PyData.int (r : Int)) = 82 * ns.length
  | [] => by simp [PyData.depthAll, wgAll]
  | n :: ns => by
    have ih := ints_sz ns
    simp only [List.map_cons, PyData.depthAll, PyData.depth, wgAll, wg, List.length_cons]
    omega
/-- what is due of a row, and what the package answers -/
theorem due_ok (cNU : Addr) {xs : List PyData} {cs : List Nat} {k : Nat} (sg : Seg xs cs k) : ∃ A B C : PyData, dueL xs cs k = .list [A, B, C] ∧ PyData.depth (.list [A, B, C]) ≤ 60 ∧ wg (.list [A, B, C]) ≤ limL ∧
    (∀ (Q : PyData → Prop) (E : Er → Prop), Q A → F_segment_of cNU [.tuple xs, .tuple (marksD cs), .int (k : Int)] Q E) ∧ (∀ (Q : PyData → Prop) (E : Er → Prop), Q B → F_layer_of cNU [.tuple xs, .tuple (marksD cs), .int (k : Int)] Q E) ∧ (∀ (Q : PyData → Prop) (E : Er → Prop), Q C → F_rows_of_layer cNU [.tuple xs, .tuple (marksD cs), .int (k : Int)] Q E) := by
  have nl := sg.len
  have kl := sg.kl
  have pc := plc_caret xs sg.asc k
  cases e : plc xs cs k with
  | none =>
    rw [e] at pc
    have pc : (ahead cs k).getLast? = none := pc.symm
    refine ⟨.none, .none, .tuple [], by unfold dueL; rw [pc], by simp only [PyData.depth, PyData.depthAll]; omega, by simp only [wg, wgAll, limL_eq]; omega, fun Q E q => ⟨cs, k, rfl, rfl, sg, ?_⟩, fun Q E q => ⟨cs, k, rfl, rfl, sg, ?_⟩, fun Q E q => ⟨cs, k, rfl, rfl, sg, ?_⟩⟩
    · rw [e]; exact q
    · rw [e]; exact q
    · rw [e]; exact q
  | some pp =>
    obtain ⟨c, l⟩ := pp
    obtain ⟨l1, -⟩ := plc_layer xs cs k c l e
    rw [e] at pc
    have pc : (ahead cs k).getLast? = some c := pc.symm
    obtain ⟨cm, ck⟩ := ahead_mem pc
    obtain ⟨E1, E2, E3⟩ := segE_ok sg.asc sg.le kl pc
    have hE : (match (behind cs k).head? with
        | none => xs.length - c
        | some d => d - c) = segE xs.length cs k - c := by
      unfold segE
      cases (behind cs k).head? <;> rfl
    have hs : segD xs.length cs k = .tuple [.int (c : Int), .int ((segE xs.length cs k - 1 : Nat) : Int)] := by
      unfold segD
      rw [pc]
      dsimp only
      congr 3
      unfold segE at E1 ⊢
      cases eb : (behind cs k).head? with
      | none => rw [eb] at E1; show PyData.int ((xs.length : Int) - 1) = .int ((xs.length - 1 : Nat) : Int); congr 1; omega
      | some d => rw [eb] at E1; have E1 : k < d := E1; show PyData.int ((d : Int) - 1) = .int ((d - 1 : Nat) : Int); congr 1; omega
    have car : ∀ r, r < xs.length → ((plc xs cs r).map (·.1) = some c ↔ c ≤ r ∧ r < segE xs.length cs k) := fun r rl => by
      rw [plc_caret xs sg.asc r]; exact E3 r rl
    have rows : ((List.range xs.length).filter fun r => decide (plc xs cs r = some (c, l))) = (List.range' c (segE xs.length cs k - c)).filter fun j => decide (layN xs c j = layN xs c k) := by
      refine range_part _ _ _ (by omega) E2 _ _ fun r rl => ?_
      by_cases z : plc xs cs r = some (c, l)
      · have h1 := (car r rl).mp (by rw [z]; rfl)
        have h2 := (plc_layer xs cs r c l z).1
        rw [decide_eq_true z, decide_eq_true h1, decide_eq_true (show layN xs c r = layN xs c k by omega)]; rfl
      · rw [decide_eq_false z]
        by_cases z1 : c ≤ r ∧ r < segE xs.length cs k
        · rw [decide_eq_true z1, Bool.true_and]
          symm
          refine decide_eq_false fun z2 => z ?_
          have h1 := (car r rl).mpr z1
          cases er : plc xs cs r with
          | none => rw [er] at h1; cases h1
          | some q =>
            obtain ⟨c', l'⟩ := q
            rw [er] at h1
            injection h1 with h1
            have h1 : c' = c := h1
            subst h1
            have h2 := (plc_layer xs cs r c' l' er).1
            rw [h2, z2, ← l1]
        · rw [decide_eq_false z1]; rfl
    have rl : ((List.range xs.length).filter fun r => decide (plc xs cs r = some (c, l))).length ≤ xs.length := by
      have := List.length_filter_le (fun r => decide (plc xs cs r = some (c, l))) (List.range xs.length)
      rw [List.length_range] at this
      exact this
    generalize hR : ((List.range xs.length).filter fun r => decide (plc xs cs r = some (c, l))) = R at rl rows
    obtain ⟨s1, s2⟩ := ints_sz R
    refine ⟨.tuple [.int (c : Int), .int ((segE xs.length cs k - 1 : Nat) : Int)], .int (l : Int), .tuple (R.map fun r : Nat => PyData.int (r : Int)), ?_, ?_, ?_, fun Q E q => ⟨cs, k, rfl, rfl, sg, ?_⟩, fun Q E q => ⟨cs, k, rfl, rfl, sg, ?_⟩, fun Q E q => ⟨cs, k, rfl, rfl, sg, ?_⟩⟩
    · unfold dueL
      rw [pc]
      dsimp only
      rw [hs, hE, rows, ← l1]
    · simp only [PyData.depth, PyData.depthAll]; omega
    · simp only [wg, wgAll, limL_eq]; omega
    · rw [e]
      dsimp only
      intro m hm hx
      have a1 := List.mem_filter.mp hm
      have ml := List.mem_range.mp a1.1
      have a2 := (car m ml).mp (of_decide_eq_true a1.2)
      have a3 := hx (segE xs.length cs k - 1) (List.mem_filter.mpr ⟨List.mem_range.mpr (by omega), decide_eq_true ((car _ (by omega)).mpr ⟨by omega, by omega⟩)⟩)
      have em : m = segE xs.length cs k - 1 := by omega
      rw [em]
      exact q
    · rw [e]; exact q
    · rw [e]
      dsimp only
      rw [hR]
      exact q
theorem callK3 {F : List PyData → (PyData → Prop) → (Er → Prop) → Prop} {a b c : Nat} {x y z : PyData} {ρ : List Sl} {s : Unit} {Q : PyData → Unit → Prop} {E : Er → Unit → Prop} (ha : ρ[a]? = some (.d x)) (hb : ρ[b]? = some (.d y)) (hc : ρ[c]? = some (.d z)) (h : F [z, y, x] (fun d => Q d s) fun _ => False) : wCallK 3 swap3 (fun ds Q _ => F ds Q fun _ => False) (wCons (wVar a) (wCons (wVar b) (wCons (wVar c) wNil))) ρ s Q E := by
  show wVar a ρ s (fun x s1 => wVar b ρ s1 (fun y s2 => wVar c ρ s2 (fun z s3 => [x, y, z].length = 3 ∧ F [z, y, x] (fun d => Q d s3) fun _ => False) E) E) E
  exact var_of ha (var_of hb (var_of hc ⟨rfl, h⟩))
theorem seqOf_tup {xs : List PyData} {Q : List PyData → Prop} (h : Q xs) : seqOf (.tuple xs) Q := h
theorem seqOf_lst {xs : List PyData} {Q : List PyData → Prop} (h : Q xs) : seqOf (.list xs) Q := h
theorem spec__law_is_right (cNU : Addr) : ∀ ds Qd Ed, ds.length = 2 → F__law_is_right ds Qd Ed → w__law_is_right cNU (argS 2 6 (ds.map Sl.d)) () (endP Qd Ed) := by
  intro ds Qd Ed hl h
  match ds, hl, h with
  | [.tuple xs, .tuple ms], _, h =>
    obtain ⟨cs, rfl, hr, nl, asc, hle, h⟩ := h
    unfold w__law_is_right
    show wSeq _ _ [.d (.tuple xs), .d (.tuple (marksD cs)), .no, .no, .no, .no] () _
    refine seq_of (asg_of (op_of (callP1 (var_of rfl ⟨rfl, hr, by omega, fun e => c_of ⟨_, atI_0, ?_⟩⟩))))
    dsimp only [gN, List.set]
    refine seq_gen fun D1 hnx _ _ => for_of (rng1_of (cb1_of (var_of rfl (len_tup ⟨by omega, by omega, ?_⟩))))
    refine loop_inv (fun _ ρ _ => ∃ z3 z4, ρ = [.d (.tuple xs), .d (.tuple (marksD cs)), .d (.list (chnD xs xs.length)), z3, z4, .no]) _ 0 _ _ ?_ ⟨_, _, rfl⟩ ?_
    · rintro k d hd ρ s ⟨z3, z4, rfl⟩ D' _ _ _ hx _
      obtain ⟨kl, rfl⟩ := rngD_at hd
      have kl : k < xs.length := by omega
      have sg : Seg xs cs k := ⟨hr, nl, asc, hle, kl⟩
      obtain ⟨A, B, C, e1, e2, e3, hA, hB, hC⟩ := due_ok cNU sg
      dsimp only [gN, List.set]
      refine seq_of (asg_of (l_of (lst_of (cons_of (callP3 (var_of rfl (var_of rfl (var_of rfl ⟨rfl, hA _ _ ?_⟩))))))))
      refine cons_of (callP3 (var_of rfl (var_of rfl (var_of rfl ⟨rfl, hB _ _ ?_⟩))))
      refine cons_of (callP3 (var_of rfl (var_of rfl (var_of rfl ⟨rfl, hC _ _ (nil_of ⟨few_lim (by simp), ?_⟩)⟩))))
      dsimp only [gN, List.set]
      refine ifS_f (fun Q E q => t_of (op_of (cb1_of (var_of rfl (repr3_ok e2 e3 (cb1_of (callP4 (var_of rfl (var_of rfl (var_of rfl (var_of rfl ⟨rfl, cs, k, rfl, rfl, rfl, sg, ?_⟩))))))))))) (hx _ _ ⟨_, _, rfl⟩)
      rw [e1]
      exact repr3_ok e2 e3 (ne_self _ q)
    rintro ρ s ⟨z3, z4, rfl⟩
    refine hnx _ _ ?_
    refine seq_gen fun D2 hnx2 _ _ => for_of (seqI_of (l_of (comp_of rfl (seqI_of (tup_of (cons_of (c_of (nil_of ⟨few_lim (by simp), ?_⟩))))))))
    refine seqOf_tup (xs := marksD [0]) ?_
    dsimp only [wipeD, List.set]
    refine comp_marks (fun c => decide (c < xs.length)) [0] _ _ (fun c hc s Y N y => ?_) ?_
    · dsimp only [gN, List.set]
      refine ⟨rfl, t_of (op_of (var_of rfl (cb1_of (var_of rfl (len_tup ?_)))))⟩
      show if decide ((c : Int) < (xs.length : Int)) = true then _ else _
      by_cases z : c < xs.length
      · rw [if_pos (decide_eq_true z)] at y
        rw [if_pos (decide_eq_true (by omega))]
        exact var_of rfl y
      · rw [if_neg (by simpa using z)] at y
        rw [if_neg (by simp; omega)]
        exact y
    refine seqOf_lst (xs := marksD _) ?_
    refine loop_inv (fun _ ρ _ => ∃ z3 z4, ρ = [.d (.tuple xs), .d (.tuple (marksD cs)), .d (.list (chnD xs xs.length)), z3, z4, .no]) _ 0 _ _ ?_ ⟨_, _, rfl⟩ ?_
    · rintro j d hd ρ s ⟨z3, z4, rfl⟩ D' _ _ _ hx _
      obtain ⟨k, hk, rfl⟩ := List.mem_map.mp (List.mem_of_getElem? hd)
      have kl : k < xs.length := of_decide_eq_true (List.mem_filter.mp hk).2
      have sg : Seg xs cs k := ⟨hr, nl, asc, hle, kl⟩
      obtain ⟨A, B, C, e1, e2, e3, hA, hB, hC⟩ := due_ok cNU sg
      dsimp only [gN, List.set]
      refine seq_of (setF_of (lst_of (cons_of (callK3 rfl rfl rfl (hA _ _ ?_)))))
      refine cons_of (callK3 rfl rfl rfl (hB _ _ (nil_of ⟨few_lim (by simp), fun p => ?_⟩)))
      dsimp only [List.set]
      refine seq_of (app_of (p := p) (xs := [A, B]) rfl (callK3 rfl rfl rfl (hC _ _ ⟨by simp [limL_eq], ?_⟩)))
      dsimp only [List.set]
      refine freeze_of (i := 4) (p := p) (xs := [A, B] ++ [C]) rfl ?_
      dsimp only [List.set, List.cons_append, List.nil_append]
      refine ifS_f (fun Q E q => t_of (op_of (cb1_of (var_of rfl (repr3_ok e2 e3 (cb1_of (callP4 (var_of rfl (var_of rfl (var_of rfl (var_of rfl ⟨rfl, cs, k, rfl, rfl, rfl, sg, ?_⟩))))))))))) (hx _ _ ⟨_, _, rfl⟩)
      rw [e1]
      exact repr3_ok e2 e3 (ne_self _ q)
    rintro ρ s ⟨z3, z4, rfl⟩
    exact hnx2 _ _ (ret_of (c_of h))
theorem ok__law_is_right {f : Addr} {fd : FuncData} (Fu : Fun K "_law_is_right" "_law_is_right" s__law_is_right f fd) (hm : mg "_law_is_right" = some (.ref f)) (hb : Binds K fd ["_law_page_here", "_law_marks_here"] []) (B : Bt mg) (D__law_due : Df P w K mg base CX0 2 "_law_due" 4 (spP K 4 F__law_due)) (D__law_stand : Df P w K mg base CX0 1 "_law_stand" 1 (spP K 1 F__law_stand)) (D_layer_of : Do P w K mg base (L2.CX P w) 8 "layer_of" 3 (spP K 3 (F_layer_of cNU))) (D_rows_of_layer : Do P w K mg base (L2.CX P w) 8 "rows_of_layer" 3 (spP K 3 (F_rows_of_layer cNU))) (D_segment_of : Do P w K mg base (L2.CX P w) 8 "segment_of" 3 (spP K 3 (F_segment_of cNU))) (DK_layer_of : DoK P w K mg base (L2.CX P w) 8 "layer_of" 3 (spP K 3 (F_layer_of cNU)) ["row", "carets", "text"] swap3) (DK_rows_of_layer : DoK P w K mg base (L2.CX P w) 8 "rows_of_layer" 3 (spP K 3 (F_rows_of_layer cNU)) ["row", "carets", "text"] swap3) (DK_segment_of : DoK P w K mg base (L2.CX P w) 8 "segment_of" 3 (spP K 3 (F_segment_of cNU)) ["row", "carets", "text"] swap3) : Df P w K mg base CX0 9 "_law_is_right" 2 (spP K 2 F__law_is_right) :=
  ⟨f, fd, ["_law_page_here", "_law_marks_here"], rfl, hm, Fu.kp, hb, fnP (wb := w__law_is_right cNU) Fu sc__law_is_right rfl (fun cdv A outer s H E hG hr => ⟨_,
  (sd_cons (sd_set 2 sc__law_is_right.nd rfl (by first | exact .inl rfl | exact .inr rfl) (e_ix (e_callP D__law_stand hG (hr.mono (by decide)) pass00 (ad_cons (ed_var 0) ad_nil)) ed_int))
  (sd_cons (sd_for (L2.passes_of rfl) rfl (i_rng1 B (ad_cons (e_len B (ad_cons (ed_var 0) ad_nil)) ad_nil)) (gd_name 3 sc__law_is_right.nd rfl (by first | exact .inl rfl | exact .inr rfl)) (sd_cons (sd_set 4 sc__law_is_right.nd rfl (by first | exact .inl rfl | exact .inr rfl) (ed_new (fd_lst (ad_cons (e_callN D_segment_of (hr.mono (by decide)) (ad_cons (ed_var 0) (ad_cons (ed_var 1) (ad_cons (ed_var 3) ad_nil)))) (ad_cons (e_callN D_layer_of (hr.mono (by decide)) (ad_cons (ed_var 0) (ad_cons (ed_var 1) (ad_cons (ed_var 3) ad_nil)))) (ad_cons (e_callN D_rows_of_layer (hr.mono (by decide)) (ad_cons (ed_var 0) (ad_cons (ed_var 1) (ad_cons (ed_var 3) ad_nil)))) ad_nil))))))
  (sd_one (sd_if (t_ne hr (e_repr3 B hr hG (ad_cons (ed_var 4) ad_nil)) (e_repr3 B hr hG (ad_cons (e_callP D__law_due hG (hr.mono (by decide)) pass00 (ad_cons (ed_var 0) (ad_cons (ed_var 1) (ad_cons (ed_var 2) (ad_cons (ed_var 3) ad_nil))))) ad_nil))) (sd_one (sd_ret ed_bl)) sd_nil))))
  (sd_cons (sd_for (L2.passes_of rfl) rfl (i_seq (ed_new (fd_lc rfl sc__law_is_right.nd (own := [("_law_own", 5)]) (i_seq (ed_tup (ad_cons ed_int ad_nil))) (blkOk_by (own := [("_law_own", 5)]) (N := ["_law_page_here", "_law_marks_here", "_law_around", "_law_k", "_law_told", "_law_own"]) (sc := defScope s__law_is_right) (by decide +kernel))
    (fun _ _ _ _ _ => (gd_name 5 sc__law_is_right.nd rfl (by first | exact .inl rfl | exact .inr rfl))) (fun _ _ _ _ _ => (ptd_one (t_lt (ed_var 5) (e_len B (ad_cons (ed_var 0) ad_nil))))) (fun _ _ _ _ _ => (ed_var 5)) (by simp)))) (gd_name 3 sc__law_is_right.nd rfl (by first | exact .inl rfl | exact .inr rfl)) (sd_cons (sd_setF 4 sc__law_is_right.nd rfl (by first | exact .inl rfl | exact .inr rfl) (fd_lst (ad_cons (e_callKN swap3_rel swap3_len DK_segment_of (hr.mono (by decide)) (kd_cons (ed_var 3) (kd_cons (ed_var 1) (kd_cons (ed_var 0) kd_nil)))) (ad_cons (e_callKN swap3_rel swap3_len DK_layer_of (hr.mono (by decide)) (kd_cons (ed_var 3) (kd_cons (ed_var 1) (kd_cons (ed_var 0) kd_nil)))) ad_nil))))
  (sd_cons (sd_append 4 (e_callKN swap3_rel swap3_len DK_rows_of_layer (hr.mono (by decide)) (kd_cons (ed_var 3) (kd_cons (ed_var 1) (kd_cons (ed_var 0) kd_nil)))))
  (sd_freeze 4 (sd_one (sd_if (t_ne hr (e_repr3 B hr hG (ad_cons (ed_var 4) ad_nil)) (e_repr3 B hr hG (ad_cons (e_callP D__law_due hG (hr.mono (by decide)) pass00 (ad_cons (ed_var 0) (ad_cons (ed_var 1) (ad_cons (ed_var 2) (ad_cons (ed_var 3) ad_nil))))) ad_nil))) (sd_one (sd_ret ed_bl)) sd_nil))))))
  (sd_one (sd_ret ed_bl)))))⟩) (spec__law_is_right cNU)⟩
end
end L34

set_option Elab.async false
set_option linter.all false
set_option autoImplicit false
set_option maxRecDepth 100000
set_option maxHeartbeats 4000000
namespace L34
open PySem PySem.Spec Dt
open L2 hiding wT wNot
abbrev Wf (T : List (Addr × Str)) := ftW "cells" "at" "left" "count" T
section
variable {P : Program} {w : World} {K : PySem.W.Frag} {mg : Str → Option Value} {base : Heap} {T : List (Addr × Str)}
abbrev s_draw : Stmt := top 33
theorem sc_draw : FnScope ["_law_feed_here", "_law_many", "_law_digit", "_law_turn_in", "_law_cell", "_law_mixed"] ["_law_feed_here", "_law_many"] (defScope s_draw) := ⟨rfl, rfl, rfl, by decide +kernel, rfl, by decide +kernel, by decide +kernel⟩
theorem ok_draw {f : Addr} {fd : FuncData} (Fu : Fun K "_law_draw" "_law_draw" s_draw f fd) (hm : mg "_law_draw" = some (.ref f)) (hb : Binds K fd ["_law_feed_here", "_law_many"] []) (B : Bt mg) : Df P w K mg base CX0 1 "_law_draw" 2 (spI K (Wf T) 2 F_draw) := by
  refine ⟨f, fd, _, rfl, hm, Fu.kp, hb, fnG Fu sc_draw (fun vs H Q E h => by obtain ⟨i, h⟩ := h; exact h.1) fun cdv A outer s H vs Q E hG hr h => ?_⟩
  obtain ⟨⟨a, L⟩, hl, R, as, s1, Qd, Ed, nd, tr, ⟨⟨ns, kvs, sp, lf, tn, F⟩, hTT⟩, ag, ⟨n, rfl, n0, n1, hq⟩, hQ, _⟩ := h
  match vs, hl, ag with
  | [v1, v2], _, ag =>
  obtain ⟨rfl, d2, _⟩ := ag
  cases d2
  have fin : ∀ (H' : Hp) (k : Int) kvs' sp' lf' tn', Fd "cells" "at" "left" "count" H' a L ns kvs' sp' lf' tn' → (∀ b o, b ≠ a → H b = some o → H' b = some o) → 0 ≤ k → k < n → Q (.int k) H' := fun H' k kvs' sp' lf' tn' F' e k0 k1 =>
    hQ (.int k) H' (.int k) () ⟨⟨ns, kvs', sp', lf', tn', F'⟩, fun p hp => Dt.TabS.off F.at' (hTT p hp) e⟩ (fun b o h nb => e b o (fun z => nb (by rw [z]; simp [ftW])) h) (.int (okI_small (by omega))) (hq k k0 k1)
  have hu := hu_of hr
  have mInt : mg "int" = none := B.no _ (by decide)
  have mLen : mg "len" = none := B.no _ (by decide)
  refine ⟨_, pss_cons (ps_dput hu (pv 0) pe_str (pe_op op_add (pe_dget hu (pv 0) pe_str (fun _ _ => rfl)) pe_int) rfl)
    (pss_cons (ps_if (pt_cmpR op_gt (pe_dget hu (pv 0) pe_str (fun _ _ => rfl)) pe_int (nomark _))
      (pss_cons (ps_set (i := 2) sc_draw.nd rfl (.inl rfl) (pe_op op_mod (pe_callTy call_int1 (by rfl) mInt (by decide +kernel) (pa_cons (pe_dget hu (pv 0) pe_str (fun _ _ => rfl)) pa_nil)) (pv 1)))
      (pss_cons (ps_dput hu (pv 0) pe_str (pe_op op_fdiv (pe_dget hu (pv 0) pe_str (fun _ _ => rfl)) (pv 1)) rfl)
      (pss_one (ps_ret (pv 2))))) pss_nil)
    (pss_cons (ps_set (i := 3) sc_draw.nd rfl (.inl rfl) (pe_dget hu (pv 0) pe_str (fun _ _ => rfl)))
    (pss_cons (ps_dput hu (pv 0) pe_str (pe_op op_add (pv 3) pe_int) rfl)
    (pss_cons (ps_set (i := 4) sc_draw.nd rfl (.inl rfl) (pe_ifExp (pt_cmpR (op_neD hr.units) (pe_dget hu (pv 0) pe_str (fun _ _ => rfl)) (pe_lst pa_nil) (nomark _)) (pe_ix ix_list (pe_dget hu (pv 0) pe_str (fun _ _ => rfl)) (pe_op op_mod (pe_callTy call_int1 (by rfl) mInt (by decide +kernel) (pa_cons (pv 3) pa_nil)) (pe_callB call_len_seq (by rfl) mLen (by decide +kernel) (pa_cons (pe_dget hu (pv 0) pe_str (fun _ _ => rfl)) pa_nil))) (fun _ _ => rfl)) pe_int))
    (pss_cons (ps_if (PW.pt (pw_and (pt_cmpR op_ge (pv 4) (pe_op op_pow pe_int pe_int) (nomark _)) (pw_and1 (pt_cmpR op_lt (pv 3) (pe_callB call_len_seq (by rfl) mLen (by decide +kernel) (pa_cons (pe_dget hu (pv 0) pe_str (fun _ _ => rfl)) pa_nil)) (nomark _)))))
      (pss_cons (ps_dput hu (pv 0) pe_str (pe_op op_fdiv (pv 4) (pv 1)) rfl)
      (pss_one (ps_ret (pe_op op_mod (pe_callTy call_int1 (by rfl) mInt (by decide +kernel) (pa_cons (pv 4) pa_nil)) (pv 1))))) pss_nil)
    (pss_cons (ps_set (i := 5) sc_draw.nd rfl (.inl rfl) (pe_op op_mod (pe_callTy call_int1 (by rfl) mInt (by decide +kernel) (pa_cons (pe_op op_add (pe_op op_add (pe_op op_mod (pe_callTy call_int1 (by rfl) mInt (by decide +kernel) (pa_cons (pv 4) pa_nil)) pe_int) (pe_op op_mul pe_int (pe_dget hu (pv 0) pe_str (fun _ _ => rfl)))) pe_int) pa_nil)) pe_int))
    (pss_cons (ps_set (i := 5) sc_draw.nd rfl (.inl rfl) (pe_op op_mod (pe_callTy call_int1 (by rfl) mInt (by decide +kernel) (pa_cons (pe_op op_add (pe_op op_add (pe_op op_mul (pv 5) (pv 5)) (pe_op op_mul pe_int (pe_dget hu (pv 0) pe_str (fun _ _ => rfl)))) pe_int) pa_nil)) pe_int))
    (pss_one (ps_ret (pe_op op_mod (pe_callTy call_int1 (by rfl) mInt (by decide +kernel) (pa_cons (pe_op op_fdiv (pe_op op_mod (pe_callTy call_int1 (by rfl) mInt (by decide +kernel) (pa_cons (pe_op op_add (pe_op op_mul (pv 5) (pv 5)) (pe_op op_mul pe_int (pv 5))) pa_nil)) pe_int) pe_int) pa_nil)) (pv 1))))))))))), ?_⟩
  -- turns
  refine ⟨_, rfl, a, _, rfl, dget_of F.at' F.kt, _, _, rfl, rfl, _, rfl, a, _, rfl, F.dput "count" _, ?_⟩
  have F1 := F.putT (by decide) (by decide) (by decide) (tn + 1)
  generalize hk1 : putK kvs (.inr "count") (.int (tn + 1)) = kvs1 at F1 ⊢
  have o1 : ∀ b o, b ≠ a → H b = some o → upd H a (.dK kvs1) b = some o := fun b o h q => by rw [upd_ne h]; exact q
  generalize upd H a (.dK kvs1) = H1 at F1 o1 ⊢
  -- if left > 0
  refine ⟨_, rfl, a, _, rfl, dget_of F1.at' F1.kl, _, _, rfl, rfl, _, rfl, ?_⟩
  refine ite2 (fun c => ?_) (fun c => ?_)
  · refine ⟨_, rfl, a, _, rfl, dget_of F1.at' F1.kl, .inl ⟨_, rfl, _, rfl, _, _, rfl, rfl, n0, ?_⟩⟩
    refine ⟨_, rfl, a, _, rfl, dget_of F1.at' F1.kl, _, rfl, _, _, rfl, rfl, ⟨n0, n1⟩, _, rfl, a, _, rfl, F1.dput "left" _, _, rfl, ?_⟩
    exact fin _ _ _ _ _ _ (F1.putL (by decide) (by decide) (by decide) _) (fun b o h q => by rw [upd_ne h]; exact o1 b o h q) (Int.emod_nonneg _ (by omega)) (Int.emod_lt_of_pos _ n0)
  · refine ⟨_, rfl, a, _, rfl, dget_of F1.at' F1.ks, ?_⟩
    -- spot
    refine ⟨_, rfl, _, _, rfl, rfl, _, rfl, a, _, rfl, F1.dput "at" _, ?_⟩
    have F2 := F1.putS (by decide) (by decide) (by decide) (sp + 1)
    generalize hk2 : putK kvs1 (.inr "at") (.int (sp + 1)) = kvs2 at F2 ⊢
    have o2 : ∀ b o, b ≠ a → H b = some o → upd H1 a (.dK kvs2) b = some o := fun b o h q => by rw [upd_ne h]; exact o1 b o h q
    generalize upd H1 a (.dK kvs2) = H2 at F2 o2 ⊢
    -- the cell
    refine ⟨_, rfl, a, _, rfl, dget_of F2.at' F2.kc, (by show 0 ≤ sizeLine; decide), fun p hp => ?_⟩
    have F3 : Fd "cells" "at" "left" "count" (upd H2 p (.lst [])) a L ns kvs2 (sp + 1) lf (tn + 1) := F2.grow (upd_ne (ne_of_none F2.at' hp)) (upd_ne (ne_of_none F2.cells hp))
    have o3 : ∀ b o, b ≠ a → H b = some o → upd H2 p (.lst []) b = some o := fun b o h q => by
      have := o2 b o h q
      rw [upd_ne (ne_of_none this hp)]; exact this
    have e3 : (upd H2 p (.lst [])) p = some (.lst []) := upd_same
    generalize upd H2 p (.lst []) = H3 at F3 o3 e3 ⊢
    refine ⟨.list (ns.map PyData.int), .list [], .lst (SqL.of F3.cells) (dp_ints ns), .lst (SqL.of e3) .nil, shaped_ints ns, shaped_nil, _, rfl, ?_⟩
    have e4 : (!PyData.eqv (.list (ns.map PyData.int)) (.list [])) = !ns.isEmpty := by cases ns <;> simp [PyData.eqv, PyData.eqvAll]
    rw [e4]
    by_cases hn : ns = []
    · subst hn
      refine iteF ?_
      generalize (47 : Int) = c
      refine ⟨_, rfl, _, _, rfl, rfl, ⟨by decide, by decide, by decide⟩, _, _, rfl, rfl, _, rfl, ?_⟩
      refine ite2 (fun c1 => ?_) (fun c1 => ?_)
      · refine ⟨_, rfl, _, rfl, a, _, rfl, dget_of F3.at' F3.kc, L, _, rfl, .inl (SqL.of F3.cells), _, _, rfl, rfl, _, rfl, ?_⟩
        refine ite2 (fun c2 => ?_) (fun c2 => ?_)
        · refine ⟨_, rfl, _, rfl, _, _, rfl, rfl, ⟨n0, n1⟩, _, rfl, a, _, rfl, F3.dput "left" _, _, rfl, .inl ⟨_, rfl, _, rfl, _, _, rfl, rfl, n0, ?_⟩⟩
          exact fin _ _ _ _ _ _ (F3.putL (by decide) (by decide) (by decide) _) (fun b o h q => by rw [upd_ne h]; exact o3 b o h q) (Int.emod_nonneg _ (by omega)) (Int.emod_lt_of_pos _ n0)
        · refine ⟨_, rfl, .inl ⟨_, rfl, _, _, rfl, rfl, (by show (0:Int) < _; decide), _, rfl, a, _, rfl, dget_of F3.at' F3.kt, _, _, rfl, rfl, .inl ⟨by decide, by decide⟩, _, _, rfl, rfl, _, _, rfl, rfl, .inl ⟨_, rfl, _, _, rfl, rfl, (by show (0:Int) < _; decide), ?_⟩⟩⟩
          refine ⟨_, rfl, _, rfl, _, _, rfl, rfl, .inl (mid _ (by decide) (by decide)), _, rfl, a, _, rfl, dget_of F3.at' F3.kt, _, _, rfl, rfl, .inl ⟨by decide, by decide⟩, _, _, rfl, rfl, _, _, rfl, rfl, .inl ⟨_, rfl, _, _, rfl, rfl, (by show (0:Int) < _; decide), ?_⟩⟩
          refine ⟨_, rfl, _, rfl, _, _, rfl, rfl, .inl (mid _ (by decide) (by decide)), _, rfl, _, _, rfl, rfl, .inl ⟨by decide, by decide⟩, _, _, rfl, rfl, .inl ⟨_, rfl, _, _, rfl, rfl, (by show (0:Int) < _; decide), _, _, rfl, rfl, ⟨by decide, by decide⟩, .inl ⟨_, rfl, _, rfl, _, _, rfl, rfl, n0, ?_⟩⟩⟩
          exact fin _ _ _ _ _ _ F3 o3 (Int.emod_nonneg _ (by omega)) (Int.emod_lt_of_pos _ n0)
      · refine iteF ?_
        refine ⟨_, rfl, .inl ⟨_, rfl, _, _, rfl, rfl, (by show (0:Int) < _; decide), _, rfl, a, _, rfl, dget_of F3.at' F3.kt, _, _, rfl, rfl, .inl ⟨by decide, by decide⟩, _, _, rfl, rfl, _, _, rfl, rfl, .inl ⟨_, rfl, _, _, rfl, rfl, (by show (0:Int) < _; decide), ?_⟩⟩⟩
        refine ⟨_, rfl, _, rfl, _, _, rfl, rfl, .inl (mid _ (by decide) (by decide)), _, rfl, a, _, rfl, dget_of F3.at' F3.kt, _, _, rfl, rfl, .inl ⟨by decide, by decide⟩, _, _, rfl, rfl, _, _, rfl, rfl, .inl ⟨_, rfl, _, _, rfl, rfl, (by show (0:Int) < _; decide), ?_⟩⟩
        refine ⟨_, rfl, _, rfl, _, _, rfl, rfl, .inl (mid _ (by decide) (by decide)), _, rfl, _, _, rfl, rfl, .inl ⟨by decide, by decide⟩, _, _, rfl, rfl, .inl ⟨_, rfl, _, _, rfl, rfl, (by show (0:Int) < _; decide), _, _, rfl, rfl, ⟨by decide, by decide⟩, .inl ⟨_, rfl, _, rfl, _, _, rfl, rfl, n0, ?_⟩⟩⟩
        exact fin _ _ _ _ _ _ F3 o3 (Int.emod_nonneg _ (by omega)) (Int.emod_lt_of_pos _ n0)
    · have : (!ns.isEmpty) = true := by cases ns with | nil => exact absurd rfl hn | cons _ _ => rfl
      rw [this]
      refine iteT ?_
      obtain ⟨c, hc⟩ := atI_mod hn sp
      refine ⟨_, rfl, a, _, rfl, dget_of F3.at' F3.kc, _, rfl, .inl ⟨_, rfl, _, rfl, a, _, rfl, dget_of F3.at' F3.kc, L, _, rfl, .inl (SqL.of F3.cells), _, _, rfl, rfl, ?_, L, _, _, _, rfl, rfl, SqL.of F3.cells, hc, ?_⟩⟩
      · have : 0 < ns.length := List.length_pos_iff.mpr hn
        rw [List.length_map]; omega
      · refine ⟨_, rfl, _, _, rfl, rfl, ⟨by decide, by decide, by decide⟩, _, _, rfl, rfl, _, rfl, ?_⟩
        refine ite2 (fun c1 => ?_) (fun c1 => ?_)
        · refine ⟨_, rfl, _, rfl, a, _, rfl, dget_of F3.at' F3.kc, L, _, rfl, .inl (SqL.of F3.cells), _, _, rfl, rfl, _, rfl, ?_⟩
          refine ite2 (fun c2 => ?_) (fun c2 => ?_)
          · refine ⟨_, rfl, _, rfl, _, _, rfl, rfl, ⟨n0, n1⟩, _, rfl, a, _, rfl, F3.dput "left" _, _, rfl, .inl ⟨_, rfl, _, rfl, _, _, rfl, rfl, n0, ?_⟩⟩
            exact fin _ _ _ _ _ _ (F3.putL (by decide) (by decide) (by decide) _) (fun b o h q => by rw [upd_ne h]; exact o3 b o h q) (Int.emod_nonneg _ (by omega)) (Int.emod_lt_of_pos _ n0)
          · refine ⟨_, rfl, .inl ⟨_, rfl, _, _, rfl, rfl, (by show (0:Int) < _; decide), _, rfl, a, _, rfl, dget_of F3.at' F3.kt, _, _, rfl, rfl, .inl ⟨by decide, by decide⟩, _, _, rfl, rfl, _, _, rfl, rfl, .inl ⟨_, rfl, _, _, rfl, rfl, (by show (0:Int) < _; decide), ?_⟩⟩⟩
            refine ⟨_, rfl, _, rfl, _, _, rfl, rfl, .inl (mid _ (by decide) (by decide)), _, rfl, a, _, rfl, dget_of F3.at' F3.kt, _, _, rfl, rfl, .inl ⟨by decide, by decide⟩, _, _, rfl, rfl, _, _, rfl, rfl, .inl ⟨_, rfl, _, _, rfl, rfl, (by show (0:Int) < _; decide), ?_⟩⟩
            refine ⟨_, rfl, _, rfl, _, _, rfl, rfl, .inl (mid _ (by decide) (by decide)), _, rfl, _, _, rfl, rfl, .inl ⟨by decide, by decide⟩, _, _, rfl, rfl, .inl ⟨_, rfl, _, _, rfl, rfl, (by show (0:Int) < _; decide), _, _, rfl, rfl, ⟨by decide, by decide⟩, .inl ⟨_, rfl, _, rfl, _, _, rfl, rfl, n0, ?_⟩⟩⟩
            exact fin _ _ _ _ _ _ F3 o3 (Int.emod_nonneg _ (by omega)) (Int.emod_lt_of_pos _ n0)
        · refine iteF ?_
          refine ⟨_, rfl, .inl ⟨_, rfl, _, _, rfl, rfl, (by show (0:Int) < _; decide), _, rfl, a, _, rfl, dget_of F3.at' F3.kt, _, _, rfl, rfl, .inl ⟨by decide, by decide⟩, _, _, rfl, rfl, _, _, rfl, rfl, .inl ⟨_, rfl, _, _, rfl, rfl, (by show (0:Int) < _; decide), ?_⟩⟩⟩
          refine ⟨_, rfl, _, rfl, _, _, rfl, rfl, .inl (mid _ (by decide) (by decide)), _, rfl, a, _, rfl, dget_of F3.at' F3.kt, _, _, rfl, rfl, .inl ⟨by decide, by decide⟩, _, _, rfl, rfl, _, _, rfl, rfl, .inl ⟨_, rfl, _, _, rfl, rfl, (by show (0:Int) < _; decide), ?_⟩⟩
          refine ⟨_, rfl, _, rfl, _, _, rfl, rfl, .inl (mid _ (by decide) (by decide)), _, rfl, _, _, rfl, rfl, .inl ⟨by decide, by decide⟩, _, _, rfl, rfl, .inl ⟨_, rfl, _, _, rfl, rfl, (by show (0:Int) < _; decide), _, _, rfl, rfl, ⟨by decide, by decide⟩, .inl ⟨_, rfl, _, rfl, _, _, rfl, rfl, n0, ?_⟩⟩⟩
          exact fin _ _ _ _ _ _ F3 o3 (Int.emod_nonneg _ (by omega)) (Int.emod_lt_of_pos _ n0)
end
end L34

set_option Elab.async false
set_option linter.all false
set_option autoImplicit false
set_option maxRecDepth 100000
set_option maxHeartbeats 1000000
set_option pp.maxSteps 600
namespace L34
open PySem PySem.Spec Dt
open L2 hiding wT wNot
abbrev Ix := Addr × Addr
abbrev F__law_draw := F_draw
/-- a name or a word of the kinds -/
def Nm (x : PyData) : Prop := isName x = true
theorem row_open {r : List PyData} : isRow2 (.str "open") r = (match r with | [a] => isSort a | _ => false) := by
  have t1 : isOneOf (.str "open") [.str "end", .str "stop"] = false := by decide +kernel
  have t2 : isOneOf (.str "open") [.str "let", .str "use"] = false := by decide +kernel
  have t3 : isOneOf (.str "open") [.str "open"] = true := by decide +kernel
  unfold isRow2
  rw [t1, t2, t3, if_neg (by decide), if_neg (by decide), if_pos rfl]
  all_goals rfl
theorem row_give {r : List PyData} : isRow2 (.str "give") r = (match r with | [a] => isKind a | _ => false) := by
  have t1 : isOneOf (.str "give") [.str "end", .str "stop"] = false := by decide +kernel
  have t2 : isOneOf (.str "give") [.str "let", .str "use"] = false := by decide +kernel
  have t3 : isOneOf (.str "give") [.str "open"] = false := by decide +kernel
  have t4 : isOneOf (.str "give") [.str "give"] = true := by decide +kernel
  unfold isRow2
  rw [t1, t2, t3, t4, if_neg (by decide), if_neg (by decide), if_neg (by decide), Bool.true_and]
  all_goals rfl
theorem row_let {w : Str} (hw : w = "let" ∨ w = "use") {a b : PyData} (ha : Nm a) (hb : Nm b) : isRow (.tuple [.str w, a, b]) = true := by
  have ha : isName a = true := ha
  have hb : isName b = true := hb
  show isRow2 (.str w) [a, b] = true
  rcases hw with rfl | rfl
  · have t1 : isOneOf (.str "let") [.str "end", .str "stop"] = false := by decide +kernel
    have t2 : isOneOf (.str "let") [.str "let", .str "use"] = true := by decide +kernel
    unfold isRow2
    rw [t1, t2, if_neg (by decide), if_pos rfl]
    simp [ha, hb]
  · have t1 : isOneOf (.str "use") [.str "end", .str "stop"] = false := by decide +kernel
    have t2 : isOneOf (.str "use") [.str "let", .str "use"] = true := by decide +kernel
    unfold isRow2
    rw [t1, t2, if_neg (by decide), if_pos rfl]
    simp [ha, hb]
theorem row_opn {a : PyData} (ha : isSort a = true) : isRow (.tuple [.str "open", a]) = true := by
  show isRow2 (.str "open") [a] = true
  rw [row_open]; exact ha
theorem row_giv {a : PyData} (ha : isKind a = true) : isRow (.tuple [.str "give", a]) = true := by
  show isRow2 (.str "give") [a] = true
  rw [row_give]; exact ha
theorem kind_nm {a : PyData} (ha : Nm a) : isKind a = true := by
  have ha : isName a = true := ha
  unfold isKind
  rw [ha]; rfl
theorem sort_fun {a : PyData} (ha : isKind a = true) : isSort (.tuple [.str "fun", a]) = true := by
  have t : isOneOf (.str "fun") [.str "fun"] = true := by decide +kernel
  show (isOneOf (.str "fun") [.str "fun"] && isKind a) = true
  rw [t, ha]; rfl
def itemsD : PyData → Option (List PyData)
  | .list xs => some xs
  | .tuple xs => some xs
  | .str x => some (signs x)
  | _ => none
def DrawOk (x : PyData) (Q : PyData → Unit → Prop) : Prop := ∃ n : Int, x = .int n ∧ 0 < n ∧ n < 1073741824 ∧ ∀ k : Int, 0 ≤ k → k < n → Q (.int k) ()
theorem c_draw {i : Ix} {w : DE Unit} {ρ : List Sl} {s : Unit} {Q : PyData → Unit → Prop} {E : Er → Unit → Prop} (h0 : ρ[0]? = some (.raw (.ref i.1)))
    (hw : w ρ s (fun d _ => DrawOk d Q) E) : wCallW (fun as s Q E => as.length = 2 ∧ F_draw i as s Q E) (wRaw 0 (wCons w wNil)) ρ s Q E := by
  have e : wCallW (fun as s Q E => as.length = 2 ∧ F_draw i as s Q E) (wRaw 0 (wCons w wNil)) ρ s Q E = w ρ s (fun d _ => DrawOk d Q) E := by
    unfold wCallW wRaw
    rw [h0]
    show w ρ s (fun x s1 => ([Ag.raw (.ref i.1), Ag.d x].length = 2 ∧ F_draw i [.raw (.ref i.1), .d x] s1 Q E)) E = _
    congr 1
    funext x s1
    apply propext
    constructor
    · rintro ⟨_, n, h1, h2⟩
      injection h1 with _ h1
      injection h1 with h1 _
      injection h1 with h1
      exact ⟨n, h1, h2⟩
    · rintro ⟨n, rfl, h2⟩
      exact ⟨rfl, n, rfl, h2⟩
  rw [e]; exact hw
theorem c_drawN {j : Nat} {i : Ix} {w : DE Unit} {ρ : List Sl} {s : Unit} {Q : PyData → Unit → Prop} {E : Er → Unit → Prop} (h0 : ρ[j]? = some (.raw (.ref i.1)))
    (hw : w ρ s (fun d _ => DrawOk d Q) E) : wCallW (fun as s Q E => as.length = 2 ∧ F_draw i as s Q E) (wRaw j (wCons w wNil)) ρ s Q E := by
  have e : wCallW (fun as s Q E => as.length = 2 ∧ F_draw i as s Q E) (wRaw j (wCons w wNil)) ρ s Q E = w ρ s (fun d _ => DrawOk d Q) E := by
    unfold wCallW wRaw
    rw [h0]
    show w ρ s (fun x s1 => ([Ag.raw (.ref i.1), Ag.d x].length = 2 ∧ F_draw i [.raw (.ref i.1), .d x] s1 Q E)) E = _
    congr 1
    funext x s1
    apply propext
    constructor
    · rintro ⟨_, n, h1, h2⟩
      injection h1 with _ h1
      injection h1 with h1 _
      injection h1 with h1
      exact ⟨n, h1, h2⟩
    · rintro ⟨n, rfl, h2⟩
      exact ⟨rfl, n, rfl, h2⟩
  rw [e]; exact hw
theorem atI_mem {ys : List PyData} {k : Int} (h0 : 0 ≤ k) (h1 : k < ys.length) : ∃ y, y ∈ ys ∧ atI ys k = some y := by
  obtain ⟨m, rfl⟩ : ∃ m : Nat, k = (m : Int) := ⟨k.toNat, by omega⟩
  have hk : m < ys.length := by omega
  exact ⟨ys[m], List.getElem_mem hk, atI_nat (by rw [List.getElem?_eq_getElem hk])⟩
theorem atI_sign {x : Str} {k : Int} (h0 : 0 ≤ k) (h1 : k < x.length) : ∃ c, PyData.str ⟨#[c]⟩ ∈ signs x ∧ atI x.cps.toList k = some c := by
  obtain ⟨m, rfl⟩ : ∃ m : Nat, k = (m : Int) := ⟨k.toNat, by omega⟩
  have hl : x.length = x.cps.toList.length := by show x.cps.size = _; simp
  have hk : m < x.cps.toList.length := by omega
  exact ⟨x.cps.toList[m], List.mem_map.mpr ⟨_, List.getElem_mem hk, rfl⟩, atI_nat (by rw [List.getElem?_eq_getElem hk])⟩
theorem comp_prop {S : Type} {g : DG} {we : DE S} {vs : List Nat} {ρ : List Sl} (R : PyData → Prop) (ds : List PyData) (s : S) (Q : List PyData → S → Prop)
    (hd : ∀ d ∈ ds, ∀ (s : S) (Y : PyData → S → Prop), (∀ y s', R y → Y y s') → g d ρ fun ρ1 => noOwn ρ1 vs = true ∧ we ρ1 s Y noE)
    (h : ∀ ys s', ys.length = ds.length → (∀ y ∈ ys, R y) → Q ys s') : wCompL g wYes we vs ρ ds s Q :=
  comp_rel (fun _ y => R y) ds s Q hd fun ys s' b => h ys s' b.length (b.all fun _ _ r => r)
theorem raw_of {S : Type} {j : Nat} {r : DA S} {ρ : List Sl} {s : S} {Q : List Ag → S → Prop} {E : Er → S → Prop} {v : V} (h0 : ρ[j]? = some (.raw v)) (h : r ρ s (fun as s2 => Q (.raw v :: as) s2) E) : wRaw j r ρ s Q E := by
  unfold wRaw
  rw [h0]; exact h
theorem ownE_of {S : Type} {i : Nat} {f : List PyData → (PyData → Prop) → Prop} {ρ : List Sl} {s : S} {Q : PyData → S → Prop} {E : Er → S → Prop} {p : Addr} {xs : List PyData} (h0 : ρ[i]? = some (.own p xs)) (h : f xs fun z => Q z s) : wOwnE i f ρ s Q E := by
  unfold wOwnE
  rw [h0]; exact h
theorem parG_of {S : Type} {i j : Nat} {w : DE S} {v : DL S} {ρ : List Sl} {s : S} {D : DEnds S} (h : w ρ s (fun d s1 => v ρ s1 (fun ds s2 => ∀ p, D.nx ((ρ.set j (.own p ds)).set i (.d d)) s2) fun e s' => D.er e ρ s') fun e s' => D.er e ρ s') : wParG i j w v ρ s D := h
theorem gtI_of {i j : Int} {Q : PyData → Prop} (h : Q (.bool (decide (i > j)))) : dGt (.int i) (.int j) Q := h
theorem ltI_of {i j : Int} {Q : PyData → Prop} (h : Q (.bool (decide (i < j)))) : dLt (.int i) (.int j) Q := h
theorem neI_of {i j : Int} {Q : PyData → Prop} (h : Q (.bool (!decide (i = j)))) : dNe (.int i) (.int j) Q := ⟨shp_i _, shp_i _, by rw [eqv_ii]; exact h⟩
section
variable {P : Program} {w : World} {K : PySem.W.Frag} {mg : Str → Option Value} {base : Heap} {T : List (Addr × Str)} {cNU : Addr}
/-! ## _law_menu -/
abbrev s__law_menu : Stmt := top 35
theorem sc__law_menu : FnScope ["_law_feed_here", "_law_menu_in"] ["_law_feed_here"] (defScope s__law_menu) := ⟨rfl, rfl, rfl, by decide +kernel, rfl, by decide +kernel, by decide +kernel⟩
def F__law_menu : Ix → List Ag → Unit → (PyData → Unit → Prop) → (Er → Unit → Prop) → Prop := fun i as _ Q _ => as = [.raw (.ref i.1)] ∧ ∀ n0 n1 k0 k1 k2 : PyData, Nm n0 → Nm n1 → Nm k0 → Nm k1 → Nm k2 → Q (.tuple [.list [n0, n1], .list [k0, k1, k2]]) ()
def w__law_menu (i : Ix) : DS Unit :=
  (wSeq (wSetF 1 (wLst (wCons (wTup (wCons (wL (wLst (wCons (wC (.str "x")) (wCons (wC (.str "y")) wNil)))) (wCons (wL (wLst (wCons (wC (.str "a")) (wCons (wC (.str "b")) (wCons (wC (.str "c")) wNil))))) wNil))) (wCons (wTup (wCons (wL (wLst (wCons (wC (.str "let")) (wCons (wC (.str "end")) wNil)))) (wCons (wL (wLst (wCons (wC (.str "num")) (wCons (wC (.str "text")) (wCons (wC (.str "x")) wNil))))) wNil))) wNil))))
  (wSeq (wApp 1 (wTup (wCons (wL (wLst (wCons (wC (.str "abcdefgh")) (wCons (wC (.str "a")) wNil)))) (wCons (wL (wLst (wCons (wC (.str "a")) (wCons (wC (.str "zzzzzzzz")) (wCons (wC (.str "fun")) wNil))))) wNil))))
  (wFreeze 1 (wRet (wOp dIdx (wVar 1) (wCallW (fun as s Q E => as.length = 2 ∧ F__law_draw i as s Q E) (wRaw 0 (wCons (wCB fLen (wCons (wVar 1) wNil)) wNil))))))))
theorem spec__law_menu : ∀ (i : Ix) as s Qd Ed, as.length = 1 → F__law_menu i as s Qd Ed → w__law_menu i (argS 1 2 (as.map toSl)) s (endW Qd Ed) := by
  rintro i as s Qd Ed _ ⟨rfl, hq⟩
  unfold w__law_menu
  show wSeq _ _ [.raw (.ref i.1), .no] s _
  refine seq_of (setF_of (lst_of ?_))
  simp only [wTup, wL, wLst, wCons, wC, wNil, allK]
  iterate 7 refine And.intro (few_lim (by simp)) ?_
  intro p
  dsimp only [List.set]
  refine seq_of (app_of (p := p) rfl ?_)
  simp only [wTup, wL, wLst, wCons, wC, wNil, allK]
  iterate 3 refine And.intro (few_lim (by simp)) ?_
  refine ⟨by simp [limL_eq], ?_⟩
  dsimp only [List.set, List.cons_append, List.nil_append]
  refine freeze_of (i := 1) (p := p) rfl ?_
  dsimp only [List.set]
  refine ret_of (op_of (var_of rfl (c_drawN rfl (cb1_of (var_of rfl (len_lst ⟨3, rfl, by omega, by omega, fun m m0 m1 => ?_⟩))))))
  have hm : m = 0 ∨ m = 1 ∨ m = 2 := by omega
  rcases hm with rfl | rfl | rfl
  · exact ⟨_, atI_nat (j := 0) rfl, hq _ _ _ _ _ (by unfold Nm; decide +kernel) (by unfold Nm; decide +kernel) (by unfold Nm; decide +kernel) (by unfold Nm; decide +kernel) (by unfold Nm; decide +kernel)⟩
  · exact ⟨_, atI_nat (j := 1) rfl, hq _ _ _ _ _ (by unfold Nm; decide +kernel) (by unfold Nm; decide +kernel) (by unfold Nm; decide +kernel) (by unfold Nm; decide +kernel) (by unfold Nm; decide +kernel)⟩
  · exact ⟨_, atI_nat (j := 2) rfl, hq _ _ _ _ _ (by unfold Nm; decide +kernel) (by unfold Nm; decide +kernel) (by unfold Nm; decide +kernel) (by unfold Nm; decide +kernel) (by unfold Nm; decide +kernel)⟩
theorem ok__law_menu {f : Addr} {fd : FuncData} (Fu : Fun K "_law_menu" "_law_menu" s__law_menu f fd) (hm : mg "_law_menu" = some (.ref f)) (hb : Binds K fd ["_law_feed_here"] []) (B : Bt mg) (D__law_draw : Df P w K mg base CX0 1 "_law_draw" 2 (spI K (Wf T) 2 F__law_draw)) : Df P w K mg base CX0 2 "_law_menu" 1 (spI K (Wf T) 1 F__law_menu) :=
  ⟨f, fd, ["_law_feed_here"], rfl, hm, Fu.kp, hb, fnI (wb := w__law_menu) Fu sc__law_menu rfl (fun i cdv A outer s H E hG hr => ⟨_,
  (sd_cons (sd_setF 1 sc__law_menu.nd rfl (by first | exact .inl rfl | exact .inr rfl) (fd_lst (ad_cons (ed_tup (ad_cons (ed_new (fd_lst (ad_cons ed_str (ad_cons ed_str ad_nil)))) (ad_cons (ed_new (fd_lst (ad_cons ed_str (ad_cons ed_str (ad_cons ed_str ad_nil))))) ad_nil))) (ad_cons (ed_tup (ad_cons (ed_new (fd_lst (ad_cons ed_str (ad_cons ed_str ad_nil)))) (ad_cons (ed_new (fd_lst (ad_cons ed_str (ad_cons ed_str (ad_cons ed_str ad_nil))))) ad_nil))) ad_nil))))
  (sd_cons (sd_append 1 (ed_tup (ad_cons (ed_new (fd_lst (ad_cons ed_str (ad_cons ed_str ad_nil)))) (ad_cons (ed_new (fd_lst (ad_cons ed_str (ad_cons ed_str (ad_cons ed_str ad_nil))))) ad_nil))))
  (sd_freeze 1 (sd_one (sd_ret (e_ix (ed_var 1) (e_callI D__law_draw hG (hr.mono (by decide)) pass00 (ad_raw 0 (ad_cons (e_len B (ad_cons (ed_var 1) ad_nil)) ad_nil)))))))))⟩) (spec__law_menu)⟩
/-! ## _law_sort -/
abbrev s__law_sort : Stmt := top 36
theorem sc__law_sort : FnScope ["_law_feed_here", "_law_kinds", "_law_k"] ["_law_feed_here", "_law_kinds"] (defScope s__law_sort) := ⟨rfl, rfl, rfl, by decide +kernel, rfl, by decide +kernel, by decide +kernel⟩
/-- a sort, and small -/
def SortOk (y : PyData) : Prop := isSort y = true ∧ wg y ≤ 300 ∧ PyData.depth y ≤ 2
def F__law_sort : Ix → List Ag → Unit → (PyData → Unit → Prop) → (Er → Unit → Prop) → Prop := fun i as _ Q _ => ∃ k0 k1 k2, as = [.raw (.ref i.1), .d (.list [k0, k1, k2])] ∧ Nm k0 ∧ Nm k1 ∧ ∀ y, SortOk y → Q y ()
def w__law_sort (i : Ix) : DS Unit :=
  (wRet (wOp dIdx (wOp dAdd (wOp dAdd (wL (wLst (wCons (wC (.str "if")) (wCons (wC (.str "loop")) wNil)))) (wL (wComp (wRng1 (wCons (wC (.int 2)) wNil)) (gN 2) wYes (wTup (wCons (wC (.str "fun")) (wCons (wOp dIdx (wVar 1) (wVar 2)) wNil))) [2]))) (wL (wLst (wCons (wTup (wCons (wC (.str "fun")) (wCons (wC (.str "")) wNil))) wNil)))) (wCallW (fun as s Q E => as.length = 2 ∧ F__law_draw i as s Q E) (wRaw 0 (wCons (wC (.int 5)) wNil)))))
theorem nm_w {x : PyData} (h : Nm x) : ∃ t : Str, x = .str t ∧ t.length ≤ 8 := by
  cases x with
  | str t =>
    have h : (decide (1 ≤ t.length) && decide (t.length ≤ 8) && t.cps.toList.all fun c => isLet ⟨#[c]⟩) = true := h
    simp only [Bool.and_eq_true, decide_eq_true_eq] at h
    exact ⟨t, rfl, by omega⟩
  | _ => exact absurd h (by simp [Nm, isName])
/-- a name, or the empty word -/
def Nm0 (x : PyData) : Prop := Nm x ∨ x = .str ""
theorem nm0_w {x : PyData} (h : Nm0 x) : ∃ t : Str, x = .str t ∧ t.length ≤ 8 := by
  rcases h with h | rfl
  · exact nm_w h
  · exact ⟨_, rfl, by decide +kernel⟩
theorem nm0_kind {x : PyData} (h : Nm0 x) : isKind x = true := by
  rcases h with h | rfl
  · exact kind_nm h
  · decide +kernel
theorem sort_if : SortOk (.str "if") := by unfold SortOk; decide +kernel
theorem sort_loop : SortOk (.str "loop") := by unfold SortOk; decide +kernel
theorem sort_fn {x : PyData} (h : Nm0 x) : SortOk (.tuple [.str "fun", x]) := by
  refine ⟨sort_fun (nm0_kind h), ?_⟩
  obtain ⟨t, rfl, ht⟩ := nm0_w h
  have f : ("fun" : Str).length ≤ 4 := by decide +kernel
  refine ⟨?_, ?_⟩
  · simp only [wg, wgAll]; omega
  · simp only [PyData.depth, PyData.depthAll]; omega
theorem spec__law_sort : ∀ (i : Ix) as s Qd Ed, as.length = 2 → F__law_sort i as s Qd Ed → w__law_sort i (argS 2 3 (as.map toSl)) s (endW Qd Ed) := by
  rintro i as s Qd Ed _ ⟨k0, k1, k2, rfl, h0, h1, hq⟩
  unfold w__law_sort
  show wRet _ [.raw (.ref i.1), .d (.list [k0, k1, k2]), .no] s _
  refine ret_of (op_of (op_of (op_of (l_of (lst_of (cons_of (c_of (cons_of (c_of (nil_of ⟨few_lim (by simp), l_of (comp_of rfl (rng1_of (c_of ⟨by decide, by decide, ?_⟩)))⟩))))))))))
  refine comp_prop (fun y => ∃ k, y = .tuple [.str "fun", k] ∧ Nm0 k) _ _ _ (fun d hd s Y y => ⟨rfl, ?_⟩) (fun ys s1 yl yo => ?_)
  · obtain ⟨m, hm, rfl⟩ := List.mem_map.mp hd
    have hm := List.mem_range.mp hm
    have hm : m = 0 ∨ m = 1 := by
      have : ((2 : Int)).toNat = 2 := rfl
      omega
    rcases hm with rfl | rfl
    · exact tup_of (cons_of (c_of (cons_of (op_of (var_of rfl (var_of rfl ⟨k0, atI_nat (j := 0) rfl, nil_of ⟨few_lim (by simp), y _ _ ⟨_, rfl, .inl h0⟩⟩⟩))))))
    · exact tup_of (cons_of (c_of (cons_of (op_of (var_of rfl (var_of rfl ⟨k1, atI_nat (j := 1) rfl, nil_of ⟨few_lim (by simp), y _ _ ⟨_, rfl, .inl h1⟩⟩⟩))))))
  · have yl : ys.length = 2 := yl
    refine dAdd_lst' (few_lim (by rw [List.length_append, yl]; decide)) (l_of (lst_of ?_))
    simp only [wTup, wCons, wC, wNil, allK]
    iterate 2 refine And.intro (few_lim (by simp)) ?_
    refine dAdd_lst' (few_lim (by rw [List.length_append, List.length_append, yl]; decide)) (c_drawN rfl (c_of ⟨5, rfl, by omega, by omega, fun m m0 m1 => ?_⟩))
    obtain ⟨y, hy, e⟩ := atI_mem (ys := ([PyData.str "if", .str "loop"] ++ ys) ++ [.tuple [.str "fun", .str ""]]) m0 (by simp [yl]; omega)
    refine ⟨y, e, hq y ?_⟩
    rcases List.mem_append.mp hy with hy | hy
    · rcases List.mem_append.mp hy with hy | hy
      · simp only [List.mem_cons, List.not_mem_nil, or_false] at hy
        rcases hy with rfl | rfl
        · exact sort_if
        · exact sort_loop
      · obtain ⟨k, rfl, hk⟩ := yo y hy
        exact sort_fn hk
    · rw [List.mem_singleton.mp hy]; exact sort_fn (.inr rfl)
theorem ok__law_sort {f : Addr} {fd : FuncData} (Fu : Fun K "_law_sort" "_law_sort" s__law_sort f fd) (hm : mg "_law_sort" = some (.ref f)) (hb : Binds K fd ["_law_feed_here", "_law_kinds"] []) (B : Bt mg) (D__law_draw : Df P w K mg base CX0 1 "_law_draw" 2 (spI K (Wf T) 2 F__law_draw)) : Df P w K mg base CX0 2 "_law_sort" 2 (spI K (Wf T) 2 F__law_sort) :=
  ⟨f, fd, ["_law_feed_here", "_law_kinds"], rfl, hm, Fu.kp, hb, fnI (wb := w__law_sort) Fu sc__law_sort rfl (fun i cdv A outer s H E hG hr => ⟨_,
  (sd_one (sd_ret (e_ix (e_add (e_add (ed_new (fd_lst (ad_cons ed_str (ad_cons ed_str ad_nil)))) (ed_new (fd_lc rfl sc__law_sort.nd (own := [("_law_k", 2)]) (i_rng1 B (ad_cons ed_int ad_nil)) (blkOk_by (own := [("_law_k", 2)]) (N := ["_law_feed_here", "_law_kinds", "_law_k"]) (sc := defScope s__law_sort) (by decide +kernel))
    (fun _ _ _ _ _ => (gd_name 2 sc__law_sort.nd rfl (by first | exact .inl rfl | exact .inr rfl))) (fun _ _ _ _ _ => ptd_nil) (fun _ _ _ _ _ => (ed_tup (ad_cons ed_str (ad_cons (e_ix (ed_var 1) (ed_var 2)) ad_nil)))) (by simp)))) (ed_new (fd_lst (ad_cons (ed_tup (ad_cons ed_str (ad_cons ed_str ad_nil))) ad_nil)))) (e_callI D__law_draw hG (hr.mono (by decide)) pass00 (ad_raw 0 (ad_cons ed_int ad_nil))))))⟩) (spec__law_sort)⟩
/-! ## _law_item -/
abbrev s__law_item : Stmt := top 37
theorem sc__law_item : FnScope ["_law_feed_here", "_law_names", "_law_kinds", "_law_taste", "_law_x", "_law_kind_in", "_law_by_name", "_law_by_fun", "_law_menu_in"] ["_law_feed_here", "_law_names", "_law_kinds", "_law_taste"] (defScope s__law_item) := ⟨rfl, rfl, rfl, by decide +kernel, rfl, by decide +kernel, by decide +kernel⟩
/-- a row, and small -/
def GoodRow (y : PyData) : Prop := isRow y = true ∧ wg y ≤ 500 ∧ PyData.depth y ≤ 3
def F__law_item : Ix → List Ag → Unit → (PyData → Unit → Prop) → (Er → Unit → Prop) → Prop := fun i as _ Q _ => ∃ n0 n1 k0 k1 k2, ∃ t : Int, as = [.raw (.ref i.1), .d (.list [n0, n1]), .d (.list [k0, k1, k2]), .d (.int t)] ∧ Nm n0 ∧ Nm n1 ∧ Nm k0 ∧ Nm k1 ∧ Nm k2 ∧ 0 ≤ t ∧ t < 3 ∧ ∀ y, GoodRow y → Q y ()
def w__law_item (i : Ix) : DS Unit :=
  (wSeq (wPar 4 5 (wCons (wOp dIdx (wVar 1) (wCB fInt2 (wCons (wOp dEq (wCallW (fun as s Q E => as.length = 2 ∧ F__law_draw i as s Q E) (wRaw 0 (wCons (wC (.int 4)) wNil))) (wC (.int 0))) wNil))) (wCons (wOp dIdx (wVar 2) (wCallW (fun as s Q E => as.length = 2 ∧ F__law_draw i as s Q E) (wRaw 0 (wCons (wC (.int 3)) wNil)))) wNil)))
  (wSeq (wSetF 6 (wLst (wCons (wTup (wCons (wC (.str "use")) (wCons (wVar 4) (wCons (wVar 5) wNil)))) (wCons (wTup (wCons (wC (.str "use")) (wCons (wVar 4) (wCons (wVar 5) wNil)))) (wCons (wTup (wCons (wC (.str "let")) (wCons (wVar 4) (wCons (wVar 5) wNil)))) (wCons (wTup (wCons (wC (.str "let")) (wCons (wVar 4) (wCons (wVar 5) wNil)))) wNil))))))
  (wSeq (wApp 6 (wTup (wCons (wC (.str "use")) (wCons (wVar 4) (wCons (wOp dIdx (wVar 2) (wC (.int 0))) wNil)))))
  (wFreeze 6 (wSeq (wAsg (wL (wLst (wCons (wTup (wCons (wC (.str "give")) (wCons (wVar 5) wNil))) (wCons (wTup (wCons (wC (.str "give")) (wCons (wVar 5) wNil))) (wCons (wTup (wCons (wC (.str "stop")) wNil)) (wCons (wTup (wCons (wC (.str "stop")) wNil)) (wCons (wTup (wCons (wC (.str "give")) (wCons (wC (.str "")) wNil))) wNil))))))) (gN 7))
  (wSeq (wAsg (wOp dIdx (wL (wLst (wCons (wVar 6) (wCons (wVar 7) (wCons (wOp dAdd (wVar 6) (wVar 7)) wNil))))) (wVar 3)) (gN 8))
  (wRet (wOp dIdx (wVar 8) (wCallW (fun as s Q E => as.length = 2 ∧ F__law_draw i as s Q E) (wRaw 0 (wCons (wCB fLen (wCons (wVar 8) wNil)) wNil)))))))))))
theorem good_opn {x : PyData} (h : SortOk x) : GoodRow (.tuple [.str "open", x]) := by
  obtain ⟨h1, h2, h3⟩ := h
  have f : ("open" : Str).length ≤ 4 := by decide +kernel
  refine ⟨row_opn h1, ?_, ?_⟩
  · simp only [wg, wgAll]; omega
  · simp only [PyData.depth, PyData.depthAll]; omega
theorem good_giv {x : PyData} (h : Nm0 x) : GoodRow (.tuple [.str "give", x]) := by
  have f : ("give" : Str).length ≤ 4 := by decide +kernel
  refine ⟨row_giv (nm0_kind h), ?_⟩
  obtain ⟨t, rfl, ht⟩ := nm0_w h
  refine ⟨?_, ?_⟩
  · simp only [wg, wgAll]; omega
  · simp only [PyData.depth, PyData.depthAll]; omega
theorem good_let {w : Str} (hw : w = "let" ∨ w = "use") {x y : PyData} (hx : Nm x) (hy : Nm y) : GoodRow (.tuple [.str w, x, y]) := by
  have f : w.length ≤ 4 := by rcases hw with rfl | rfl <;> decide +kernel
  refine ⟨row_let hw hx hy, ?_⟩
  obtain ⟨t, rfl, ht⟩ := nm_w hx
  obtain ⟨u, rfl, hu⟩ := nm_w hy
  refine ⟨?_, ?_⟩
  · simp only [wg, wgAll]; omega
  · simp only [PyData.depth, PyData.depthAll]; omega
theorem good_end : GoodRow (.tuple [.str "end"]) := by
  have f : ("end" : Str).length ≤ 4 := by decide +kernel
  refine ⟨by decide +kernel, ?_, ?_⟩
  · simp only [wg, wgAll]; omega
  · simp only [PyData.depth, PyData.depthAll]; omega
theorem good_stop : GoodRow (.tuple [.str "stop"]) := by
  have f : ("stop" : Str).length ≤ 4 := by decide +kernel
  refine ⟨by decide +kernel, ?_, ?_⟩
  · simp only [wg, wgAll]; omega
  · simp only [PyData.depth, PyData.depthAll]; omega
theorem item_tail {i : Ix} {n0 n1 k0 k1 k2 x k : PyData} {t : Int} {Qd : PyData → Unit → Prop} {Ed : Er → Unit → Prop} (hn0 : Nm n0) (hn1 : Nm n1) (hk0 : Nm k0) (hk1 : Nm k1) (hk2 : Nm k2) (hx : Nm x) (hk : Nm k) (t0 : 0 ≤ t) (t3 : t < 3) (hq : ∀ y, GoodRow y → Qd y ()) : (wSeq (wSetF 6 (wLst (wCons (wTup (wCons (wC (.str "use")) (wCons (wVar 4) (wCons (wVar 5) wNil)))) (wCons (wTup (wCons (wC (.str "use")) (wCons (wVar 4) (wCons (wVar 5) wNil)))) (wCons (wTup (wCons (wC (.str "let")) (wCons (wVar 4) (wCons (wVar 5) wNil)))) (wCons (wTup (wCons (wC (.str "let")) (wCons (wVar 4) (wCons (wVar 5) wNil)))) wNil))))))
  (wSeq (wApp 6 (wTup (wCons (wC (.str "use")) (wCons (wVar 4) (wCons (wOp dIdx (wVar 2) (wC (.int 0))) wNil)))))
  (wFreeze 6 (wSeq (wAsg (wL (wLst (wCons (wTup (wCons (wC (.str "give")) (wCons (wVar 5) wNil))) (wCons (wTup (wCons (wC (.str "give")) (wCons (wVar 5) wNil))) (wCons (wTup (wCons (wC (.str "stop")) wNil)) (wCons (wTup (wCons (wC (.str "stop")) wNil)) (wCons (wTup (wCons (wC (.str "give")) (wCons (wC (.str "")) wNil))) wNil))))))) (gN 7))
  (wSeq (wAsg (wOp dIdx (wL (wLst (wCons (wVar 6) (wCons (wVar 7) (wCons (wOp dAdd (wVar 6) (wVar 7)) wNil))))) (wVar 3)) (gN 8))
  (wRet (wOp dIdx (wVar 8) (wCallW (fun as s Q E => as.length = 2 ∧ F__law_draw i as s Q E) (wRaw 0 (wCons (wCB fLen (wCons (wVar 8) wNil)) wNil)))))))))) [.raw (.ref i.1), .d (.list [n0, n1]), .d (.list [k0, k1, k2]), .d (.int t), .d x, .d k, .no, .no, .no] () (endW Qd Ed) := by
  refine seq_of (setF_of (lst_of ?_))
  simp only [wTup, wCons, wC, wNil, wVar, allK, List.getElem?_cons_succ, List.getElem?_cons_zero]
  iterate 5 refine And.intro (few_lim (by simp)) ?_
  intro p
  dsimp only [List.set]
  refine seq_of (app_of (p := p) rfl (tup_of (cons_of (c_of (cons_of (var_of rfl (cons_of (op_of (var_of rfl (c_of ⟨k0, atI_0, nil_of ⟨few_lim (by simp), by simp [limL_eq], ?_⟩⟩))))))))))
  dsimp only [List.set, List.cons_append, List.nil_append]
  refine freeze_of (i := 6) (p := p) rfl ?_
  dsimp only [List.set]
  refine seq_of (asg_of (l_of (lst_of ?_)))
  simp only [wTup, wCons, wC, wNil, wVar, allK, List.getElem?_cons_succ, List.getElem?_cons_zero]
  iterate 6 refine And.intro (few_lim (by simp)) ?_
  dsimp only [gN, List.set]
  have hA : ∀ y ∈ [PyData.tuple [.str "use", x, k], .tuple [.str "use", x, k], .tuple [.str "let", x, k], .tuple [.str "let", x, k], .tuple [.str "use", x, k0]], GoodRow y := fun y hy => by
    simp only [List.mem_cons, List.not_mem_nil, or_false] at hy
    rcases hy with rfl | rfl | rfl | rfl | rfl
    · exact good_let (.inr rfl) hx hk
    · exact good_let (.inr rfl) hx hk
    · exact good_let (.inl rfl) hx hk
    · exact good_let (.inl rfl) hx hk
    · exact good_let (.inr rfl) hx hk0
  have hB : ∀ y ∈ [PyData.tuple [.str "give", k], .tuple [.str "give", k], .tuple [.str "stop"], .tuple [.str "stop"], .tuple [.str "give", .str ""]], GoodRow y := fun y hy => by
    simp only [List.mem_cons, List.not_mem_nil, or_false] at hy
    rcases hy with rfl | rfl | rfl | rfl | rfl
    · exact good_giv (.inl hk)
    · exact good_giv (.inl hk)
    · exact good_stop
    · exact good_stop
    · exact good_giv (.inr rfl)
  have lA : [PyData.tuple [.str "use", x, k], .tuple [.str "use", x, k], .tuple [.str "let", x, k], .tuple [.str "let", x, k], .tuple [.str "use", x, k0]].length = 5 := rfl
  have lB : [PyData.tuple [.str "give", k], .tuple [.str "give", k], .tuple [.str "stop"], .tuple [.str "stop"], .tuple [.str "give", .str ""]].length = 5 := rfl
  generalize [PyData.tuple [.str "use", x, k], .tuple [.str "use", x, k], .tuple [.str "let", x, k], .tuple [.str "let", x, k], .tuple [.str "use", x, k0]] = A at hA lA
  generalize [PyData.tuple [.str "give", k], .tuple [.str "give", k], .tuple [.str "stop"], .tuple [.str "stop"], .tuple [.str "give", .str ""]] = B at hB lB
  refine seq_of (asg_of (op_of (l_of (lst_of (cons_of (var_of rfl (cons_of (var_of rfl (cons_of (op_of (var_of rfl (var_of rfl (dAdd_lst' (few_lim (by simp [lA, lB])) (nil_of ⟨few_lim (by simp), var_of rfl ?_⟩))))))))))))))
  have fin : ∀ C : List PyData, (∀ y ∈ C, GoodRow y) → 0 < C.length → C.length ≤ 10 → wRet (wOp dIdx (wVar 8) (wCallW (fun as s Q E => as.length = 2 ∧ F__law_draw i as s Q E) (wRaw 0 (wCons (wCB fLen (wCons (wVar 8) wNil)) wNil)))) [.raw (.ref i.1), .d (.list [n0, n1]), .d (.list [k0, k1, k2]), .d (.int t), .d x, .d k, .d (.list A), .d (.list B), .d (.list C)] () (endW Qd Ed) := fun C hC c0 c1 => by
    refine ret_of (op_of (var_of rfl (c_drawN rfl (cb1_of (var_of rfl (len_lst ⟨C.length, rfl, by omega, by omega, fun m m0 m1 => ?_⟩))))))
    obtain ⟨y, hy, e⟩ := atI_mem m0 m1
    exact ⟨y, e, hq y (hC y hy)⟩
  have ht : t = 0 ∨ t = 1 ∨ t = 2 := by omega
  rcases ht with rfl | rfl | rfl
  · exact ⟨_, atI_nat (j := 0) rfl, fin A hA (by omega) (by omega)⟩
  · exact ⟨_, atI_nat (j := 1) rfl, fin B hB (by omega) (by omega)⟩
  · exact ⟨_, atI_nat (j := 2) rfl, fin (A ++ B) (fun y hy => (List.mem_append.mp hy).elim (hA y) (hB y)) (by rw [List.length_append]; omega) (by rw [List.length_append]; omega)⟩
theorem spec__law_item : ∀ (i : Ix) as s Qd Ed, as.length = 4 → F__law_item i as s Qd Ed → w__law_item i (argS 4 9 (as.map toSl)) s (endW Qd Ed) := by
  rintro i as s Qd Ed _ ⟨n0, n1, k0, k1, k2, t, rfl, hn0, hn1, hk0, hk1, hk2, t0, t3, hq⟩
  unfold w__law_item
  show wSeq _ _ [.raw (.ref i.1), .d (.list [n0, n1]), .d (.list [k0, k1, k2]), .d (.int t), .no, .no, .no, .no, .no] s _
  refine seq_gen fun D1 hnx _ _ => par_of (cons_of (op_of (var_of rfl (cb1_of (op_of (c_drawN rfl (c_of ⟨4, rfl, by omega, by omega, fun a a0 a1 => c_of (eqI_of ?_)⟩)))))))
  have tail : ∀ x k, Nm x → Nm k → D1.nx [.raw (.ref i.1), .d (.list [n0, n1]), .d (.list [k0, k1, k2]), .d (.int t), .d x, .d k, .no, .no, .no] () := fun x k hx hk => by
    refine hnx _ _ ?_
    exact item_tail hn0 hn1 hk0 hk1 hk2 hx hk t0 t3 hq
  have pick : ∀ x, Nm x → wCons (wOp dIdx (wVar 2) (wCallW (fun as s Q E => as.length = 2 ∧ F__law_draw i as s Q E) (wRaw 0 (wCons (wC (.int 3)) wNil)))) wNil [.raw (.ref i.1), .d (.list [n0, n1]), .d (.list [k0, k1, k2]), .d (.int t), .no, .no, .no, .no, .no] () (fun as s2 => allK (Ag.d x :: as) fun ds => match ds with
      | [a, b] => D1.nx (([Sl.raw (.ref i.1), .d (.list [n0, n1]), .d (.list [k0, k1, k2]), .d (.int t), .no, .no, .no, .no, .no].set 4 (.d a)).set 5 (.d b)) s2
      | _ => False) (fun e s' => D1.er e [.raw (.ref i.1), .d (.list [n0, n1]), .d (.list [k0, k1, k2]), .d (.int t), .no, .no, .no, .no, .no] s') := fun x hx => by
    refine cons_of (op_of (var_of rfl (c_drawN rfl (c_of ⟨3, rfl, by omega, by omega, fun b b0 b1 => ?_⟩))))
    have hb : b = 0 ∨ b = 1 ∨ b = 2 := by omega
    rcases hb with rfl | rfl | rfl
    · exact ⟨k0, atI_nat (j := 0) rfl, nil_of (tail x k0 hx hk0)⟩
    · exact ⟨k1, atI_nat (j := 1) rfl, nil_of (tail x k1 hx hk1)⟩
    · exact ⟨k2, atI_nat (j := 2) rfl, nil_of (tail x k2 hx hk2)⟩
  by_cases c : a = 0
  · rw [decide_eq_true c]
    exact ⟨n1, atI_nat (j := 1) rfl, pick n1 hn1⟩
  · rw [decide_eq_false c]
    exact ⟨n0, atI_nat (j := 0) rfl, pick n0 hn0⟩
theorem ok__law_item {f : Addr} {fd : FuncData} (Fu : Fun K "_law_item" "_law_item" s__law_item f fd) (hm : mg "_law_item" = some (.ref f)) (hb : Binds K fd ["_law_feed_here", "_law_names", "_law_kinds", "_law_taste"] []) (B : Bt mg) (D__law_draw : Df P w K mg base CX0 1 "_law_draw" 2 (spI K (Wf T) 2 F__law_draw)) : Df P w K mg base CX0 2 "_law_item" 4 (spI K (Wf T) 4 F__law_item) :=
  ⟨f, fd, ["_law_feed_here", "_law_names", "_law_kinds", "_law_taste"], rfl, hm, Fu.kp, hb, fnI (wb := w__law_item) Fu sc__law_item rfl (fun i cdv A outer s H E hG hr => ⟨_,
  (sd_cons (sd_par 4 5 sc__law_item.nd rfl rfl (by decide) (ad_cons (e_ix (ed_var 1) (e_int2 B (ad_cons (e_eq hr (e_callI D__law_draw hG (hr.mono (by decide)) pass00 (ad_raw 0 (ad_cons ed_int ad_nil))) ed_int) ad_nil))) (ad_cons (e_ix (ed_var 2) (e_callI D__law_draw hG (hr.mono (by decide)) pass00 (ad_raw 0 (ad_cons ed_int ad_nil)))) ad_nil)))
  (sd_cons (sd_setF 6 sc__law_item.nd rfl (by first | exact .inl rfl | exact .inr rfl) (fd_lst (ad_cons (ed_tup (ad_cons ed_str (ad_cons (ed_var 4) (ad_cons (ed_var 5) ad_nil)))) (ad_cons (ed_tup (ad_cons ed_str (ad_cons (ed_var 4) (ad_cons (ed_var 5) ad_nil)))) (ad_cons (ed_tup (ad_cons ed_str (ad_cons (ed_var 4) (ad_cons (ed_var 5) ad_nil)))) (ad_cons (ed_tup (ad_cons ed_str (ad_cons (ed_var 4) (ad_cons (ed_var 5) ad_nil)))) ad_nil))))))
  (sd_cons (sd_append 6 (ed_tup (ad_cons ed_str (ad_cons (ed_var 4) (ad_cons (e_ix (ed_var 2) ed_int) ad_nil)))))
  (sd_freeze 6 (sd_cons (sd_set 7 sc__law_item.nd rfl (by first | exact .inl rfl | exact .inr rfl) (ed_new (fd_lst (ad_cons (ed_tup (ad_cons ed_str (ad_cons (ed_var 5) ad_nil))) (ad_cons (ed_tup (ad_cons ed_str (ad_cons (ed_var 5) ad_nil))) (ad_cons (ed_tup (ad_cons ed_str ad_nil)) (ad_cons (ed_tup (ad_cons ed_str ad_nil)) (ad_cons (ed_tup (ad_cons ed_str (ad_cons ed_str ad_nil))) ad_nil))))))))
  (sd_cons (sd_set 8 sc__law_item.nd rfl (by first | exact .inl rfl | exact .inr rfl) (e_ix (ed_new (fd_lst (ad_cons (ed_var 6) (ad_cons (ed_var 7) (ad_cons (e_add (ed_var 6) (ed_var 7)) ad_nil))))) (ed_var 3)))
  (sd_one (sd_ret (e_ix (ed_var 8) (e_callI D__law_draw hG (hr.mono (by decide)) pass00 (ad_raw 0 (ad_cons (e_len B (ad_cons (ed_var 8) ad_nil)) ad_nil))))))))))))⟩) (spec__law_item)⟩
/-! ## _law_page -/
abbrev s__law_page : Stmt := top 38
theorem sc__law_page : FnScope ["_law_feed_here", "_law_names", "_law_kinds", "_law_taste", "_law_page_here", "_law_lap", "_law_sort_here", "_law_cut", "_law_step", "_law_item_here", "_law_way_in"] ["_law_feed_here"] (defScope s__law_page) := ⟨rfl, rfl, rfl, by decide +kernel, rfl, by decide +kernel, by decide +kernel⟩
def F__law_page : Ix → List Ag → Unit → (PyData → Unit → Prop) → (Er → Unit → Prop) → Prop := fun i as _ Q _ => as = [.raw (.ref i.1)] ∧ ∀ (ys : List PyData) (c : Nat), ys.length ≤ 60 → (∀ y ∈ ys, GoodRow y) → c ≤ ys.length → Q (.tuple [.tuple ys, .int (c : Int)]) ()
def w__law_page (i : Ix) : DS Unit :=
  (wSeq (wAsg (wCallW (fun as s Q E => as.length = 1 ∧ F__law_menu i as s Q E) (wRaw 0 wNil)) (gT 2 (gCs (gN 1) (gCs (gN 2) gNs))))
  (wSeq (wParG 3 4 (wCallW (fun as s Q E => as.length = 2 ∧ F__law_draw i as s Q E) (wRaw 0 (wCons (wC (.int 3)) wNil))) (wLst wNil))
  (wSeq (wFor (wRng1 (wCons (wCallW (fun as s Q E => as.length = 2 ∧ F__law_draw i as s Q E) (wRaw 0 (wCons (wC (.int 5)) wNil))) wNil)) (gN 5) (wSeq (wAsg (wIf (wT (wOp dNe (wVar 3) (wC (.int 1)))) (wCallW (fun as s Q E => as.length = 2 ∧ F__law_sort i as s Q E) (wRaw 0 (wCons (wVar 2) wNil))) (wTup (wCons (wC (.str "fun")) (wCons (wOp dIdx (wOp dAdd (wVar 2) (wL (wLst (wCons (wC (.str "")) wNil)))) (wCallW (fun as s Q E => as.length = 2 ∧ F__law_draw i as s Q E) (wRaw 0 (wCons (wC (.int 4)) wNil)))) wNil)))) (gN 6))
  (wSeq (wApp 4 (wTup (wCons (wC (.str "open")) (wCons (wVar 6) wNil))))
  (wIfS (wTand (wT (wOp dGt (wCallW (fun as s Q E => as.length = 2 ∧ F__law_draw i as s Q E) (wRaw 0 (wCons (wC (.int 3)) wNil))) (wC (.int 0)))) (wT (wOp dNe (wVar 3) (wC (.int 1))))) (wApp 4 (wTup (wCons (wC (.str "let")) (wCons (wOp dIdx (wVar 1) (wC (.int 0))) (wCons (wOp dIdx (wVar 2) (wCallW (fun as s Q E => as.length = 2 ∧ F__law_draw i as s Q E) (wRaw 0 (wCons (wC (.int 2)) wNil)))) wNil))))) wNext))))
  (wSeq (wAsg (wOwnE 4 fun xs Q => Q (.int xs.length)) (gN 7))
  (wSeq (wFor (wRng1 (wCons (wOp dAdd (wC (.int 1)) (wCallW (fun as s Q E => as.length = 2 ∧ F__law_draw i as s Q E) (wRaw 0 (wCons (wC (.int 4)) wNil)))) wNil)) (gN 5) (wSeq (wFor (wRng1 (wCons (wCallW (fun as s Q E => as.length = 2 ∧ F__law_draw i as s Q E) (wRaw 0 (wCons (wC (.int 4)) wNil))) wNil)) (gN 8) (wSeq (wPar 9 10 (wCons (wCallW (fun as s Q E => as.length = 4 ∧ F__law_item i as s Q E) (wRaw 0 (wCons (wVar 1) (wCons (wVar 2) (wCons (wVar 3) wNil))))) (wCons (wCallW (fun as s Q E => as.length = 2 ∧ F__law_draw i as s Q E) (wRaw 0 (wCons (wC (.int 8)) wNil))) wNil)))
  (wSeq (wIfS (wT (wOp dEq (wVar 10) (wC (.int 0)))) (wApp 4 (wTup (wCons (wC (.str "open")) (wCons (wCallW (fun as s Q E => as.length = 2 ∧ F__law_sort i as s Q E) (wRaw 0 (wCons (wVar 2) wNil))) wNil)))) wNext)
  (wSeq (wApp 4 (wVar 9))
  (wIfS (wT (wOp dEq (wVar 10) (wC (.int 0)))) (wApp 4 (wTup (wCons (wC (.str "end")) wNil))) wNext)))))
  (wIfS (wT (wOp dGt (wCallW (fun as s Q E => as.length = 2 ∧ F__law_draw i as s Q E) (wRaw 0 (wCons (wC (.int 6)) wNil))) (wC (.int 0)))) (wApp 4 (wTup (wCons (wC (.str "end")) wNil))) wNext)))
  (wSeq (wFor (wRng1 (wCons (wCallW (fun as s Q E => as.length = 2 ∧ F__law_draw i as s Q E) (wRaw 0 (wCons (wC (.int 3)) wNil))) wNil)) (gN 8) (wApp 4 (wCallW (fun as s Q E => as.length = 4 ∧ F__law_item i as s Q E) (wRaw 0 (wCons (wVar 1) (wCons (wVar 2) (wCons (wVar 3) wNil)))))))
  (wFreeze 4 (wRet (wTup (wCons (wCB fTuple (wCons (wVar 4) wNil)) (wCons (wVar 7) wNil)))))))))))
theorem mem_app1 {xs : List PyData} {y : PyData} (hx : ∀ z ∈ xs, GoodRow z) (hy : GoodRow y) : ∀ z ∈ xs ++ [y], GoodRow z := fun z hz => by
  rcases List.mem_append.mp hz with hz | hz
  · exact hx z hz
  · rw [List.mem_singleton.mp hz]; exact hy
theorem app1_len {xs : List PyData} {y : PyData} : (xs ++ [y]).length = xs.length + 1 := by simp
theorem spec__law_page : ∀ (i : Ix) as s Qd Ed, as.length = 1 → F__law_page i as s Qd Ed → w__law_page i (argS 1 11 (as.map toSl)) s (endW Qd Ed) := by
  rintro i as s Qd Ed _ ⟨rfl, hq⟩
  unfold w__law_page
  show wSeq _ _ [.raw (.ref i.1), .no, .no, .no, .no, .no, .no, .no, .no, .no, .no] s _
  refine seq_gen fun D0 hnx0 _ _ => asg_of (callW_of (raw_of rfl (nil_of ⟨rfl, rfl, fun n0 n1 k0 k1 k2 hn0 hn1 hk0 hk1 hk2 => ⟨rfl, hnx0 _ _ ?_⟩⟩)))
  dsimp only [List.set]
  refine seq_gen fun D1 hnx _ _ => parG_of (c_drawN rfl (c_of ⟨3, rfl, by omega, by omega, fun t t0 t1 => lst_of (nil_of ⟨few_lim (by simp), fun p => hnx _ _ ?_⟩)⟩))
  dsimp only [List.set]
  refine seq_gen fun D2 hnx2 _ _ => for_of (rng1_of (c_drawN rfl (c_of ⟨5, rfl, by omega, by omega, fun m m0 m1 => ⟨by omega, by omega, ?_⟩⟩)))
  refine loop_inv (fun k ρ _ => ∃ xs z5 z6, ρ = [.raw (.ref i.1), .d (.list [n0, n1]), .d (.list [k0, k1, k2]), .d (.int t), .own p xs, z5, z6, .no, .no, .no, .no] ∧ xs.length ≤ 2 * k ∧ ∀ y ∈ xs, GoodRow y) _ 0 _ _ ?_ ⟨[], _, _, rfl, by simp, by simp⟩ ?_
  · rintro k d hd ρ s ⟨xs, z5, z6, rfl, xl, hx⟩ D' _ _ _ hz _
    have kl := (rngD_at hd).1
    rw [Nat.zero_add] at hz xl
    dsimp only [gN, List.set]
    refine seq_gen fun D3 hnx3 _ _ => asg_of ?_
    have fin : ∀ y, SortOk y → D3.nx [.raw (.ref i.1), .d (.list [n0, n1]), .d (.list [k0, k1, k2]), .d (.int t), .own p xs, .d d, .d y, .no, .no, .no, .no] () := fun y hy => by
      refine hnx3 _ _ ?_
      refine seq_gen fun D4 hnx4 _ _ => app_of (p := p) (xs := xs) rfl (tup_of (cons_of (c_of (cons_of (var_of rfl (nil_of ⟨few_lim (by simp), by rw [limL_eq]; omega, hnx4 _ _ ?_⟩))))))
      dsimp only [List.set]
      have g1 := mem_app1 hx (good_opn hy)
      have l1 := app1_len (xs := xs) (y := .tuple [.str "open", y])
      generalize xs ++ [PyData.tuple [.str "open", y]] = zs at g1 l1 ⊢
      refine ifS_any (fun Q E q => ?_) ?_ ?_
      · refine tand_of (t_of (op_of (c_drawN rfl (c_of ⟨3, rfl, by omega, by omega, fun v v0 v1 => c_of (gtI_of ?_)⟩))))
        show if decide (v > 0) = true then _ else _
        split
        · exact t_of (op_of (var_of rfl (c_of (neI_of (q _)))))
        · exact q _
      · refine app_of (p := p) (xs := zs) rfl (tup_of (cons_of (c_of (cons_of (op_of (var_of rfl (c_of ⟨n0, atI_0, cons_of (op_of (var_of rfl (c_drawN rfl (c_of ⟨2, rfl, by omega, by omega, fun v v0 v1 => ?_⟩))))⟩)))))))
        have hv : v = 0 ∨ v = 1 := by omega
        rcases hv with rfl | rfl
        · exact ⟨k0, atI_nat (j := 0) rfl, nil_of ⟨few_lim (by simp), by rw [limL_eq]; omega, hz _ _ ⟨_, _, _, rfl, by rw [app1_len]; omega, mem_app1 g1 (good_let (.inl rfl) hn0 hk0)⟩⟩⟩
        · exact ⟨k1, atI_nat (j := 1) rfl, nil_of ⟨few_lim (by simp), by rw [limL_eq]; omega, hz _ _ ⟨_, _, _, rfl, by rw [app1_len]; omega, mem_app1 g1 (good_let (.inl rfl) hn0 hk1)⟩⟩⟩
      · exact hz _ _ ⟨zs, _, _, rfl, by omega, g1⟩
    by_cases c : t = 1
    · refine if_f (fun R E q => t_of (op_of (var_of rfl (c_of (neI_of ?_))))) ?_
      · rw [decide_eq_true c]; exact q
      · refine tup_of (cons_of (c_of (cons_of (op_of (op_of (var_of rfl (l_of (lst_of (cons_of (c_of (nil_of ⟨few_lim (by simp), dAdd_lst' (few_lim (by simp)) (c_drawN rfl (c_of ⟨4, rfl, by omega, by omega, fun v v0 v1 => ?_⟩))⟩)))))))))))
        have hv : v = 0 ∨ v = 1 ∨ v = 2 ∨ v = 3 := by omega
        rcases hv with rfl | rfl | rfl | rfl
        · exact ⟨k0, atI_nat (j := 0) rfl, nil_of ⟨few_lim (by simp), fin _ (sort_fn (.inl hk0))⟩⟩
        · exact ⟨k1, atI_nat (j := 1) rfl, nil_of ⟨few_lim (by simp), fin _ (sort_fn (.inl hk1))⟩⟩
        · exact ⟨k2, atI_nat (j := 2) rfl, nil_of ⟨few_lim (by simp), fin _ (sort_fn (.inl hk2))⟩⟩
        · exact ⟨.str "", atI_nat (j := 3) rfl, nil_of ⟨few_lim (by simp), fin _ (sort_fn (.inr rfl))⟩⟩
    · refine if_t (fun R E q => t_of (op_of (var_of rfl (c_of (neI_of ?_))))) ?_
      · rw [decide_eq_false c]; exact q
      · exact callW_of (raw_of rfl (cons_of (var_of rfl (nil_of ⟨rfl, k0, k1, k2, rfl, hk0, hk1, fun y hy => fin y hy⟩))))
  rintro ρ s ⟨xs, z5, z6, rfl, xl, hx⟩
  rw [Nat.zero_add, rngD_len] at xl
  replace xl : xs.length ≤ 8 := by omega
  refine hnx2 _ _ ?_
  refine seq_gen fun D2 hnx2 _ _ => asg_of (ownE_of (p := p) (xs := xs) rfl (hnx2 _ _ ?_))
  dsimp only [List.set]
  obtain ⟨cc, hcc⟩ : ∃ cc, cc = xs.length := ⟨_, rfl⟩
  rw [← hcc]
  have cl : cc ≤ xs.length := Nat.le_of_eq hcc
  clear hcc
  refine seq_gen fun D3 hnx3 _ _ => for_of (rng1_of (op_of (c_of (c_drawN rfl (c_of ⟨4, rfl, by omega, by omega, fun m2 a0 a1 => ?_⟩)))))
  show okI (1 + m2) ∧ _
  refine ⟨okI_small (by omega), by omega, by omega, ?_⟩
  refine loop_inv (fun k ρ _ => ∃ xs z5 z8 z9 z10, ρ = [.raw (.ref i.1), .d (.list [n0, n1]), .d (.list [k0, k1, k2]), .d (.int t), .own p xs, z5, z6, .d (.int (cc : Int)), z8, z9, z10] ∧ cc ≤ xs.length ∧ xs.length ≤ 8 + 10 * k ∧ ∀ y ∈ xs, GoodRow y) _ 0 _ _ ?_ ⟨xs, _, _, _, _, rfl, cl, by omega, hx⟩ ?_
  · clear xl hx cl xs
    rintro k d hd ρ s ⟨xs, z5, z8, z9, z10, rfl, cl, xl, hx⟩ D' _ _ _ hz _
    have kl := (rngD_at hd).1
    rw [Nat.zero_add] at hz xl
    dsimp only [gN, List.set]
    refine seq_gen fun D4 hnx4 _ _ => for_of (rng1_of (c_drawN rfl (c_of ⟨4, rfl, by omega, by omega, fun m3 b0 b1 => ⟨by omega, by omega, ?_⟩⟩)))
    refine loop_inv (fun j ρ _ => ∃ xs z8 z9 z10, ρ = [.raw (.ref i.1), .d (.list [n0, n1]), .d (.list [k0, k1, k2]), .d (.int t), .own p xs, .d d, z6, .d (.int (cc : Int)), z8, z9, z10] ∧ cc ≤ xs.length ∧ xs.length ≤ 8 + 10 * k + 3 * j ∧ ∀ y ∈ xs, GoodRow y) _ 0 _ _ ?_ ⟨xs, _, _, _, rfl, cl, by omega, hx⟩ ?_
    · clear xl hx cl xs
      rintro j d2 hd2 ρ s ⟨xs, z8, z9, z10, rfl, cl, xl, hx⟩ D'' _ _ _ hz2 _
      have jl := (rngD_at hd2).1
      rw [Nat.zero_add] at hz2 xl
      dsimp only [gN, List.set]
      refine seq_gen fun D5 hnx5 _ _ => par_of (cons_of (callW_of (raw_of rfl (cons_of (var_of rfl (cons_of (var_of rfl (cons_of (var_of rfl (nil_of ⟨rfl, n0, n1, k0, k1, k2, t, rfl, hn0, hn1, hk0, hk1, hk2, t0, t1, fun y hy => cons_of (c_drawN rfl (c_of ⟨8, rfl, by omega, by omega, fun v v0 v1 => nil_of ?_⟩))⟩))))))))))
      show D5.nx [.raw (.ref i.1), .d (.list [n0, n1]), .d (.list [k0, k1, k2]), .d (.int t), .own p xs, .d d, z6, .d (.int (cc : Int)), .d d2, .d y, .d (.int v)] ()
      refine hnx5 _ _ ?_
      by_cases c0 : v = 0
      · refine seqIf_t (fun Q E q => t_of (op_of (var_of rfl (c_of (eqI_of ?_))))) ?_
        · rw [decide_eq_true c0]; exact q
        refine app_of (p := p) (xs := xs) rfl (tup_of (cons_of (c_of (cons_of (callW_of (raw_of rfl (cons_of (var_of rfl (nil_of ⟨rfl, k0, k1, k2, rfl, hk0, hk1, fun w hw => nil_of ⟨few_lim (by simp), by rw [limL_eq]; omega, ?_⟩⟩)))))))))
        dsimp only [List.set]
        have g1 := mem_app1 hx (good_opn hw)
        have l1 := app1_len (xs := xs) (y := .tuple [.str "open", w])
        generalize xs ++ [PyData.tuple [.str "open", w]] = zs at g1 l1 ⊢
        refine seq_gen fun D6 hnx6 _ _ => app_of (p := p) (xs := zs) rfl (var_of rfl ⟨by rw [limL_eq]; omega, hnx6 _ _ ?_⟩)
        dsimp only [List.set]
        have g2 := mem_app1 g1 hy
        have l2 := app1_len (xs := zs) (y := y)
        generalize zs ++ [y] = zs2 at g2 l2 ⊢
        refine ifS_t (fun Q E q => t_of (op_of (var_of rfl (c_of (eqI_of ?_))))) ?_
        · rw [decide_eq_true c0]; exact q
        exact app_of (p := p) (xs := zs2) rfl (tup_of (cons_of (c_of (nil_of ⟨few_lim (by simp), by rw [limL_eq]; omega, hz2 _ _ ⟨_, _, _, _, rfl, by rw [app1_len]; omega, by rw [app1_len]; omega, mem_app1 g2 good_end⟩⟩))))
      · refine seqIf_f (fun Q E q => t_of (op_of (var_of rfl (c_of (eqI_of ?_))))) ?_
        · rw [decide_eq_false c0]; exact q
        refine seq_gen fun D6 hnx6 _ _ => app_of (p := p) (xs := xs) rfl (var_of rfl ⟨by rw [limL_eq]; omega, hnx6 _ _ ?_⟩)
        dsimp only [List.set]
        refine ifS_f (fun Q E q => t_of (op_of (var_of rfl (c_of (eqI_of ?_))))) ?_
        · rw [decide_eq_false c0]; exact q
        exact hz2 _ _ ⟨_, _, _, _, rfl, by rw [app1_len]; omega, by rw [app1_len]; omega, mem_app1 hx hy⟩
    · clear xl hx cl xs
      rintro ρ s ⟨xs, z8, z9, z10, rfl, cl, xl, hx⟩
      rw [Nat.zero_add, rngD_len] at xl
      replace xl : xs.length ≤ 8 + 10 * k + 9 := by omega
      refine hnx4 _ _ ?_
      refine ifS_any (fun Q E q => ?_) ?_ ?_
      · exact t_of (op_of (c_drawN rfl (c_of ⟨6, rfl, by omega, by omega, fun v v0 v1 => c_of (gtI_of (q _))⟩)))
      · exact app_of (p := p) (xs := xs) rfl (tup_of (cons_of (c_of (nil_of ⟨few_lim (by simp), by rw [limL_eq]; omega, hz _ _ ⟨_, _, _, _, _, rfl, by rw [app1_len]; omega, by rw [app1_len]; omega, mem_app1 hx good_end⟩⟩))))
      · exact hz _ _ ⟨_, _, _, _, _, rfl, cl, by omega, hx⟩
  clear xl hx cl xs
  rintro ρ s ⟨xs, z5, z8, z9, z10, rfl, cl, xl, hx⟩
  rw [Nat.zero_add, rngD_len] at xl
  replace xl : xs.length ≤ 48 := by omega
  refine hnx3 _ _ ?_
  refine seq_gen fun D4 hnx4 _ _ => for_of (rng1_of (c_drawN rfl (c_of ⟨3, rfl, by omega, by omega, fun m3 b0 b1 => ⟨by omega, by omega, ?_⟩⟩)))
  refine loop_inv (fun k ρ _ => ∃ xs z8, ρ = [.raw (.ref i.1), .d (.list [n0, n1]), .d (.list [k0, k1, k2]), .d (.int t), .own p xs, z5, z6, .d (.int (cc : Int)), z8, z9, z10] ∧ cc ≤ xs.length ∧ xs.length ≤ 48 + k ∧ ∀ y ∈ xs, GoodRow y) _ 0 _ _ ?_ ⟨xs, _, rfl, cl, by omega, hx⟩ ?_
  · clear xl hx cl xs
    rintro k d hd ρ s ⟨xs, z8, rfl, cl, xl, hx⟩ D' _ _ _ hz _
    have kl := (rngD_at hd).1
    rw [Nat.zero_add] at hz xl
    dsimp only [gN, List.set]
    exact app_of (p := p) (xs := xs) rfl (callW_of (raw_of rfl (cons_of (var_of rfl (cons_of (var_of rfl (cons_of (var_of rfl (nil_of ⟨rfl, n0, n1, k0, k1, k2, t, rfl, hn0, hn1, hk0, hk1, hk2, t0, t1, fun y hy => ⟨by rw [limL_eq]; omega, hz _ _ ⟨_, _, rfl, by rw [app1_len]; omega, by rw [app1_len]; omega, mem_app1 hx hy⟩⟩⟩)))))))))
  clear xl hx cl xs
  rintro ρ s ⟨xs, z8, rfl, cl, xl, hx⟩
  rw [Nat.zero_add, rngD_len] at xl
  refine hnx4 _ _ ?_
  refine freeze_of (i := 4) (p := p) (xs := xs) rfl ?_
  dsimp only [List.set]
  exact ret_of (tup_of (cons_of (cb1_of (var_of rfl (ftup_of (cons_of (var_of rfl (nil_of ⟨few_lim (by simp), hq xs cc (by omega) hx cl⟩))))))))
theorem ok__law_page {f : Addr} {fd : FuncData} (Fu : Fun K "_law_page" "_law_page" s__law_page f fd) (hm : mg "_law_page" = some (.ref f)) (hb : Binds K fd ["_law_feed_here"] []) (B : Bt mg) (D__law_draw : Df P w K mg base CX0 1 "_law_draw" 2 (spI K (Wf T) 2 F__law_draw)) (D__law_item : Df P w K mg base CX0 2 "_law_item" 4 (spI K (Wf T) 4 F__law_item)) (D__law_menu : Df P w K mg base CX0 2 "_law_menu" 1 (spI K (Wf T) 1 F__law_menu)) (D__law_sort : Df P w K mg base CX0 2 "_law_sort" 2 (spI K (Wf T) 2 F__law_sort)) : Df P w K mg base CX0 3 "_law_page" 1 (spI K (Wf T) 1 F__law_page) :=
  ⟨f, fd, ["_law_feed_here"], rfl, hm, Fu.kp, hb, fnI (wb := w__law_page) Fu sc__law_page rfl (fun i cdv A outer s H E hG hr => ⟨_,
  (sd_cons (sd_asg (e_callI D__law_menu hG (hr.mono (by decide)) pass00 (ad_raw 0 ad_nil)) (g_tup rfl (gds_cons (gd_name 1 sc__law_page.nd rfl (by first | exact .inl rfl | exact .inr rfl)) (gds_cons (gd_name 2 sc__law_page.nd rfl (by first | exact .inl rfl | exact .inr rfl)) gds_nil))))
  (sd_cons (sd_parG 3 4 sc__law_page.nd rfl rfl (by decide) (e_callI D__law_draw hG (hr.mono (by decide)) pass00 (ad_raw 0 (ad_cons ed_int ad_nil))) (fd_lst ad_nil))
  (sd_cons (sd_for (L2.passes_of rfl) rfl (i_rng1 B (ad_cons (e_callI D__law_draw hG (hr.mono (by decide)) pass00 (ad_raw 0 (ad_cons ed_int ad_nil))) ad_nil)) (gd_name 5 sc__law_page.nd rfl (by first | exact .inl rfl | exact .inr rfl)) (sd_cons (sd_set 6 sc__law_page.nd rfl (by first | exact .inl rfl | exact .inr rfl) (ed_if (t_ne hr (ed_var 3) ed_int) (e_callI D__law_sort hG (hr.mono (by decide)) pass00 (ad_raw 0 (ad_cons (ed_var 2) ad_nil))) (ed_tup (ad_cons ed_str (ad_cons (e_ix (e_add (ed_var 2) (ed_new (fd_lst (ad_cons ed_str ad_nil)))) (e_callI D__law_draw hG (hr.mono (by decide)) pass00 (ad_raw 0 (ad_cons ed_int ad_nil)))) ad_nil)))))
  (sd_cons (sd_append 4 (ed_tup (ad_cons ed_str (ad_cons (ed_var 6) ad_nil))))
  (sd_one (sd_if (td_bool (tw_and (t_gt (e_callI D__law_draw hG (hr.mono (by decide)) pass00 (ad_raw 0 (ad_cons ed_int ad_nil))) ed_int) (tw_and1 (t_ne hr (ed_var 3) ed_int)))) (sd_one (sd_append 4 (ed_tup (ad_cons ed_str (ad_cons (e_ix (ed_var 1) ed_int) (ad_cons (e_ix (ed_var 2) (e_callI D__law_draw hG (hr.mono (by decide)) pass00 (ad_raw 0 (ad_cons ed_int ad_nil)))) ad_nil)))))) sd_nil)))))
  (sd_cons (sd_set 7 sc__law_page.nd rfl (by first | exact .inl rfl | exact .inr rfl) (e_lenO 4 B))
  (sd_cons (sd_for (L2.passes_of rfl) rfl (i_rng1 B (ad_cons (e_add ed_int (e_callI D__law_draw hG (hr.mono (by decide)) pass00 (ad_raw 0 (ad_cons ed_int ad_nil)))) ad_nil)) (gd_name 5 sc__law_page.nd rfl (by first | exact .inl rfl | exact .inr rfl)) (sd_cons (sd_for (L2.passes_of rfl) rfl (i_rng1 B (ad_cons (e_callI D__law_draw hG (hr.mono (by decide)) pass00 (ad_raw 0 (ad_cons ed_int ad_nil))) ad_nil)) (gd_name 8 sc__law_page.nd rfl (by first | exact .inl rfl | exact .inr rfl)) (sd_cons (sd_par 9 10 sc__law_page.nd rfl rfl (by decide) (ad_cons (e_callI D__law_item hG (hr.mono (by decide)) pass00 (ad_raw 0 (ad_cons (ed_var 1) (ad_cons (ed_var 2) (ad_cons (ed_var 3) ad_nil))))) (ad_cons (e_callI D__law_draw hG (hr.mono (by decide)) pass00 (ad_raw 0 (ad_cons ed_int ad_nil))) ad_nil)))
  (sd_cons (sd_if (t_eq hr (ed_var 10) ed_int) (sd_one (sd_append 4 (ed_tup (ad_cons ed_str (ad_cons (e_callI D__law_sort hG (hr.mono (by decide)) pass00 (ad_raw 0 (ad_cons (ed_var 2) ad_nil))) ad_nil))))) sd_nil)
  (sd_cons (sd_append 4 (ed_var 9))
  (sd_one (sd_if (t_eq hr (ed_var 10) ed_int) (sd_one (sd_append 4 (ed_tup (ad_cons ed_str ad_nil)))) sd_nil))))))
  (sd_one (sd_if (t_gt (e_callI D__law_draw hG (hr.mono (by decide)) pass00 (ad_raw 0 (ad_cons ed_int ad_nil))) ed_int) (sd_one (sd_append 4 (ed_tup (ad_cons ed_str ad_nil)))) sd_nil))))
  (sd_cons (sd_for (L2.passes_of rfl) rfl (i_rng1 B (ad_cons (e_callI D__law_draw hG (hr.mono (by decide)) pass00 (ad_raw 0 (ad_cons ed_int ad_nil))) ad_nil)) (gd_name 8 sc__law_page.nd rfl (by first | exact .inl rfl | exact .inr rfl)) (sd_one (sd_append 4 (e_callI D__law_item hG (hr.mono (by decide)) pass00 (ad_raw 0 (ad_cons (ed_var 1) (ad_cons (ed_var 2) (ad_cons (ed_var 3) ad_nil))))))))
  (sd_freeze 4 (sd_one (sd_ret (ed_tup (ad_cons (e_tupleOf B (ad_cons (ed_var 4) ad_nil)) (ad_cons (ed_var 7) ad_nil))))))))))))⟩) (spec__law_page)⟩
/-! ## _law_marks -/
abbrev s__law_marks : Stmt := top 39
theorem sc__law_marks : FnScope ["_law_feed_here", "_law_page_here", "_law_cut", "_law_many", "_law_way_in", "_law_more"] ["_law_feed_here", "_law_page_here", "_law_cut"] (defScope s__law_marks) := ⟨rfl, rfl, rfl, by decide +kernel, rfl, by decide +kernel, by decide +kernel⟩
def F__law_marks : Ix → List Ag → Unit → (PyData → Unit → Prop) → (Er → Unit → Prop) → Prop := fun i as _ Q _ => ∃ (ys : List PyData) (c : Nat), as = [.raw (.ref i.1), .d (.tuple ys), .d (.int (c : Int))] ∧ ys.length ≤ 60 ∧ c ≤ ys.length ∧ ∀ cs : List Nat, cs.Pairwise (· < ·) → (∀ m ∈ cs, m ≤ ys.length) → Q (.tuple (marksD cs)) ()
def w__law_marks (i : Ix) : DS Unit :=
  (wSeq (wPar 3 4 (wCons (wOp dAdd (wCB fLen (wCons (wVar 1) wNil)) (wC (.int 1))) (wCons (wCallW (fun as s Q E => as.length = 2 ∧ F__law_draw i as s Q E) (wRaw 0 (wCons (wC (.int 8)) wNil))) wNil)))
  (wSeq (wIfS (wT (wOp dLt (wVar 4) (wC (.int 4)))) (wRet (wTup (wCons (wVar 2) wNil))) wNext)
  (wSeq (wAsg (wL (wLst (wCons (wCallW (fun as s Q E => as.length = 2 ∧ F__law_draw i as s Q E) (wRaw 0 (wCons (wVar 3) wNil))) (wCons (wCallW (fun as s Q E => as.length = 2 ∧ F__law_draw i as s Q E) (wRaw 0 (wCons (wVar 3) wNil))) wNil)))) (gN 5))
  (wSeq (wIfS (wT (wOp dEq (wVar 4) (wC (.int 4)))) (wRet (wCB fTuple (wCons (wL (wSortedSet (wOp dAdd (wL (wLst (wCons (wVar 2) wNil))) (wSl (wVar 5) oNo (oSome (wC (.int 1))))))) wNil))) wNext)
  (wSeq (wIfS (wT (wOp dEq (wVar 4) (wC (.int 5)))) (wRet (wCB fTuple (wCons (wL (wSortedSet (wOp dAdd (wL (wLst (wCons (wVar 2) wNil))) (wVar 5)))) wNil))) wNext)
  (wSeq (wIfS (wT (wOp dEq (wVar 4) (wC (.int 6)))) (wRet (wOp dIdx (wL (wLst (wCons (wTup3 (wCons (wC (.int 0)) (wCons (wVar 3) (wCons (wOp dAdd (wC (.int 1)) (wOp (dI2 CDiv fun i j => i / j) (wVar 3) (wC (.int 12)))) wNil)))) (wCons (wTup wNil) wNil)))) (wCallW (fun as s Q E => as.length = 2 ∧ F__law_draw i as s Q E) (wRaw 0 (wCons (wC (.int 2)) wNil))))) wNext)
  (wRet (wCB fTuple (wCons (wL (wSortedSet (wVar 5))) wNil)))))))))
theorem tup3_of {S : Type} {w : DA S} {ρ : List Sl} {s : S} {Q : PyData → S → Prop} {E : Er → S → Prop} (h : w ρ s (fun as s1 => allK as fun ds => match ds with
  | [.int i, .int n, .int c] => StOk i n c ∧ Q (.tuple (stpD n c)) s1
  | _ => False) E) : wTup3 w ρ s Q E := h
theorem stp_marks {n d : Int} (h : StOk 0 n d) : ∃ cs : List Nat, stpD n d = marksD cs ∧ cs.Pairwise (· < ·) ∧ ∀ m ∈ cs, (m : Int) < n := by
  obtain ⟨e, rfl⟩ : ∃ e : Nat, d = (e : Int) := ⟨d.toNat, by have := h.2.2.2.1; omega⟩
  have e1 : 1 ≤ e := by have := h.2.2.2.1; omega
  refine ⟨(List.range (stpN n e)).map fun k => k * e, ?_, ?_, fun m hm => ?_⟩
  · unfold stpD marksD
    rw [List.map_map]
    refine List.map_congr_left fun k _ => ?_
    show PyData.int _ = PyData.int (((k * e : Nat)) : Int)
    rw [Int.natCast_mul]
  · refine List.pairwise_map.mpr (List.Pairwise.imp (fun {a b} hab => ?_) List.pairwise_lt_range)
    exact Nat.mul_lt_mul_of_pos_right hab e1
  · obtain ⟨k, hk, rfl⟩ := List.mem_map.mp hm
    have := (stp_mul h (List.mem_range.mp hk)).1
    rw [Int.natCast_mul]
    exact this
theorem spec__law_marks : ∀ (i : Ix) as s Qd Ed, as.length = 3 → F__law_marks i as s Qd Ed → w__law_marks i (argS 3 6 (as.map toSl)) s (endW Qd Ed) := by
  rintro i as s Qd Ed _ ⟨ys, c, rfl, yl, cl, hq⟩
  unfold w__law_marks
  show wSeq _ _ [.raw (.ref i.1), .d (.tuple ys), .d (.int (c : Int)), .no, .no, .no] s _
  refine seq_gen fun D1 hnx _ _ => par_of (cons_of (op_of (cb1_of (var_of rfl (len_tup (c_of ?_))))))
  show okI _ ∧ _
  refine ⟨okI_small (by omega), cons_of (c_drawN rfl (c_of ⟨8, rfl, by omega, by omega, fun v v0 v1 => nil_of ?_⟩))⟩
  show D1.nx [.raw (.ref i.1), .d (.tuple ys), .d (.int (c : Int)), .d (.int ((ys.length : Int) + 1)), .d (.int v), .no] ()
  refine hnx _ _ ?_
  have sset : ∀ ns : List Int, (∀ n ∈ ns, 0 ≤ n ∧ n ≤ (ys.length : Int)) → ∀ ms : List Int, ms.Pairwise (· < ·) → (∀ k, k ∈ ms ↔ k ∈ ns) → Qd (.tuple (ms.map PyData.int)) () := fun ns hn ms pw mem => by
    have e : ms.map PyData.int = marksD (ms.map Int.toNat) := by
      unfold marksD
      rw [List.map_map]
      refine List.map_congr_left fun m hm => ?_
      have := hn m ((mem m).mp hm)
      show PyData.int m = PyData.int ((m.toNat : Nat) : Int)
      rw [Int.toNat_of_nonneg this.1]
    rw [e]
    refine hq _ (List.pairwise_map.mpr (List.Pairwise.imp_of_mem (fun {a b} ha hb h => ?_) pw)) fun m hm => ?_
    · have := hn a ((mem a).mp ha); have := hn b ((mem b).mp hb); omega
    · obtain ⟨a, ha, rfl⟩ := List.mem_map.mp hm
      have := hn a ((mem a).mp ha); omega
  by_cases c4 : v < 4
  · refine seqIf_t (fun Q E q => t_of (op_of (var_of rfl (c_of (ltI_of ?_))))) ?_
    · rw [decide_eq_true c4]; exact q
    · exact ret_of (tup_of (cons_of (var_of rfl (nil_of ⟨few_lim (by simp), hq [c] (by simp) (by simpa using cl)⟩))))
  refine seqIf_f (fun Q E q => t_of (op_of (var_of rfl (c_of (ltI_of ?_))))) ?_
  · rw [decide_eq_false c4]; exact q
  refine seq_gen fun D1 hnx _ _ => asg_of (l_of (lst_of (cons_of (c_drawN rfl (var_of rfl ⟨(ys.length : Int) + 1, rfl, by omega, by omega, fun a a0 a1 => cons_of (c_drawN rfl (var_of rfl ⟨(ys.length : Int) + 1, rfl, by omega, by omega, fun b b0 b1 => nil_of ⟨few_lim (by simp), hnx _ _ ?_⟩⟩))⟩)))))
  dsimp only [List.set]
  by_cases e4 : v = 4
  · refine seqIf_t (fun Q E q => t_of (op_of (var_of rfl (c_of (eqI_of ?_))))) ?_
    · rw [decide_eq_true e4]; exact q
    refine ret_of (cb1_of (l_of (ss_of (op_of (l_of (lst_of (cons_of (var_of rfl (nil_of ⟨few_lim (by simp), sl_of (var_of rfl (oNo_of (osC_of (dSl_lst ?_))))⟩)))))))))
    have e : cutD [PyData.int a, .int b] none (some 1) = [.int a] := rfl
    rw [e]
    refine dAdd_lst' (few_lim (by simp)) ⟨[(c : Int), a], rfl, by simp, fun ms pw mem => ftup_of (sset _ (fun n hn => ?_) ms pw mem)⟩
    simp only [List.mem_cons, List.not_mem_nil, or_false] at hn
    rcases hn with rfl | rfl <;> omega
  refine seqIf_f (fun Q E q => t_of (op_of (var_of rfl (c_of (eqI_of ?_))))) ?_
  · rw [decide_eq_false e4]; exact q
  by_cases e5 : v = 5
  · refine seqIf_t (fun Q E q => t_of (op_of (var_of rfl (c_of (eqI_of ?_))))) ?_
    · rw [decide_eq_true e5]; exact q
    refine ret_of (cb1_of (l_of (ss_of (op_of (l_of (lst_of (cons_of (var_of rfl (nil_of ⟨few_lim (by simp), var_of rfl ?_⟩)))))))))
    refine dAdd_lst' (few_lim (by simp)) ⟨[(c : Int), a, b], rfl, by simp, fun ms pw mem => ftup_of (sset _ (fun n hn => ?_) ms pw mem)⟩
    simp only [List.mem_cons, List.not_mem_nil, or_false] at hn
    rcases hn with rfl | rfl | rfl <;> omega
  refine seqIf_f (fun Q E q => t_of (op_of (var_of rfl (c_of (eqI_of ?_))))) ?_
  · rw [decide_eq_false e5]; exact q
  by_cases e6 : v = 6
  · refine seqIf_t (fun Q E q => t_of (op_of (var_of rfl (c_of (eqI_of ?_))))) ?_
    · rw [decide_eq_true e6]; exact q
    have st : StOk 0 ((ys.length : Int) + 1) (1 + ((ys.length : Int) + 1) / 12) := ⟨rfl, by omega, by omega, by omega, by omega⟩
    refine ret_of (op_of (l_of (lst_of (cons_of (tup3_of (cons_of (c_of (cons_of (var_of rfl (cons_of (op_of (c_of (op_of (var_of rfl (c_of ⟨⟨by omega, by omega⟩, okI_small (by show (((ys.length : Int) + 1) / 12).natAbs < 2 ^ 64; omega), okI_small (by show (1 + ((ys.length : Int) + 1) / 12).natAbs < 2 ^ 64; omega), nil_of ⟨st, ?_⟩⟩)))))))))))))))
    refine cons_of (tup_of (nil_of ⟨few_lim (by simp), nil_of ⟨few_lim (by simp), c_drawN rfl (c_of ⟨2, rfl, by omega, by omega, fun u u0 u1 => ?_⟩)⟩⟩))
    obtain ⟨cs, e, pw, hm⟩ := stp_marks st
    rw [e]
    have hu : u = 0 ∨ u = 1 := by omega
    rcases hu with rfl | rfl
    · exact ⟨_, atI_nat (j := 0) rfl, hq cs pw fun m h => by have := hm m h; omega⟩
    · exact ⟨_, atI_nat (j := 1) rfl, hq [] (by simp) (by simp)⟩
  refine seqIf_f (fun Q E q => t_of (op_of (var_of rfl (c_of (eqI_of ?_))))) ?_
  · rw [decide_eq_false e6]; exact q
  refine ret_of (cb1_of (l_of (ss_of (var_of rfl ⟨[a, b], rfl, by simp, fun ms pw mem => ftup_of (sset _ (fun n hn => ?_) ms pw mem)⟩))))
  simp only [List.mem_cons, List.not_mem_nil, or_false] at hn
  rcases hn with rfl | rfl <;> omega
theorem ok__law_marks {f : Addr} {fd : FuncData} (Fu : Fun K "_law_marks" "_law_marks" s__law_marks f fd) (hm : mg "_law_marks" = some (.ref f)) (hb : Binds K fd ["_law_feed_here", "_law_page_here", "_law_cut"] []) (B : Bt mg) (D__law_draw : Df P w K mg base CX0 1 "_law_draw" 2 (spI K (Wf T) 2 F__law_draw)) : Df P w K mg base CX0 2 "_law_marks" 3 (spI K (Wf T) 3 F__law_marks) :=
  ⟨f, fd, ["_law_feed_here", "_law_page_here", "_law_cut"], rfl, hm, Fu.kp, hb, fnI (wb := w__law_marks) Fu sc__law_marks rfl (fun i cdv A outer s H E hG hr => ⟨_,
  (sd_cons (sd_par 3 4 sc__law_marks.nd rfl rfl (by decide) (ad_cons (e_add (e_len B (ad_cons (ed_var 1) ad_nil)) ed_int) (ad_cons (e_callI D__law_draw hG (hr.mono (by decide)) pass00 (ad_raw 0 (ad_cons ed_int ad_nil))) ad_nil)))
  (sd_cons (sd_if (t_lt (ed_var 4) ed_int) (sd_one (sd_ret (ed_tup (ad_cons (ed_var 2) ad_nil)))) sd_nil)
  (sd_cons (sd_set 5 sc__law_marks.nd rfl (by first | exact .inl rfl | exact .inr rfl) (ed_new (fd_lst (ad_cons (e_callI D__law_draw hG (hr.mono (by decide)) pass00 (ad_raw 0 (ad_cons (ed_var 3) ad_nil))) (ad_cons (e_callI D__law_draw hG (hr.mono (by decide)) pass00 (ad_raw 0 (ad_cons (ed_var 3) ad_nil))) ad_nil)))))
  (sd_cons (sd_if (t_eq hr (ed_var 4) ed_int) (sd_one (sd_ret (e_tupleOf B (ad_cons (ed_new (f_sortedSet B (e_add (ed_new (fd_lst (ad_cons (ed_var 2) ad_nil))) (e_slice (ed_var 5) od_no (od_some ed_int))))) ad_nil)))) sd_nil)
  (sd_cons (sd_if (t_eq hr (ed_var 4) ed_int) (sd_one (sd_ret (e_tupleOf B (ad_cons (ed_new (f_sortedSet B (e_add (ed_new (fd_lst (ad_cons (ed_var 2) ad_nil))) (ed_var 5)))) ad_nil)))) sd_nil)
  (sd_cons (sd_if (t_eq hr (ed_var 4) ed_int) (sd_one (sd_ret (e_ix (ed_new (fd_lst (ad_cons (e_tup3 B rfl (ad_cons ed_int (ad_cons (ed_var 3) (ad_cons (e_add ed_int (e_fdiv (ed_var 3) ed_int)) ad_nil)))) (ad_cons (ed_tup ad_nil) ad_nil)))) (e_callI D__law_draw hG (hr.mono (by decide)) pass00 (ad_raw 0 (ad_cons ed_int ad_nil)))))) sd_nil)
  (sd_one (sd_ret (e_tupleOf B (ad_cons (ed_new (f_sortedSet B (ed_var 5))) ad_nil))))))))))⟩) (spec__law_marks)⟩
end
end L34

set_option Elab.async false
set_option linter.all false
set_option autoImplicit false
set_option maxRecDepth 100000
set_option maxHeartbeats 1000000
set_option pp.maxSteps 600
namespace L34
open PySem PySem.Spec Dt
open L2 hiding wT wNot
section
variable {P : Program} {w : World} {K : PySem.W.Frag} {mg : Str → Option Value} {base : Heap} {T : List (Addr × Str)} {cNU : Addr}
abbrev s_law : Stmt := top 44
theorem sc_law : FnScope ["_law_script", "_law_feed_here", "_law_lap", "_law_page_here", "_law_cut", "_law_kept", "_law_rows", "_law_marks_here", "_law_told", "_law_k"] ["_law_script"] (defScope s_law) := ⟨rfl, rfl, rfl, by decide +kernel, rfl, by decide +kernel, by decide +kernel⟩
def w_law (cNU : Addr) (i : Ix) : DS Unit :=
  (wSeq (wFor (wRng1 (wCons (wC (.int 3)) wNil)) (gN 2) (wSeq (wAsg (wCallW (fun as s Q E => as.length = 1 ∧ F__law_page i as s Q E) (wRaw 1 wNil)) (gT 2 (gCs (gN 3) (gCs (gN 4) gNs))))
  (wSeq (wAsg (wCB fRepr3 (wCons (wVar 3) wNil)) (gN 5))
  (wSeq (wIfS (wTor (wTnot (wT (wCallP (fun ds Q E => ds.length = 2 ∧ F__law_is_right ds Q E) (wCons (wVar 3) (wCons (wTup (wCons (wVar 4) wNil)) wNil))))) (wTnot (wT (wCallP (fun ds Q E => ds.length = 2 ∧ F__law_is_right ds Q E) (wCons (wVar 3) (wCons (wCallW (fun as s Q E => as.length = 3 ∧ F__law_marks i as s Q E) (wRaw 1 (wCons (wVar 3) (wCons (wVar 4) wNil)))) wNil)))))) (wRet (wC (.bool false))) wNext)
  (wIfS (wT (wOp dNe (wCB fRepr3 (wCons (wVar 3) wNil)) (wVar 5))) (wRet (wC (.bool false))) wNext)))))
  (wSeq (wAsg (wTup (wCons (wTup (wCons (wC (.str "open")) (wCons (wC (.str "if")) wNil))) (wCons (wTup (wCons (wC (.str "open")) (wCons (wC (.str "if")) wNil))) (wCons (wTup (wCons (wC (.str "end")) wNil)) (wCons (wTup (wCons (wC (.str "stop")) wNil)) (wCons (wTup (wCons (wC (.str "open")) (wCons (wC (.str "if")) wNil))) (wCons (wTup (wCons (wC (.str "end")) wNil)) wNil))))))) (gN 6))
  (wSeq (wAsg (wOp dAdd (wVar 6) (wTup (wCons (wTup (wCons (wC (.str "end")) wNil)) (wCons (wTup (wCons (wC (.str "end")) wNil)) (wCons (wTup (wCons (wC (.str "end")) wNil)) (wCons (wTup (wCons (wC (.str "stop")) wNil)) wNil)))))) (gN 6))
  (wSeq (wFor (wSeqI (wL (wLst (wCons (wTup (wCons (wC (.int 1)) wNil)) (wCons (wTup (wCons (wC (.int 2)) wNil)) (wCons (wTup (wCons (wC (.int 0)) (wCons (wC (.int 5)) wNil))) (wCons (wTup (wCons (wC (.int 2)) (wCons (wC (.int 4)) (wCons (wC (.int 7)) wNil)))) (wCons (wTup (wCons (wC (.int 10)) wNil)) (wCons (wTup wNil) wNil))))))))) (gN 7) (wIfS (wTnot (wT (wCallP (fun ds Q E => ds.length = 2 ∧ F__law_is_right ds Q E) (wCons (wVar 6) (wCons (wVar 7) wNil))))) (wRet (wC (.bool false))) wNext))
  (wSeq (wAsg (wL (wComp (wRng2 (wCons (wC (.int 2)) (wCons (wC (.int 10)) wNil))) (gN 9) wYes (wCallP (fun ds Q _ => ds.length = 3 ∧ (F_layer_of cNU) ds Q fun _ => False) (wCons (wVar 6) (wCons (wTup (wCons (wC (.int 2)) wNil)) (wCons (wVar 9) wNil)))) [9])) (gN 8))
  (wRet (wAnd (wOp dEq (wVar 8) (wL (wLst (wCons (wC (.int 0)) (wCons (wC (.int 1)) (wCons (wC (.int 1)) (wCons (wC (.int 1)) (wCons (wC (.int 1)) (wCons (wC (.int 2)) (wCons (wC (.int 3)) (wCons (wC (.int 4)) wNil))))))))))) (wOp dEq (wCallP (fun ds Q _ => ds.length = 3 ∧ (F_rows_of_layer cNU) ds Q fun _ => False) (wCons (wVar 6) (wCons (wTup (wCons (wC (.int 2)) wNil)) (wCons (wC (.int 4)) wNil)))) (wTup (wCons (wC (.int 3)) (wCons (wC (.int 4)) (wCons (wC (.int 5)) (wCons (wC (.int 6)) wNil)))))))))))))
theorem tail_law (B : Bt mg) (D__law_is_right : Df P w K mg base CX0 9 "_law_is_right" 2 (spP K 2 F__law_is_right)) (D__law_marks : Df P w K mg base CX0 2 "_law_marks" 3 (spI K (Wf T) 3 F__law_marks)) (D__law_page : Df P w K mg base CX0 3 "_law_page" 1 (spI K (Wf T) 1 F__law_page)) (D_layer_of : Do P w K mg base (L2.CX P w) 8 "layer_of" 3 (spP K 3 (F_layer_of cNU))) (D_rows_of_layer : Do P w K mg base (L2.CX P w) 8 "rows_of_layer" 3 (spP K 3 (F_rows_of_layer cNU))) (f : Addr) (cdv : Value) (A : Around) (outer : List PySem.Env) (s : Shared) (H : Hp) (E : XK) (hG : A.guards = some []) (hr : Room 9 (A.deeper (PyProof.Rows.envOfC "law" (defScope s_law) s.heap.objs.size f cdv))) : ∃ t, ∀ i : Ix, SSD ((Wf T) i) (cxOf CX0 P w K mg base ["_law_script", "_law_feed_here", "_law_lap", "_law_page_here", "_law_cut", "_law_kept", "_law_rows", "_law_marks_here", "_law_told", "_law_k"] "law" (defScope s_law) f cdv A outer s H E) (WXE E) ((defBody s_law).drop 1) t (w_law cNU i) :=
  ⟨_, fun i => (sd_cons (sd_for (L2.passes_of rfl) rfl (i_rng1 B (ad_cons ed_int ad_nil)) (gd_name 2 sc_law.nd rfl (by first | exact .inl rfl | exact .inr rfl)) (sd_cons (sd_asg (e_callI D__law_page hG (hr.mono (by decide)) pass00 (ad_raw 1 ad_nil)) (g_tup rfl (gds_cons (gd_name 3 sc_law.nd rfl (by first | exact .inl rfl | exact .inr rfl)) (gds_cons (gd_name 4 sc_law.nd rfl (by first | exact .inl rfl | exact .inr rfl)) gds_nil))))
  (sd_cons (sd_set 5 sc_law.nd rfl (by first | exact .inl rfl | exact .inr rfl) (e_repr3 B hr hG (ad_cons (ed_var 3) ad_nil)))
  (sd_cons (sd_if (td_bool (tw_or (td_not (td_val (e_callP D__law_is_right hG (hr.mono (by decide)) pass00 (ad_cons (ed_var 3) (ad_cons (ed_tup (ad_cons (ed_var 4) ad_nil)) ad_nil))))) (tw_or1 (td_not (td_val (e_callP D__law_is_right hG (hr.mono (by decide)) pass00 (ad_cons (ed_var 3) (ad_cons (e_callI D__law_marks hG (hr.mono (by decide)) pass00 (ad_raw 1 (ad_cons (ed_var 3) (ad_cons (ed_var 4) ad_nil)))) ad_nil)))))))) (sd_one (sd_ret ed_bl)) sd_nil)
  (sd_one (sd_if (t_ne hr (e_repr3 B hr hG (ad_cons (ed_var 3) ad_nil)) (ed_var 5)) (sd_one (sd_ret ed_bl)) sd_nil))))))
  (sd_cons (sd_set 6 sc_law.nd rfl (by first | exact .inl rfl | exact .inr rfl) (ed_tup (ad_cons (ed_tup (ad_cons ed_str (ad_cons ed_str ad_nil))) (ad_cons (ed_tup (ad_cons ed_str (ad_cons ed_str ad_nil))) (ad_cons (ed_tup (ad_cons ed_str ad_nil)) (ad_cons (ed_tup (ad_cons ed_str ad_nil)) (ad_cons (ed_tup (ad_cons ed_str (ad_cons ed_str ad_nil))) (ad_cons (ed_tup (ad_cons ed_str ad_nil)) ad_nil))))))))
  (sd_cons (sd_set 6 sc_law.nd rfl (by first | exact .inl rfl | exact .inr rfl) (e_add (ed_var 6) (ed_tup (ad_cons (ed_tup (ad_cons ed_str ad_nil)) (ad_cons (ed_tup (ad_cons ed_str ad_nil)) (ad_cons (ed_tup (ad_cons ed_str ad_nil)) (ad_cons (ed_tup (ad_cons ed_str ad_nil)) ad_nil)))))))
  (sd_cons (sd_for (L2.passes_of rfl) rfl (i_seq (ed_new (fd_lst (ad_cons (ed_tup (ad_cons ed_int ad_nil)) (ad_cons (ed_tup (ad_cons ed_int ad_nil)) (ad_cons (ed_tup (ad_cons ed_int (ad_cons ed_int ad_nil))) (ad_cons (ed_tup (ad_cons ed_int (ad_cons ed_int (ad_cons ed_int ad_nil)))) (ad_cons (ed_tup (ad_cons ed_int ad_nil)) (ad_cons (ed_tup ad_nil) ad_nil))))))))) (gd_name 7 sc_law.nd rfl (by first | exact .inl rfl | exact .inr rfl)) (sd_one (sd_if (td_not (td_val (e_callP D__law_is_right hG (hr.mono (by decide)) pass00 (ad_cons (ed_var 6) (ad_cons (ed_var 7) ad_nil))))) (sd_one (sd_ret ed_bl)) sd_nil)))
  (sd_cons (sd_setLc 8 sc_law.nd rfl rfl (own := [("_law_k", 9)]) (i_rng2 B (ad_cons ed_int (ad_cons ed_int ad_nil))) (blkOk_by (own := [("_law_k", 9)]) (N := ["_law_script", "_law_feed_here", "_law_lap", "_law_page_here", "_law_cut", "_law_kept", "_law_rows", "_law_marks_here", "_law_told", "_law_k"]) (sc := defScope s_law) (by decide +kernel))
    (fun _ _ _ _ _ => (gd_name 9 sc_law.nd rfl (by first | exact .inl rfl | exact .inr rfl))) (fun _ _ _ _ _ => ptd_nil) (fun _ _ _ _ _ => (e_callN D_layer_of (hr.mono (by decide)) (ad_cons (ed_var 6) (ad_cons (ed_tup (ad_cons ed_int ad_nil)) (ad_cons (ed_var 9) ad_nil))))) (by simp))
  (sd_one (sd_ret (ed_and (e_eq hr (ed_var 8) (ed_new (fd_lst (ad_cons ed_int (ad_cons ed_int (ad_cons ed_int (ad_cons ed_int (ad_cons ed_int (ad_cons ed_int (ad_cons ed_int (ad_cons ed_int ad_nil))))))))))) (ed_one (e_eq hr (e_callN D_rows_of_layer (hr.mono (by decide)) (ad_cons (ed_var 6) (ad_cons (ed_tup (ad_cons ed_int ad_nil)) (ad_cons ed_int ad_nil)))) (ed_tup (ad_cons ed_int (ad_cons ed_int (ad_cons ed_int (ad_cons ed_int ad_nil)))))))))))))))⟩
end
end L34

set_option Elab.async false
set_option linter.all false
set_option autoImplicit false
set_option maxRecDepth 100000
set_option maxHeartbeats 1000000
set_option pp.maxSteps 900
namespace L34
open PySem PySem.Spec Dt
open L2 hiding wT wNot
theorem good_all : ∀ {ys : List PyData}, (∀ y ∈ ys, GoodRow y) → PyData.depthAll ys ≤ 3 ∧ wgAll ys ≤ 502 * ys.length
  | [], _ => by simp [PyData.depthAll, wgAll]
  | y :: ys, h => by
    obtain ⟨_, h1, h2⟩ := h y List.mem_cons_self
    obtain ⟨i1, i2⟩ := good_all fun z hz => h z (List.mem_cons_of_mem _ hz)
    simp only [PyData.depthAll, wgAll, List.length_cons]
    omega
theorem page_sz {ys : List PyData} (h : ys.length ≤ 60) (hg : ∀ y ∈ ys, GoodRow y) : PyData.depth (.tuple ys) ≤ 60 ∧ wg (.tuple ys) ≤ limL := by
  obtain ⟨h1, h2⟩ := good_all hg
  rw [limL_eq]
  simp only [PyData.depth, wg]
  omega
/-- the fixed text -/
def rowsF : List PyData := [.tuple [.str "open", .str "if"], .tuple [.str "open", .str "if"], .tuple [.str "end"], .tuple [.str "stop"], .tuple [.str "open", .str "if"], .tuple [.str "end"], .tuple [.str "end"], .tuple [.str "end"], .tuple [.str "end"], .tuple [.str "stop"]]
theorem rowsF_ok : ∀ x ∈ rowsF, isRow x = true := List.all_eq_true.mp (by decide +kernel : (rowsF.all isRow) = true)
theorem segF {k : Nat} (h : k < 10) : Seg rowsF [2] k := ⟨rowsF_ok, by decide, by decide, by decide, h⟩
def lv : Nat → Nat
  | 2 => 0
  | 3 => 1
  | 4 => 1
  | 5 => 1
  | 6 => 1
  | 7 => 2
  | 8 => 3
  | _ => 4
theorem plcF : ((List.range 8).all fun r => decide (plc rowsF [2] (r + 2) = some (2, lv (r + 2)))) = true := by decide +kernel
theorem plcF' {k : Nat} (h1 : 2 ≤ k) (h2 : k < 10) : plc rowsF [2] k = some (2, lv k) := by
  have := of_decide_eq_true (List.all_eq_true.mp plcF (k - 2) (List.mem_range.mpr (by omega)))
  rw [show k - 2 + 2 = k by omega] at this
  exact this
theorem rowsL : ((List.range rowsF.length).filter fun r => decide (plc rowsF [2] r = some (2, 1))) = [3, 4, 5, 6] := by decide +kernel
def lvD : PyData → PyData
  | .int i => .int (lv i.toNat : Int)
  | _ => .none
theorem rngD_mem {lo : Int} {n : Nat} {d : PyData} (h : d ∈ rngD lo n) : ∃ k : Nat, k < n ∧ d = .int (lo + (k : Int)) := by
  obtain ⟨k, hk, rfl⟩ := List.mem_map.mp h
  exact ⟨k, List.mem_range.mp hk, rfl⟩
theorem ints_shp {xs : List Int} {f : List PyData → PyData} (hf : f = PyData.list ∨ f = PyData.tuple) : shp (f (xs.map PyData.int)) = true := by
  rw [shp_iff]
  have h1 : ∀ l : List Int, PyData.depthAll (l.map PyData.int) ≤ 1 := fun l => by
    induction l with
    | nil => simp [PyData.depthAll]
    | cons a l ih => simp only [List.map_cons, PyData.depthAll, PyData.depth]; omega
  have h2 : ∀ l : List Int, PyData.hasDictAll (l.map PyData.int) = false := fun l => by
    induction l with
    | nil => rfl
    | cons a l ih => simp only [List.map_cons, PyData.hasDictAll, PyData.hasDict, ih]; rfl
  have := h1 xs
  rcases hf with rfl | rfl
  · exact ⟨by simp only [PyData.depth]; omega, by simp only [PyData.hasDict]; exact h2 xs⟩
  · exact ⟨by simp only [PyData.depth]; omega, by simp only [PyData.hasDict]; exact h2 xs⟩
theorem spec_law (cNU : Addr) (i : Ix) (D : DEnds Unit) (h : D.rt (.bool true) ()) : w_law cNU i [.no, .raw (.ref i.1), .no, .no, .no, .no, .no, .no, .no, .no] () D := by
  unfold w_law
  refine seq_gen fun D1 hnx hrt _ => for_of (rng1_of (c_of ⟨by decide, by decide, ?_⟩))
  refine loop_inv (fun _ ρ _ => ∃ z2 z3 z4 z5, ρ = [.no, .raw (.ref i.1), z2, z3, z4, z5, .no, .no, .no, .no]) _ 0 _ _ ?_ ⟨_, _, _, _, rfl⟩ ?_
  · rintro k d hd ρ s ⟨z2, z3, z4, z5, rfl⟩ D' _ _ _ hx _
    dsimp only [gN, List.set]
    refine seq_gen fun D2 hnx2 _ _ => asg_of (callW_of (raw_of rfl (nil_of ⟨rfl, rfl, fun ys c yl yg cl => ⟨rfl, hnx2 _ _ ?_⟩⟩)))
    dsimp only [List.set]
    obtain ⟨p1, p2⟩ := page_sz yl yg
    refine seq_gen fun D3 hnx3 _ _ => asg_of (cb1_of (var_of rfl (repr3_ok p1 p2 (hnx3 _ _ ?_))))
    dsimp only [List.set]
    have hr : ∀ x ∈ ys, isRow x = true := fun x hx => (yg x hx).1
    refine seqIf_f (fun Q E q => tor_of (tnot_of (t_of (callP2 (var_of rfl (tup_of (cons_of (var_of rfl (nil_of ⟨few_lim (by simp), ⟨rfl, [c], rfl, hr, by omega, by simp, by simpa using cl, ?_⟩⟩))))))))) ?_
    · show if (!true) = true then _ else _
      rw [if_neg (by decide)]
      exact tnot_of (t_of (callP2 (var_of rfl (callW_of (raw_of rfl (cons_of (var_of rfl (cons_of (var_of rfl (nil_of ⟨rfl, ys, c, rfl, yl, cl, fun cs pw hc => ⟨rfl, cs, rfl, hr, by omega, pw, hc, q⟩⟩))))))))))
    exact ifS_f (fun Q E q => t_of (op_of (cb1_of (var_of rfl (repr3_ok p1 p2 (var_of rfl (ne_self _ q))))))) (hx _ _ ⟨_, _, _, _, rfl⟩)
  rintro ρ s ⟨z2, z3, z4, z5, rfl⟩
  refine hnx _ _ ?_
  refine seq_gen fun D2 hnx2 _ _ => asg_of (tup_of ?_)
  simp only [wTup, wCons, wC, wNil, allK]
  iterate 7 refine And.intro (few_lim (by simp)) ?_
  refine hnx2 _ _ ?_
  dsimp only [List.set]
  refine seq_gen fun D3 hnx3 _ _ => asg_of (op_of (var_of rfl (tup_of ?_)))
  simp only [wTup, wCons, wC, wNil, allK]
  iterate 5 refine And.intro (few_lim (by simp)) ?_
  refine dAdd_tup (few_lim (by simp)) (hnx3 _ _ ?_)
  show wSeq _ _ [.no, .raw (.ref i.1), z2, z3, z4, z5, .d (.tuple rowsF), .no, .no, .no] () _
  refine seq_gen fun D4 hnx4 _ _ => for_of (seqI_of (l_of (lst_of ?_)))
  simp only [wTup, wCons, wC, wNil, allK]
  iterate 7 refine And.intro (few_lim (by simp)) ?_
  refine seqOf_lst (xs := [[1], [2], [0, 5], [2, 4, 7], [10], []].map fun cs => .tuple (marksD cs)) ?_
  refine loop_inv (fun _ ρ _ => ∃ z7, ρ = [.no, .raw (.ref i.1), z2, z3, z4, z5, .d (.tuple rowsF), z7, .no, .no]) _ 0 _ _ ?_ ⟨_, rfl⟩ ?_
  · rintro k d hd ρ s ⟨z7, rfl⟩ D' _ _ _ hx _
    obtain ⟨cs, hcs, rfl⟩ := List.mem_map.mp (List.mem_of_getElem? hd)
    have hc : cs.Pairwise (· < ·) ∧ ∀ c ∈ cs, c ≤ rowsF.length := by
      simp only [List.mem_cons, List.not_mem_nil, or_false] at hcs
      rcases hcs with rfl | rfl | rfl | rfl | rfl | rfl <;> decide
    dsimp only [gN, List.set]
    exact ifS_f (fun Q E q => tnot_of (t_of (callP2 (var_of rfl (var_of rfl ⟨rfl, cs, rfl, rowsF_ok, by decide, hc.1, hc.2, q⟩))))) (hx _ _ ⟨_, rfl⟩)
  rintro ρ s ⟨z7, rfl⟩
  refine hnx4 _ _ ?_
  refine seq_gen fun D5 hnx5 _ _ => asg_of (l_of (comp_of rfl (rng2_of (cons_of (c_of (cons_of (c_of (nil_of ⟨by decide, ?_⟩))))))))
  refine comp_map lvD _ _ _ (fun d hd s Y y => ⟨rfl, ?_⟩) ?_
  · obtain ⟨k, hk, rfl⟩ := rngD_mem hd
    have hk : k < 8 := hk
    refine callP3 (var_of rfl (tup_of (cons_of (c_of (nil_of ⟨few_lim (by simp), var_of rfl ⟨rfl, [2], k + 2, rfl, ?_, segF (by omega), ?_⟩⟩)))))
    · rw [show (2 : Int) + (k : Int) = ((k + 2 : Nat) : Int) by omega]
    · rw [plcF' (by omega) (by omega)]
      have y : Y (.int (lv ((2 : Int) + (k : Int)).toNat : Int)) s := y
      rw [show ((2 : Int) + (k : Int)).toNat = k + 2 by omega] at y
      exact y
  refine hnx5 _ _ ?_
  dsimp only [List.set]
  have e : (rngD 2 (10 - 2 : Int).toNat).map lvD = [0, 1, 1, 1, 1, 2, 3, 4].map PyData.int := rfl
  rw [e]
  refine ret_of ?_
  rw [wAnd_eq]
  refine op_of (var_of rfl (l_of (lst_of ?_)))
  simp only [wCons, wC, wNil, allK]
  refine And.intro (few_lim (by simp)) ?_
  refine ⟨ints_shp (.inl rfl), ints_shp (xs := [0, 1, 1, 1, 1, 2, 3, 4]) (.inl rfl), ?_⟩
  have e2 : PyData.eqv (.list ([0, 1, 1, 1, 1, 2, 3, 4].map PyData.int)) (.list [PyData.int 0, .int 1, .int 1, .int 1, .int 1, .int 2, .int 3, .int 4]) = true := by simp [PyData.eqv, PyData.eqvAll]
  rw [e2]
  dsimp only
  rw [if_pos rfl]
  refine op_of (callP3 (var_of rfl (tup_of (cons_of (c_of (nil_of ⟨few_lim (by simp), c_of ⟨rfl, [2], 4, rfl, rfl, segF (by omega), ?_⟩⟩))))))
  rw [plcF' (by omega) (by omega)]
  dsimp only
  rw [show lv 4 = 1 from rfl, rowsL]
  refine tup_of ?_
  simp only [wCons, wC, wNil, allK]
  refine And.intro (few_lim (by simp)) ?_
  refine ⟨ints_shp (xs := [3, 4, 5, 6]) (.inr rfl), ints_shp (xs := [3, 4, 5, 6]) (.inr rfl), ?_⟩
  have e3 : PyData.eqv (.tuple ([3, 4, 5, 6].map fun r : Nat => PyData.int (r : Int))) (.tuple [PyData.int 3, .int 4, .int 5, .int 6]) = true := by simp [PyData.eqv, PyData.eqvAll]
  rw [e3]
  exact h
end L34

set_option Elab.async false
set_option linter.all false
set_option autoImplicit false
set_option maxRecDepth 100000
set_option maxHeartbeats 1000000
set_option pp.maxSteps 400
namespace L34
open PySem PySem.Spec Dt
open L2 hiding wT wNot
/-! ## _law_feed -/
theorem cut_ints (ns : List Int) (lo hi : Option Int) : ∃ ms : List Int, cutV (ns.map V.int) lo hi = ms.map V.int ∧ ms.length ≤ ns.length := by
  unfold cutV
  generalize HT.sIx (ns.map V.int).length 0 lo = i
  generalize HT.sIx (ns.map V.int).length (ns.map V.int).length hi - i = j
  refine ⟨(ns.drop i).take j, by rw [List.map_take, List.map_drop], ?_⟩
  rw [List.length_take, List.length_drop]
  omega
def spFeed (K : PySem.W.Frag) : Sp := fun vs H Q _ => ∃ (a : Addr) (ns : List Int), vs = [.ref a] ∧ SqL K H a (ns.map V.int) ∧ ns.length ≤ 63 ∧
  ∀ H' p L ms kvs, Same H H' → Fd "cells" "at" "left" "count" H' p L ms kvs 0 0 0 → Q (.ref p) H'
section
variable {P : Program} {w : World} {K : PySem.W.Frag} {mg : Str → Option Value} {base : Heap}
abbrev s_feed : Stmt := top 32
theorem sc_feed : FnScope ["_law_script"] ["_law_script"] (defScope s_feed) := ⟨rfl, rfl, rfl, by decide +kernel, rfl, by decide +kernel, by decide +kernel⟩
theorem ok_feed {f : Addr} {fd : FuncData} (Fu : Fun K "_law_feed" "_law_feed" s_feed f fd) (B : Bt mg) : FnG P w K mg base CX0 1 f fd ["_law_script"] (spFeed K) := by
  refine fnG Fu sc_feed (fun vs H Q E h => by obtain ⟨a, ns, rfl, _⟩ := h; rfl) fun cdv A outer s H vs Q E hG hr h => ?_
  obtain ⟨a, ns, rfl, hS, hl, hq⟩ := h
  have mLst : mg "list" = none := B.no _ (by decide)
  refine ⟨_, pss_one (ps_ret (pe_disp (pps_cons pe_str (pe_callTy call_list_of (by rfl) mLst (by decide +kernel) (pa_cons (pe_slice sl_list (pv 0) po_none (po_some pe_int)) pa_nil)) (pps_cons pe_str pe_int (pps_cons pe_str pe_int (pps_cons pe_str pe_int pps_nil)))) rfl rfl (by simp) (by simp))), ?_⟩
  intro p hp
  have e1 : Same H (upd H p (.dK [])) := same_upd hp
  refine ⟨.ref a, rfl, 63, rfl, a, _, rfl, e1.seq hS, fun q hq1 => ?_⟩
  obtain ⟨ms, em, lm⟩ := cut_ints ns none (some 63)
  rw [em]
  have pq : p ≠ q := ne_of_none upd_same hq1
  have eq : (upd (upd H p (.dK [])) q (.lst (ms.map V.int))) q = some (.lst (ms.map V.int)) := upd_same
  have ep : (upd (upd H p (.dK [])) q (.lst (ms.map V.int))) p = some (.dK []) := by rw [upd_ne pq]; exact upd_same
  have e2 : Same H (upd (upd H p (.dK [])) q (.lst (ms.map V.int))) := e1.trans (same_upd hq1)
  generalize upd (upd H p (.dK [])) q (.lst (ms.map V.int)) = H1 at eq ep e2 ⊢
  refine ⟨q, _, rfl, .inl (SqL.of eq), fun D hD => ?_⟩
  have pD : p ≠ D := ne_of_none ep hD
  have h1 : (upd H1 D (.lst (ms.map V.int))) D = some (.lst (ms.map V.int)) := upd_same
  have h2 : ∀ b o, b ≠ D → H1 b = some o → (upd H1 D (.lst (ms.map V.int))) b = some o := fun b o n e => by rw [upd_ne n]; exact e
  generalize upd H1 D (.lst (ms.map V.int)) = H' at h1 h2 ⊢
  refine ⟨h2 p _ pD ep, [(.inr "cells", .ref D), (.inr "at", .int 0), (.inr "left", .int 0), (.inr "count", .int 0)], rfl, by simp, hq _ p D ms (mergeK [] [(.inr "cells", .ref D), (.inr "at", .int 0), (.inr "left", .int 0), (.inr "count", .int 0)]) (fun b o e => ?_) ?_⟩
  · have nb : b ≠ p := fun z => by rw [z, hp] at e; cases e
    rw [upd_ne nb]
    have e3 := e2 b o e
    exact h2 b o (ne_of_none e3 hD) e3
  · have k1 : ¬ ((.inr "cells" : Key) = .inr "at") := by decide +kernel
    have k2 : ¬ ((.inr "cells" : Key) = .inr "left") := by decide +kernel
    have k3 : ¬ ((.inr "cells" : Key) = .inr "count") := by decide +kernel
    have k4 : ¬ ((.inr "at" : Key) = .inr "left") := by decide +kernel
    have k5 : ¬ ((.inr "at" : Key) = .inr "count") := by decide +kernel
    have k6 : ¬ ((.inr "left" : Key) = .inr "count") := by decide +kernel
    refine ⟨upd_same, ?_, ?_, ?_, ?_, ?_, ?_⟩
    · exact Nat.le_trans (length_mergeK _ _) (by simp)
    · simp only [mergeK, List.foldl_cons, List.foldl_nil]
      rw [valV_put, if_neg k3, valV_put, if_neg k2, valV_put, if_neg k1, valV_put, if_pos rfl]
    · simp only [mergeK, List.foldl_cons, List.foldl_nil]
      rw [valV_put, if_neg k5, valV_put, if_neg k4, valV_put, if_pos rfl]
    · simp only [mergeK, List.foldl_cons, List.foldl_nil]
      rw [valV_put, if_neg k6, valV_put, if_pos rfl]
    · simp only [mergeK, List.foldl_cons, List.foldl_nil]
      rw [valV_put, if_pos rfl]
    · rw [upd_ne (Ne.symm pD), h1]
end
end L34

set_option Elab.async false
set_option linter.all false
set_option autoImplicit false
set_option maxRecDepth 100000
set_option maxHeartbeats 2000000
set_option pp.maxSteps 40
namespace L34
open PySem PySem.Spec Dt
open L2 hiding wT wNot
def spLaw (K : PySem.W.Frag) (T : List (Addr × Str)) : Sp := fun vs H Q _ => ∃ (a : Addr) (ns : List Int), vs = [.ref a] ∧ SqL K H a (ns.map V.int) ∧ ns.length ≤ 63 ∧ (∀ p ∈ T, LamX.TabS H p.1 p.2) ∧ ∀ H', Q (.bl true) H'
/-- where a def of the text stands -/
structure Fct (K : PySem.W.Frag) (x : Str) (st : Stmt) : Prop where
  ex : ∃ (f : Addr) (fd : FuncData), PySem.W.nsIn K mainGlobals x = some (some (.ref f)) ∧ Fun K x x st f fd
theorem fct_mk {K : PySem.W.Frag} {x : Str} {st : Stmt} {f : Addr} {oc kV dc pm cd ct : Value} {od an : Option Addr} {sl : Array (Option Value)} (a : PySem.W.nsIn K mainGlobals x = some (some (.ref f)))
    (l : K.lookup f = some ⟨oc, od, .func (PySem.W.fnOf x x (defArgs st) (defBody st) (defScope st) .none kV dc pm an cd ct), sl⟩) (c : PySem.W.codeIn K cd x = true) (k : PySem.W.keepIn K (.ref f) = true) : Fct K x st := ⟨⟨f, _, a, fun_mk l c k⟩⟩
/-- one whose code object stands at c, its table at p -/
structure FctC (K : PySem.W.Frag) (x : Str) (st : Stmt) (c p : Addr) : Prop where
  ex : ∃ (f : Addr) (fd : FuncData), PySem.W.nsIn K mainGlobals x = some (some (.ref f)) ∧ Fun K x x st f fd ∧ fd.code = .ref c
  hd : PySem.W.codeHdIn K c p = true
theorem fctC_mk {K : PySem.W.Frag} {x : Str} {st : Stmt} {f c p : Addr} {oc kV dc pm ct oc2 : Value} {od an od2 : Option Addr} {sl sl2 : Array (Option Value)} {us : Array Value} (a : PySem.W.nsIn K mainGlobals x = some (some (.ref f)))
    (l : K.lookup f = some ⟨oc, od, .func (PySem.W.fnOf x x (defArgs st) (defBody st) (defScope st) .none kV dc pm an (.ref c) ct), sl⟩) (cd : PySem.W.codeIn K (.ref c) x = true) (k : PySem.W.keepIn K (.ref f) = true) (_ : K.lookup c = some ⟨oc2, od2, .fields us, sl2⟩) (_ : us[11]? = some (.ref p)) (h : PySem.W.codeHdIn K c p = true) : FctC K x st c p := ⟨⟨f, _, a, fun_mk l cd k, rfl⟩, h⟩
/-- the __init__ of an error -/
structure IniK (K : PySem.W.Frag) (C f : Addr) (q : Str) (st : Stmt) : Prop where
  at' : PySem.W.findIn K (.ref C) "__init__" = some (some (.ref f))
  ty : PySem.W.typeIn K (.ref f) = some (.type "function")
  fn : ∃ fd : FuncData, Fun K "__init__" q st f fd
theorem ini_mk {K : PySem.W.Frag} {C f : Addr} {q : Str} {st : Stmt} {oc kV dc pm cd ct : Value} {od an : Option Addr} {sl : Array (Option Value)} (a : PySem.W.findIn K (.ref C) "__init__" = some (some (.ref f))) (t : PySem.W.typeIn K (.ref f) = some (.type "function"))
    (l : K.lookup f = some ⟨oc, od, .func (PySem.W.fnOf "__init__" q (defArgs st) (defBody st) (defScope st) .none kV dc pm an cd ct), sl⟩) (c : PySem.W.codeIn K cd q = true) (k : PySem.W.keepIn K (.ref f) = true) : IniK K C f q st := ⟨a, t, _, fun_mk l c k⟩
theorem oex_mk {K : PySem.W.Frag} {C : Addr} {nm q : Str} {N : Addr} {bs bm : List Value} {sn : List Str} {sub : List Value} {ab : Bool} {col : Option Bool} {dd : Option Addr} {k0 k1 k2 k3 k5 : Option Value} (k : K.lookup C = some (excClassObj nm q C N bs bm true sn sub ab col dd k0 k1 k2 k3 k5 "ValueError.__new__")) (b : PySem.HandSPX.refsVE bm = true)
    (s1 : PySem.W.findIn K (.ref C) "__setattr__" = some (some (.builtin "object.__setattr__"))) (s2 : PySem.W.subIn K (.ref C) (.type "BaseException") = some true) (s3 : PySem.W.typeIn K (.ref C) = some (.type "type")) (s4 : PySem.W.keepIn K (.ref C) = true) : OexC K C := ⟨⟨_, _, _, _, _, _, _, _, _, _, _, _, _, _, _, k, b⟩, s1, s2, s3, s4⟩
structure N2 (K : PySem.W.Frag) (C : Addr) : Prop where
  n1 : PySem.W.findIn K (.ref C) "word" = some none
  n2 : PySem.W.findIn K (.ref C) "at" = some none
section
variable {P : Program} {w : World} {K : PySem.W.Frag} {mg : Str → Option Value} {base : Heap}
theorem kw3_of {x : Str} {st : Stmt} {f : Addr} {fd : FuncData} {k : Nat} {sp : Sp} (F : Fun K x x st f fd) (hm : mg x = some (.ref f)) (G : FnOk P w K mg base (L2.CX P w) k f fd ["text", "carets", "row"] sp)
    (h : ∀ (kV doc pm : Value) (an : Option Addr) (cdv ct u v y : Value), bindArgs (PySem.W.fnOf x x (defArgs st) (defBody st) (defScope st) .none kV doc pm an cdv ct) ⟨[], [(("row" : Str), u), (("carets" : Str), v), (("text" : Str), y)]⟩ = pure [(("text" : Str), y), (("carets" : Str), v), (("row" : Str), u)]) : DoK P w K mg base (L2.CX P w) k x 3 sp ["row", "carets", "text"] swap3 := by
  refine ⟨f, fd, ["text", "carets", "row"], rfl, rfl, hm, F.kp, G, fun s ws _ hl => ?_⟩
  obtain ⟨oc, od, kV, doc, pm, an, cdv, ct, osl, rfl, _⟩ := F.ex
  match ws, hl with
  | [u, v, y], _ => exact .of_eq (h kV doc pm an cdv ct u v y)

theorem ok_law {T : List (Addr × Str)} {cNU f : Addr} {fd : FuncData} (Fu : Fun K "law" "law" s_law f fd) (B : Bt mg) (hu : (T.map (fun q : Addr × Str => q.1)).Nodup) {fF : Addr} {fdF : FuncData} (GF : FnG P w K mg base CX0 1 fF fdF ["_law_script"] (spFeed K)) (mF : mg "_law_feed" = some (.ref fF)) (kF : PySem.W.keepIn K (.ref fF) = true) (bF : Binds K fdF ["_law_script"] [])
    (D__law_is_right : Df P w K mg base CX0 9 "_law_is_right" 2 (spP K 2 F__law_is_right)) (D__law_marks : Df P w K mg base CX0 2 "_law_marks" 3 (spI K (Wf T) 3 F__law_marks)) (D__law_page : Df P w K mg base CX0 3 "_law_page" 1 (spI K (Wf T) 1 F__law_page)) (D_layer_of : Do P w K mg base (L2.CX P w) 8 "layer_of" 3 (spP K 3 (F_layer_of cNU))) (D_rows_of_layer : Do P w K mg base (L2.CX P w) 8 "rows_of_layer" 3 (spP K 3 (F_rows_of_layer cNU))) :
    FnG P w K mg base CX0 10 f fd ["_law_script"] (spLaw K T) := by
  refine fnG Fu sc_law (fun vs H Q E h => by obtain ⟨a, ns, rfl, _⟩ := h; rfl) fun cdv A outer s H vs Q E hG hr h => ?_
  obtain ⟨a, ns, rfl, hS, hl, hTT, hq⟩ := h
  obtain ⟨t, ht⟩ := tail_law (P := P) (w := w) (base := base) B D__law_is_right D__law_marks D__law_page D_layer_of D_rows_of_layer f cdv A outer s H E hG hr
  refine ⟨_, pss_cons (ps_set (i := 1) sc_law.nd rfl (by first | exact .inl rfl | exact .inr rfl) (pe_callG (E := fun _ => E0) GF hG (hr.mono (by decide)) rfl mF kF bF (fun _ _ _ _ _ _ _ h => h.elim) (pa_cons (pv 0) pa_nil))) (ht (0, 0)).pe, ?_⟩
  refine ⟨.ref a, rfl, a, ns, rfl, hS, hl, fun H' p L ms kvs sm F => ?_⟩
  have tt : ∀ q ∈ T, LamX.TabS H' q.1 q.2 := fun q hq => (hTT q hq).ext sm
  have g : (Wf T (p, L)).G () H' := ⟨⟨ms, kvs, 0, 0, 0, F⟩, tt⟩
  have tabAt : ∀ b ∈ T.map (fun q : Addr × Str => q.1), ∃ us, H' b = some (.tbl us) := fun b hb => by
    obtain ⟨q, hq, rfl⟩ := List.mem_map.mp hb
    obtain ⟨us, e, _⟩ := tt q hq
    exact ⟨us, e⟩
  have nd : (p :: L :: T.map (fun q : Addr × Str => q.1)).Nodup := by
    refine List.nodup_cons.mpr ⟨fun z => ?_, List.nodup_cons.mpr ⟨fun z => ?_, hu⟩⟩
    · rcases List.mem_cons.mp z with e | z
      · exact F.ne e.symm
      · obtain ⟨us, e⟩ := tabAt _ z
        have := F.at'
        rw [e] at this; cases this
    · obtain ⟨us, e⟩ := tabAt _ z
      have := F.cells
      rw [e] at this; cases this
  refine (ht (p, L)).go ⟨[], fun _ => none⟩ _ H' [.no, .raw (.ref p), .no, .no, .no, .no, .no, .no, .no, .no] () ⟨fun _ _ => False, fun d _ => d = .bool true, fun _ _ => False, fun _ _ => False, fun _ _ _ => False⟩ _ ?_ (spec_law cNU (p, L) _ rfl) ?_
  · refine ⟨rfl, fun i x h => ?_, ?_, fun b hb => ?_, g, (fun b o h => (nomatch h)), (fun q h => (nomatch h))⟩
    · rcases i with _ | _ | _ | _ | _ | _ | _ | _ | _ | _ | i
      · cases h; exact ⟨_, rfl, trivial⟩
      · cases h; exact ⟨_, rfl, rfl⟩
      all_goals first | (cases h; exact ⟨_, rfl, trivial⟩) | (simp at h)
    · show ((p :: L :: T.map (fun q : Addr × Str => q.1)) ++ [] ++ []).Nodup
      rw [List.append_nil, List.append_nil]
      exact nd
    · have hb : b ∈ ((p :: L :: T.map (fun q : Addr × Str => q.1)) ++ [] ++ [] : List Addr) := hb
      rw [List.append_nil, List.append_nil] at hb
      exact (Wf T (p, L)).tr () H' g b hb
  · refine ⟨fun _ _ _ _ _ _ z => z.elim, fun _ _ _ _ _ _ z => z.elim, fun _ _ _ _ _ _ z => z.elim, fun v H2 d s' _ _ dv q => ?_, fun _ _ _ _ _ _ _ _ _ z => z.elim⟩
    have q : d = .bool true := q
    subst q
    cases dv
    exact hq H2
end

theorem all_mk {l : PySem.W.OpenLaw} {w : World} {K : PySem.W.Frag} {h : Heap} {mg : Str → Option Value} {fa : Addr} (X : K.In h) (G : h.Ns mainGlobals mg) (hfa : mg "law" = some (.ref fa))
    (F_is_integer : Fct K "is_integer" s_is_integer)
    (F_is_number : Fct K "is_number" s_is_number)
    (F_is_name : Fct K "is_name" s_is_name)
    (F_is_kind : Fct K "is_kind" s_is_kind)
    (F_is_nothing : Fct K "is_nothing" s_is_nothing)
    (F_is_one_of : Fct K "is_one_of" s_is_one_of)
    (F_is_pair : Fct K "is_pair" s_is_pair)
    (F_is_sort : Fct K "is_sort" s_is_sort)
    (F_is_row : Fct K "is_row" s_is_row)
    (F_is_ascending : Fct K "is_ascending" s_is_ascending)
    (F_is_gaps : Fct K "is_gaps" s_is_gaps)
    (F_check_rows : Fct K "check_rows" s_check_rows)
    (F_check_text : Fct K "check_text" s_check_text)
    (F_check_carets : Fct K "check_carets" s_check_carets)
    (F_check_row : Fct K "check_row" s_check_row)
    (F_is_gap_of : Fct K "is_gap_of" s_is_gap_of)
    (F_is_gaps_of : Fct K "is_gaps_of" s_is_gaps_of)
    (F_segment_of : Fct K "segment_of" s_segment_of)
    (F_layer_of : Fct K "layer_of" s_layer_of)
    (F_rows_of_layer : Fct K "rows_of_layer" s_rows_of_layer)
    (F_checked_places : Fct K "checked_places" s_checked_places)
    (F_places_of : Fct K "places_of" s_places_of)
    (F__law_feed : Fct K "_law_feed" s_feed)
    (F__law_draw : Fct K "_law_draw" s_draw)
    (F__law_stand : Fct K "_law_stand" s__law_stand)
    (F__law_menu : Fct K "_law_menu" s__law_menu)
    (F__law_sort : Fct K "_law_sort" s__law_sort)
    (F__law_item : Fct K "_law_item" s__law_item)
    (F__law_page : Fct K "_law_page" s__law_page)
    (F__law_marks : Fct K "_law_marks" s__law_marks)
    (F__law_segment : Fct K "_law_segment" s__law_segment)
    (F__law_layer : Fct K "_law_layer" s__law_layer)
    (F__law_due : Fct K "_law_due" s__law_due)
    (F__law_is_right : Fct K "_law_is_right" s__law_is_right)
    (F_law : Fct K "law" s_law)
    {t1 t2 : Tok}
    (q1 : PySem.W.nsIn K mainGlobals "LETTERS" = some (some (.str "abcdefghijklmnopqrstuvwxyz" t1)))
    (q2 : PySem.W.nsIn K mainGlobals "LONGEST_NAME" = some (some (.int 8 t2)))
    (z_isinstance : PySem.W.nsIn K mainGlobals "isinstance" = some none)
    (z_int : PySem.W.nsIn K mainGlobals "int" = some none)
    (z_bool : PySem.W.nsIn K mainGlobals "bool" = some none)
    (z_str : PySem.W.nsIn K mainGlobals "str" = some none)
    (z_tuple : PySem.W.nsIn K mainGlobals "tuple" = some none)
    (z_list : PySem.W.nsIn K mainGlobals "list" = some none)
    (z_len : PySem.W.nsIn K mainGlobals "len" = some none)
    (z_all : PySem.W.nsIn K mainGlobals "all" = some none)
    (z_any : PySem.W.nsIn K mainGlobals "any" = some none)
    (z_zip : PySem.W.nsIn K mainGlobals "zip" = some none)
    (z_range : PySem.W.nsIn K mainGlobals "range" = some none)
    (z_repr : PySem.W.nsIn K mainGlobals "repr" = some none)
    (z_set : PySem.W.nsIn K mainGlobals "set" = some none)
    (z_sorted : PySem.W.nsIn K mainGlobals "sorted" = some none)
    (z_sum : PySem.W.nsIn K mainGlobals "sum" = some none)
    (z_min : PySem.W.nsIn K mainGlobals "min" = some none)
    (z_max : PySem.W.nsIn K mainGlobals "max" = some none)
    (z_enumerate : PySem.W.nsIn K mainGlobals "enumerate" = some none)
    (z_dict : PySem.W.nsIn K mainGlobals "dict" = some none)
    (z_ValueError : PySem.W.nsIn K mainGlobals "ValueError" = some none)
    {cNU fNU : Addr}
    (x_NU : PySem.W.nsIn K mainGlobals "NotUsable" = some (some (.ref cNU)))
    (dNU : N2 K cNU)
    (oNU : OexC K cNU) (iNU : IniK K cNU fNU "NotUsable.__init__" s_iniNU)
    : ∃ (cs : List (Addr × Addr)) (fd : FuncData) (sp : Sp), (∀ q ∈ cs, h.get? q.2 = some noRows) ∧ (∀ q ∈ cs, K.lookup q.2 = none) ∧ (∀ q ∈ cs, PySem.W.codeHdIn K q.1 q.2 = true) ∧ (∀ (s : Shared) (v : Value), BindsTo s fd ⟨[v], []⟩ [("_law_script", v)]) ∧
      (∀ (H : Hp) (a : Addr) (ns : List Int), ns.length ≤ 63 → (∀ q ∈ cs, H q.2 = some (.tbl #[])) → SqL K H a (ns.map V.int) → sp [.ref a] H (fun v _ => v = .bl true) fun _ _ _ => False) ∧
      ∀ base : Heap, K.In base → base.Ns mainGlobals mg → (∀ q ∈ cs, LamX.TabB base mg q.1 q.2) → FnG l.prog w K mg base CX0 10 fa fd ["_law_script"] sp := by
  obtain ⟨f_is_integer, fd_is_integer, m_is_integer, U_is_integer⟩ := F_is_integer.ex
  have m_is_integer := PySem.W.mg_of X G m_is_integer
  have b_is_integer := U_is_integer.binds (ps := ["thing"]) fun _ _ _ _ _ _ us hl => match us, hl with | [_], _ => rfl
  obtain ⟨f_is_number, fd_is_number, m_is_number, U_is_number⟩ := F_is_number.ex
  have m_is_number := PySem.W.mg_of X G m_is_number
  have b_is_number := U_is_number.binds (ps := ["thing"]) fun _ _ _ _ _ _ us hl => match us, hl with | [_], _ => rfl
  obtain ⟨f_is_name, fd_is_name, m_is_name, U_is_name⟩ := F_is_name.ex
  have m_is_name := PySem.W.mg_of X G m_is_name
  have b_is_name := U_is_name.binds (ps := ["thing"]) fun _ _ _ _ _ _ us hl => match us, hl with | [_], _ => rfl
  obtain ⟨f_is_kind, fd_is_kind, m_is_kind, U_is_kind⟩ := F_is_kind.ex
  have m_is_kind := PySem.W.mg_of X G m_is_kind
  have b_is_kind := U_is_kind.binds (ps := ["thing"]) fun _ _ _ _ _ _ us hl => match us, hl with | [_], _ => rfl
  obtain ⟨f_is_nothing, fd_is_nothing, m_is_nothing, U_is_nothing⟩ := F_is_nothing.ex
  have m_is_nothing := PySem.W.mg_of X G m_is_nothing
  have b_is_nothing := U_is_nothing.binds (ps := ["thing"]) fun _ _ _ _ _ _ us hl => match us, hl with | [_], _ => rfl
  obtain ⟨f_is_one_of, fd_is_one_of, m_is_one_of, U_is_one_of⟩ := F_is_one_of.ex
  have m_is_one_of := PySem.W.mg_of X G m_is_one_of
  have b_is_one_of := U_is_one_of.binds (ps := ["thing", "words"]) fun _ _ _ _ _ _ us hl => match us, hl with | [_, _], _ => rfl
  obtain ⟨f_is_pair, fd_is_pair, m_is_pair, U_is_pair⟩ := F_is_pair.ex
  have m_is_pair := PySem.W.mg_of X G m_is_pair
  have b_is_pair := U_is_pair.binds (ps := ["thing"]) fun _ _ _ _ _ _ us hl => match us, hl with | [_], _ => rfl
  obtain ⟨f_is_sort, fd_is_sort, m_is_sort, U_is_sort⟩ := F_is_sort.ex
  have m_is_sort := PySem.W.mg_of X G m_is_sort
  have b_is_sort := U_is_sort.binds (ps := ["thing"]) fun _ _ _ _ _ _ us hl => match us, hl with | [_], _ => rfl
  obtain ⟨f_is_row, fd_is_row, m_is_row, U_is_row⟩ := F_is_row.ex
  have m_is_row := PySem.W.mg_of X G m_is_row
  have b_is_row := U_is_row.binds (ps := ["thing"]) fun _ _ _ _ _ _ us hl => match us, hl with | [_], _ => rfl
  obtain ⟨f_is_ascending, fd_is_ascending, m_is_ascending, U_is_ascending⟩ := F_is_ascending.ex
  have m_is_ascending := PySem.W.mg_of X G m_is_ascending
  have b_is_ascending := U_is_ascending.binds (ps := ["things"]) fun _ _ _ _ _ _ us hl => match us, hl with | [_], _ => rfl
  obtain ⟨f_is_gaps, fd_is_gaps, m_is_gaps, U_is_gaps⟩ := F_is_gaps.ex
  have m_is_gaps := PySem.W.mg_of X G m_is_gaps
  have b_is_gaps := U_is_gaps.binds (ps := ["thing"]) fun _ _ _ _ _ _ us hl => match us, hl with | [_], _ => rfl
  obtain ⟨f_check_rows, fd_check_rows, m_check_rows, U_check_rows⟩ := F_check_rows.ex
  have m_check_rows := PySem.W.mg_of X G m_check_rows
  have b_check_rows := U_check_rows.binds (ps := ["word", "rows"]) fun _ _ _ _ _ _ us hl => match us, hl with | [_, _], _ => rfl
  obtain ⟨f_check_text, fd_check_text, m_check_text, U_check_text⟩ := F_check_text.ex
  have m_check_text := PySem.W.mg_of X G m_check_text
  have b_check_text := U_check_text.binds (ps := ["text"]) fun _ _ _ _ _ _ us hl => match us, hl with | [_], _ => rfl
  obtain ⟨f_check_carets, fd_check_carets, m_check_carets, U_check_carets⟩ := F_check_carets.ex
  have m_check_carets := PySem.W.mg_of X G m_check_carets
  have b_check_carets := U_check_carets.binds (ps := ["text", "carets"]) fun _ _ _ _ _ _ us hl => match us, hl with | [_, _], _ => rfl
  obtain ⟨f_check_row, fd_check_row, m_check_row, U_check_row⟩ := F_check_row.ex
  have m_check_row := PySem.W.mg_of X G m_check_row
  have b_check_row := U_check_row.binds (ps := ["text", "row"]) fun _ _ _ _ _ _ us hl => match us, hl with | [_, _], _ => rfl
  obtain ⟨f_is_gap_of, fd_is_gap_of, m_is_gap_of, U_is_gap_of⟩ := F_is_gap_of.ex
  have m_is_gap_of := PySem.W.mg_of X G m_is_gap_of
  have b_is_gap_of := U_is_gap_of.binds (ps := ["text", "gap"]) fun _ _ _ _ _ _ us hl => match us, hl with | [_, _], _ => rfl
  obtain ⟨f_is_gaps_of, fd_is_gaps_of, m_is_gaps_of, U_is_gaps_of⟩ := F_is_gaps_of.ex
  have m_is_gaps_of := PySem.W.mg_of X G m_is_gaps_of
  have b_is_gaps_of := U_is_gaps_of.binds (ps := ["text", "thing"]) fun _ _ _ _ _ _ us hl => match us, hl with | [_, _], _ => rfl
  obtain ⟨f_segment_of, fd_segment_of, m_segment_of, U_segment_of⟩ := F_segment_of.ex
  have m_segment_of := PySem.W.mg_of X G m_segment_of
  have b_segment_of := U_segment_of.binds (ps := ["text", "carets", "row"]) fun _ _ _ _ _ _ us hl => match us, hl with | [_, _, _], _ => rfl
  obtain ⟨f_layer_of, fd_layer_of, m_layer_of, U_layer_of⟩ := F_layer_of.ex
  have m_layer_of := PySem.W.mg_of X G m_layer_of
  have b_layer_of := U_layer_of.binds (ps := ["text", "carets", "row"]) fun _ _ _ _ _ _ us hl => match us, hl with | [_, _, _], _ => rfl
  obtain ⟨f_rows_of_layer, fd_rows_of_layer, m_rows_of_layer, U_rows_of_layer⟩ := F_rows_of_layer.ex
  have m_rows_of_layer := PySem.W.mg_of X G m_rows_of_layer
  have b_rows_of_layer := U_rows_of_layer.binds (ps := ["text", "carets", "row"]) fun _ _ _ _ _ _ us hl => match us, hl with | [_, _, _], _ => rfl
  obtain ⟨f_checked_places, fd_checked_places, m_checked_places, U_checked_places⟩ := F_checked_places.ex
  have m_checked_places := PySem.W.mg_of X G m_checked_places
  have b_checked_places := U_checked_places.binds (ps := ["text", "carets", "row"]) fun _ _ _ _ _ _ us hl => match us, hl with | [_, _, _], _ => rfl
  obtain ⟨f_places_of, fd_places_of, m_places_of, U_places_of⟩ := F_places_of.ex
  have m_places_of := PySem.W.mg_of X G m_places_of
  have b_places_of := U_places_of.binds (ps := ["text", "carets"]) fun _ _ _ _ _ _ us hl => match us, hl with | [_, _], _ => rfl
  obtain ⟨f__law_feed, fd__law_feed, m__law_feed, U__law_feed⟩ := F__law_feed.ex
  have m__law_feed := PySem.W.mg_of X G m__law_feed
  have b__law_feed := U__law_feed.binds (ps := ["_law_script"]) fun _ _ _ _ _ _ us hl => match us, hl with | [_], _ => rfl
  obtain ⟨f__law_draw, fd__law_draw, m__law_draw, U__law_draw⟩ := F__law_draw.ex
  have m__law_draw := PySem.W.mg_of X G m__law_draw
  have b__law_draw := U__law_draw.binds (ps := ["_law_feed_here", "_law_many"]) fun _ _ _ _ _ _ us hl => match us, hl with | [_, _], _ => rfl
  obtain ⟨f__law_stand, fd__law_stand, m__law_stand, U__law_stand⟩ := F__law_stand.ex
  have m__law_stand := PySem.W.mg_of X G m__law_stand
  have b__law_stand := U__law_stand.binds (ps := ["_law_page_here"]) fun _ _ _ _ _ _ us hl => match us, hl with | [_], _ => rfl
  obtain ⟨f__law_menu, fd__law_menu, m__law_menu, U__law_menu⟩ := F__law_menu.ex
  have m__law_menu := PySem.W.mg_of X G m__law_menu
  have b__law_menu := U__law_menu.binds (ps := ["_law_feed_here"]) fun _ _ _ _ _ _ us hl => match us, hl with | [_], _ => rfl
  obtain ⟨f__law_sort, fd__law_sort, m__law_sort, U__law_sort⟩ := F__law_sort.ex
  have m__law_sort := PySem.W.mg_of X G m__law_sort
  have b__law_sort := U__law_sort.binds (ps := ["_law_feed_here", "_law_kinds"]) fun _ _ _ _ _ _ us hl => match us, hl with | [_, _], _ => rfl
  obtain ⟨f__law_item, fd__law_item, m__law_item, U__law_item⟩ := F__law_item.ex
  have m__law_item := PySem.W.mg_of X G m__law_item
  have b__law_item := U__law_item.binds (ps := ["_law_feed_here", "_law_names", "_law_kinds", "_law_taste"]) fun _ _ _ _ _ _ us hl => match us, hl with | [_, _, _, _], _ => rfl
  obtain ⟨f__law_page, fd__law_page, m__law_page, U__law_page⟩ := F__law_page.ex
  have m__law_page := PySem.W.mg_of X G m__law_page
  have b__law_page := U__law_page.binds (ps := ["_law_feed_here"]) fun _ _ _ _ _ _ us hl => match us, hl with | [_], _ => rfl
  obtain ⟨f__law_marks, fd__law_marks, m__law_marks, U__law_marks⟩ := F__law_marks.ex
  have m__law_marks := PySem.W.mg_of X G m__law_marks
  have b__law_marks := U__law_marks.binds (ps := ["_law_feed_here", "_law_page_here", "_law_cut"]) fun _ _ _ _ _ _ us hl => match us, hl with | [_, _, _], _ => rfl
  obtain ⟨f__law_segment, fd__law_segment, m__law_segment, U__law_segment⟩ := F__law_segment.ex
  have m__law_segment := PySem.W.mg_of X G m__law_segment
  have b__law_segment := U__law_segment.binds (ps := ["_law_page_here", "_law_marks_here", "_law_k"]) fun _ _ _ _ _ _ us hl => match us, hl with | [_, _, _], _ => rfl
  obtain ⟨f__law_layer, fd__law_layer, m__law_layer, U__law_layer⟩ := F__law_layer.ex
  have m__law_layer := PySem.W.mg_of X G m__law_layer
  have b__law_layer := U__law_layer.binds (ps := ["_law_page_here", "_law_around", "_law_first", "_law_k"]) fun _ _ _ _ _ _ us hl => match us, hl with | [_, _, _, _], _ => rfl
  obtain ⟨f__law_due, fd__law_due, m__law_due, U__law_due⟩ := F__law_due.ex
  have m__law_due := PySem.W.mg_of X G m__law_due
  have b__law_due := U__law_due.binds (ps := ["_law_page_here", "_law_marks_here", "_law_around", "_law_k"]) fun _ _ _ _ _ _ us hl => match us, hl with | [_, _, _, _], _ => rfl
  obtain ⟨f__law_is_right, fd__law_is_right, m__law_is_right, U__law_is_right⟩ := F__law_is_right.ex
  have m__law_is_right := PySem.W.mg_of X G m__law_is_right
  have b__law_is_right := U__law_is_right.binds (ps := ["_law_page_here", "_law_marks_here"]) fun _ _ _ _ _ _ us hl => match us, hl with | [_, _], _ => rfl
  obtain ⟨f_law, fd_law, m_law, U_law⟩ := F_law.ex
  have m_law := PySem.W.mg_of X G m_law
  have b_law := U_law.binds (ps := ["_law_script"]) fun _ _ _ _ _ _ us hl => match us, hl with | [_], _ => rfl
  have e := hfa.symm.trans m_law
  cases e
  have B : Bt mg := ⟨fun x hx => by
    simp only [List.mem_cons, List.not_mem_nil, or_false] at hx
    rcases hx with rfl | rfl | rfl | rfl | rfl | rfl | rfl | rfl | rfl | rfl | rfl | rfl | rfl | rfl | rfl | rfl | rfl | rfl | rfl
    · exact PySem.W.mg_none_of X G z_isinstance
    · exact PySem.W.mg_none_of X G z_int
    · exact PySem.W.mg_none_of X G z_bool
    · exact PySem.W.mg_none_of X G z_str
    · exact PySem.W.mg_none_of X G z_tuple
    · exact PySem.W.mg_none_of X G z_list
    · exact PySem.W.mg_none_of X G z_len
    · exact PySem.W.mg_none_of X G z_all
    · exact PySem.W.mg_none_of X G z_any
    · exact PySem.W.mg_none_of X G z_zip
    · exact PySem.W.mg_none_of X G z_range
    · exact PySem.W.mg_none_of X G z_repr
    · exact PySem.W.mg_none_of X G z_set
    · exact PySem.W.mg_none_of X G z_sorted
    · exact PySem.W.mg_none_of X G z_sum
    · exact PySem.W.mg_none_of X G z_min
    · exact PySem.W.mg_none_of X G z_max
    · exact PySem.W.mg_none_of X G z_enumerate
    · exact PySem.W.mg_none_of X G z_dict⟩
  have C_LETTERS : Gc K mg "LETTERS" (.str "abcdefghijklmnopqrstuvwxyz") (.str "abcdefghijklmnopqrstuvwxyz") := ⟨⟨_, PySem.W.mg_of X G q1, ⟨t1, rfl⟩⟩, fun _ => .str ⟨by decide +kernel, by decide +kernel⟩⟩
  have C_LONGEST_NAME : Gc K mg "LONGEST_NAME" (.int 8) (.int 8) := ⟨⟨_, PySem.W.mg_of X G q2, ⟨t2, rfl⟩⟩, fun _ => .int (by unfold okI; decide)⟩
  have y_NU := PySem.W.mg_of X G x_NU
  obtain ⟨fd_NU, U_NU⟩ := iNU.fn
  have b_NU := U_NU.binds (ps := ["self", "word", "at"]) fun _ _ _ _ _ _ us hl => match us, hl with | [_, _, _], _ => rfl
  have hu : ((([] : List (Addr × Str))).map (fun q : Addr × Str => q.1)).Nodup := List.nodup_nil
  generalize hT : ([] : List (Addr × Str)) = T at hu
  refine ⟨[], fd_law, spLaw K T, fun q hq => absurd hq List.not_mem_nil, fun q hq => absurd hq List.not_mem_nil, fun q hq => absurd hq List.not_mem_nil, fun s v => ?_, fun H a ns hl hH hS => ⟨a, ns, rfl, hS, hl, fun q hq => ?_, fun _ => rfl⟩, fun base hK hN hB => ?_⟩
  · obtain ⟨_, _, _, _, _, _, _, _, _, e, _⟩ := U_law.ex
    rw [e]
    exact .of_eq rfl
  · rw [← hT] at hq
    exact absurd hq List.not_mem_nil
  have R_NotUsable : Ec l.prog w K mg base "NotUsable" cNU "word" "at" := ⟨y_NU, oNU, fNU, fd_NU, _, iNU.at', iNU.ty, ok_iniNU (P := l.prog) (w := w) (mg := mg) (base := base) U_NU oNU dNU.n1 dNU.n2, b_NU⟩
  have D_is_integer := ok_is_integer (P := l.prog) (w := w) (base := base) U_is_integer m_is_integer b_is_integer B 
  have D_is_number := ok_is_number (P := l.prog) (w := w) (base := base) U_is_number m_is_number b_is_number B D_is_integer
  have D_is_name := ok_is_name (P := l.prog) (w := w) (base := base) U_is_name m_is_name b_is_name B C_LETTERS C_LONGEST_NAME
  have D_is_nothing := ok_is_nothing (P := l.prog) (w := w) (base := base) U_is_nothing m_is_nothing b_is_nothing B 
  have D_is_kind := ok_is_kind (P := l.prog) (w := w) (base := base) U_is_kind m_is_kind b_is_kind B D_is_name D_is_nothing
  have D_is_one_of := ok_is_one_of (P := l.prog) (w := w) (base := base) U_is_one_of m_is_one_of b_is_one_of B 
  have D_is_pair := ok_is_pair (P := l.prog) (w := w) (base := base) U_is_pair m_is_pair b_is_pair B 
  have D_is_sort := ok_is_sort (P := l.prog) (w := w) (base := base) U_is_sort m_is_sort b_is_sort B D_is_kind D_is_one_of D_is_pair
  have D_is_row := ok_is_row (P := l.prog) (w := w) (base := base) U_is_row m_is_row b_is_row B D_is_kind D_is_name D_is_one_of D_is_sort
  have D_is_ascending := ok_is_ascending (P := l.prog) (w := w) (base := base) U_is_ascending m_is_ascending b_is_ascending B 
  have D_is_gaps := ok_is_gaps (P := l.prog) (w := w) (base := base) U_is_gaps m_is_gaps b_is_gaps B D_is_ascending D_is_number
  have D_check_rows := ok_check_rows (P := l.prog) (w := w) (base := base) U_check_rows m_check_rows b_check_rows B D_is_row R_NotUsable
  have D_check_text := ok_check_text (P := l.prog) (w := w) (base := base) U_check_text m_check_text b_check_text B D_check_rows
  have D_is_gap_of := ok_is_gap_of (P := l.prog) (w := w) (base := base) U_is_gap_of m_is_gap_of b_is_gap_of B D_is_number
  have D_is_gaps_of := ok_is_gaps_of (P := l.prog) (w := w) (base := base) U_is_gaps_of m_is_gaps_of b_is_gaps_of B D_is_gap_of D_is_gaps
  have D_check_carets := ok_check_carets (P := l.prog) (w := w) (base := base) U_check_carets m_check_carets b_check_carets B D_is_gaps_of R_NotUsable
  have D_check_row := ok_check_row (P := l.prog) (w := w) (base := base) U_check_row m_check_row b_check_row B D_is_number R_NotUsable
  have D_places_of := ok_places_of (P := l.prog) (w := w) (base := base) U_places_of m_places_of b_places_of B 
  have D_checked_places := ok_checked_places (P := l.prog) (w := w) (base := base) U_checked_places m_checked_places b_checked_places B D_check_carets D_check_row D_check_text D_places_of
  have D_segment_of := ok_segment_of (P := l.prog) (w := w) (base := base) U_segment_of m_segment_of b_segment_of B D_checked_places
  have DK_segment_of := kw3_of U_segment_of m_segment_of (fo_segment_of (P := l.prog) (w := w) (mg := mg) (base := base) U_segment_of B D_checked_places) (fun _ _ _ _ _ _ _ _ _ => rfl)
  have D_layer_of := ok_layer_of (P := l.prog) (w := w) (base := base) U_layer_of m_layer_of b_layer_of B D_checked_places
  have DK_layer_of := kw3_of U_layer_of m_layer_of (fo_layer_of (P := l.prog) (w := w) (mg := mg) (base := base) U_layer_of B D_checked_places) (fun _ _ _ _ _ _ _ _ _ => rfl)
  have D_rows_of_layer := ok_rows_of_layer (P := l.prog) (w := w) (base := base) U_rows_of_layer m_rows_of_layer b_rows_of_layer B D_checked_places
  have DK_rows_of_layer := kw3_of U_rows_of_layer m_rows_of_layer (fo_rows_of_layer (P := l.prog) (w := w) (mg := mg) (base := base) U_rows_of_layer B D_checked_places) (fun _ _ _ _ _ _ _ _ _ => rfl)
  have D__law_draw := ok_draw (P := l.prog) (w := w) (base := base) (T := T) U__law_draw m__law_draw b__law_draw B
  have D__law_stand := ok__law_stand (P := l.prog) (w := w) (base := base) U__law_stand m__law_stand b__law_stand B 
  have D__law_menu := ok__law_menu (P := l.prog) (w := w) (base := base) U__law_menu m__law_menu b__law_menu B D__law_draw
  have D__law_sort := ok__law_sort (P := l.prog) (w := w) (base := base) U__law_sort m__law_sort b__law_sort B D__law_draw
  have D__law_item := ok__law_item (P := l.prog) (w := w) (base := base) U__law_item m__law_item b__law_item B D__law_draw
  have D__law_page := ok__law_page (P := l.prog) (w := w) (base := base) U__law_page m__law_page b__law_page B D__law_draw D__law_item D__law_menu D__law_sort
  have D__law_marks := ok__law_marks (P := l.prog) (w := w) (base := base) U__law_marks m__law_marks b__law_marks B D__law_draw
  have D__law_segment := ok__law_segment (P := l.prog) (w := w) (base := base) U__law_segment m__law_segment b__law_segment B 
  have D__law_layer := ok__law_layer (P := l.prog) (w := w) (base := base) U__law_layer m__law_layer b__law_layer B 
  have D__law_due := ok__law_due (P := l.prog) (w := w) (base := base) U__law_due m__law_due b__law_due B D__law_layer D__law_segment
  have D__law_is_right := ok__law_is_right (P := l.prog) (w := w) (base := base) U__law_is_right m__law_is_right b__law_is_right B D__law_due D__law_stand D_layer_of D_rows_of_layer D_segment_of DK_layer_of DK_rows_of_layer DK_segment_of
  exact ok_law U_law B hu (ok_feed U__law_feed B) m__law_feed U__law_feed.kp b__law_feed D__law_is_right D__law_marks D__law_page D_layer_of D_rows_of_layer
end L34

set_option Elab.async false
set_option linter.all false
set_option pp.maxSteps 60
open PySem PySem.W PyProof.Rows
set_option maxRecDepth 100000 in
set_option maxHeartbeats 0 in
theorem PySem.Challenge.cw_surelywrong_k34_segments_and_layers_holds : PySem.Challenge.rw_surelywrong_k34_segments_and_layers.Holds := by
  w_on; o_law; k_head; (case hw => w_witness2)
  k_fill
  refine Dt.walkT (l := PySem.Challenge.rw_surelywrong_k34_segments_and_layers) (n := 63) (k := 10) (x := "_law_script") rfl (by decide) rfl ⟨rfl, by decide, by decide⟩ (fun w h Y => Y) ?F
  case F =>
    intro w mg fa h Y KX G hmg

    refine' L34.all_mk KX G hmg ?F_is_integer ?F_is_number ?F_is_name ?F_is_kind ?F_is_nothing ?F_is_one_of ?F_is_pair ?F_is_sort ?F_is_row ?F_is_ascending ?F_is_gaps ?F_check_rows ?F_check_text ?F_check_carets ?F_check_row ?F_is_gap_of ?F_is_gaps_of ?F_segment_of ?F_layer_of ?F_rows_of_layer ?F_checked_places ?F_places_of ?F__law_feed ?F__law_draw ?F__law_stand ?F__law_menu ?F__law_sort ?F__law_item ?F__law_page ?F__law_marks ?F__law_segment ?F__law_layer ?F__law_due ?F__law_is_right ?F_law ?q1 ?q2 ?z_isinstance ?z_int ?z_bool ?z_str ?z_tuple ?z_list ?z_len ?z_all ?z_any ?z_zip ?z_range ?z_repr ?z_set ?z_sorted ?z_sum ?z_min ?z_max ?z_enumerate ?z_dict ?z_ValueError ?x_NU ?dNU ?oNU ?iNU
    (case F_is_integer => (refine' L34.fct_mk ?a ?l ?c ?k; (case a => k_is); (case l => k_is); (case c => k_is); (case k => k_is)))
    (case F_is_number => (refine' L34.fct_mk ?a ?l ?c ?k; (case a => k_is); (case l => k_is); (case c => k_is); (case k => k_is)))
    (case F_is_name => (refine' L34.fct_mk ?a ?l ?c ?k; (case a => k_is); (case l => k_is); (case c => k_is); (case k => k_is)))
    (case F_is_kind => (refine' L34.fct_mk ?a ?l ?c ?k; (case a => k_is); (case l => k_is); (case c => k_is); (case k => k_is)))
    (case F_is_nothing => (refine' L34.fct_mk ?a ?l ?c ?k; (case a => k_is); (case l => k_is); (case c => k_is); (case k => k_is)))
    (case F_is_one_of => (refine' L34.fct_mk ?a ?l ?c ?k; (case a => k_is); (case l => k_is); (case c => k_is); (case k => k_is)))
    (case F_is_pair => (refine' L34.fct_mk ?a ?l ?c ?k; (case a => k_is); (case l => k_is); (case c => k_is); (case k => k_is)))
    (case F_is_sort => (refine' L34.fct_mk ?a ?l ?c ?k; (case a => k_is); (case l => k_is); (case c => k_is); (case k => k_is)))
    (case F_is_row => (refine' L34.fct_mk ?a ?l ?c ?k; (case a => k_is); (case l => k_is); (case c => k_is); (case k => k_is)))
    (case F_is_ascending => (refine' L34.fct_mk ?a ?l ?c ?k; (case a => k_is); (case l => k_is); (case c => k_is); (case k => k_is)))
    (case F_is_gaps => (refine' L34.fct_mk ?a ?l ?c ?k; (case a => k_is); (case l => k_is); (case c => k_is); (case k => k_is)))
    (case F_check_rows => (refine' L34.fct_mk ?a ?l ?c ?k; (case a => k_is); (case l => k_is); (case c => k_is); (case k => k_is)))
    (case F_check_text => (refine' L34.fct_mk ?a ?l ?c ?k; (case a => k_is); (case l => k_is); (case c => k_is); (case k => k_is)))
    (case F_check_carets => (refine' L34.fct_mk ?a ?l ?c ?k; (case a => k_is); (case l => k_is); (case c => k_is); (case k => k_is)))
    (case F_check_row => (refine' L34.fct_mk ?a ?l ?c ?k; (case a => k_is); (case l => k_is); (case c => k_is); (case k => k_is)))
    (case F_is_gap_of => (refine' L34.fct_mk ?a ?l ?c ?k; (case a => k_is); (case l => k_is); (case c => k_is); (case k => k_is)))
    (case F_is_gaps_of => (refine' L34.fct_mk ?a ?l ?c ?k; (case a => k_is); (case l => k_is); (case c => k_is); (case k => k_is)))
    (case F_segment_of => (refine' L34.fct_mk ?a ?l ?c ?k; (case a => k_is); (case l => k_is); (case c => k_is); (case k => k_is)))
    (case F_layer_of => (refine' L34.fct_mk ?a ?l ?c ?k; (case a => k_is); (case l => k_is); (case c => k_is); (case k => k_is)))
    (case F_rows_of_layer => (refine' L34.fct_mk ?a ?l ?c ?k; (case a => k_is); (case l => k_is); (case c => k_is); (case k => k_is)))
    (case F_checked_places => (refine' L34.fct_mk ?a ?l ?c ?k; (case a => k_is); (case l => k_is); (case c => k_is); (case k => k_is)))
    (case F_places_of => (refine' L34.fct_mk ?a ?l ?c ?k; (case a => k_is); (case l => k_is); (case c => k_is); (case k => k_is)))
    (case F__law_feed => (refine' L34.fct_mk ?a ?l ?c ?k; (case a => k_is); (case l => k_is); (case c => k_is); (case k => k_is)))
    (case F__law_draw => (refine' L34.fct_mk ?a ?l ?c ?k; (case a => k_is); (case l => k_is); (case c => k_is); (case k => k_is)))
    (case F__law_stand => (refine' L34.fct_mk ?a ?l ?c ?k; (case a => k_is); (case l => k_is); (case c => k_is); (case k => k_is)))
    (case F__law_menu => (refine' L34.fct_mk ?a ?l ?c ?k; (case a => k_is); (case l => k_is); (case c => k_is); (case k => k_is)))
    (case F__law_sort => (refine' L34.fct_mk ?a ?l ?c ?k; (case a => k_is); (case l => k_is); (case c => k_is); (case k => k_is)))
    (case F__law_item => (refine' L34.fct_mk ?a ?l ?c ?k; (case a => k_is); (case l => k_is); (case c => k_is); (case k => k_is)))
    (case F__law_page => (refine' L34.fct_mk ?a ?l ?c ?k; (case a => k_is); (case l => k_is); (case c => k_is); (case k => k_is)))
    (case F__law_marks => (refine' L34.fct_mk ?a ?l ?c ?k; (case a => k_is); (case l => k_is); (case c => k_is); (case k => k_is)))
    (case F__law_segment => (refine' L34.fct_mk ?a ?l ?c ?k; (case a => k_is); (case l => k_is); (case c => k_is); (case k => k_is)))
    (case F__law_layer => (refine' L34.fct_mk ?a ?l ?c ?k; (case a => k_is); (case l => k_is); (case c => k_is); (case k => k_is)))
    (case F__law_due => (refine' L34.fct_mk ?a ?l ?c ?k; (case a => k_is); (case l => k_is); (case c => k_is); (case k => k_is)))
    (case F__law_is_right => (refine' L34.fct_mk ?a ?l ?c ?k; (case a => k_is); (case l => k_is); (case c => k_is); (case k => k_is)))
    (case F_law => (refine' L34.fct_mk ?a ?l ?c ?k; (case a => k_is); (case l => k_is); (case c => k_is); (case k => k_is)))
    (case q1 => k_is)
    (case q2 => k_is)
    (case z_isinstance => k_is)
    (case z_int => k_is)
    (case z_bool => k_is)
    (case z_str => k_is)
    (case z_tuple => k_is)
    (case z_list => k_is)
    (case z_len => k_is)
    (case z_all => k_is)
    (case z_any => k_is)
    (case z_zip => k_is)
    (case z_range => k_is)
    (case z_repr => k_is)
    (case z_set => k_is)
    (case z_sorted => k_is)
    (case z_sum => k_is)
    (case z_min => k_is)
    (case z_max => k_is)
    (case z_enumerate => k_is)
    (case z_dict => k_is)
    (case z_ValueError => k_is)
    (case x_NU => k_is)
    (case dNU => (refine ⟨?_, ?_⟩ <;> kernel_rfl))
    (case oNU => (refine' L34.oex_mk ?k ?b ?s1 ?s2 ?s3 ?s4; (case k => k_is); (case b => kernel_rfl); (case s1 => kernel_rfl); (case s2 => kernel_rfl); (case s3 => kernel_rfl); (case s4 => kernel_rfl)))
    (case iNU => (refine' L34.ini_mk ?a ?t ?l ?c ?k; (case a => k_is); (case t => kernel_rfl); (case l => k_is); (case c => k_is); (case k => k_is)))
