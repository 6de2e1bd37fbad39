import PyProof.Rows.All
import Wide.All
import OpenK.AllK
import Wide.FinOn
import HandS.ForMost
import HandS.IsInst
import HandS.TupAny
import HandS.Wide
import HandS.SortInts
import HandS.Conv
import HandS.SetFor
import HandS.Style
import HandS.Zip
import HandS.TupMul
import PyProof.ListNew
import PyProof.ReprRoads
import HandS.RaiseMore
import HandS.Ends
import KE.GoesEnum
import HandS.SortOrd
import HandS.Head0
import HandS.Head1
import HandS.Head2
import HandS.HeadEnd
import HandS.HeadHook1
import HandS.NoneIn
import PyProof.FactsAll.dict
import PyProof.P3In
import HandS.SortRule
import HandS.TupSets
import HandS.Star
import HandS.More
import PySem.Challenge.RW_watchzones_k10_queries_recognized
set_option Elab.async false
set_option linter.all false
set_option maxRecDepth 100000
namespace DL
open PySem PySem.Spec PyProof.Rows L2

/-! ### data -/
inductive D where
  | non | bl (b : Bool) | int (i : Int) | str (x : Str) | tup (xs : List D) | lst (xs : List D) | dct (kvs : List (Key × D)) | pen | scr (ns : List Int)

abbrev Pn := Option (Addr × Addr)

mutual
def Rep (K : PySem.W.Frag) (pn : Pn) (G : Hp) (v : V) : D → Prop
  | .non => v = .non
  | .bl b => v = .bl b
  | .int i => v = .int i
  | .str x => v = .str x
  | .tup ds => ∃ a vs, v = .ref a ∧ SqT K G a vs ∧ Reps K pn G vs ds
  | .lst ds => ∃ a vs, v = .ref a ∧ G a = some (.lst vs) ∧ Reps K pn G vs ds
  | .dct kvs => ∃ a ws, v = .ref a ∧ Rd G a (.dK ws) ∧ RepKV K pn G ws kvs
  | .pen => ∃ p c, pn = some (p, c) ∧ v = .ref p
  | .scr ns => ∃ a, v = .ref a ∧ SqL K G a (ns.map V.int)
def Reps (K : PySem.W.Frag) (pn : Pn) (G : Hp) (vs : List V) : List D → Prop
  | [] => vs = []
  | d :: ds => ∃ v r, vs = v :: r ∧ Rep K pn G v d ∧ Reps K pn G r ds
def RepKV (K : PySem.W.Frag) (pn : Pn) (G : Hp) (ws : List (Key × V)) : List (Key × D) → Prop
  | [] => ws = []
  | kd :: kds => ∃ v r, ws = (kd.1, v) :: r ∧ Rep K pn G v kd.2 ∧ RepKV K pn G r kds
end

def Sub (G H : Hp) : Prop := ∀ a o, G a = some o → H a = some o
theorem Sub.refl (H : Hp) : Sub H H := fun _ _ h => h
theorem Sub.trans {A B C : Hp} (h : Sub A B) (k : Sub B C) : Sub A C := fun a o e => k a o (h a o e)
theorem Sub.rd {G H : Hp} {a : Addr} {u : HO} (s : Sub G H) (h : Rd G a u) : Rd H a u := by
  rcases h with h | ⟨o, h⟩
  · exact .inl (s _ _ h)
  · exact .inr ⟨o, s _ _ h⟩
theorem Sub.sqT {K : PySem.W.Frag} {G H : Hp} {a : Addr} {xs : List V} (s : Sub G H) (h : SqT K G a xs) : SqT K H a xs := by
  rcases h with h | h
  · exact .inl (s.rd h)
  · exact .inr h
theorem Sub.sqL {K : PySem.W.Frag} {G H : Hp} {a : Addr} {xs : List V} (s : Sub G H) (h : SqL K G a xs) : SqL K H a xs := by
  rcases h with h | h
  · exact .inl (s.rd h)
  · exact .inr h
mutual
theorem Rep.mono {K : PySem.W.Frag} {pn : Pn} {G H : Hp} (s : Sub G H) : ∀ (d : D) (v : V), Rep K pn G v d → Rep K pn H v d
  | .non, v, h => h
  | .bl b, v, h => h
  | .int i, v, h => h
  | .str x, v, h => h
  | .tup ds, v, h => by
    obtain ⟨a, vs, e, h1, h2⟩ := h
    exact ⟨a, vs, e, s.sqT h1, Reps.mono s ds vs h2⟩
  | .lst ds, v, h => by
    obtain ⟨a, vs, e, h1, h2⟩ := h
    exact ⟨a, vs, e, s _ _ h1, Reps.mono s ds vs h2⟩
  | .dct kvs, v, h => by
    obtain ⟨a, ws, e, h1, h2⟩ := h
    exact ⟨a, ws, e, s.rd h1, RepKV.mono s kvs ws h2⟩
  | .pen, v, h => h
  | .scr ns, v, h => by
    obtain ⟨a, e, h1⟩ := h
    exact ⟨a, e, s.sqL h1⟩
theorem Reps.mono {K : PySem.W.Frag} {pn : Pn} {G H : Hp} (s : Sub G H) : ∀ (ds : List D) (vs : List V), Reps K pn G vs ds → Reps K pn H vs ds
  | [], vs, h => h
  | d :: ds, vs, h => by
    obtain ⟨v, r, e, h1, h2⟩ := h
    exact ⟨v, r, e, Rep.mono s d v h1, Reps.mono s ds r h2⟩
theorem RepKV.mono {K : PySem.W.Frag} {pn : Pn} {G H : Hp} (s : Sub G H) : ∀ (kds : List (Key × D)) (ws : List (Key × V)), RepKV K pn G ws kds → RepKV K pn H ws kds
  | [], ws, h => h
  | (k, d) :: kds, ws, h => by
    obtain ⟨v, r, e, h1, h2⟩ := h
    exact ⟨v, r, e, Rep.mono s d v h1, RepKV.mono s kds r h2⟩
end

theorem Reps.length {K : PySem.W.Frag} {pn : Pn} {G : Hp} : ∀ {ds : List D} {vs : List V}, Reps K pn G vs ds → vs.length = ds.length
  | [], vs, h => by rw [show vs = [] from h]; rfl
  | d :: ds, vs, h => by
    obtain ⟨v, r, rfl, _, h2⟩ := h
    simp [Reps.length h2]
theorem Reps.get {K : PySem.W.Frag} {pn : Pn} {G : Hp} : ∀ {ds : List D} {vs : List V} {i : Nat} {d : D}, Reps K pn G vs ds → ds[i]? = some d → ∃ v, vs[i]? = some v ∧ Rep K pn G v d
  | [], _, _, _, _, e => by simp at e
  | d :: ds, vs, 0, _, h, e => by
    obtain ⟨v, r, rfl, h1, h2⟩ := h
    simp at e
    subst e
    exact ⟨v, rfl, h1⟩
  | d :: ds, vs, i + 1, _, h, e => by
    obtain ⟨v, r, rfl, h1, h2⟩ := h
    obtain ⟨w, e1, e2⟩ := Reps.get (i := i) h2 (by simpa using e)
    exact ⟨w, by simpa using e1, e2⟩
theorem Reps.get' {K : PySem.W.Frag} {pn : Pn} {G : Hp} : ∀ {ds : List D} {vs : List V} {i : Nat} {v : V}, Reps K pn G vs ds → vs[i]? = some v → ∃ d, ds[i]? = some d ∧ Rep K pn G v d
  | [], vs, _, _, h, e => by
    rw [show vs = [] from h] at e
    simp at e
  | d :: ds, vs, 0, _, h, e => by
    obtain ⟨v, r, rfl, h1, h2⟩ := h
    simp at e
    subst e
    exact ⟨d, rfl, h1⟩
  | d :: ds, vs, i + 1, _, h, e => by
    obtain ⟨v, r, rfl, h1, h2⟩ := h
    obtain ⟨w, e1, e2⟩ := Reps.get' (i := i) h2 (by simpa using e)
    exact ⟨w, by simpa using e1, e2⟩
theorem Reps.append {K : PySem.W.Frag} {pn : Pn} {G : Hp} : ∀ {ds es : List D} {vs ws : List V}, Reps K pn G vs ds → Reps K pn G ws es → Reps K pn G (vs ++ ws) (ds ++ es)
  | [], _, vs, _, h, k => by rw [show vs = [] from h]; exact k
  | d :: ds, _, vs, _, h, k => by
    obtain ⟨v, r, rfl, h1, h2⟩ := h
    exact ⟨v, _, rfl, h1, Reps.append h2 k⟩
theorem Reps.take {K : PySem.W.Frag} {pn : Pn} {G : Hp} : ∀ (n : Nat) {ds : List D} {vs : List V}, Reps K pn G vs ds → Reps K pn G (vs.take n) (ds.take n)
  | 0, _, vs, _ => by simp [Reps]
  | n + 1, [], vs, h => by rw [show vs = [] from h]; rfl
  | n + 1, d :: ds, vs, h => by
    obtain ⟨v, r, rfl, h1, h2⟩ := h
    exact ⟨v, _, rfl, h1, Reps.take n h2⟩
theorem Reps.drop {K : PySem.W.Frag} {pn : Pn} {G : Hp} : ∀ (n : Nat) {ds : List D} {vs : List V}, Reps K pn G vs ds → Reps K pn G (vs.drop n) (ds.drop n)
  | 0, _, vs, h => h
  | n + 1, [], vs, h => by rw [show vs = [] from h]; rfl
  | n + 1, d :: ds, vs, h => by
    obtain ⟨v, r, rfl, h1, h2⟩ := h
    exact Reps.drop n h2
theorem Reps.set {K : PySem.W.Frag} {pn : Pn} {G : Hp} {v : V} {d : D} (hv : Rep K pn G v d) : ∀ (n : Nat) {ds : List D} {vs : List V}, Reps K pn G vs ds → Reps K pn G (vs.set n v) (ds.set n d)
  | n, [], vs, h => by rw [show vs = [] from h]; rfl
  | 0, d' :: ds, vs, h => by
    obtain ⟨w, r, rfl, h1, h2⟩ := h
    exact ⟨v, r, rfl, hv, h2⟩
  | n + 1, d' :: ds, vs, h => by
    obtain ⟨w, r, rfl, h1, h2⟩ := h
    exact ⟨w, _, rfl, h1, Reps.set hv n h2⟩
theorem Reps.reverse {K : PySem.W.Frag} {pn : Pn} {G : Hp} : ∀ {ds : List D} {vs : List V}, Reps K pn G vs ds → Reps K pn G vs.reverse ds.reverse
  | [], vs, h => by rw [show vs = [] from h]; rfl
  | d :: ds, vs, h => by
    obtain ⟨v, r, rfl, h1, h2⟩ := h
    simp only [List.reverse_cons]
    exact Reps.append (Reps.reverse h2) ⟨v, [], rfl, h1, rfl⟩
theorem Reps.ints {K : PySem.W.Frag} {pn : Pn} {G : Hp} : ∀ {ns : List Int} {vs : List V}, Reps K pn G vs (ns.map D.int) ↔ vs = ns.map V.int
  | [], vs => by simp [Reps]
  | n :: ns, vs => by
    simp only [List.map_cons, Reps]
    constructor
    · rintro ⟨v, r, rfl, h1, h2⟩
      rw [Reps.ints.mp h2, show v = .int n from h1]
    · rintro rfl
      exact ⟨_, _, rfl, rfl, Reps.ints.mpr rfl⟩
theorem Reps.bls {K : PySem.W.Frag} {pn : Pn} {G : Hp} : ∀ {ns : List Bool} {vs : List V}, Reps K pn G vs (ns.map D.bl) ↔ vs = ns.map V.bl
  | [], vs => by simp [Reps]
  | n :: ns, vs => by
    simp only [List.map_cons, Reps]
    constructor
    · rintro ⟨v, r, rfl, h1, h2⟩
      rw [Reps.bls.mp h2, show v = .bl n from h1]
    · rintro rfl
      exact ⟨_, _, rfl, rfl, Reps.bls.mpr rfl⟩

/-! ### the frozen part grows by what is new -/
def ext (G H H' : Hp) : Hp := fun a => match G a with
  | some o => some o
  | none => match H a with
    | some _ => none
    | none => H' a
/-- all but the pen's own list stays -/
def Ex (pn : Pn) (H H' : Hp) : Prop := ∀ a o, H a = some o → (∀ p c, pn = some (p, c) → a ≠ p) → H' a = some o
theorem Ex.refl (pn : Pn) (H : Hp) : Ex pn H H := fun _ _ h _ => h
theorem Ex.trans {pn : Pn} {A B C : Hp} (h : Ex pn A B) (k : Ex pn B C) : Ex pn A C := fun a o e n => k a o (h a o e n) n
theorem Ex.new {pn : Pn} {H : Hp} {p : Addr} {o : HO} (h : H p = none) : Ex pn H (upd H p o) := fun a u e _ => by
  rw [upd_ne (ne_of_none e h)]
  exact e
theorem Ex.of_same {pn : Pn} {H H' : Hp} (h : Sub H H') : Ex pn H H' := fun a o e _ => h a o e

structure PenOk (H : Hp) (p c : Addr) (n : Nat) : Prop where
  lst : ∃ at_ rest : Int, H p = some (.lst [.ref c, .int at_, .int rest]) ∧ 0 ≤ at_ ∧ at_ ≤ n
  cells : ∃ ns : List Int, H c = some (.lst (ns.map .int)) ∧ ns.length ≤ 12
  ne : p ≠ c
/-- the pen, where there is one, is right, and no frozen thing -/
def Pst (pn : Pn) (G H : Hp) (n : Nat) : Prop := ∀ p c, pn = some (p, c) → PenOk H p c n ∧ G p = none ∧ G c = none

theorem ext_none {G H H' : Hp} {a : Addr} (h : G a = none) (k : H a = none) : ext G H H' a = H' a := by
  unfold ext
  rw [h, k]
theorem ext_some {G H H' : Hp} {a : Addr} {o : HO} (h : G a = some o) : ext G H H' a = some o := by
  unfold ext
  rw [h]
theorem ext_old {G H H' : Hp} {a : Addr} {o : HO} (h : G a = none) (k : H a = some o) : ext G H H' a = none := by
  unfold ext
  rw [h, k]
theorem sub_ext {G H H' : Hp} : Sub G (ext G H H') := fun a o h => ext_some h
theorem ext_sub {pn : Pn} {G H H' : Hp} {n : Nat} (s : Sub G H) (p : Pst pn G H n) (e : Ex pn H H') : Sub (ext G H H') H' := fun a o h => by
  cases g : G a with
  | some u =>
    rw [ext_some g] at h
    cases h
    exact e a _ (s a _ g) fun p' c' q z => by
      have := (p p' c' q).2.1
      rw [← z, g] at this
      cases this
  | none =>
    cases k : H a with
    | some u =>
      rw [ext_old g k] at h
      cases h
    | none =>
      rw [ext_none g k] at h
      exact h
theorem ext_ext {pn : Pn} {G H H1 H2 : Hp} {n m : Nat} (p : Pst pn G H n) (p1 : ∀ p c, pn = some (p, c) → PenOk H1 p c m) (e1 : Ex pn H H1) (e2 : Ex pn H1 H2) : ext (ext G H H1) H1 H2 = ext G H H2 := by
  funext a
  cases g : G a with
  | some u => rw [ext_some (ext_some g), ext_some g]
  | none =>
    cases k : H a with
    | some u =>
      rw [ext_old g k]
      cases k1 : H1 a with
      | some u1 => exact ext_old (ext_old g k) k1
      | none =>
        exfalso
        by_cases hp : ∀ p c, pn = some (p, c) → a ≠ p
        · rw [e1 a u k hp] at k1
          cases k1
        · apply hp
          intro p' c' q z
          obtain ⟨at_, r, h, _⟩ := (p1 p' c' q).lst
          rw [← z, k1] at h
          cases h
    | none =>
      rw [ext_none g k]
      cases k1 : H1 a with
      | some u1 =>
        rw [ext_some (o := u1) (by rw [ext_none g k]; exact k1)]
        refine (e2 a u1 k1 fun p' c' q z => ?_).symm
        obtain ⟨at_, r, h, _⟩ := (p p' c' q).1.lst
        rw [← z, k] at h
        cases h
      | none => rw [ext_none (by rw [ext_none g k]; exact k1) k1]

/-! ### the state of an expression, its end -/
abbrev Env := List (Option D)
abbrev QD := D → Nat → Prop
abbrev TD := Env → Nat → QD → Prop
abbrev TDs := Env → Nat → (List D → Nat → Prop) → Prop
abbrev TDb := Env → Nat → (Bool → Nat → Prop) → Prop

structure At (K : PySem.W.Frag) (pn : Pn) (G H : Hp) (σ : L2.St) (ρ : Env) (n : Nat) : Prop where
  sub : Sub G H
  pst : Pst pn G H n
  env : ∀ (i : Nat) (d : D), ρ[i]? = some (some d) → ∃ v, σ[i]? = some (some v) ∧ Rep K pn G v d
  len : σ.length = ρ.length

/-- what stands behind a step: frozen things grew, the pen may have moved -/
structure Go (pn : Pn) (G H H' : Hp) (n' : Nat) : Prop where
  ex : Ex pn H H'
  pen : ∀ p c, pn = some (p, c) → PenOk H' p c n'
def Post (K : PySem.W.Frag) (pn : Pn) (G H : Hp) (q : QD) : VK := fun v H' => ∃ d n', Go pn G H H' n' ∧ Rep K pn (ext G H H') v d ∧ q d n'
def PostS (K : PySem.W.Frag) (pn : Pn) (G H : Hp) (q : List D → Nat → Prop) : List V → Hp → Prop := fun vs H' => ∃ ds n', Go pn G H H' n' ∧ Reps K pn (ext G H H') vs ds ∧ q ds n'
def PostB (pn : Pn) (G H : Hp) (q : Bool → Nat → Prop) : Bool → Hp → Prop := fun b H' => ∃ n', Go pn G H H' n' ∧ q b n'

theorem Go.refl {pn : Pn} {G H : Hp} {n : Nat} (p : Pst pn G H n) : Go pn G H H n := ⟨Ex.refl pn H, fun a c e => (p a c e).1⟩
theorem Go.of_sub {pn : Pn} {G H H' : Hp} {n : Nat} (p : Pst pn G H n) (s : Sub H H') : Go pn G H H' n := ⟨.of_same s, fun a c e => by
  obtain ⟨⟨⟨x, y, h1, h2⟩, ⟨ns, h3⟩, h4⟩, _⟩ := p a c e
  exact ⟨⟨x, y, s _ _ h1, h2⟩, ⟨ns, s _ _ h3.1, h3.2⟩, h4⟩⟩
theorem Go.new {pn : Pn} {G H : Hp} {n : Nat} {p : Addr} {o : HO} (h : Pst pn G H n) (hp : H p = none) : Go pn G H (upd H p o) n := Go.of_sub h fun a u e => by
  rw [upd_ne (ne_of_none e hp)]
  exact e
theorem Go.trans {pn : Pn} {G G' H H1 H2 : Hp} {n1 n2 : Nat} (a : Go pn G H H1 n1) (b : Go pn G' H1 H2 n2) : Go pn G H H2 n2 := ⟨a.ex.trans b.ex, b.pen⟩
theorem ext_refl {G H : Hp} : ext G H H = G := by
  funext a
  cases g : G a with
  | some u => exact ext_some g
  | none =>
    cases k : H a with
    | some u => exact ext_old g k
    | none => rw [ext_none g k]; exact k
/-- the state behind a step -/
theorem At.go {K : PySem.W.Frag} {pn : Pn} {G H H' : Hp} {σ : L2.St} {ρ : Env} {n n' : Nat} (a : At K pn G H σ ρ n) (g : Go pn G H H' n') : At K pn (ext G H H') H' σ ρ n' := by
  refine ⟨ext_sub a.sub a.pst g.ex, fun p c e => ⟨g.pen p c e, ?_, ?_⟩, fun i d h => ?_, a.len⟩
  · obtain ⟨⟨⟨x, y, h1, _⟩, _, _⟩, h2, _⟩ := a.pst p c e
    exact ext_old h2 h1
  · obtain ⟨⟨_, ⟨ns, h1, _⟩, _⟩, _, h2⟩ := a.pst p c e
    exact ext_old h2 h1
  · obtain ⟨v, h1, h2⟩ := a.env i d h
    exact ⟨v, h1, Rep.mono sub_ext d v h2⟩
theorem At.ext_ext {K : PySem.W.Frag} {pn : Pn} {G H H1 H2 : Hp} {σ : L2.St} {ρ : Env} {n n1 n2 : Nat} {G' : Hp} (a : At K pn G H σ ρ n) (g1 : Go pn G H H1 n1) (g2 : Go pn G' H1 H2 n2) : ext (ext G H H1) H1 H2 = ext G H H2 :=
  DL.ext_ext a.pst g1.pen g1.ex g2.ex
theorem ext_new {G H : Hp} {p : Addr} {o : HO} (s : Sub G H) (h : H p = none) : ext G H (upd H p o) = upd G p o := by
  have gp : G p = none := by
    cases g : G p with
    | none => rfl
    | some u => rw [s _ _ g] at h; cases h
  funext a
  by_cases ha : a = p
  · subst ha
    rw [ext_none gp h, upd_same, upd_same]
  · rw [upd_ne ha]
    cases g : G a with
    | some u => exact ext_some g
    | none =>
      cases k : H a with
      | some u => exact ext_old g k
      | none => rw [ext_none g k, upd_ne ha]; exact k
theorem sub_new {G : Hp} {p : Addr} {o : HO} (h : G p = none) : Sub G (upd G p o) := fun a u e => by
  rw [upd_ne (ne_of_none e h)]
  exact e

/-! ### the judgements -/
def ED (X : Cx) (e : Expr) (T : TD) : Prop := ∃ t, PE X e t ∧ ∀ (σ : L2.St) (H G : Hp) (pn : Pn) (n : Nat) (ρ : Env) (q : QD), At X.K pn G H σ ρ n → T ρ n q →
  ∀ Q : VK, (∀ v H', Post X.K pn G H q v H' → Q v H') → t σ H Q
def BD (X : Cx) (e : Expr) (T : TDb) : Prop := ∃ t, PT X e t ∧ ∀ (σ : L2.St) (H G : Hp) (pn : Pn) (n : Nat) (ρ : Env) (q : Bool → Nat → Prop), At X.K pn G H σ ρ n → T ρ n q →
  ∀ Q : Bool → Hp → Prop, (∀ v H', PostB pn G H q v H' → Q v H') → t σ H Q
def AD (X : Cx) (es : List Expr) (T : TDs) : Prop := ∃ t, PA X es t ∧ ∀ (σ : L2.St) (H G : Hp) (pn : Pn) (n : Nat) (ρ : Env) (q : List D → Nat → Prop), At X.K pn G H σ ρ n → T ρ n q →
  ∀ Q : List V → Hp → Prop, (∀ v H', PostS X.K pn G H q v H' → Q v H') → t σ H Q

section
variable {X : Cx}

/-! ### names, constants -/
def tVarD (i : Nat) : TD := fun ρ n q => ∃ d, ρ[i]? = some (some d) ∧ q d n
theorem ed_var {i : Nat} {e : Expr} (h : PE X e (tVar i)) : ED X e (tVarD i) := by
  refine ⟨_, h, fun σ H G pn n ρ q a ⟨d, e, hq⟩ Q k => ?_⟩
  obtain ⟨v, h1, h2⟩ := a.env i d e
  exact ⟨v, h1, k v H ⟨d, n, Go.refl a.pst, by rw [ext_refl]; exact h2, hq⟩⟩
def tCD (d : D) : TD := fun _ n q => q d n
theorem ed_c {e : Expr} {v : V} {d : D} (h : PE X e (tC v)) (r : ∀ (pn : Pn) (G : Hp), Rep X.K pn G v d) : ED X e (tCD d) :=
  ⟨_, h, fun σ H G pn n ρ q a hq Q k => k v H ⟨d, n, Go.refl a.pst, r pn _, hq⟩⟩
theorem ed_int {i j pos} : ED X (.Constant (.int i) j pos) (tCD (.int i)) := ed_c pe_int fun _ _ => rfl
theorem ed_bl {i j pos} : ED X (.Constant (.bool i) j pos) (tCD (.bl i)) := ed_c pe_bl fun _ _ => rfl
theorem ed_str {i j pos} : ED X (.Constant (.str i) j pos) (tCD (.str i)) := ed_c pe_str fun _ _ => rfl
theorem ed_non {j pos} : ED X (.Constant .none j pos) (tCD .non) := ed_c pe_non fun _ _ => rfl

/-! ### an operation on two values, on one -/
/-- r does on the values what f does on the data -/
def Op2 (X : Cx) (r : R2) (f : D → D → Option D) : Prop := ∀ (G H : Hp) (pn : Pn) (n : Nat) (x y : V) (d e z : D), Sub G H → Pst pn G H n → Rep X.K pn G x d → Rep X.K pn G y e → f d e = some z →
  ∀ Q : VK, (∀ v H', Go pn G H H' n → Rep X.K pn (ext G H H') v z → Q v H') → r x y H Q
def tOpD (f : D → D → Option D) (Ta Tb : TD) : TD := fun ρ n q => Ta ρ n fun x n => Tb ρ n fun y n => ∃ z, f x y = some z ∧ q z n
theorem op2 {e : Expr} {a b : Expr} {Ta Tb : TD} {r : R2} {f : D → D → Option D} (mk : ∀ ta tb, PE X a ta → PE X b tb → PE X e (tOp r ta tb)) (h : Op2 X r f) (ha : ED X a Ta) (hb : ED X b Tb) : ED X e (tOpD f Ta Tb) := by
  obtain ⟨ta, pa, ka⟩ := ha
  obtain ⟨tb, pb, kb⟩ := hb
  refine ⟨_, mk _ _ pa pb, fun σ H G pn n ρ q A hT Q k => ?_⟩
  refine ka σ H G pn n ρ _ A hT _ fun x H1 ⟨d, n1, g1, r1, hT2⟩ => ?_
  have A1 := A.go g1
  refine kb σ H1 _ pn n1 ρ _ A1 hT2 _ fun y H2 ⟨e, n2, g2, r2, z, hz, hq⟩ => ?_
  have A2 := A1.go g2
  refine h _ H2 pn n2 x y d e z A2.sub A2.pst (Rep.mono sub_ext d x r1) r2 hz Q fun v H3 g3 r3 => k v H3 ⟨z, n2, (g1.trans g2).trans g3, ?_, hq⟩
  rw [A1.ext_ext g2 g3, A.ext_ext g1 (g2.trans g3)] at r3
  exact r3
/-- the answer needs no new thing -/
theorem Op2.val {r : R2} {f : D → D → Option D} (h : ∀ (G H : Hp) (pn : Pn) (x y : V) (d e z : D), Sub G H → Rep X.K pn G x d → Rep X.K pn G y e → f d e = some z → ∃ v, Rep X.K pn G v z ∧ ∀ Q : VK, Q v H → r x y H Q) : Op2 X r f :=
  fun G H pn n x y d e z s p r1 r2 hz Q k => by
    obtain ⟨v, r3, q⟩ := h G H pn x y d e z s r1 r2 hz
    exact q Q (k v H (Go.refl p) (by rw [ext_refl]; exact r3))
def orD (f f' : D → D → Option D) : D → D → Option D := fun d e => (f d e).or (f' d e)
theorem Op2.or {r r' : R2} {f f' : D → D → Option D} (h : Op2 X r f) (h' : Op2 X r' f') : Op2 X (fun x y H Q => r x y H Q ∨ r' x y H Q) (orD f f') :=
  fun G H pn n x y d e z s p r1 r2 hz Q k => by
    unfold orD at hz
    cases hf : f d e with
    | some w =>
      rw [hf, Option.some_or] at hz
      obtain rfl := Option.some.inj hz
      exact .inl (h G H pn n x y d e _ s p r1 r2 hf Q k)
    | none =>
      rw [hf, Option.none_or] at hz
      exact .inr (h' G H pn n x y d e z s p r1 r2 hz Q k)
theorem ed_bin {op : Operator} {a b : Expr} {pos : Pos} {Ta Tb : TD} {r : R2} {f : D → D → Option D} (o : OpR X (binaryOp op) r) (h : Op2 X r f) (ha : ED X a Ta) (hb : ED X b Tb) : ED X (.BinOp a op b pos) (tOpD f Ta Tb) :=
  op2 (fun _ _ pa pb => pe_op o pa pb) h ha hb
theorem ed_cmp {op : CmpOp} {a b : Expr} {pos : Pos} {Ta Tb : TD} {r : R2} {f : D → D → Option D} (o : OpR X (compareOp op) r) (hm : behindInMarks op b = false) (h : Op2 X r f) (ha : ED X a Ta) (hb : ED X b Tb) : ED X (.Compare a [op] [b] pos) (tOpD f Ta Tb) :=
  op2 (fun _ _ pa pb => pe_cmpR o pa pb hm) h ha hb
end
end DL
namespace DL
open PySem PySem.Spec PyProof.Rows L2
section
variable {X : Cx}

/-! ### a one-place operation -/
def Op1 (X : Cx) (r : V → Hp → VK → Prop) (f : D → Option D) : Prop := ∀ (G H : Hp) (pn : Pn) (n : Nat) (x : V) (d z : D), Sub G H → Pst pn G H n → Rep X.K pn G x d → f d = some z →
  ∀ Q : VK, (∀ v H', Go pn G H H' n → Rep X.K pn (ext G H H') v z → Q v H') → r x H Q
def tOp1D (f : D → Option D) (Ta : TD) : TD := fun ρ n q => Ta ρ n fun x n => ∃ z, f x = some z ∧ q z n
theorem op1 {e : Expr} {a : Expr} {Ta : TD} {r : V → Hp → VK → Prop} {f : D → Option D} (mk : ∀ ta, PE X a ta → PE X e (tUn r ta)) (h : Op1 X r f) (ha : ED X a Ta) : ED X e (tOp1D f Ta) := by
  obtain ⟨ta, pa, ka⟩ := ha
  refine ⟨_, mk _ pa, fun σ H G pn n ρ q A hT Q k => ?_⟩
  refine ka σ H G pn n ρ _ A hT _ fun x H1 ⟨d, n1, g1, r1, z, hz, hq⟩ => ?_
  have A1 := A.go g1
  refine h _ H1 pn n1 x d z A1.sub A1.pst r1 hz Q fun v H2 g2 r2 => k v H2 ⟨z, n1, g1.trans g2, ?_, hq⟩
  rw [A.ext_ext g1 g2] at r2
  exact r2

/-! ### tests -/
theorem bd_val {e : Expr} {T : TD} (h : ED X e T) (he : ∀ whole, isTrue e X.env whole = (do let v ← whole; standAt e.pos; holding [v] (truthy v)) := by intro _; rfl) :
    BD X e (fun ρ n q => T ρ n fun d n => ∃ b, d = .bl b ∧ q b n) := by
  obtain ⟨t, p, k⟩ := h
  refine ⟨_, pt_val p he, fun σ H G pn n ρ q A hT Q kq => ?_⟩
  refine k σ H G pn n ρ _ A hT _ fun v H1 ⟨d, n1, g1, r1, b, eb, hq⟩ => ?_
  subst eb
  exact ⟨b, r1, kq b H1 ⟨n1, g1, hq⟩⟩
theorem bd_cmp {op : CmpOp} {a b : Expr} {pos : Pos} {Ta Tb : TD} {r : R2} {f : D → D → Option D} (o : OpR X (compareOp op) r) (hm : behindInMarks op b = false) (h : Op2 X r f) (ha : ED X a Ta) (hb : ED X b Tb) :
    BD X (.Compare a [op] [b] pos) (fun ρ n q => tOpD f Ta Tb ρ n fun d n => ∃ b, d = .bl b ∧ q b n) := by
  obtain ⟨ta, pa, ka⟩ := ha
  obtain ⟨tb, pb, kb⟩ := hb
  obtain ⟨t, _, k⟩ := (op2 (X := X) (e := .Compare a [op] [b] pos) (fun _ _ pa pb => pe_cmpR o pa pb hm) h ⟨ta, pa, ka⟩ ⟨tb, pb, kb⟩ : ED X _ _)
  refine ⟨_, pt_cmpR o pa pb hm, fun σ H G pn n ρ q A hT Q kq => ?_⟩
  refine ka σ H G pn n ρ _ A hT _ fun x H1 ⟨d, n1, g1, r1, hT2⟩ => ?_
  have A1 := A.go g1
  refine kb σ H1 _ pn n1 ρ _ A1 hT2 _ fun y H2 ⟨e, n2, g2, r2, z, hz, c, hc, hq⟩ => ?_
  have A2 := A1.go g2
  subst hc
  refine h _ H2 pn n2 x y d e _ A2.sub A2.pst (Rep.mono sub_ext d x r1) r2 hz _ fun v H3 g3 r3 => ⟨c, r3, kq c H3 ⟨n2, (g1.trans g2).trans g3, hq⟩⟩
def bAnd (A B : TDb) : TDb := fun ρ n q => A ρ n fun b n => if b = true then B ρ n q else q false n
def bOr (A B : TDb) : TDb := fun ρ n q => A ρ n fun b n => if b = true then q true n else B ρ n q
def bNot (A : TDb) : TDb := fun ρ n q => A ρ n fun b n => q (!b) n
/-- a test, whatever its whole is -/
def WB (X : Cx) (e : Expr) (T : TDb) : Prop := ∃ t, PW X e t ∧ ∀ (σ : L2.St) (H G : Hp) (pn : Pn) (n : Nat) (ρ : Env) (q : Bool → Nat → Prop), At X.K pn G H σ ρ n → T ρ n q →
  ∀ Q : Bool → Hp → Prop, (∀ v H', PostB pn G H q v H' → Q v H') → t σ H Q
theorem bd_w {e : Expr} {T : TDb} (h : WB X e T) : BD X e T := by
  obtain ⟨t, p, k⟩ := h
  exact ⟨t, p.pt, k⟩
theorem wb_and1 {a : Expr} {pos : Pos} {A : TDb} (h : BD X a A) : WB X (.BoolOp .And [a] pos) A := by
  obtain ⟨t, p, k⟩ := h
  exact ⟨t, pw_and1 p, k⟩
theorem wb_or1 {a : Expr} {pos : Pos} {A : TDb} (h : BD X a A) : WB X (.BoolOp .Or [a] pos) A := by
  obtain ⟨t, p, k⟩ := h
  exact ⟨t, pw_or1 p, k⟩
theorem wb_and {a b : Expr} {rest : List Expr} {pos : Pos} {A B : TDb} (h : BD X a A) (h2 : WB X (.BoolOp .And (b :: rest) pos) B) : WB X (.BoolOp .And (a :: b :: rest) pos) (bAnd A B) := by
  obtain ⟨t, p, k⟩ := h
  obtain ⟨t2, p2, k2⟩ := h2
  refine ⟨_, pw_and p p2, fun σ H G pn n ρ q A hT Q kq => ?_⟩
  refine k σ H G pn n ρ _ A hT _ fun b H1 ⟨n1, g1, hq⟩ => ?_
  have A1 := A.go g1
  cases b with
  | true => exact k2 σ H1 _ pn n1 ρ _ A1 hq Q fun v H2 ⟨n2, g2, hq2⟩ => kq v H2 ⟨n2, g1.trans g2, hq2⟩
  | false => exact kq false H1 ⟨n1, g1, hq⟩
theorem wb_or {a b : Expr} {rest : List Expr} {pos : Pos} {A B : TDb} (h : BD X a A) (h2 : WB X (.BoolOp .Or (b :: rest) pos) B) : WB X (.BoolOp .Or (a :: b :: rest) pos) (bOr A B) := by
  obtain ⟨t, p, k⟩ := h
  obtain ⟨t2, p2, k2⟩ := h2
  refine ⟨_, pw_or p p2, fun σ H G pn n ρ q A hT Q kq => ?_⟩
  refine k σ H G pn n ρ _ A hT _ fun b H1 ⟨n1, g1, hq⟩ => ?_
  have A1 := A.go g1
  cases b with
  | false => exact k2 σ H1 _ pn n1 ρ _ A1 hq Q fun v H2 ⟨n2, g2, hq2⟩ => kq v H2 ⟨n2, g1.trans g2, hq2⟩
  | true => exact kq true H1 ⟨n1, g1, hq⟩
theorem bd_not {a : Expr} {pos : Pos} {A : TDb} (h : BD X a A) : BD X (.UnaryOp .Not a pos) (bNot A) := by
  obtain ⟨t, p, k⟩ := h
  refine ⟨_, pt_not p, fun σ H G pn n ρ q A hT Q kq => ?_⟩
  exact k σ H G pn n ρ _ A hT _ fun b H1 ⟨n1, g1, hq⟩ => kq _ H1 ⟨n1, g1, hq⟩

/-! ### values by tests: and, or, not, if .. else -/
def tAndD (Ta Tb : TD) : TD := fun ρ n q => Ta ρ n fun x n => ∃ b, x = .bl b ∧ if b = true then Tb ρ n q else q (.bl false) n
def tOrD (Ta Tb : TD) : TD := fun ρ n q => Ta ρ n fun x n => ∃ b, x = .bl b ∧ if b = true then q (.bl true) n else Tb ρ n q
def tNotD (Ta : TD) : TD := fun ρ n q => Ta ρ n fun x n => ∃ b, x = .bl b ∧ q (.bl (!b)) n
theorem ed_one {a : Expr} {op pos} {T : TD} (h : ED X a T) : ED X (.BoolOp op [a] pos) T := by
  obtain ⟨t, p, k⟩ := h
  exact ⟨t, pe_one p, k⟩
theorem post_trans {K : PySem.W.Frag} {pn : Pn} {G H H1 H2 : Hp} {σ : L2.St} {ρ : Env} {n n1 : Nat} {q : QD} {v : V} (A : At K pn G H σ ρ n) (g1 : Go pn G H H1 n1) (h : Post K pn (ext G H H1) H1 q v H2) : Post K pn G H q v H2 := by
  obtain ⟨d, n2, g2, r2, hq⟩ := h
  refine ⟨d, n2, g1.trans g2, ?_, hq⟩
  rw [A.ext_ext g1 g2] at r2
  exact r2
theorem ed_and {a b : Expr} {rest : List Expr} {pos : Pos} {Ta Tb : TD} (h : ED X a Ta) (h2 : ED X (.BoolOp .And (b :: rest) pos) Tb) : ED X (.BoolOp .And (a :: b :: rest) pos) (tAndD Ta Tb) := by
  obtain ⟨t, p, k⟩ := h
  obtain ⟨t2, p2, k2⟩ := h2
  refine ⟨_, pe_and p p2, fun σ H G pn n ρ q A hT Q kq => ?_⟩
  refine k σ H G pn n ρ _ A hT _ fun v H1 ⟨d, n1, g1, r1, b, eb, hq⟩ => ?_
  subst eb
  refine ⟨b, r1, ?_⟩
  have A1 := A.go g1
  cases b with
  | true => exact k2 σ H1 _ pn n1 ρ _ A1 hq Q fun v H2 hp => kq v H2 (post_trans A g1 hp)
  | false => exact kq _ H1 ⟨.bl false, n1, g1, rfl, hq⟩
theorem ed_or {a b : Expr} {rest : List Expr} {pos : Pos} {Ta Tb : TD} (h : ED X a Ta) (h2 : ED X (.BoolOp .Or (b :: rest) pos) Tb) : ED X (.BoolOp .Or (a :: b :: rest) pos) (tOrD Ta Tb) := by
  obtain ⟨t, p, k⟩ := h
  obtain ⟨t2, p2, k2⟩ := h2
  refine ⟨_, pe_or p p2, fun σ H G pn n ρ q A hT Q kq => ?_⟩
  refine k σ H G pn n ρ _ A hT _ fun v H1 ⟨d, n1, g1, r1, b, eb, hq⟩ => ?_
  subst eb
  refine ⟨b, r1, ?_⟩
  have A1 := A.go g1
  cases b with
  | false => exact k2 σ H1 _ pn n1 ρ _ A1 hq Q fun v H2 hp => kq v H2 (post_trans A g1 hp)
  | true => exact kq _ H1 ⟨.bl true, n1, g1, rfl, hq⟩
theorem ed_not {a : Expr} {pos : Pos} {Ta : TD} (h : ED X a Ta) : ED X (.UnaryOp .Not a pos) (tNotD Ta) := by
  obtain ⟨t, p, k⟩ := h
  refine ⟨_, pe_not p, fun σ H G pn n ρ q A hT Q kq => ?_⟩
  exact k σ H G pn n ρ _ A hT _ fun v H1 ⟨d, n1, g1, r1, b, e, hq⟩ => by
    subst e
    exact ⟨b, r1, kq _ H1 ⟨.bl (!b), n1, g1, rfl, hq⟩⟩
def tIfD (A : TDb) (Ta Tb : TD) : TD := fun ρ n q => A ρ n fun b n => if b = true then Ta ρ n q else Tb ρ n q
theorem ed_if {c a b : Expr} {pos : Pos} {A : TDb} {Ta Tb : TD} (hc : BD X c A) (ha : ED X a Ta) (hb : ED X b Tb) : ED X (.IfExp c a b pos) (tIfD A Ta Tb) := by
  obtain ⟨t, p, k⟩ := hc
  obtain ⟨t1, p1, k1⟩ := ha
  obtain ⟨t2, p2, k2⟩ := hb
  refine ⟨_, pe_ifExp p p1 p2, fun σ H G pn n ρ q A hT Q kq => ?_⟩
  refine k σ H G pn n ρ _ A hT _ fun b H1 ⟨n1, g1, hq⟩ => ?_
  have A1 := A.go g1
  cases b with
  | true => exact k1 σ H1 _ pn n1 ρ _ A1 hq Q fun v H2 hp => kq v H2 (post_trans A g1 hp)
  | false => exact k2 σ H1 _ pn n1 ρ _ A1 hq Q fun v H2 hp => kq v H2 (post_trans A g1 hp)

/-! ### chains a < b < c -/
def tChainD (f g : D → D → Option D) (Ta Tb Tc : TD) : TD := fun ρ n q => Ta ρ n fun x n => Tb ρ n fun y n => ∃ k, f x y = some (.bl k) ∧ if k = true then Tc ρ n fun z n => ∃ w, g y z = some w ∧ q w n else q (.bl false) n
theorem ed_chain {op op' : CmpOp} {a b c : Expr} {pos : Pos} {Ta Tb Tc : TD} {r r' : R2} {f g : D → D → Option D} (o : OpR X (compareOp op) r) (o' : OpR X (compareOp op') r') (h : Op2 X r f) (h' : Op2 X r' g) (ha : ED X a Ta) (hb : ED X b Tb) (hc : ED X c Tc)
    (hm : lastMarks [op, op'] [b, c] = false := by with_unfolding_all rfl) : ED X (.Compare a [op, op'] [b, c] pos) (tChainD f g Ta Tb Tc) := by
  obtain ⟨ta, pa, ka⟩ := ha
  obtain ⟨tb, pb, kb⟩ := hb
  obtain ⟨tc, pc, kc⟩ := hc
  refine ⟨_, pe_chain o o' pa pb pc hm, fun σ H G pn n ρ q A hT Q k => ?_⟩
  refine ka σ H G pn n ρ _ A hT _ fun x H1 ⟨d, n1, g1, r1, hT2⟩ => ?_
  have A1 := A.go g1
  refine kb σ H1 _ pn n1 ρ _ A1 hT2 _ fun y H2 ⟨e, n2, g2, r2, c, hz, hq⟩ => ?_
  have A2 := A1.go g2
  refine h _ H2 pn n2 x y d e _ A2.sub A2.pst (Rep.mono sub_ext d x r1) r2 hz _ fun v H3 g3 r3 => ⟨c, r3, ?_⟩
  have A3 := A2.go g3
  have g123 := (g1.trans g2).trans g3
  have e2 : ext (ext (ext G H H1) H1 H2) H2 H3 = ext G H H3 := by rw [A1.ext_ext g2 g3, A.ext_ext g1 (g2.trans g3)]
  cases c with
  | false => exact k _ H3 ⟨.bl false, n2, g123, rfl, hq⟩
  | true =>
    refine kc σ H3 _ pn n2 ρ _ A3 hq _ fun w H4 ⟨d4, n4, g4, r4, z, hz4, hq4⟩ => ?_
    have A4 := A3.go g4
    refine h' _ H4 pn n4 y w e d4 z A4.sub A4.pst (Rep.mono sub_ext e y (Rep.mono sub_ext e y r2)) r4 hz4 Q fun v5 H5 g5 r5 => k v5 H5 ⟨z, n4, (g123.trans g4).trans g5, ?_, hq4⟩
    rw [A3.ext_ext g4 g5] at r5
    rw [e2] at r5
    rw [A.ext_ext g123 (g4.trans g5)] at r5
    exact r5

/-! ### arguments, displays -/
def aNil : TDs := fun _ n q => q [] n
def aCons (Ta : TD) (Tr : TDs) : TDs := fun ρ n q => Ta ρ n fun x n => Tr ρ n fun xs n => q (x :: xs) n
theorem ad_nil : AD X [] aNil := ⟨_, pa_nil, fun σ H G pn n ρ q A hT Q k => k [] H ⟨[], n, Go.refl A.pst, rfl, hT⟩⟩
theorem ad_cons {e : Expr} {es : List Expr} {Ta : TD} {Tr : TDs} (h : ED X e Ta) (hr : AD X es Tr) (hs : starEach (e :: es) X.env = (false, eval e X.env) :: starEach es X.env := by rfl) : AD X (e :: es) (aCons Ta Tr) := by
  obtain ⟨t, p, k⟩ := h
  obtain ⟨t2, p2, k2⟩ := hr
  refine ⟨_, pa_cons p p2 hs, fun σ H G pn n ρ q A hT Q kq => ?_⟩
  refine k σ H G pn n ρ _ A hT _ fun v H1 ⟨d, n1, g1, r1, hq⟩ => ?_
  have A1 := A.go g1
  refine k2 σ H1 _ pn n1 ρ _ A1 hq _ fun vs H2 ⟨ds, n2, g2, r2, hq2⟩ => kq _ H2 ⟨d :: ds, n2, g1.trans g2, ?_, hq2⟩
  rw [A.ext_ext g1 g2] at r2
  refine ⟨v, vs, rfl, ?_, r2⟩
  have := Rep.mono (sub_ext (G := ext G H H1) (H := H1) (H' := H2)) d v r1
  rw [A.ext_ext g1 g2] at this
  exact this
def LIM : Nat := 1000000
theorem lim_le {n : Nat} (h : n ≤ LIM) : n ≤ sizeLine := Nat.le_trans h (by decide)
theorem lim_lt {n : Nat} (h : n ≤ LIM) : n < sizeLine := Nat.lt_of_le_of_lt h (by decide)
/-- a new thing is frozen at once -/
theorem ext_upd {pn : Pn} {G H H1 : Hp} {n : Nat} {K : PySem.W.Frag} {σ : L2.St} {ρ : Env} {n1 : Nat} {p : Addr} {o : HO} (A : At K pn G H σ ρ n) (g1 : Go pn G H H1 n1) (hp : H1 p = none) : ext G H (upd H1 p o) = upd (ext G H H1) p o := by
  have A1 := A.go g1
  rw [← A.ext_ext g1 (Go.new A1.pst hp), ext_new A1.sub hp]
theorem upd_sub {G : Hp} {p : Addr} {o : HO} {H : Hp} (s : Sub G H) (hp : H p = none) : Sub G (upd G p o) := sub_new (by
  cases g : G p with
  | none => rfl
  | some u => rw [s _ _ g] at hp; cases hp)
theorem ed_tup {es : List Expr} {x1 : Nat} {pos : Pos} {T : TDs} (h : AD X es T) : ED X (.Tuple es x1 pos) (fun ρ n q => T ρ n fun ds n => ds.length ≤ LIM ∧ q (.tup ds) n) := by
  obtain ⟨t, p, k⟩ := h
  refine ⟨_, pe_tup p, fun σ H G pn n ρ q A hT Q kq => ?_⟩
  refine k σ H G pn n ρ _ A hT _ fun vs H1 ⟨ds, n1, g1, r1, hl, hq⟩ => ⟨lim_le (by rw [Reps.length r1]; exact hl), fun a ha => ?_⟩
  have A1 := A.go g1
  refine kq _ _ ⟨.tup ds, n1, g1.trans (Go.new A1.pst ha), ⟨a, vs, rfl, SqT.of ?_, ?_⟩, hq⟩
  · rw [ext_upd A g1 ha, upd_same]
  · rw [ext_upd A g1 ha]
    exact Reps.mono (upd_sub A1.sub ha) _ _ r1
theorem ed_lst {es : List Expr} {pos : Pos} {T : TDs} (h : AD X es T) : ED X (.List es pos) (fun ρ n q => T ρ n fun ds n => ds.length ≤ LIM ∧ q (.lst ds) n) := by
  obtain ⟨t, p, k⟩ := h
  refine ⟨_, pe_lst p, fun σ H G pn n ρ q A hT Q kq => ?_⟩
  refine k σ H G pn n ρ _ A hT _ fun vs H1 ⟨ds, n1, g1, r1, hl, hq⟩ => ⟨lim_le (by rw [Reps.length r1]; exact hl), fun a ha => ?_⟩
  have A1 := A.go g1
  refine kq _ _ ⟨.lst ds, n1, g1.trans (Go.new A1.pst ha), ⟨a, vs, rfl, ?_, ?_⟩, hq⟩
  · rw [ext_upd A g1 ha, upd_same]
  · rw [ext_upd A g1 ha]
    exact Reps.mono (upd_sub A1.sub ha) _ _ r1

/-! ### a built-in called with values -/
def OpC (X : Cx) (r : List V → Hp → VK → Prop) (f : List D → Option D) : Prop := ∀ (G H : Hp) (pn : Pn) (n : Nat) (xs : List V) (ds : List D) (z : D), Sub G H → Pst pn G H n → Reps X.K pn G xs ds → f ds = some z →
  ∀ Q : VK, (∀ v H', Go pn G H H' n → Rep X.K pn (ext G H H') v z → Q v H') → r xs H Q
def tCallB (f : List D → Option D) (T : TDs) : TD := fun ρ n q => T ρ n fun xs n => ∃ z, f xs = some z ∧ q z n
theorem opc {e : Expr} {es : List Expr} {T : TDs} {r : List V → Hp → VK → Prop} {f : List D → Option D} (mk : ∀ t, PA X es t → PE X e (tCB r t)) (h : OpC X r f) (ha : AD X es T) : ED X e (tCallB f T) := by
  obtain ⟨t, p, k⟩ := ha
  refine ⟨_, mk _ p, fun σ H G pn n ρ q A hT Q kq => ?_⟩
  refine k σ H G pn n ρ _ A hT _ fun xs H1 ⟨ds, n1, g1, r1, z, hz, hq⟩ => ?_
  have A1 := A.go g1
  refine h _ H1 pn n1 xs ds z A1.sub A1.pst r1 hz Q fun v H2 g2 r2 => kq v H2 ⟨z, n1, g1.trans g2, ?_, hq⟩
  rw [A.ext_ext g1 g2] at r2
  exact r2
theorem OpC.val {r : List V → Hp → VK → Prop} {f : List D → Option D} (h : ∀ (G H : Hp) (pn : Pn) (xs : List V) (ds : List D) (z : D), Sub G H → Reps X.K pn G xs ds → f ds = some z → ∃ v, Rep X.K pn G v z ∧ ∀ Q : VK, Q v H → r xs H Q) : OpC X r f :=
  fun G H pn n xs ds z s p r1 hz Q k => by
    obtain ⟨v, r3, q⟩ := h G H pn xs ds z s r1 hz
    exact q Q (k v H (Go.refl p) (by rw [ext_refl]; exact r3))
theorem OpC.lst {r : List V → Hp → VK → Prop} {f : List D → Option D} (h : ∀ (G H : Hp) (pn : Pn) (xs : List V) (ds : List D) (z : D), Sub G H → Reps X.K pn G xs ds → f ds = some z → ∃ vs es, z = .lst es ∧ Reps X.K pn G vs es ∧ ∀ Q : VK, (∀ p, H p = none → Q (.ref p) (upd H p (.lst vs))) → r xs H Q) : OpC X r f :=
  fun G H pn n xs ds z s p r1 hz Q k => by
    obtain ⟨vs, es, rfl, r3, q⟩ := h G H pn xs ds z s r1 hz
    refine q Q fun a ha => k _ _ (Go.new p ha) ⟨a, vs, rfl, ?_, ?_⟩
    · rw [ext_new s ha, upd_same]
    · rw [ext_new s ha]
      exact Reps.mono (upd_sub s ha) _ _ r3
theorem OpC.tup {r : List V → Hp → VK → Prop} {f : List D → Option D} (h : ∀ (G H : Hp) (pn : Pn) (xs : List V) (ds : List D) (z : D), Sub G H → Reps X.K pn G xs ds → f ds = some z → ∃ vs es, z = .tup es ∧ Reps X.K pn G vs es ∧ ∀ Q : VK, (∀ p, H p = none → Q (.ref p) (upd H p (.tup vs))) → r xs H Q) : OpC X r f :=
  fun G H pn n xs ds z s p r1 hz Q k => by
    obtain ⟨vs, es, rfl, r3, q⟩ := h G H pn xs ds z s r1 hz
    refine q Q fun a ha => k _ _ (Go.new p ha) ⟨a, vs, rfl, SqT.of ?_, ?_⟩
    · rw [ext_new s ha, upd_same]
    · rw [ext_new s ha]
      exact Reps.mono (upd_sub s ha) _ _ r3
end
end DL
namespace DL
open PySem PySem.Spec PyProof.Rows L2

mutual
def toPy : D → PyData
  | .non => .none
  | .bl b => .bool b
  | .int i => .int i
  | .str x => .str x
  | .tup ds => .tuple (toPys ds)
  | .lst ds => .list (toPys ds)
  | .dct kvs => .dict []
  | .pen => .dict []
  | .scr _ => .dict []
def toPys : List D → List PyData
  | [] => []
  | d :: ds => toPy d :: toPys ds
end
/-- neither a dict nor the pen within -/
def okD (d : D) : Bool := SeqAt.shaped (toPy d)
mutual
theorem Rep.dp {K : PySem.W.Frag} {pn : Pn} {G : Hp} : ∀ (d : D) (v : V), (toPy d).canLay0 = true → Rep K pn G v d → Dp K G v (toPy d)
  | .non, v, _, h => by rw [show v = .non from h]; exact .non
  | .bl b, v, _, h => by rw [show v = .bl b from h]; exact .bl b
  | .int i, v, _, h => by rw [show v = .int i from h]; exact .int i
  | .str x, v, _, h => by rw [show v = .str x from h]; exact .str x
  | .tup ds, v, c, h => by
    obtain ⟨a, vs, rfl, h1, h2⟩ := h
    exact .tup h1 (Reps.dp ds vs (by simpa [toPy, PyData.canLay0] using c) h2)
  | .lst ds, v, c, h => by
    obtain ⟨a, vs, rfl, h1, h2⟩ := h
    exact .lst (SqL.of h1) (Reps.dp ds vs (by simpa [toPy, PyData.canLay0] using c) h2)
  | .dct kvs, v, c, h => by simp [toPy, PyData.canLay0] at c
  | .pen, v, c, h => by simp [toPy, PyData.canLay0] at c
  | .scr ns, v, c, h => by simp [toPy, PyData.canLay0] at c
theorem Reps.dp {K : PySem.W.Frag} {pn : Pn} {G : Hp} : ∀ (ds : List D) (vs : List V), PyData.canLayAll0 (toPys ds) = true → Reps K pn G vs ds → DpAll K G vs (toPys ds)
  | [], vs, _, h => by rw [show vs = [] from h]; exact .nil
  | d :: ds, vs, c, h => by
    obtain ⟨v, r, rfl, h1, h2⟩ := h
    have c' : (toPy d).canLay0 = true ∧ PyData.canLayAll0 (toPys ds) = true := by simpa [toPys, PyData.canLayAll0] using c
    exact .cons (Rep.dp d v c'.1 h1) (Reps.dp ds r c'.2 h2)
end
mutual
theorem Dp.sub {K : PySem.W.Frag} {G H : Hp} (s : Sub G H) : ∀ (e : PyData) (v : V), Dp K G v e → Dp K H v e
  | _, _, .non => .non
  | _, _, .bl b => .bl b
  | _, _, .int i => .int i
  | _, _, .str x => .str x
  | _, _, .lst h a => .lst (s.sqL h) (DpAll.sub s _ _ a)
  | _, _, .tup h a => .tup (s.sqT h) (DpAll.sub s _ _ a)
theorem DpAll.sub {K : PySem.W.Frag} {G H : Hp} (s : Sub G H) : ∀ (e : List PyData) (v : List V), DpAll K G v e → DpAll K H v e
  | _, _, .nil => .nil
  | _, _, .cons a b => .cons (Dp.sub s _ _ a) (DpAll.sub s _ _ b)
end
theorem canLay_of_ok {d : D} (h : okD d = true) : (toPy d).canLay0 = true := SeqAt.canLay_of_shaped h

section
variable {X : Cx}
/-! ### == and != of data -/
def strB (d e : D) : Option Bool := match d, e with
  | .str x, .str y => some (decide (x = y))
  | _, _ => none
def eqD (d e : D) : Option D := if okD d && okD e then some (.bl (PyData.eqv (toPy d) (toPy e))) else (strB d e).map D.bl
def neD (d e : D) : Option D := if okD d && okD e then some (.bl (!PyData.eqv (toPy d) (toPy e))) else (strB d e).map fun b => .bl (!b)
theorem strB_get {d e : D} {b : Bool} (h : strB d e = some b) : ∃ x y, d = .str x ∧ e = .str y ∧ b = decide (x = y) := by
  unfold strB at h
  split at h
  · cases h
    exact ⟨_, _, rfl, rfl, rfl⟩
  · cases h
theorem dec_str {x y : Str} : decide (V.str x = V.str y) = decide (x = y) := by
  by_cases h : x = y <;> simp [h]
theorem o2_eq : Op2 X (fun x y H Q => rEqD X.K x y H Q ∨ rEq x y H Q) eqD := .val fun G H pn x y d e z s r1 r2 hz => by
  unfold eqD at hz
  split at hz
  · rename_i c
    cases hz
    simp only [Bool.and_eq_true] at c
    exact ⟨_, rfl, fun Q q => .inl ⟨toPy d, toPy e, Dp.sub s _ _ (Rep.dp d x (canLay_of_ok c.1) r1), Dp.sub s _ _ (Rep.dp e y (canLay_of_ok c.2) r2), c.1, c.2, q⟩⟩
  · obtain ⟨b, hb, rfl⟩ := Option.map_eq_some_iff.mp hz
    obtain ⟨u, v, rfl, rfl, rfl⟩ := strB_get hb
    obtain rfl : x = .str u := r1
    obtain rfl : y = .str v := r2
    exact ⟨_, rfl, fun Q q => .inr ⟨rfl, by rw [dec_str]; exact q⟩⟩
theorem o2_ne : Op2 X (fun x y H Q => rNeD X.K x y H Q ∨ rNe x y H Q) neD := .val fun G H pn x y d e z s r1 r2 hz => by
  unfold neD at hz
  split at hz
  · rename_i c
    cases hz
    simp only [Bool.and_eq_true] at c
    exact ⟨_, rfl, fun Q q => .inl ⟨toPy d, toPy e, Dp.sub s _ _ (Rep.dp d x (canLay_of_ok c.1) r1), Dp.sub s _ _ (Rep.dp e y (canLay_of_ok c.2) r2), c.1, c.2, q⟩⟩
  · obtain ⟨b, hb, rfl⟩ := Option.map_eq_some_iff.mp hz
    obtain ⟨u, v, rfl, rfl, rfl⟩ := strB_get hb
    obtain rfl : x = .str u := r1
    obtain rfl : y = .str v := r2
    exact ⟨_, rfl, fun Q q => .inr ⟨rfl, by rw [dec_str]; exact q⟩⟩
/-! ### order of ints -/
def cmpI (p : Int → Int → Bool) : D → D → Option D
  | .int i, .int j => some (.bl (p i j))
  | _, _ => none
theorem rep_int {K : PySem.W.Frag} {pn : Pn} {G : Hp} {v : V} {i : Int} (h : Rep K pn G v (.int i)) : v = .int i := h
theorem o2_cmpI {p : Int → Int → Bool} : Op2 X (rI0 fun i j => .bl (p i j)) (cmpI p) := .val fun G H pn x y d e z s r1 r2 hz => by
  cases d <;> cases e <;> simp only [cmpI, Option.some.injEq, reduceCtorEq] at hz
  subst hz
  exact ⟨_, rfl, fun Q q => ⟨_, _, r1, r2, q⟩⟩
def ltD : D → D → Option D := cmpI fun i j => decide (i < j)
def leD : D → D → Option D := cmpI fun i j => decide (i ≤ j)
def gtD : D → D → Option D := cmpI fun i j => decide (j < i)
def geD : D → D → Option D := cmpI fun i j => decide (j ≤ i)
/-! ### is None -/
def isN : D → Bool
  | .non => true
  | _ => false
theorem rep_isN {K : PySem.W.Frag} {pn : Pn} {G : Hp} {v : V} : ∀ {d : D}, Rep K pn G v d → decide (v = .non) = isN d
  | .non, h => by rw [show v = .non from h]; rfl
  | .bl b, h => by rw [show v = .bl b from h]; rfl
  | .int b, h => by rw [show v = .int b from h]; rfl
  | .str b, h => by rw [show v = .str b from h]; rfl
  | .tup b, h => by obtain ⟨a, vs, rfl, _⟩ := h; rfl
  | .lst b, h => by obtain ⟨a, vs, rfl, _⟩ := h; rfl
  | .dct b, h => by obtain ⟨a, vs, rfl, _⟩ := h; rfl
  | .pen, h => by obtain ⟨a, vs, _, rfl⟩ := h; rfl
  | .scr ns, h => by obtain ⟨a, rfl, _⟩ := h; rfl
def isD : D → D → Option D
  | d, .non => some (.bl (isN d))
  | _, _ => none
def notD : D → D → Option D
  | d, .non => some (.bl (!isN d))
  | _, _ => none
theorem o2_is : Op2 X (fun x y H Q => y = .non ∧ Q (.bl (decide (x = .non))) H) isD := .val fun G H pn x y d e z s r1 r2 hz => by
  cases e <;> simp only [isD, Option.some.injEq, reduceCtorEq] at hz
  subst hz
  exact ⟨_, rfl, fun Q q => ⟨r2, by rw [rep_isN r1]; exact q⟩⟩
theorem o2_not : Op2 X (fun x y H Q => y = .non ∧ Q (.bl (!decide (x = .non))) H) notD := .val fun G H pn x y d e z s r1 r2 hz => by
  cases e <;> simp only [notD, Option.some.injEq, reduceCtorEq] at hz
  subst hz
  exact ⟨_, rfl, fun Q q => ⟨r2, by rw [rep_isN r1]; exact q⟩⟩
/-! ### in, not in, of flat things -/
def toV : D → V
  | .bl b => .bl b
  | .int i => .int i
  | .str x => .str x
  | _ => .non
def flatD : D → Bool
  | .non | .bl _ | .int _ | .str _ => true
  | _ => false
theorem rep_flat {K : PySem.W.Frag} {pn : Pn} {G : Hp} {v : V} : ∀ {d : D}, flatD d = true → Rep K pn G v d → v = toV d ∧ flatV v = true
  | .non, _, h => by rw [show v = .non from h]; exact ⟨rfl, rfl⟩
  | .bl b, _, h => by rw [show v = .bl b from h]; exact ⟨rfl, rfl⟩
  | .int b, _, h => by rw [show v = .int b from h]; exact ⟨rfl, rfl⟩
  | .str b, _, h => by rw [show v = .str b from h]; exact ⟨rfl, rfl⟩
theorem reps_flat {K : PySem.W.Frag} {pn : Pn} {G : Hp} : ∀ {ds : List D} {vs : List V}, ds.all flatD = true → Reps K pn G vs ds → vs = ds.map toV ∧ vs.all flatV = true
  | [], vs, _, h => by rw [show vs = [] from h]; exact ⟨rfl, rfl⟩
  | d :: ds, vs, c, h => by
    obtain ⟨v, r, rfl, h1, h2⟩ := h
    simp only [List.all_cons, Bool.and_eq_true] at c
    obtain ⟨e1, f1⟩ := rep_flat c.1 h1
    obtain ⟨e2, f2⟩ := reps_flat c.2 h2
    exact ⟨by rw [List.map_cons, ← e1, ← e2], by rw [List.all_cons, f1, f2]; rfl⟩
def inDs (x : D) (ds : List D) : Bool := inV (toV x) (ds.map toV)
def inD (neg : Bool) : D → D → Option D
  | x, .tup ds => if flatD x && ds.all flatD then some (.bl (if neg then !inDs x ds else inDs x ds)) else none
  | x, .lst ds => if flatD x && ds.all flatD then some (.bl (if neg then !inDs x ds else inDs x ds)) else none
  | _, _ => none
theorem o2_in {neg : Bool} : Op2 X (rIn X.K neg) (inD neg) := .val fun G H pn x y d e z s r1 r2 hz => by
  cases e with
  | tup ds =>
    simp only [inD] at hz
    split at hz
    · rename_i c
      cases hz
      simp only [Bool.and_eq_true] at c
      obtain ⟨a, vs, rfl, h1, h2⟩ := r2
      obtain ⟨e1, f1⟩ := rep_flat c.1 r1
      obtain ⟨e2, f2⟩ := reps_flat c.2 h2
      exact ⟨_, rfl, fun Q q => ⟨a, vs, rfl, .inr (s.sqT h1), f1, f2, by rw [e1, e2]; exact q⟩⟩
    · cases hz
  | lst ds =>
    simp only [inD] at hz
    split at hz
    · rename_i c
      cases hz
      simp only [Bool.and_eq_true] at c
      obtain ⟨a, vs, rfl, h1, h2⟩ := r2
      obtain ⟨e1, f1⟩ := rep_flat c.1 r1
      obtain ⟨e2, f2⟩ := reps_flat c.2 h2
      exact ⟨_, rfl, fun Q q => ⟨a, vs, rfl, .inl (SqL.of (s _ _ h1)), f1, f2, by rw [e1, e2]; exact q⟩⟩
    · cases hz
  | _ => cases hz
/-! ### sums: ints, tuples, lists -/
def arI (p : Int → Int → Int) : D → D → Option D
  | .int i, .int j => some (.int (p i j))
  | _, _ => none
def arC (C : Int → Int → Bool) (p : Int → Int → Int) : D → D → Option D
  | .int i, .int j => if C i j then some (.int (p i j)) else none
  | _, _ => none
theorem o2_arI {p : Int → Int → Int} : Op2 X (rI0 fun i j => .int (p i j)) (arI p) := .val fun G H pn x y d e z s r1 r2 hz => by
  cases d <;> cases e <;> simp only [arI, Option.some.injEq, reduceCtorEq] at hz
  subst hz
  exact ⟨_, rfl, fun Q q => ⟨_, _, r1, r2, q⟩⟩
theorem o2_arC {R : Int → Int → Prop} {C : Int → Int → Bool} {p : Int → Int → Int} (h : ∀ i j, C i j = true → R i j) : Op2 X (rI R fun i j => .int (p i j)) (arC C p) := .val fun G H pn x y d e z s r1 r2 hz => by
  cases d <;> cases e <;> simp only [arC, reduceCtorEq] at hz
  split at hz
  · rename_i c
    cases hz
    exact ⟨_, rfl, fun Q q => ⟨_, _, r1, r2, h _ _ c, q⟩⟩
  · cases hz
def catT : D → D → Option D
  | .tup xs, .tup ys => if xs.length + ys.length ≤ LIM then some (.tup (xs ++ ys)) else none
  | _, _ => none
def catL : D → D → Option D
  | .lst xs, .lst ys => if xs.length + ys.length ≤ LIM then some (.lst (xs ++ ys)) else none
  | _, _ => none
theorem o2_catT : Op2 X (rCatA X.K) catT := fun G H pn n x y d e z s p r1 r2 hz Q k => by
  cases d <;> cases e <;> simp only [catT, reduceCtorEq] at hz
  split at hz
  · rename_i c
    cases hz
    obtain ⟨a, vs, rfl, h1, h2⟩ := r1
    obtain ⟨b, ws, rfl, h3, h4⟩ := r2
    have l1 := Reps.length h2
    have l2 := Reps.length h4
    refine ⟨a, b, vs, ws, rfl, rfl, s.sqT h1, s.sqT h3, lim_le (by rw [l1, l2]; exact c), fun e => ?_, fun e e' => ?_, fun e e' q hq => ?_⟩
    · subst e
      rename_i xs ys
      have : xs = [] := List.eq_nil_of_length_eq_zero (by rw [← l1]; rfl)
      subst this
      exact k _ _ (Go.refl p) (by rw [ext_refl]; exact ⟨b, ws, rfl, h3, h4⟩)
    · subst e'
      rename_i xs ys
      have : ys = [] := List.eq_nil_of_length_eq_zero (by rw [← l2]; rfl)
      subst this
      exact k _ _ (Go.refl p) (by rw [ext_refl, List.append_nil]; exact ⟨a, vs, rfl, h1, h2⟩)
    · refine k _ _ (Go.new p hq) ⟨q, vs ++ ws, rfl, SqT.of ?_, ?_⟩
      · rw [ext_new s hq, upd_same]
      · rw [ext_new s hq]
        exact Reps.mono (upd_sub s hq) _ _ (Reps.append h2 h4)
  · cases hz
theorem o2_catL : Op2 X rCat catL := fun G H pn n x y d e z s p r1 r2 hz Q k => by
  cases d <;> cases e <;> simp only [catL, reduceCtorEq] at hz
  split at hz
  · rename_i c
    cases hz
    obtain ⟨a, vs, rfl, h1, h2⟩ := r1
    obtain ⟨b, ws, rfl, h3, h4⟩ := r2
    have l1 := Reps.length h2
    have l2 := Reps.length h4
    refine ⟨a, b, vs, ws, rfl, rfl, s _ _ h1, s _ _ h3, lim_le (by rw [l1, l2]; exact c), fun q hq => ?_⟩
    refine k _ _ (Go.new p hq) ⟨q, vs ++ ws, rfl, ?_, ?_⟩
    · rw [ext_new s hq, upd_same]
    · rw [ext_new s hq]
      exact Reps.mono (upd_sub s hq) _ _ (Reps.append h2 h4)
  · cases hz
def addD : D → D → Option D := orD (arI fun i j => i + j) (orD catT catL)
theorem ed_add {a b : Expr} {pos : Pos} {Ta Tb : TD} (ha : ED X a Ta) (hb : ED X b Tb) : ED X (.BinOp a .Add b pos) (tOpD addD Ta Tb) :=
  ed_bin (op_add.or (op_catA.or op_cat)) (o2_arI.or (o2_catT.or o2_catL)) ha hb
def subD : D → D → Option D := arI fun i j => i - j
theorem ed_sub {a b : Expr} {pos : Pos} {Ta Tb : TD} (ha : ED X a Ta) (hb : ED X b Tb) : ED X (.BinOp a .Sub b pos) (tOpD subD Ta Tb) := ed_bin op_sub o2_arI ha hb
def modD : D → D → Option D := arC (fun _ j => decide (j ≠ 0)) fun i j => i.fmod j
theorem ed_mod {a b : Expr} {pos : Pos} {Ta Tb : TD} (ha : ED X a Ta) (hb : ED X b Tb) : ED X (.BinOp a .Mod b pos) (tOpD modD Ta Tb) := ed_bin op_modN (o2_arC fun _ _ h => of_decide_eq_true h) ha hb
def fdivD : D → D → Option D := arC (fun _ j => decide (0 < j ∧ j < 1073741824)) fun i j => i / j
theorem ed_fdiv {a b : Expr} {pos : Pos} {Ta Tb : TD} (ha : ED X a Ta) (hb : ED X b Tb) : ED X (.BinOp a .FloorDiv b pos) (tOpD fdivD Ta Tb) := ed_bin op_fdiv (o2_arC fun i j h => show 0 < j ∧ j < 1073741824 from of_decide_eq_true h) ha hb
def powD : D → D → Option D := arC (fun i j => decide (0 ≤ j ∧ j ≤ 1000000 ∧ i.natAbs < 2 ^ 64)) fun i j => i ^ j.toNat
theorem ed_pow {a b : Expr} {pos : Pos} {Ta Tb : TD} (ha : ED X a Ta) (hb : ED X b Tb) : ED X (.BinOp a .Pow b pos) (tOpD powD Ta Tb) := ed_bin op_pow (o2_arC fun i j h => show 0 ≤ j ∧ j ≤ 1000000 ∧ i.natAbs < 2 ^ 64 from of_decide_eq_true h) ha hb
def mulID : D → D → Option D := arC (fun i j => decide ((-(2 ^ 64) < i ∧ i < 2 ^ 64) ∨ (-(2 ^ 64) < j ∧ j < 2 ^ 64))) fun i j => i * j
theorem ed_mulI {a b : Expr} {pos : Pos} {Ta Tb : TD} (ha : ED X a Ta) (hb : ED X b Tb) : ED X (.BinOp a .Mult b pos) (tOpD mulID Ta Tb) := ed_bin op_mul (o2_arC fun i j h => show (-(2 ^ 64) < i ∧ i < 2 ^ 64) ∨ (-(2 ^ 64) < j ∧ j < 2 ^ 64) from of_decide_eq_true h) ha hb
def negD : D → Option D
  | .int i => some (.int (-i))
  | _ => none
theorem ed_neg {a : Expr} {pos : Pos} {Ta : TD} (ha : ED X a Ta) : ED X (.UnaryOp .USub a pos) (tOp1D negD Ta) := op1 (fun _ p => pe_un un_neg p) (fun G H pn n x d z s p r hz Q k => by
  cases d <;> simp only [negD, Option.some.injEq, reduceCtorEq] at hz
  subst hz
  exact ⟨_, r, k _ _ (Go.refl p) rfl⟩) ha

/-! ### comparisons as values -/
theorem ed_lt {a b : Expr} {pos : Pos} {Ta Tb : TD} (ha : ED X a Ta) (hb : ED X b Tb) : ED X (.Compare a [.Lt] [b] pos) (tOpD ltD Ta Tb) := ed_cmp op_lt (nomark _) o2_cmpI ha hb
theorem ed_le {a b : Expr} {pos : Pos} {Ta Tb : TD} (ha : ED X a Ta) (hb : ED X b Tb) : ED X (.Compare a [.LtE] [b] pos) (tOpD leD Ta Tb) := ed_cmp op_le (nomark _) o2_cmpI ha hb
theorem ed_gt {a b : Expr} {pos : Pos} {Ta Tb : TD} (ha : ED X a Ta) (hb : ED X b Tb) : ED X (.Compare a [.Gt] [b] pos) (tOpD gtD Ta Tb) := ed_cmp op_gt (nomark _) o2_cmpI ha hb
theorem ed_ge {a b : Expr} {pos : Pos} {Ta Tb : TD} (ha : ED X a Ta) (hb : ED X b Tb) : ED X (.Compare a [.GtE] [b] pos) (tOpD geD Ta Tb) := ed_cmp op_ge (nomark _) o2_cmpI ha hb
theorem ed_eq {k : Nat} (hr : Room k X.A) {a b : Expr} {pos : Pos} {Ta Tb : TD} (ha : ED X a Ta) (hb : ED X b Tb) : ED X (.Compare a [.Eq] [b] pos) (tOpD eqD Ta Tb) := ed_cmp ((op_eqD hr.units).or op_eq) (nomark _) o2_eq ha hb
theorem ed_ne {k : Nat} (hr : Room k X.A) {a b : Expr} {pos : Pos} {Ta Tb : TD} (ha : ED X a Ta) (hb : ED X b Tb) : ED X (.Compare a [.NotEq] [b] pos) (tOpD neD Ta Tb) := ed_cmp ((op_neD hr.units).or op_ne) (nomark _) o2_ne ha hb
theorem ed_is {a b : Expr} {pos : Pos} {Ta Tb : TD} (ha : ED X a Ta) (hb : ED X b Tb) : ED X (.Compare a [.Is] [b] pos) (tOpD isD Ta Tb) := ed_cmp op_isN (nomark _) o2_is ha hb
theorem ed_isnot {a b : Expr} {pos : Pos} {Ta Tb : TD} (ha : ED X a Ta) (hb : ED X b Tb) : ED X (.Compare a [.IsNot] [b] pos) (tOpD notD Ta Tb) := ed_cmp op_notN (nomark _) o2_not ha hb
theorem ed_in {a b : Expr} {pos : Pos} {Ta Tb : TD} (ha : ED X a Ta) (hb : ED X b Tb) (hm : behindInMarks .In b = false := by rfl) : ED X (.Compare a [.In] [b] pos) (tOpD (inD false) Ta Tb) := ed_cmp op_in_seq hm o2_in ha hb
theorem ed_notin {a b : Expr} {pos : Pos} {Ta Tb : TD} (ha : ED X a Ta) (hb : ED X b Tb) (hm : behindInMarks .NotIn b = false := by rfl) : ED X (.Compare a [.NotIn] [b] pos) (tOpD (inD true) Ta Tb) := ed_cmp op_notIn_seq hm o2_in ha hb

/-! ### items, slices -/
def ixD : D → D → Option D
  | .tup ds, .int i => atI ds i
  | .lst ds, .int i => atI ds i
  | _, _ => none
theorem Reps.at {K : PySem.W.Frag} {pn : Pn} {G : Hp} {ds : List D} {vs : List V} {i : Int} {d : D} (h : Reps K pn G vs ds) (e : atI ds i = some d) : ∃ v, atI vs i = some v ∧ Rep K pn G v d := by
  unfold atI at e ⊢
  rw [Reps.length h]
  cases hx : ixN ds.length i with
  | none => rw [hx] at e; cases e
  | some j =>
    rw [hx] at e
    exact Reps.get h e
theorem o2_ix : Op2 X (rIx X.K) ixD := .val fun G H pn x y d e z s r1 r2 hz => by
  cases d <;> cases e <;> simp only [ixD, reduceCtorEq] at hz
  · obtain ⟨a, vs, rfl, h1, h2⟩ := r1
    obtain ⟨v, h3, h4⟩ := Reps.at h2 hz
    exact ⟨v, h4, fun Q q => .inr (.inl ⟨a, vs, _, v, rfl, r2, s.sqT h1, h3, q⟩)⟩
  · obtain ⟨a, vs, rfl, h1, h2⟩ := r1
    obtain ⟨v, h3, h4⟩ := Reps.at h2 hz
    exact ⟨v, h4, fun Q q => .inl ⟨a, vs, _, v, rfl, r2, SqL.of (s _ _ h1), h3, q⟩⟩
theorem ed_ix {a b : Expr} {pos : Pos} {Ta Tb : TD} (ha : ED X a Ta) (hb : ED X b Tb) (hs : PlainIx b := by exact fun _ _ => rfl) : ED X (.Subscript a b pos) (tOpD ixD Ta Tb) := op2 (fun _ _ pa pb => pe_ix ix_seq pa pb hs) o2_ix ha hb

abbrev TDo := Env → Nat → (Option Int → Nat → Prop) → Prop
def OD (X : Cx) (e : Option Expr) (T : TDo) : Prop := ∃ t, PO X e t ∧ ∀ (σ : L2.St) (H G : Hp) (pn : Pn) (n : Nat) (ρ : Env) (q : Option Int → Nat → Prop), At X.K pn G H σ ρ n → T ρ n q →
  ∀ Q : Option Int → Hp → Prop, (∀ o H' n', Go pn G H H' n' → q o n' → Q o H') → t σ H Q
def oNone : TDo := fun _ n q => q none n
def oSome (T : TD) : TDo := fun ρ n q => T ρ n fun d n => ∃ i, d = .int i ∧ q (some i) n
theorem od_none : OD X none oNone := ⟨_, po_none, fun σ H G pn n ρ q A hT Q k => k none H n (Go.refl A.pst) hT⟩
theorem od_some {e : Expr} {T : TD} (h : ED X e T) : OD X (some e) (oSome T) := by
  obtain ⟨t, p, k⟩ := h
  refine ⟨_, po_some p, fun σ H G pn n ρ q A hT Q kq => ?_⟩
  refine k σ H G pn n ρ _ A hT _ fun v H1 ⟨d, n1, g1, r1, i, e, hq⟩ => ?_
  subst e
  exact ⟨i, r1, kq _ H1 n1 g1 hq⟩
def cutL {α : Type} (xs : List α) (lo hi : Option Int) : List α := (xs.drop (HT.sIx xs.length 0 lo)).take (HT.sIx xs.length xs.length hi - HT.sIx xs.length 0 lo)
def cutD : D → Option Int → Option Int → Option D
  | .tup ds, lo, hi => some (.tup (cutL ds lo hi))
  | .lst ds, lo, hi => some (.lst (cutL ds lo hi))
  | .scr ns, lo, hi => some (.lst (cutL (ns.map D.int) lo hi))
  | _, _, _ => none
theorem Reps.cut {K : PySem.W.Frag} {pn : Pn} {G : Hp} {ds : List D} {vs : List V} (h : Reps K pn G vs ds) (lo hi : Option Int) : Reps K pn G (cutV vs lo hi) (cutL ds lo hi) := by
  unfold cutV cutL
  rw [Reps.length h]
  exact Reps.take _ (Reps.drop _ h)
def tSlD (Ta : TD) (Tl Th : TDo) : TD := fun ρ n q => Ta ρ n fun x n => Tl ρ n fun l n => Th ρ n fun u n => ∃ z, cutD x l u = some z ∧ q z n
theorem ed_slice {e : Expr} {lo hi : Option Expr} {p2 pos : Pos} {Ta : TD} {Tl Th : TDo} (h : ED X e Ta) (hl : OD X lo Tl) (hh : OD X hi Th) : ED X (.Subscript e (.Slice lo hi none p2) pos) (tSlD Ta Tl Th) := by
  obtain ⟨t, p, k⟩ := h
  obtain ⟨t1, p1, k1⟩ := hl
  obtain ⟨t2, p2', k2⟩ := hh
  refine ⟨_, pe_slice (sl_list.or sl_tupA) p p1 p2', fun σ H G pn n ρ q A hT Q kq => ?_⟩
  refine k σ H G pn n ρ _ A hT _ fun v H1 ⟨d, n1, g1, r1, hq1⟩ => ?_
  have A1 := A.go g1
  refine k1 σ H1 _ pn n1 ρ _ A1 hq1 _ fun l H2 n2 g2 hq2 => ?_
  have A2 := A1.go g2
  refine k2 σ H2 _ pn n2 ρ _ A2 hq2 _ fun u H3 n3 g3 ⟨z, hz, hq3⟩ => ?_
  have A3 := A2.go g3
  have g123 := (g1.trans g2).trans g3
  have e3 : ext (ext (ext G H H1) H1 H2) H2 H3 = ext G H H3 := by rw [A1.ext_ext g2 g3, A.ext_ext g1 (g2.trans g3)]
  have r3 := Rep.mono (sub_ext (G := ext (ext G H H1) H1 H2) (H := H2) (H' := H3)) d v (Rep.mono sub_ext d v r1)
  rw [e3] at r3 A3
  cases d with
  | tup ds =>
    obtain rfl := Option.some.inj hz
    obtain ⟨a, vs, rfl, h1, h2⟩ := r3
    refine .inr ⟨a, vs, rfl, A3.sub.sqT h1, fun w => ?_, fun w p hp => ?_⟩
    · refine kq _ _ ⟨.tup (cutL ds l u), n3, g123, ⟨a, vs, rfl, h1, ?_⟩, hq3⟩
      have := Reps.cut h2 l u
      rw [show cutV vs l u = vs by unfold cutV; rw [w.1, w.2]; simp] at this
      exact this
    · refine kq _ _ ⟨.tup (cutL ds l u), n3, g123.trans (Go.new A3.pst hp), ⟨p, cutV vs l u, rfl, SqT.of ?_, ?_⟩, hq3⟩
      · rw [ext_upd A g123 hp, upd_same]
      · rw [ext_upd A g123 hp]
        exact Reps.mono (upd_sub A3.sub hp) _ _ (Reps.cut h2 l u)
  | lst ds =>
    obtain rfl := Option.some.inj hz
    obtain ⟨a, vs, rfl, h1, h2⟩ := r3
    refine .inl ⟨a, vs, rfl, SqL.of (A3.sub _ _ h1), fun p hp => ?_⟩
    refine kq _ _ ⟨.lst (cutL ds l u), n3, g123.trans (Go.new A3.pst hp), ⟨p, cutV vs l u, rfl, ?_, ?_⟩, hq3⟩
    · rw [ext_upd A g123 hp, upd_same]
    · rw [ext_upd A g123 hp]
      exact Reps.mono (upd_sub A3.sub hp) _ _ (Reps.cut h2 l u)
  | scr ns =>
    obtain rfl := Option.some.inj hz
    obtain ⟨a, rfl, h1⟩ := r3
    refine .inl ⟨a, ns.map V.int, rfl, A3.sub.sqL h1, fun p hp => ?_⟩
    refine kq _ _ ⟨.lst (cutL (ns.map D.int) l u), n3, g123.trans (Go.new A3.pst hp), ⟨p, cutV (ns.map V.int) l u, rfl, ?_, ?_⟩, hq3⟩
    · rw [ext_upd A g123 hp, upd_same]
    · exact Reps.cut (Reps.ints.mpr rfl) l u
  | _ => cases hz
end
end DL
namespace DL
open PySem PySem.Spec PyProof.Rows L2

/-- none of these names is the module's own -/
def NoB (mg : Str → Option Value) : Prop := ∀ x ∈ (["len", "isinstance", "tuple", "list", "enumerate", "all", "any", "sorted", "set", "zip", "int", "range", "min", "max", "repr", "sum", "str", "bool", "dict"] : List Str), mg x = none

section
variable {X : Cx}
/-! ### len -/
def lenD : List D → Option D
  | [.tup ds] => some (.int ds.length)
  | [.lst ds] => some (.int ds.length)
  | _ => none
theorem reps1 {K : PySem.W.Frag} {pn : Pn} {G : Hp} {d : D} {vs : List V} (h : Reps K pn G vs [d]) : ∃ v, vs = [v] ∧ Rep K pn G v d := by
  obtain ⟨v, r, rfl, h1, h2⟩ := h
  rw [show r = [] from h2]
  exact ⟨v, rfl, h1⟩
theorem reps2 {K : PySem.W.Frag} {pn : Pn} {G : Hp} {d e : D} {vs : List V} (h : Reps K pn G vs [d, e]) : ∃ v w, vs = [v, w] ∧ Rep K pn G v d ∧ Rep K pn G w e := by
  obtain ⟨v, r, rfl, h1, h2⟩ := h
  obtain ⟨w, rfl, h3⟩ := reps1 h2
  exact ⟨v, w, rfl, h1, h3⟩
theorem oc_len : OpC X (fun xs H Q => ∃ p ys, xs = [.ref p] ∧ (SqL X.K H p ys ∨ SqT X.K H p ys) ∧ Q (.int ys.length) H) lenD := .val fun G H pn xs ds z s r hz => by
  rcases ds with _ | ⟨d, _ | ⟨e, ds⟩⟩
  · cases hz
  · obtain ⟨v, rfl, h1⟩ := reps1 r
    cases d <;> simp only [lenD, Option.some.injEq, reduceCtorEq] at hz
    · subst hz
      obtain ⟨a, vs, rfl, h2, h3⟩ := h1
      exact ⟨.int vs.length, by rw [Reps.length h3]; rfl, fun Q q => ⟨a, vs, rfl, .inr (s.sqT h2), q⟩⟩
    · subst hz
      obtain ⟨a, vs, rfl, h2, h3⟩ := h1
      exact ⟨.int vs.length, by rw [Reps.length h3]; rfl, fun Q q => ⟨a, vs, rfl, .inl (SqL.of (s _ _ h2)), q⟩⟩
  · cases d <;> cases hz
theorem ed_len {e : Expr} {p pos : Pos} {T : TDs} (B : NoB X.mg) (hg : Gl X "len") (h : AD X [e] T) (he : starEach [e] X.env = (false, eval e X.env) :: starEach [] X.env := by rfl) : ED X (.Call (.Name "len" p) [e] [] pos) (tCallB lenD T) :=
  opc (fun _ pa => pe_callB call_len_seq hg (B _ (by decide)) PySem.boot_len pa (he := he)) oc_len h
/-! ### all, any, sum -/
def blsOf : List D → Option (List Bool)
  | [] => some []
  | .bl b :: ds => (blsOf ds).map (b :: ·)
  | _ :: _ => none
theorem blsOf_eq : ∀ {ds : List D} {bs : List Bool}, blsOf ds = some bs → ds = bs.map D.bl
  | [], bs, h => by cases h; rfl
  | d :: ds, bs, h => by
    cases d <;> simp only [blsOf, Option.map_eq_some_iff, reduceCtorEq] at h
    obtain ⟨r, h1, rfl⟩ := h
    rw [blsOf_eq h1]
    rfl
def intsOf : List D → Option (List Int)
  | [] => some []
  | .int b :: ds => (intsOf ds).map (b :: ·)
  | _ :: _ => none
theorem intsOf_eq : ∀ {ds : List D} {bs : List Int}, intsOf ds = some bs → ds = bs.map D.int
  | [], bs, h => by cases h; rfl
  | d :: ds, bs, h => by
    cases d <;> simp only [intsOf, Option.map_eq_some_iff, reduceCtorEq] at h
    obtain ⟨r, h1, rfl⟩ := h
    rw [intsOf_eq h1]
    rfl
theorem blsOf_map : ∀ bs : List Bool, blsOf (bs.map D.bl) = some bs
  | [] => rfl
  | b :: bs => by simp [blsOf, blsOf_map bs]
theorem intsOf_map : ∀ bs : List Int, intsOf (bs.map D.int) = some bs
  | [] => rfl
  | b :: bs => by simp [intsOf, intsOf_map bs]
def allD : List D → Option D
  | [.lst ds] => (blsOf ds).map fun bs => .bl (bs.all id)
  | _ => none
def anyD : List D → Option D
  | [.lst ds] => (blsOf ds).map fun bs => .bl (bs.any id)
  | _ => none
def sumD : List D → Option D
  | [.lst ds] => (intsOf ds).map fun bs => .int bs.sum
  | _ => none
theorem oc_all : OpC X (rAll X.K) allD := .val fun G H pn xs ds z s r hz => by
  rcases ds with _ | ⟨d, _ | ⟨e, ds⟩⟩
  · cases hz
  · obtain ⟨v, rfl, h1⟩ := reps1 r
    cases d <;> simp only [allD, Option.map_eq_some_iff, reduceCtorEq] at hz
    obtain ⟨bs, hb, rfl⟩ := hz
    obtain ⟨a, vs, rfl, h2, h3⟩ := h1
    rw [blsOf_eq hb] at h3
    rw [Reps.bls.mp h3] at h2
    exact ⟨_, rfl, fun Q q => ⟨a, bs, rfl, SqL.of (s _ _ h2), q⟩⟩
  · cases d <;> cases hz
theorem oc_any : OpC X (rAny X.K) anyD := .val fun G H pn xs ds z s r hz => by
  rcases ds with _ | ⟨d, _ | ⟨e, ds⟩⟩
  · cases hz
  · obtain ⟨v, rfl, h1⟩ := reps1 r
    cases d <;> simp only [anyD, Option.map_eq_some_iff, reduceCtorEq] at hz
    obtain ⟨bs, hb, rfl⟩ := hz
    obtain ⟨a, vs, rfl, h2, h3⟩ := h1
    rw [blsOf_eq hb] at h3
    rw [Reps.bls.mp h3] at h2
    exact ⟨_, rfl, fun Q q => ⟨a, bs, rfl, SqL.of (s _ _ h2), q⟩⟩
  · cases d <;> cases hz
theorem oc_sum : OpC X (rSum X.K) sumD := .val fun G H pn xs ds z s r hz => by
  rcases ds with _ | ⟨d, _ | ⟨e, ds⟩⟩
  · cases hz
  · obtain ⟨v, rfl, h1⟩ := reps1 r
    cases d <;> simp only [sumD, Option.map_eq_some_iff, reduceCtorEq] at hz
    obtain ⟨bs, hb, rfl⟩ := hz
    obtain ⟨a, vs, rfl, h2, h3⟩ := h1
    rw [intsOf_eq hb] at h3
    rw [Reps.ints.mp h3] at h2
    exact ⟨_, rfl, fun Q q => ⟨a, bs, rfl, SqL.of (s _ _ h2), q⟩⟩
  · cases d <;> cases hz
theorem ed_all {e : Expr} {p pos : Pos} {T : TDs} (B : NoB X.mg) (hc : X.calm = true) (hg : Gl X "all") (h : AD X [e] T) (he : starEach [e] X.env = (false, eval e X.env) :: starEach [] X.env := by rfl) : ED X (.Call (.Name "all" p) [e] [] pos) (tCallB allD T) :=
  opc (fun _ pa => pe_callB (cr_all hc) hg (B _ (by decide)) (by decide +kernel) pa (he := he)) oc_all h
theorem ed_any {e : Expr} {p pos : Pos} {T : TDs} (B : NoB X.mg) (hc : X.calm = true) (hg : Gl X "any") (h : AD X [e] T) (he : starEach [e] X.env = (false, eval e X.env) :: starEach [] X.env := by rfl) : ED X (.Call (.Name "any" p) [e] [] pos) (tCallB anyD T) :=
  opc (fun _ pa => pe_callB (cr_any hc) hg (B _ (by decide)) (by decide +kernel) pa (he := he)) oc_any h
theorem ed_sum {e : Expr} {p pos : Pos} {T : TDs} (B : NoB X.mg) (hc : X.calm = true) (hg : Gl X "sum") (h : AD X [e] T) (he : starEach [e] X.env = (false, eval e X.env) :: starEach [] X.env := by rfl) : ED X (.Call (.Name "sum" p) [e] [] pos) (tCallB sumD T) :=
  opc (fun _ pa => pe_callB (cr_sum hc) hg (B _ (by decide)) (by decide +kernel) pa (he := he)) oc_sum h
/-! ### list, tuple, int, min, max -/
def listD : List D → Option D
  | [.lst ds] => some (.lst ds)
  | [.tup ds] => some (.lst ds)
  | _ => none
theorem oc_list : OpC X (fun xs H Q => ∃ p ys, xs = [.ref p] ∧ (SqL X.K H p ys ∨ SqT X.K H p ys) ∧ ∀ l, H l = none → Q (.ref l) (upd H l (.lst ys))) listD := .lst fun G H pn xs ds z s r hz => by
  rcases ds with _ | ⟨d, _ | ⟨e, ds⟩⟩
  · cases hz
  · obtain ⟨v, rfl, h1⟩ := reps1 r
    cases d <;> simp only [listD, Option.some.injEq, reduceCtorEq] at hz
    · subst hz
      obtain ⟨a, vs, rfl, h2, h3⟩ := h1
      exact ⟨vs, _, rfl, h3, fun Q q => ⟨a, vs, rfl, .inr (s.sqT h2), q⟩⟩
    · subst hz
      obtain ⟨a, vs, rfl, h2, h3⟩ := h1
      exact ⟨vs, _, rfl, h3, fun Q q => ⟨a, vs, rfl, .inl (SqL.of (s _ _ h2)), q⟩⟩
  · cases d <;> cases hz
theorem ed_list {e : Expr} {p pos : Pos} {T : TDs} (B : NoB X.mg) (hg : Gl X "list") (h : AD X [e] T) (he : starEach [e] X.env = (false, eval e X.env) :: starEach [] X.env := by rfl) : ED X (.Call (.Name "list" p) [e] [] pos) (tCallB listD T) :=
  opc (fun _ pa => pe_callTy call_list_of hg (B _ (by decide)) (by decide +kernel) pa (he := he)) oc_list h
def tupleD : List D → Option D
  | [.lst ds] => some (.tup ds)
  | [.tup ds] => some (.tup ds)
  | _ => none
theorem oc_tuple : OpC X (fun xs H Q => ∃ p ys, xs = [.ref p] ∧ ((SqL X.K H p ys ∧ ∀ l, H l = none → Q (.ref l) (upd H l (.tup ys))) ∨ (SqT X.K H p ys ∧ Q (.ref p) H))) tupleD := fun G H pn n xs ds z s p r hz Q k => by
  rcases ds with _ | ⟨d, _ | ⟨e, ds⟩⟩
  · cases hz
  · obtain ⟨v, rfl, h1⟩ := reps1 r
    cases d <;> simp only [tupleD, Option.some.injEq, reduceCtorEq] at hz
    · subst hz
      obtain ⟨a, vs, rfl, h2, h3⟩ := h1
      exact ⟨a, vs, rfl, .inr ⟨s.sqT h2, k _ _ (Go.refl p) (by rw [ext_refl]; exact ⟨a, vs, rfl, h2, h3⟩)⟩⟩
    · subst hz
      obtain ⟨a, vs, rfl, h2, h3⟩ := h1
      refine ⟨a, vs, rfl, .inl ⟨SqL.of (s _ _ h2), fun l hl => k _ _ (Go.new p hl) ⟨l, vs, rfl, SqT.of ?_, ?_⟩⟩⟩
      · rw [ext_new s hl, upd_same]
      · rw [ext_new s hl]
        exact Reps.mono (upd_sub s hl) _ _ h3
  · cases d <;> cases hz
theorem ed_tuple {e : Expr} {p pos : Pos} {T : TDs} (B : NoB X.mg) (hg : Gl X "tuple") (h : AD X [e] T) (he : starEach [e] X.env = (false, eval e X.env) :: starEach [] X.env := by rfl) : ED X (.Call (.Name "tuple" p) [e] [] pos) (tCallB tupleD T) :=
  opc (fun _ pa => pe_callTy call_tuple_of hg (B _ (by decide)) (by decide +kernel) pa (he := he)) oc_tuple h
def intD : List D → Option D
  | [.int i] => some (.int i)
  | [.bl b] => some (.int (if b then 1 else 0))
  | _ => none
theorem oc_int : OpC X (fun xs H Q => (∃ i, xs = [.int i] ∧ Q (.int i) H) ∨ ∃ k, xs = [.bl k] ∧ Q (.int (if k then 1 else 0)) H) intD := .val fun G H pn xs ds z s r hz => by
  rcases ds with _ | ⟨d, _ | ⟨e, ds⟩⟩
  · cases hz
  · obtain ⟨v, rfl, h1⟩ := reps1 r
    cases d <;> simp only [intD, Option.some.injEq, reduceCtorEq] at hz
    · subst hz
      exact ⟨_, rfl, fun Q q => .inr ⟨_, by rw [show v = _ from h1], q⟩⟩
    · subst hz
      exact ⟨_, rfl, fun Q q => .inl ⟨_, by rw [show v = _ from h1], q⟩⟩
  · cases d <;> cases hz
theorem ed_intC {e : Expr} {p pos : Pos} {T : TDs} (B : NoB X.mg) (hg : Gl X "int") (h : AD X [e] T) (he : starEach [e] X.env = (false, eval e X.env) :: starEach [] X.env := by rfl) : ED X (.Call (.Name "int" p) [e] [] pos) (tCallB intD T) :=
  opc (fun _ pa => pe_callTy call_int1 hg (B _ (by decide)) (by decide +kernel) pa (he := he)) oc_int h
def min2D : List D → Option D
  | [.int i, .int j] => some (.int (if j < i then j else i))
  | _ => none
def max2D : List D → Option D
  | [.int i, .int j] => some (.int (if j > i then j else i))
  | _ => none
theorem oc_min : OpC X (fun xs H Q => ∃ i j, xs = [.int i, .int j] ∧ Q (.int (if j < i then j else i)) H) min2D := .val fun G H pn xs ds z s r hz => by
  rcases ds with _ | ⟨d, _ | ⟨e, _ | ⟨f, ds⟩⟩⟩
  · cases hz
  · cases d <;> cases hz
  · obtain ⟨v, w, rfl, h1, h2⟩ := reps2 r
    cases d <;> cases e <;> simp only [min2D, Option.some.injEq, reduceCtorEq] at hz
    subst hz
    exact ⟨_, rfl, fun Q q => ⟨_, _, by rw [show v = _ from h1, show w = _ from h2], q⟩⟩
  · cases d <;> cases e <;> cases hz
theorem oc_max : OpC X (fun xs H Q => ∃ i j, xs = [.int i, .int j] ∧ Q (.int (if j > i then j else i)) H) max2D := .val fun G H pn xs ds z s r hz => by
  rcases ds with _ | ⟨d, _ | ⟨e, _ | ⟨f, ds⟩⟩⟩
  · cases hz
  · cases d <;> cases hz
  · obtain ⟨v, w, rfl, h1, h2⟩ := reps2 r
    cases d <;> cases e <;> simp only [max2D, Option.some.injEq, reduceCtorEq] at hz
    subst hz
    exact ⟨_, rfl, fun Q q => ⟨_, _, by rw [show v = _ from h1, show w = _ from h2], q⟩⟩
  · cases d <;> cases e <;> cases hz
theorem ed_min2 {a b : Expr} {p pos : Pos} {T : TDs} (B : NoB X.mg) (hc : X.calm = true) (hg : Gl X "min") (h : AD X [a, b] T) (he : starEach [a, b] X.env = (false, eval a X.env) :: starEach [b] X.env := by rfl) (hpl : (backTo pos (starEach [b] X.env)).any (·.1) = false := by rfl) : ED X (.Call (.Name "min" p) [a, b] [] pos) (tCallB min2D T) :=
  opc (fun _ pa => pe_callB (call_min2 hc) hg (B _ (by decide)) (by decide +kernel) pa (he := he) (hpl := hpl)) oc_min h
theorem ed_max2 {a b : Expr} {p pos : Pos} {T : TDs} (B : NoB X.mg) (hc : X.calm = true) (hg : Gl X "max") (h : AD X [a, b] T) (he : starEach [a, b] X.env = (false, eval a X.env) :: starEach [b] X.env := by rfl) (hpl : (backTo pos (starEach [b] X.env)).any (·.1) = false := by rfl) : ED X (.Call (.Name "max" p) [a, b] [] pos) (tCallB max2D T) :=
  opc (fun _ pa => pe_callB (call_max2 hc) hg (B _ (by decide)) (by decide +kernel) pa (he := he) (hpl := hpl)) oc_max h
/-! ### sorted of a list of ints -/
def sortI (ns : List Int) : List Int := ns.mergeSort (fun a b => decide (a ≤ b))
def sortedD : List D → Option D
  | [.lst ds] => (intsOf ds).map fun ns => .lst ((sortI ns).map D.int)
  | _ => none
theorem sortI_perm (ns : List Int) : (sortI ns).Perm ns := List.mergeSort_perm _ _
theorem sortI_sorted (ns : List Int) : (sortI ns).Pairwise (· ≤ ·) := by
  have := List.pairwise_mergeSort (le := fun a b : Int => decide (a ≤ b)) (fun a b c h1 h2 => by simp only [decide_eq_true_eq] at *; omega) (fun a b => by simp only [Bool.or_eq_true, decide_eq_true_eq]; omega) ns
  exact this.imp fun h => of_decide_eq_true h
theorem sorted_uniq : ∀ {a b : List Int}, a.Perm b → a.Pairwise (· ≤ ·) → b.Pairwise (· ≤ ·) → a = b := fun {a b} h1 h2 h3 =>
  h1.eq_of_pairwise (fun x y _ _ h k => by omega) h2 h3
theorem oc_sorted : OpC X (rSortedI X.K) sortedD := .lst fun G H pn xs ds z s r hz => by
  rcases ds with _ | ⟨d, _ | ⟨e, ds⟩⟩
  · cases hz
  · obtain ⟨v, rfl, h1⟩ := reps1 r
    cases d <;> simp only [sortedD, Option.map_eq_some_iff, reduceCtorEq] at hz
    obtain ⟨ns, hb, rfl⟩ := hz
    obtain ⟨a, vs, rfl, h2, h3⟩ := h1
    rw [intsOf_eq hb] at h3
    rw [Reps.ints.mp h3] at h2
    refine ⟨(sortI ns).map .int, _, rfl, Reps.ints.mpr rfl, fun Q q => ⟨a, ns, rfl, SqL.of (s _ _ h2), fun ns' p hp hs hn => ?_⟩⟩
    rw [sorted_uniq (hp.trans (sortI_perm ns).symm) hs (sortI_sorted ns)]
    exact q p hn
  · cases d <;> cases hz
theorem ed_sorted {e : Expr} {p pos : Pos} {T : TDs} (B : NoB X.mg) (hg : Gl X "sorted") (h : AD X [e] T) (he : starEach [e] X.env = (false, eval e X.env) :: starEach [] X.env := by rfl) : ED X (.Call (.Name "sorted" p) [e] [] pos) (tCallB sortedD T) :=
  opc (fun _ pa => pe_callB cr_sortedI hg (B _ (by decide)) (by decide +kernel) pa (he := he)) oc_sorted h
/-! ### isinstance(e, T) -/
def tyN : D → String
  | .non => "NoneType"
  | .bl _ => "bool"
  | .int _ => "int"
  | .str _ => "str"
  | .tup _ => "tuple"
  | .lst _ => "list"
  | .dct _ => "dict"
  | .pen => "list"
  | .scr _ => "list"
def isTy (T : String) (d : D) : Bool := tyN d == T || (T == "int" && tyN d == "bool")
def kindsOk (T : String) : Bool := ["NoneType", "bool", "int", "str", "tuple", "list", "dict"].all fun n => kitB n T == some (n == T || (T == "int" && n == "bool"))
theorem rep_ty {K : PySem.W.Frag} {pn : Pn} {G H : Hp} (s : Sub G H) (n : Nat) (p : Pst pn G H n) : ∀ {d : D} {v : V}, Rep K pn G v d → TyX K H v (.type (tyN d)) ∧ tyN d ∈ ["NoneType", "bool", "int", "str", "tuple", "list", "dict"]
  | .non, v, h => by rw [show v = .non from h]; exact ⟨.base .non, by decide⟩
  | .bl b, v, h => by rw [show v = .bl b from h]; exact ⟨.base (.bl b), by simp [tyN]⟩
  | .int b, v, h => by rw [show v = .int b from h]; exact ⟨.base (.int b), by simp [tyN]⟩
  | .str b, v, h => by rw [show v = .str b from h]; exact ⟨.base (.str b), by simp [tyN]⟩
  | .tup ds, v, h => by
    obtain ⟨a, vs, rfl, h1, _⟩ := h
    refine ⟨?_, by simp [tyN]⟩
    rcases s.sqT h1 with (q | ⟨o, q⟩) | ⟨o, its, m, q, c, _⟩
    · exact .base (.tup q)
    · exact .fTuple q
    · exact .kTuple q c
  | .lst ds, v, h => by
    obtain ⟨a, vs, rfl, h1, _⟩ := h
    exact ⟨.base (.lst (s _ _ h1)), by simp [tyN]⟩
  | .dct kvs, v, h => by
    obtain ⟨a, vs, rfl, h1, _⟩ := h
    refine ⟨?_, by simp [tyN]⟩
    rcases s.rd h1 with q | ⟨o, q⟩
    · exact .base (.dK q)
    · exact .fDict q
  | .pen, v, h => by
    obtain ⟨a, c, e, rfl⟩ := h
    obtain ⟨x, y, h1, _⟩ := (p a c e).1.lst
    exact ⟨.base (.lst h1), by simp [tyN]⟩
  | .scr ns, v, h => by
    obtain ⟨a, rfl, h1⟩ := h
    refine ⟨?_, by simp [tyN]⟩
    rcases s.sqL h1 with (q | ⟨o, q⟩) | ⟨o, its, m, q, c, _⟩
    · exact .base (.lst q)
    · exact .base (.frz q)
    · exact .kList q c
def tIsi (T : String) (Ta : TD) : TD := fun ρ n q => Ta ρ n fun d n => q (.bl (isTy T d)) n
theorem ed_isi {T : String} {x : Str} {e : Expr} {p p2 pos : Pos} {Ta : TD} (B : NoB X.mg) (hk : kindsOk T = true) (hg : Gl X "isinstance") (hg2 : Gl X x) (hm2 : x ∈ (["len", "isinstance", "tuple", "list", "enumerate", "all", "any", "sorted", "set", "zip", "int", "range", "min", "max", "repr", "sum", "str", "bool", "dict"] : List Str)) (hv2 : bootBuiltins x = some (.type T)) (h : ED X e Ta) (hn : x ≠ "__name__" := by decide) (hd : (x == ("__debug__" : Str)) = false := by decide)
    (he : starEach [e, .Name x p2] X.env = (false, eval e X.env) :: starEach [.Name x p2] X.env := by rfl) (he2 : starEach [.Name x p2] X.env = (false, eval (.Name x p2) X.env) :: starEach [] X.env := by rfl) (hpl : (backTo pos (starEach [.Name x p2] X.env)).any (·.1) = false := by rfl) :
    ED X (.Call (.Name "isinstance" p) [e, .Name x p2] [] pos) (tIsi T Ta) := by
  obtain ⟨t, pe, k⟩ := h
  refine ⟨_, pe_callB call_isi hg (B _ (by decide)) (by decide +kernel) (pa_cons pe (pa_cons (pe_bltn (v := .ty T) hg2 (B _ hm2) hv2 rfl hn hd) pa_nil he2) he) (he := he) (hpl := hpl), fun σ H G pn n ρ q A hT Q kq => ?_⟩
  refine k σ H G pn n ρ _ A hT _ fun v H1 ⟨d, n1, g1, r1, hq⟩ => ?_
  have A1 := A.go g1
  obtain ⟨t1, m1⟩ := rep_ty A1.sub n1 A1.pst r1
  have hk2 : kitB (tyN d) T = some (isTy T d) := by
    unfold kindsOk at hk
    rw [List.all_eq_true] at hk
    exact eq_of_beq (hk _ m1)
  exact ⟨v, .ty T, _, _, _, rfl, .ty T, t1, kit_ty hk2, kq _ H1 ⟨.bl (isTy T d), n1, g1, rfl, hq⟩⟩
end
end DL
namespace DL
open PySem PySem.Spec PyProof.Rows L2

/-! ### calls of the program's own defs -/
abbrev FT := List D → Nat → QD → Prop
/-- a def's promise over data -/
def lift (K : PySem.W.Frag) (np : Nat) (T : FT) : Sp := fun vs H Q _ => vs.length = np ∧ ∃ (pn : Pn) (G : Hp) (n : Nat) (ds : List D) (q : QD), Sub G H ∧ Pst pn G H n ∧ Reps K pn G vs ds ∧ T ds n q ∧ ∀ v H', Post K pn G H q v H' → Q v H'
def tCallD (T : FT) (Ta : TDs) : TD := fun ρ n q => Ta ρ n fun ds n => T ds n q
section
variable {X : Cx}
theorem ed_call {x : Str} {f : Addr} {fd : FuncData} {ps : List Str} {k : Nat} {T : FT} {p pos : Pos} {e : Expr} {es : List Expr} {Ta : TDs} (F : FnOk X.prog X.w X.K X.mg X.base CX0 k f fd ps (lift X.K (es.length + 1) T)) (hr : Room k X.A) (hg : Gl X x) (hm : X.mg x = some (.ref f)) (hk : PySem.W.keepIn X.K (.ref f) = true) (hb : Binds X.K fd ps [])
    (ha : AD X (e :: es) Ta) (hl : ∀ ds n q, T ds n q → ds.length = es.length + 1) (hdb : (x == ("__debug__" : Str)) = false := by decide) (he : starEach (e :: es) X.env = (false, eval e X.env) :: starEach es X.env := by rfl) (hpl : (backTo pos (starEach es X.env)).any (·.1) = false := by rfl) :
    ED X (.Call (.Name x p) (e :: es) [] pos) (tCallD T Ta) := by
  obtain ⟨t, pa, k⟩ := ha
  refine ⟨_, pe_call F hr hg hm hk hb .nil pass0 pa hdb he hpl, fun σ H G pn n ρ q A hT Q kq => ?_⟩
  refine k σ H G pn n ρ _ A hT _ fun vs H1 ⟨ds, n1, g1, r1, hq⟩ => ?_
  have A1 := A.go g1
  refine ⟨by rw [List.append_nil, Reps.length r1, hl _ _ _ hq], pn, _, n1, ds, q, A1.sub, A1.pst, by rw [List.append_nil]; exact r1, hq, fun v H2 hp => kq v H2 (post_trans A g1 hp)⟩

/-! ### what is walked -/
structure Walks (K : PySem.W.Frag) (pn : Pn) (J : It) (G : Hp) (ds : List D) : Prop where
  go : ∀ i H, Sub G H → i < ds.length → J.go i H
  yld : ∀ i H x H', Sub G H → J.yld i H x H' → Sub H H' ∧ ∀ d, ds[i]? = some d → ∀ G1, Sub G G1 → Sub G1 H → Rep K pn (ext G1 H H') x d
  stop : ∀ i H, Sub G H → ds.length ≤ i → J.stop i H
def WD (X : Cx) (tg iter : Expr) (T : TDs) : Prop := ∃ wi, PI X tg iter wi ∧ ∀ (σ : L2.St) (H G : Hp) (pn : Pn) (n : Nat) (ρ : Env) (q : List D → Nat → Prop), At X.K pn G H σ ρ n → T ρ n q →
  ∀ R : It → Hp → Prop, (∀ J ds n' H', Go pn G H H' n' → q ds n' → Walks X.K pn J (ext G H H') ds → R J H') → wi σ H R
def wSeq (Ta : TD) : TDs := fun ρ n q => Ta ρ n fun d n => ∃ ds, (d = .lst ds) ∧ q ds n
def wTup (Ta : TD) : TDs := fun ρ n q => Ta ρ n fun d n => ∃ ds, (d = .tup ds) ∧ q ds n
theorem walks_lst {K : PySem.W.Frag} {pn : Pn} {G : Hp} {a : Addr} {vs : List V} {ds : List D} (h : G a = some (.lst vs)) (r : Reps K pn G vs ds) : Walks K pn (Itl K a) G ds := by
  refine ⟨fun i H s hi => ?_, fun i H x H' s y => ?_, fun i H s hi => ?_⟩
  · have : i < vs.length := by rw [Reps.length r]; exact hi
    exact ⟨vs, vs[i], SqL.of (s _ _ h), List.getElem?_eq_getElem this⟩
  · obtain ⟨rfl, y⟩ := y
    refine ⟨Sub.refl _, fun d hd G1 s1 s2 => ?_⟩
    obtain ⟨v, h1, h2⟩ := Reps.get r hd
    have h3 := y vs (SqL.of (s _ _ h))
    rw [h1] at h3
    cases h3
    rw [ext_refl]
    exact Rep.mono s1 _ _ h2
  · exact ⟨vs, SqL.of (s _ _ h), by rw [Reps.length r]; exact hi⟩
theorem walks_tup {K : PySem.W.Frag} {pn : Pn} {G : Hp} {a : Addr} {vs : List V} {ds : List D} (h : SqT K G a vs) (r : Reps K pn G vs ds) : Walks K pn (Itt K a) G ds := by
  refine ⟨fun i H s hi => ?_, fun i H x H' s y => ?_, fun i H s hi => ?_⟩
  · have : i < vs.length := by rw [Reps.length r]; exact hi
    exact ⟨vs, vs[i], s.sqT h, List.getElem?_eq_getElem this⟩
  · obtain ⟨rfl, y⟩ := y
    refine ⟨Sub.refl _, fun d hd G1 s1 s2 => ?_⟩
    obtain ⟨v, h1, h2⟩ := Reps.get r hd
    have h3 := y vs (s.sqT h)
    rw [h1] at h3
    cases h3
    rw [ext_refl]
    exact Rep.mono s1 _ _ h2
  · exact ⟨vs, s.sqT h, by rw [Reps.length r]; exact hi⟩
theorem wd_lst {tg e : Expr} {T : TD} (h : ED X e T) : WD X tg e (wSeq T) := by
  obtain ⟨t, p, k⟩ := h
  refine ⟨_, pi_list p, fun σ H G pn n ρ q A hT R kr => ?_⟩
  refine k σ H G pn n ρ _ A hT _ fun v H1 ⟨d, n1, g1, r1, ds, e, hq⟩ => ?_
  subst e
  obtain ⟨a, vs, rfl, h1, h2⟩ := r1
  have A1 := A.go g1
  exact ⟨a, rfl, ⟨vs, SqL.of (A1.sub _ _ h1)⟩, kr _ ds n1 H1 g1 hq (walks_lst h1 h2)⟩
theorem wd_tup {tg e : Expr} {T : TD} (h : ED X e T) : WD X tg e (wTup T) := by
  obtain ⟨t, p, k⟩ := h
  refine ⟨_, pi_tup p, fun σ H G pn n ρ q A hT R kr => ?_⟩
  refine k σ H G pn n ρ _ A hT _ fun v H1 ⟨d, n1, g1, r1, ds, e, hq⟩ => ?_
  subst e
  obtain ⟨a, vs, rfl, h1, h2⟩ := r1
  have A1 := A.go g1
  exact ⟨a, rfl, ⟨vs, A1.sub.sqT h1⟩, kr _ ds n1 H1 g1 hq (walks_tup h1 h2)⟩
def rangeD (lo : Int) (n : Nat) : List D := (List.range n).map fun (i : Nat) => .int (lo + (i : Int))
theorem walks_rng {K : PySem.W.Frag} {pn : Pn} {G : Hp} {lo : Int} {n : Nat} : Walks K pn (Itr lo n) G (rangeD lo n) := by
  have hl : (rangeD lo n).length = n := by simp [rangeD]
  refine ⟨fun i H s hi => by rw [hl] at hi; exact hi, fun i H x H' s y => ?_, fun i H s hi => by rw [hl] at hi; exact hi⟩
  obtain ⟨rfl, rfl⟩ := y
  refine ⟨Sub.refl _, fun d hd G1 s1 s2 => ?_⟩
  unfold rangeD at hd
  rw [List.getElem?_map] at hd
  by_cases hi : i < n
  · rw [List.getElem?_range hi] at hd
    cases hd
    rfl
  · rw [List.getElem?_eq_none (by simpa using hi)] at hd
    cases hd
def wRng1 (Ta : TDs) : TDs := fun ρ n q => Ta ρ n fun ds n => ∃ j : Int, ds = [.int j] ∧ -(2 ^ 62) ≤ j ∧ j < 2 ^ 62 ∧ q (rangeD 0 j.toNat) n
def wRng2 (Ta : TDs) : TDs := fun ρ n q => Ta ρ n fun ds n => ∃ i j : Int, ds = [.int i, .int j] ∧ (-(2 ^ 62) ≤ i ∧ i < 2 ^ 62 ∧ -(2 ^ 62) ≤ j ∧ j < 2 ^ 62) ∧ q (rangeD i (j - i).toNat) n
theorem wd_rng1 {tg a : Expr} {Ta : TDs} {p pos : Pos} (B : NoB X.mg) (hg : Gl X "range") (ha : AD X [a] Ta) (hs : starEach [a] X.env = [(false, eval a X.env)] := by rfl) : WD X tg (.Call (.Name "range" p) [a] [] pos) (wRng1 Ta) := by
  obtain ⟨t, pa, k⟩ := ha
  refine ⟨_, pi_range1 hg (B _ (by decide)) pa hs, fun σ H G pn n ρ q A hT R kr => ?_⟩
  refine k σ H G pn n ρ _ A hT _ fun vs H1 ⟨ds, n1, g1, r1, j, e, b1, b2, hq⟩ => ?_
  subst e
  obtain ⟨v, rfl, h1⟩ := reps1 r1
  exact ⟨j, by rw [show v = .int j from h1], b1, b2, kr _ _ n1 H1 g1 hq walks_rng⟩
theorem wd_rng2 {tg a b : Expr} {Ta : TDs} {p pos : Pos} (B : NoB X.mg) (hg : Gl X "range") (ha : AD X [a, b] Ta) (hs : starEach [a, b] X.env = [(false, eval a X.env), (false, eval b X.env)] := by rfl) (hs2 : starEach [b] X.env = [(false, eval b X.env)] := by rfl) : WD X tg (.Call (.Name "range" p) [a, b] [] pos) (wRng2 Ta) := by
  obtain ⟨t, pa, k⟩ := ha
  refine ⟨_, pi_range2 hg (B _ (by decide)) pa hs hs2, fun σ H G pn n ρ q A hT R kr => ?_⟩
  refine k σ H G pn n ρ _ A hT _ fun vs H1 ⟨ds, n1, g1, r1, i, j, e, b1, hq⟩ => ?_
  subst e
  obtain ⟨v, w, rfl, h1, h2⟩ := reps2 r1
  exact ⟨i, j, by rw [show v = .int i from h1, show w = .int j from h2], b1, kr _ _ n1 H1 g1 hq walks_rng⟩
/-- pairs of a number and an item, of two items -/
def enumD : Nat → List D → List D
  | _, [] => []
  | i, d :: ds => .tup [.int (i : Nat), d] :: enumD (i + 1) ds
theorem enumD_get : ∀ (ds : List D) (k i : Nat), (enumD k ds)[i]? = (ds[i]?).map fun d => .tup [.int ((k + i : Nat)), d]
  | [], k, i => by simp [enumD]
  | d :: ds, k, 0 => by simp [enumD]
  | d :: ds, k, i + 1 => by
    simp only [enumD, List.getElem?_cons_succ]
    rw [enumD_get ds (k + 1) i, show k + 1 + i = k + (i + 1) by omega]
theorem enumD_len : ∀ (ds : List D) (k : Nat), (enumD k ds).length = ds.length
  | [], k => rfl
  | d :: ds, k => by simp [enumD, enumD_len ds (k + 1)]
def wEnumL (Ta : TDs) : TDs := fun ρ n q => Ta ρ n fun as n => ∃ ds, as = [.lst ds] ∧ q (enumD 0 ds) n
theorem wd_enumL {e : Expr} {Ta : TDs} {p pos tpos : Pos} {elts : List Expr} {kk : Nat} (B : NoB X.mg) (hg : Gl X "enumerate") (ha : AD X [e] Ta) (hs : starEach [e] X.env = [(false, eval e X.env)] := by rfl) : WD X (.Tuple elts kk tpos) (.Call (.Name "enumerate" p) [e] [] pos) (wEnumL Ta) := by
  obtain ⟨t, pa, k⟩ := ha
  refine ⟨_, pi_enum hg (B _ (by decide)) pa hs, fun σ H G pn n ρ q A hT R kr => ?_⟩
  refine k σ H G pn n ρ _ A hT _ fun vs H1 ⟨as, n1, g1, r1, ds, e, hq⟩ => ?_
  subst e
  obtain ⟨v, rfl, h1⟩ := reps1 r1
  obtain ⟨a, ws, rfl, h2, h3⟩ := h1
  have A1 := A.go g1
  refine ⟨a, ws, rfl, SqL.of (A1.sub _ _ h2), kr _ _ n1 H1 g1 hq ⟨fun i H s hi => ?_, fun i H x H' s y => ?_, fun i H s hi => ?_⟩⟩
  · rw [enumD_len] at hi
    have : i < ws.length := by rw [Reps.length h3]; exact hi
    exact ⟨ws, ws[i], SqL.of (s _ _ h2), List.getElem?_eq_getElem this⟩
  · obtain ⟨T, y, rfl, hT, rfl, hy⟩ := y
    have hs : Sub H (upd H T (.tup [.int (i : Nat), y])) := fun a u e => by
      rw [upd_ne (ne_of_none e hT)]
      exact e
    refine ⟨hs, fun d hd G1 s1 s2 => ?_⟩
    rw [enumD_get] at hd
    cases hd' : ds[i]? with
    | none => rw [hd'] at hd; cases hd
    | some d' =>
      rw [hd'] at hd
      cases hd
      obtain ⟨v, h4, h5⟩ := Reps.get h3 hd'
      have h6 := hy ws (SqL.of (s _ _ h2))
      rw [h4] at h6
      cases h6
      rw [ext_new s2 hT]
      exact ⟨T, _, rfl, SqT.of upd_same, .int (i : Nat), _, rfl, by rw [show 0 + i = i by omega]; rfl, _, [], rfl, Rep.mono (upd_sub s2 hT) _ _ (Rep.mono s1 _ _ h5), rfl⟩
  · rw [enumD_len] at hi
    exact ⟨ws, SqL.of (s _ _ h2), by rw [Reps.length h3]; exact hi⟩

/-! ### targets -/
/-- the slots but those at O stand for their data -/
def EnvOk (K : PySem.W.Frag) (pn : Pn) (G : Hp) (O : List Nat) (σ : L2.St) (ρ : Env) : Prop := ∀ (i : Nat) (d : D), i ∉ O → ρ[i]? = some (some d) → ∃ v, σ[i]? = some (some v) ∧ Rep K pn G v d
structure TgRun (K : PySem.W.Frag) (g : TG) (f : D → Env → Option Env) (ts : List Nat) : Prop where
  run : ∀ (σ : L2.St) (H G : Hp) (pn : Pn) (O : List Nat) (v : V) (d : D) (ρ ρ' : Env), Sub G H → Rep K pn G v d → f d ρ = some ρ' → EnvOk K pn G O σ ρ → σ.length = ρ.length →
    ∀ Q : L2.St → Hp → Prop, (∀ σ', EnvOk K pn G (O.filter (· ∉ ts)) σ' ρ' → σ'.length = σ.length → ρ'.length = ρ.length → (∀ i, i ∉ ts → σ'[i]? = σ[i]? ∧ ρ'[i]? = ρ[i]?) → Q σ' H) → g v σ H Q
def fName (i : Nat) : D → Env → Option Env := fun d ρ => some (ρ.set i (some d))
theorem EnvOk.set {K : PySem.W.Frag} {pn : Pn} {G : Hp} {O : List Nat} {σ : L2.St} {ρ : Env} {v : V} {d : D} (i : Nat) (env : EnvOk K pn G O σ ρ) (r : Rep K pn G v d) (len : σ.length = ρ.length) : EnvOk K pn G (O.filter (· ∉ [i])) (σ.set i (some v)) (ρ.set i (some d)) := fun j d' hO hd => by
  by_cases hij : i = j
  · subst hij
    have hi : i < ρ.length := by
      have := (List.getElem?_eq_some_iff.mp hd).1
      simpa using this
    rw [List.getElem?_set_self hi] at hd
    cases hd
    exact ⟨v, List.getElem?_set_self (by omega), r⟩
  · rw [List.getElem?_set_ne hij] at hd
    have hO' : j ∉ O := fun z => hO (List.mem_filter.mpr ⟨z, by simpa using fun e => hij e.symm⟩)
    obtain ⟨w, h1, h2⟩ := env j d' hO' hd
    exact ⟨w, by rw [List.getElem?_set_ne hij]; exact h1, h2⟩
theorem tr_name {K : PySem.W.Frag} (i : Nat) : TgRun K (gName i) (fName i) [i] := by
  refine ⟨fun σ H G pn O v d ρ ρ' s r e env len Q k => ?_⟩
  cases e
  refine k (σ.set i (some v)) (env.set i r len) (by simp) (by simp) fun j hj => ?_
  have : i ≠ j := fun e => hj (by simp [e])
  exact ⟨List.getElem?_set_ne this, List.getElem?_set_ne this⟩
structure TgsRun (K : PySem.W.Frag) (g : TGs) (f : List D → Env → Option Env) (ts : List Nat) : Prop where
  run : ∀ (σ : L2.St) (H G : Hp) (pn : Pn) (O : List Nat) (vs : List V) (ds : List D) (ρ ρ' : Env), Sub G H → Reps K pn G vs ds → f ds ρ = some ρ' → EnvOk K pn G O σ ρ → σ.length = ρ.length →
    ∀ Q : L2.St → Hp → Prop, (∀ σ', EnvOk K pn G (O.filter (· ∉ ts)) σ' ρ' → σ'.length = σ.length → ρ'.length = ρ.length → (∀ i, i ∉ ts → σ'[i]? = σ[i]? ∧ ρ'[i]? = ρ[i]?) → Q σ' H) → g vs σ H Q
def fsNil : List D → Env → Option Env
  | [], ρ => some ρ
  | _ :: _, _ => none
def fsCons (f : D → Env → Option Env) (fs : List D → Env → Option Env) : List D → Env → Option Env
  | d :: ds, ρ => (f d ρ).bind (fs ds)
  | [], _ => none
theorem trs_nil {K : PySem.W.Frag} : TgsRun K gNil fsNil [] := by
  refine ⟨fun σ H G pn O vs ds ρ ρ' s r e env len Q k => ?_⟩
  cases ds with
  | nil =>
    cases e
    exact ⟨r, k σ (fun i d hi => env i d fun z => hi (List.mem_filter.mpr ⟨z, by simp⟩)) rfl rfl fun i _ => ⟨rfl, rfl⟩⟩
  | cons d ds => cases e
theorem trs_cons {K : PySem.W.Frag} {g : TG} {gs : TGs} {f : D → Env → Option Env} {fs : List D → Env → Option Env} {ts us : List Nat} (h1 : TgRun K g f ts) (h2 : TgsRun K gs fs us) : TgsRun K (gCons g gs) (fsCons f fs) (ts ++ us) := by
  refine ⟨fun σ H G pn O vs ds ρ ρ' s r e env len Q k => ?_⟩
  cases ds with
  | nil => cases e
  | cons d ds =>
    obtain ⟨v, w, rfl, r1, r2⟩ := r
    unfold fsCons at e
    obtain ⟨ρ1, e1, e2⟩ := Option.bind_eq_some_iff.mp e
    refine ⟨v, w, rfl, h1.run σ H G pn O v d ρ ρ1 s r1 e1 env len _ fun σ1 env1 l1 l2 same1 => ?_⟩
    refine h2.run σ1 H G pn _ w ds ρ1 ρ' s r2 e2 env1 (by omega) Q fun σ2 env2 l3 l4 same2 => ?_
    refine k σ2 (fun i d hi => env2 i d fun z => hi ?_) (by omega) (by omega) fun i hi => ?_
    · simp only [List.mem_filter, decide_eq_true_eq, List.mem_append, not_or] at z ⊢
      exact ⟨z.1.1, z.1.2, z.2⟩
    · simp only [List.mem_append, not_or] at hi
      exact ⟨(same2 i hi.2).1.trans (same1 i hi.1).1, (same2 i hi.2).2.trans (same1 i hi.1).2⟩
def fTup (k : Nat) (fs : List D → Env → Option Env) : D → Env → Option Env
  | .tup ds, ρ => if ds.length = k then fs ds ρ else none
  | _, _ => none
theorem tr_tup {K : PySem.W.Frag} {gs : TGs} {fs : List D → Env → Option Env} {ts : List Nat} (m : Nat) (h : TgsRun K gs fs ts) : TgRun K (gTup K m gs) (fTup m fs) ts := by
  refine ⟨fun σ H G pn O v d ρ ρ' s r e env len Q k => ?_⟩
  cases d <;> simp only [fTup, reduceCtorEq] at e
  split at e
  · rename_i hm
    obtain ⟨a, vs, rfl, h1, h2⟩ := r
    exact ⟨a, vs, rfl, s.sqT h1, by rw [Reps.length h2]; exact hm, h.run σ H G pn O vs _ ρ ρ' s h2 e env len Q k⟩
  · cases e
end
end DL
namespace DL
open PySem PySem.Spec PyProof.Rows L2

/-! ### comprehensions -/
def wipeE (ρ : Env) : List Nat → Env
  | [] => ρ
  | v :: vs => (wipeE ρ vs).set v none
theorem wipe_len (σ : L2.St) : ∀ vs, (wipe σ vs).length = σ.length := wipe_length σ
theorem wipeE_len (ρ : Env) : ∀ vs, (wipeE ρ vs).length = ρ.length
  | [] => rfl
  | v :: vs => by unfold wipeE; rw [List.length_set, wipeE_len ρ vs]
theorem wipe_get (σ : L2.St) : ∀ (vs : List Nat) (i : Nat), (wipe σ vs)[i]? = if i ∈ vs ∧ i < σ.length then some none else σ[i]?
  | [], i => by simp [wipe]
  | v :: vs, i => by
    unfold wipe
    by_cases h : v = i
    · subst h
      by_cases hl : v < σ.length
      · rw [List.getElem?_set_self (by rw [wipe_len]; exact hl), if_pos ⟨List.mem_cons_self, hl⟩]
      · rw [List.getElem?_eq_none (by rw [List.length_set, wipe_len]; omega), if_neg (fun z => hl z.2), List.getElem?_eq_none (by omega)]
    · rw [List.getElem?_set_ne h, wipe_get σ vs i]
      have : (i ∈ v :: vs ∧ i < σ.length) ↔ (i ∈ vs ∧ i < σ.length) := by
        rw [List.mem_cons]
        constructor
        · rintro ⟨a | a, b⟩
          · exact absurd a.symm h
          · exact ⟨a, b⟩
        · rintro ⟨a, b⟩
          exact ⟨.inr a, b⟩
      simp only [this]
theorem wipeE_get (σ : Env) : ∀ (vs : List Nat) (i : Nat), (wipeE σ vs)[i]? = if i ∈ vs ∧ i < σ.length then some none else σ[i]?
  | [], i => by simp [wipeE]
  | v :: vs, i => by
    unfold wipeE
    by_cases h : v = i
    · subst h
      by_cases hl : v < σ.length
      · rw [List.getElem?_set_self (by rw [wipeE_len]; exact hl), if_pos ⟨List.mem_cons_self, hl⟩]
      · rw [List.getElem?_eq_none (by rw [List.length_set, wipeE_len]; omega), if_neg (fun z => hl z.2), List.getElem?_eq_none (by omega)]
    · rw [List.getElem?_set_ne h, wipeE_get σ vs i]
      have : (i ∈ v :: vs ∧ i < σ.length) ↔ (i ∈ vs ∧ i < σ.length) := by
        rw [List.mem_cons]
        constructor
        · rintro ⟨a | a, b⟩
          · exact absurd a.symm h
          · exact ⟨a, b⟩
        · rintro ⟨a, b⟩
          exact ⟨.inr a, b⟩
      simp only [this]
theorem At.wiped {K : PySem.W.Frag} {pn : Pn} {G H : Hp} {σ : L2.St} {ρ : Env} {n : Nat} (A : At K pn G H σ ρ n) (vs : List Nat) : At K pn G H (wipe σ vs) (wipeE ρ vs) n := by
  refine ⟨A.sub, A.pst, fun i d h => ?_, by rw [wipe_len, wipeE_len]; exact A.len⟩
  rw [wipeE_get] at h
  split at h
  · cases h
  · rename_i c
    obtain ⟨v, h1, h2⟩ := A.env i d h
    refine ⟨v, ?_, h2⟩
    rw [wipe_get, if_neg (by rw [A.len]; exact c)]
    exact h1
theorem wipe_same {σ σ' : L2.St} {vs ts : List Nat} (hl : σ'.length = (wipe σ vs).length) (hs : ∀ i, i ∉ ts → σ'[i]? = (wipe σ vs)[i]?) (sub : ∀ i ∈ ts, i ∈ vs) : wipe σ' vs = wipe σ vs := by
  apply List.ext_getElem?
  intro i
  rw [wipe_get]
  rw [wipe_len] at hl
  by_cases h : i ∈ vs
  · by_cases hi : i < σ.length
    · rw [if_pos ⟨h, by omega⟩, wipe_get, if_pos ⟨h, hi⟩]
    · rw [if_neg (fun z => hi (by omega)), wipe_get, if_neg (fun z => hi z.2), List.getElem?_eq_none (by omega), List.getElem?_eq_none (by omega)]
  · rw [if_neg (fun z => h z.1)]
    exact hs i fun z => h (sub i z)

/-- the frozen part while a list grows at D -/
def Fz (G H : Hp) (D : Addr) (H' : Hp) : Hp := fun a => if a = D then none else ext G H H' a
theorem Fz_D {G H H' : Hp} {D : Addr} : Fz G H D H' D = none := by unfold Fz; rw [if_pos rfl]
theorem Fz_ne {G H H' : Hp} {D a : Addr} (h : a ≠ D) : Fz G H D H' a = ext G H H' a := by unfold Fz; rw [if_neg h]
theorem Fz_upd {G H H' : Hp} {D : Addr} {o : HO} : Fz G H D (upd H' D o) = Fz G H D H' := by
  funext a
  by_cases h : a = D
  · subst h
    rw [Fz_D, Fz_D]
  · rw [Fz_ne h, Fz_ne h]
    unfold ext
    rw [upd_ne h]
theorem Fz_ext {pn : Pn} {G H H1 H2 : Hp} {D : Addr} {n m : Nat} {o : HO} (p : Pst pn G H n) (p1 : ∀ p c, pn = some (p, c) → PenOk H1 p c m) (e1 : Ex pn H H1) (e2 : Ex pn H1 H2) (hD : H1 D = some o) : ext (Fz G H D H1) H1 H2 = Fz G H D H2 := by
  funext a
  by_cases h : a = D
  · subst h
    rw [ext_old Fz_D hD, Fz_D]
  · rw [Fz_ne h, ← ext_ext p p1 e1 e2]
    unfold ext
    rw [Fz_ne h]
    rfl
theorem Fz_sub {pn : Pn} {G H H' : Hp} {D : Addr} {n : Nat} (s : Sub G H) (p : Pst pn G H n) (e : Ex pn H H') : Sub (Fz G H D H') H' := fun a o h => by
  by_cases hd : a = D
  · subst hd
    rw [Fz_D] at h
    cases h
  · rw [Fz_ne hd] at h
    exact ext_sub s p e a o h
theorem Fz_le {G H H' : Hp} {D : Addr} (s : Sub G H) (hD : H D = none) : Sub G (Fz G H D H') := fun a o h => by
  have : a ≠ D := fun z => by
    subst z
    rw [s _ _ h] at hD
    cases hD
  rw [Fz_ne this]
  exact ext_some h
theorem Fz_ext_le {G H H' : Hp} {D : Addr} : Sub (Fz G H D H') (ext G H H') := fun a o h => by
  by_cases hd : a = D
  · subst hd
    rw [Fz_D] at h
    cases h
  · rw [Fz_ne hd] at h
    exact h
def compD (f : D → Env → Option Env) (tt : TDb) (Te : TD) : List D → List D → Env → Nat → (List D → Nat → Prop) → Prop
  | [], acc, _, n, q => q acc n
  | d :: ds, acc, ρ, n, q => ∃ ρ', f d ρ = some ρ' ∧ tt ρ' n fun b n => if b = true then Te ρ' n fun y n => acc.length < LIM ∧ compD f tt Te ds (acc ++ [y]) ρ n q else compD f tt Te ds acc ρ n q
def tComp (Tw : TDs) (f : D → Env → Option Env) (tt : TDb) (Te : TD) (vs : List Nat) : TD := fun ρ n q => Tw ρ n fun ds n => compD f tt Te ds [] (wipeE ρ vs) n fun acc n => q (.lst acc) n
/-- the tests behind the for -/
def TsD (X : Cx) (ifs : List Expr) (T : TDb) : Prop := ∃ t, PTs X ifs t ∧ ∀ (σ : L2.St) (H G : Hp) (pn : Pn) (n : Nat) (ρ : Env) (q : Bool → Nat → Prop), At X.K pn G H σ ρ n → T ρ n q →
  ∀ Q : Bool → Hp → Prop, (∀ v H', PostB pn G H q v H' → Q v H') → t σ H Q
def bYes : TDb := fun _ n q => q true n
theorem ts_nil {X : Cx} : TsD X [] bYes := ⟨_, pts_nil, fun σ H G pn n ρ q A hT Q k => k true H ⟨n, Go.refl A.pst, hT⟩⟩
theorem ts_one {X : Cx} {c : Expr} {T : TDb} (h : BD X c T) : TsD X [c] T := by
  obtain ⟨t, p, k⟩ := h
  exact ⟨t, pts_one p, k⟩

/-! ### one transformer for a judgement, in every block -/
def can (K : PySem.W.Frag) (T : TD) : TE := fun σ H Q => ∃ (G : Hp) (pn : Pn) (n : Nat) (ρ : Env) (q : QD), At K pn G H σ ρ n ∧ T ρ n q ∧ ∀ v H', Post K pn G H q v H' → Q v H'
def canB (K : PySem.W.Frag) (T : TDb) : TT := fun σ H Q => ∃ (G : Hp) (pn : Pn) (n : Nat) (ρ : Env) (q : Bool → Nat → Prop), At K pn G H σ ρ n ∧ T ρ n q ∧ ∀ v H', PostB pn G H q v H' → Q v H'
theorem ed_can {X : Cx} {e : Expr} {T : TD} (h : ED X e T) : PE X e (can X.K T) := by
  obtain ⟨t, p, k⟩ := h
  exact ⟨fun pins s σ H Q I ⟨G, pn, n, ρ, q, A, hT, hQ⟩ => p.run pins s σ H Q I (k σ H G pn n ρ q A hT Q hQ)⟩
theorem ts_can {X : Cx} {e : List Expr} {T : TDb} (h : TsD X e T) : PTs X e (canB X.K T) := by
  obtain ⟨t, p, k⟩ := h
  exact ⟨fun pins s σ H Q I ⟨G, pn, n, ρ, q, A, hT, hQ⟩ => p.run pins s σ H Q I (k σ H G pn n ρ q A hT Q hQ)⟩
theorem bd_can {X : Cx} {e : Expr} {T : TDb} (h : BD X e T) : PT X e (canB X.K T) := by
  obtain ⟨t, p, k⟩ := h
  exact ⟨fun pins s σ H Q I ⟨G, pn, n, ρ, q, A, hT, hQ⟩ => p.run pins s σ H Q I (k σ H G pn n ρ q A hT Q hQ)⟩

theorem Go.sub {pn : Pn} {G H H1 H2 : Hp} {n : Nat} (g : Go pn G H H1 n) (s : Sub H1 H2) : Go pn G H H2 n := ⟨g.ex.trans (.of_same s), fun a c e => by
  obtain ⟨⟨x, y, h1, h2⟩, ⟨ns, h3⟩, h4⟩ := g.pen a c e
  exact ⟨⟨x, y, s _ _ h1, h2⟩, ⟨ns, s _ _ h3.1, h3.2⟩, h4⟩⟩
/-- the turn of a comprehension: the state with the list at Dd -/
structure Lc (K : PySem.W.Frag) (pn : Pn) (G H : Hp) (Dd : Addr) (Hh : Hp) (acc : List D) (n' : Nat) : Prop where
  go : Go pn G H Hh n'
  ls : ∃ vs, Hh Dd = some (.lst vs) ∧ Reps K pn (Fz G H Dd Hh) vs acc
theorem lc_ed {K : PySem.W.Frag} {f : D → Env → Option Env} {tt : TDb} {Te : TD} {g : TG} {ts vs : List Nat} (hr : TgRun K g f ts) (sub : ∀ i ∈ ts, i ∈ vs) {pn : Pn} {G H : Hp} {σ : L2.St} {ρ : Env} {n : Nat} (A : At K pn G H σ ρ n) {J : It} {ds : List D} (w : Walks K pn J G ds)
    {q : List D → Nat → Prop} (hq : compD f tt Te ds [] (wipeE ρ vs) n q) {Dd : Addr} (hD : H Dd = none) {Q : Hp → Prop} (kq : ∀ Hh acc n', Lc K pn G H Dd Hh acc n' → q acc n' → Q Hh) :
    ∃ W : Nat → Nat → Hp → Prop, (∃ m, W 0 m (upd H Dd (.lst []))) ∧ ∀ i m H, W i m H →
  (J.stop i H ∧ Q H) ∨ (J.go i H ∧ ∃ Nx : Hp → Prop, (∀ H', Nx H' → ∃ m', m' < m ∧ W (i + 1) m' H') ∧ ∀ x H', J.yld i H x H' → g x (wipe σ vs) H' fun σ2 H2 => wipe σ2 vs = wipe σ vs ∧ canB K tt σ2 H2 fun b H3 =>
    if b = true then can K Te σ2 H3 fun y H4 => ∃ acc, H4 Dd = some (.lst acc) ∧ acc.length < sizeLine ∧ Nx (upd H4 Dd (.lst (acc ++ [y]))) else Nx H3) := by
  have gD : G Dd = none := by
    cases z : G Dd with
    | none => rfl
    | some u => rw [A.sub _ _ z] at hD; cases hD
  have npD : ∀ p c, pn = some (p, c) → Dd ≠ p := fun p c e z => by
    obtain ⟨x, y, h1, _⟩ := (A.pst p c e).1.lst
    rw [← z, hD] at h1
    cases h1
  refine ⟨fun i m Hh => ∃ acc n', m = ds.length - i ∧ i ≤ ds.length ∧ Lc K pn G H Dd Hh acc n' ∧ compD f tt Te (ds.drop i) acc (wipeE ρ vs) n' q, ⟨ds.length, [], n, by simp, Nat.zero_le _, ⟨Go.new A.pst hD, [], upd_same, rfl⟩, hq⟩, ?_⟩
  rintro i m Hh ⟨acc, n', rfl, hi, L, hc⟩
  obtain ⟨us, hus, rus⟩ := L.ls
  have sF : Sub G (Fz G H Dd Hh) := Fz_le A.sub hD
  have sFH : Sub (Fz G H Dd Hh) Hh := Fz_sub A.sub A.pst L.go.ex
  by_cases hlt : i < ds.length
  · refine .inr ⟨w.go i Hh (sF.trans sFH) hlt, fun H' => ∃ acc n', Lc K pn G H Dd H' acc n' ∧ compD f tt Te (ds.drop (i + 1)) acc (wipeE ρ vs) n' q, fun H' ⟨a, k, l, c⟩ => ⟨ds.length - (i + 1), by omega, a, k, rfl, hlt, l, c⟩, fun x H1 y => ?_⟩
    obtain ⟨s1, y1⟩ := w.yld i Hh x H1 (sF.trans sFH) y
    rw [show ds.drop i = ds[i] :: ds.drop (i + 1) from List.drop_eq_getElem_cons hlt] at hc
    obtain ⟨ρ', hf, htt⟩ := hc
    -- the item
    have r1 := y1 ds[i] (List.getElem?_eq_getElem hlt) _ sF sFH
    have g1 : Go pn G H H1 n' := L.go.sub s1
    have e1 : ext (Fz G H Dd Hh) Hh H1 = Fz G H Dd H1 := Fz_ext A.pst L.go.pen L.go.ex (.of_same s1) hus
    rw [e1] at r1
    have sF1 : Sub (Fz G H Dd H1) H1 := Fz_sub A.sub A.pst g1.ex
    have Aw := A.wiped vs
    have hus1 : H1 Dd = some (.lst us) := s1 _ _ hus
    refine hr.run (wipe σ vs) H1 (Fz G H Dd H1) pn [] x ds[i] (wipeE ρ vs) ρ' sF1 r1 hf (fun j d _ h => ?_) Aw.len _ fun σ' env' l1 l2 same => ?_
    · obtain ⟨v, h1, h2⟩ := Aw.env j d h
      exact ⟨v, h1, Rep.mono (Fz_le A.sub hD) _ _ h2⟩
    refine ⟨wipe_same l1 (fun j hj => (same j hj).1) sub, ?_⟩
    have pstF : ∀ (H2 : Hp) (k : Nat), Go pn G H H2 k → Pst pn (Fz G H Dd H2) H2 k := fun H2 k g2 p c e => by
      refine ⟨g2.pen p c e, ?_, ?_⟩
      · rw [Fz_ne (fun z => npD p c e z.symm)]
        obtain ⟨x, y, h1, _⟩ := (A.pst p c e).1.lst
        exact ext_old (A.pst p c e).2.1 h1
      · obtain ⟨ns, h1, _⟩ := (A.pst p c e).1.cells
        have : c ≠ Dd := fun z => by rw [z, hD] at h1; cases h1
        rw [Fz_ne this]
        exact ext_old (A.pst p c e).2.2 h1
    have A1 : At K pn (Fz G H Dd H1) H1 σ' ρ' n' := ⟨sF1, pstF H1 n' g1, fun i d h => env' i d (by simp) h, by rw [l1, l2]; exact Aw.len⟩
    refine ⟨Fz G H Dd H1, pn, n', ρ', _, A1, htt, fun b H2 ⟨n2, g2, hb⟩ => ?_⟩
    have e2 : ext (Fz G H Dd H1) H1 H2 = Fz G H Dd H2 := Fz_ext A.pst g1.pen g1.ex g2.ex hus1
    have g12 : Go pn G H H2 n2 := g1.trans g2
    have A2 := A1.go g2
    rw [e2] at A2
    have hus2 : H2 Dd = some (.lst us) := g2.ex _ _ hus1 npD
    have rus2 : Reps K pn (Fz G H Dd H2) us acc := by
      refine Reps.mono (fun a o h => ?_) _ _ rus
      by_cases ha : a = Dd
      · subst ha
        rw [Fz_D] at h
        cases h
      · rw [Fz_ne ha] at h ⊢
        have := ext_sub (A.go L.go).sub (A.go L.go).pst ((Ex.of_same s1).trans g2.ex)
        have z : ext (ext G H Hh) Hh H2 a = some o := ext_some h
        rw [ext_ext A.pst L.go.pen L.go.ex ((Ex.of_same s1).trans g2.ex)] at z
        exact z
    cases b with
    | false =>
      exact ⟨acc, n2, ⟨g12, us, hus2, rus2⟩, hb⟩
    | true =>
      refine ⟨Fz G H Dd H2, pn, n2, ρ', _, A2, hb, fun y H3 ⟨d, n3, g3, r3, hl, hc⟩ => ?_⟩
      have e3 : ext (Fz G H Dd H2) H2 H3 = Fz G H Dd H3 := Fz_ext A.pst g12.pen g12.ex g3.ex hus2
      rw [e3] at r3
      have hus3 : H3 Dd = some (.lst us) := g3.ex _ _ hus2 npD
      have g123 := g12.trans g3
      have rus3 : Reps K pn (Fz G H Dd H3) us acc := by
        refine Reps.mono (fun a o h => ?_) _ _ rus2
        have z : ext (Fz G H Dd H2) H2 H3 a = some o := ext_some h
        rw [e3] at z
        exact z
      refine ⟨us, hus3, by rw [Reps.length rus]; exact Nat.lt_of_lt_of_le hl (lim_le (Nat.le_refl _)), acc ++ [d], n3, ⟨⟨fun a o h np => ?_, fun p c e => ?_⟩, us ++ [y], upd_same, ?_⟩, hc⟩
      · have : a ≠ Dd := fun z => by rw [z, hD] at h; cases h
        rw [upd_ne this]
        exact g123.ex a o h np
      · obtain ⟨⟨x, z, h1, h2⟩, ⟨ns, h3⟩, h4⟩ := g123.pen p c e
        obtain ⟨ns0, h0, _⟩ := (A.pst p c e).1.cells
        have n1 : p ≠ Dd := fun z => npD p c e z.symm
        have n2 : c ≠ Dd := fun z => by rw [z, hD] at h0; cases h0
        exact ⟨⟨x, z, by rw [upd_ne n1]; exact h1, h2⟩, ⟨ns, by rw [upd_ne n2]; exact h3.1, h3.2⟩, h4⟩
      · rw [Fz_upd]
        exact Reps.append rus3 ⟨y, [], rfl, r3, rfl⟩
  · refine .inl ⟨w.stop i Hh (sF.trans sFH) (by omega), kq Hh acc n' L ?_⟩
    rw [List.drop_eq_nil_of_le (by omega)] at hc
    exact hc
theorem ed_lc {X : Cx} {elt tg iter : Expr} {ifs : List Expr} {scope : Scope} {own : List (Str × Nat)} {pos : Pos} {Tw : TDs} {f : D → Env → Option Env} {tt : TDb} {Te : TD} {g : TG} {ts : List Nat} (hc : X.calm = true) (hN : X.N.Nodup) (hw : WD X tg iter Tw) (ok : BlkOk X.N X.env.scope scope own)
    (hr : TgRun X.K g f ts) (hg : ∀ (s : Shared) (H : Hp) (C : Addr) (cl : List (Str × Addr)) (fp : List Addr), PG (X.blk s H scope (compEnvC scope cl C X.env) fp) tg g) (ht : ∀ (s : Shared) (H : Hp) (C : Addr) (cl : List (Str × Addr)) (fp : List Addr), TsD (X.blk s H scope (compEnvC scope cl C X.env) fp) ifs tt)
    (he : ∀ (s : Shared) (H : Hp) (C : Addr) (cl : List (Str × Addr)) (fp : List Addr), ED (X.blk s H scope (compEnvC scope cl C X.env) fp) elt Te) (sub : ∀ i ∈ ts, i ∈ own.map (·.2) := by decide) (hs : ∀ x, foldedSetIterable iter X.env x = pure x := by intro _; rfl) :
    ED X (.ListComp elt [⟨tg, iter, ifs, 0⟩] scope pos) (tComp Tw f tt Te (own.map (·.2))) := by
  obtain ⟨wi, pi, kw⟩ := hw
  refine ⟨_, pe_lc (tt := canB X.K tt) (te := can X.K Te) hc hN pi ok hg (fun s H C cl fp => ts_can (ht s H C cl fp)) (fun s H C cl fp => ed_can (he s H C cl fp)) hs, fun σ H G pn n ρ q A hT Q kq => ?_⟩
  refine kw σ H G pn n ρ _ A hT _ fun J ds n1 H1 g1 hq w => ?_
  intro Dd hD
  have A1 := A.go g1
  refine lc_ed hr sub A1 w hq hD fun Hh acc n' L hq' => kq _ _ ⟨.lst acc, n', g1.trans L.go, ?_, hq'⟩
  obtain ⟨us, h1, h2⟩ := L.ls
  refine ⟨Dd, us, rfl, ?_, Reps.mono ?_ _ _ h2⟩
  · rw [← A.ext_ext g1 L.go]
    rw [ext_none ?_ hD]
    · exact h1
    · cases z : ext G H H1 Dd with
      | none => rfl
      | some u => rw [A1.sub _ _ z] at hD; cases hD
  · rw [← A.ext_ext g1 L.go]
    exact Fz_ext_le
end DL
namespace DL
open PySem PySem.Spec PyProof.Rows L2

/-! ### the state of a statement -/
/-- of a def: the slots that hold a dict of one's own; those whose things are the caller's, handed in to be changed -/
structure Cn where
  dk : List Nat
  io : List Nat
/-- a list or a dict of one's own -/
def OwnO (b : Bool) (K : PySem.W.Frag) (pn : Pn) (G : Hp) (o : HO) (d : D) : Prop :=
  (b = false ∧ ∃ vs ds, o = .lst vs ∧ d = .lst ds ∧ Reps K pn G vs ds) ∨ (b = true ∧ ∃ ws kvs, o = .dK ws ∧ d = .dct kvs ∧ RepKV K pn G ws kvs)
section
variable {b : Bool} {K : PySem.W.Frag} {pn : Pn} {G G' : Hp} {o : HO} {d : D}
theorem OwnO.mono (s : Sub G G') (h : OwnO b K pn G o d) : OwnO b K pn G' o d := by
  rcases h with ⟨e, vs, ds, e1, e2, r⟩ | ⟨e, ws, kvs, e1, e2, r⟩
  · exact .inl ⟨e, vs, ds, e1, e2, Reps.mono s _ _ r⟩
  · exact .inr ⟨e, ws, kvs, e1, e2, RepKV.mono s _ _ r⟩
theorem OwnO.kind (h : OwnO b K pn G o d) : (∃ vs, o = .lst vs) ∨ ∃ ws, o = .dK ws := by
  rcases h with ⟨e, vs, ds, e1, e2, r⟩ | ⟨e, ws, kvs, e1, e2, r⟩
  · exact .inl ⟨vs, e1⟩
  · exact .inr ⟨ws, e1⟩
/-- seen as frozen -/
theorem OwnO.rep {a : Addr} (s : Sub G G') (h : OwnO b K pn G o d) (e : G' a = some o) : Rep K pn G' (.ref a) d := by
  rcases h with ⟨_, vs, ds, rfl, rfl, r⟩ | ⟨_, ws, kvs, rfl, rfl, r⟩
  · exact ⟨a, vs, rfl, e, Reps.mono s _ _ r⟩
  · exact ⟨a, ws, rfl, .inl e, RepKV.mono s _ _ r⟩
theorem OwnO.lst {ds : List D} (h : OwnO b K pn G o (.lst ds)) : ∃ vs, o = .lst vs ∧ Reps K pn G vs ds := by
  rcases h with ⟨_, vs, ds, rfl, e, r⟩ | ⟨_, ws, kvs, rfl, e, r⟩
  · cases e
    exact ⟨vs, rfl, r⟩
  · cases e
theorem OwnO.dct {kvs : List (Key × D)} (h : OwnO b K pn G o (.dct kvs)) : ∃ ws, o = .dK ws ∧ RepKV K pn G ws kvs := by
  rcases h with ⟨_, vs, ds, rfl, e, r⟩ | ⟨_, ws, kvs, rfl, e, r⟩
  · cases e
  · cases e
    exact ⟨ws, rfl, r⟩
theorem OwnO.isLst (h : OwnO false K pn G o d) : ∃ vs ds, o = .lst vs ∧ d = .lst ds ∧ Reps K pn G vs ds := by
  rcases h with ⟨_, h⟩ | ⟨e, _⟩
  · exact h
  · cases e
theorem OwnO.isDct (h : OwnO true K pn G o d) : ∃ ws kvs, o = .dK ws ∧ d = .dct kvs ∧ RepKV K pn G ws kvs := by
  rcases h with ⟨e, _⟩ | ⟨_, h⟩
  · cases e
  · exact h
theorem OwnO.ofLst {vs : List V} {ds : List D} (h : Reps K pn G vs ds) : OwnO false K pn G (.lst vs) (.lst ds) := .inl ⟨rfl, vs, ds, rfl, rfl, h⟩
theorem OwnO.ofDct {ws : List (Key × V)} {kvs : List (Key × D)} (h : RepKV K pn G ws kvs) : OwnO true K pn G (.dK ws) (.dct kvs) := .inr ⟨rfl, ws, kvs, rfl, rfl, h⟩
end
/-- all but the pen's own list and the things handed in stays -/
def ExF (F : Addr → Prop) (pn : Pn) (H H' : Hp) : Prop := ∀ a o, H a = some o → ¬ F a → (∀ p c, pn = some (p, c) → a ≠ p) → H' a = some o
theorem ExF.refl (F : Addr → Prop) (pn : Pn) (H : Hp) : ExF F pn H H := fun _ _ h _ _ => h
theorem ExF.trans {F : Addr → Prop} {pn : Pn} {A B C : Hp} (h : ExF F pn A B) (k : Ex pn B C) : ExF F pn A C := fun a o e f n => k a o (h a o e f n) n
def noF : Addr → Prop := fun _ => False
theorem ExF.ex {pn : Pn} {A B : Hp} (h : ExF noF pn A B) : Ex pn A B := fun a o e n => h a o e (fun z => z) n
structure OwnAt (C : Cn) (K : PySem.W.Frag) (pn : Pn) (F : Addr → Prop) (H0 G H : Hp) (σ : L2.St) (ρ : Env) (i : Nat) (a : Addr) : Prop where
  ex : ∃ d o, ρ[i]? = some (some d) ∧ σ[i]? = some (some (.ref a)) ∧ H a = some o ∧ OwnO (decide (i ∈ C.dk)) K pn G o d
  noG : G a = none
  noH : H0 a = none ∨ (F a ∧ i ∈ C.io)
structure Sat (C : Cn) (K : PySem.W.Frag) (pn : Pn) (F : Addr → Prop) (G0 H0 G H : Hp) (σ : L2.St) (ρ : Env) (O : List Nat) (n : Nat) : Prop where
  sub : Sub G H
  g0 : Sub G0 G
  fr : ∀ a o, G a = some o → G0 a = some o ∨ H0 a = none
  ex : ExF F pn H0 H
  pst : Pst pn G H n
  p0 : ∀ p c, pn = some (p, c) → (∃ o, H0 p = some o) ∧ ∃ o, H0 c = some o
  fp : ∀ a, F a → (∃ o, H0 a = some o) ∧ (∃ o, H a = some o) ∧ ∀ p c, pn = some (p, c) → a ≠ p ∧ a ≠ c
  own : ∃ A : Nat → Addr, (∀ i ∈ O, OwnAt C K pn F H0 G H σ ρ i (A i)) ∧ ∀ i ∈ O, ∀ j ∈ O, A i = A j → i = j
  env : EnvOk K pn G O σ ρ
  len : σ.length = ρ.length
theorem OwnAt.lst {C : Cn} {K : PySem.W.Frag} {pn : Pn} {F : Addr → Prop} {H0 G H : Hp} {σ : L2.St} {ρ : Env} {i : Nat} {a : Addr} (h : OwnAt C K pn F H0 G H σ ρ i a) (hi : i ∉ C.dk) : ∃ ds vs, ρ[i]? = some (some (.lst ds)) ∧ σ[i]? = some (some (.ref a)) ∧ H a = some (.lst vs) ∧ Reps K pn G vs ds := by
  obtain ⟨d, o, e1, e2, e3, e4⟩ := h.ex
  rw [decide_eq_false hi] at e4
  obtain ⟨vs, ds, rfl, rfl, r⟩ := e4.isLst
  exact ⟨ds, vs, e1, e2, e3, r⟩
theorem OwnAt.dct {C : Cn} {K : PySem.W.Frag} {pn : Pn} {F : Addr → Prop} {H0 G H : Hp} {σ : L2.St} {ρ : Env} {i : Nat} {a : Addr} (h : OwnAt C K pn F H0 G H σ ρ i a) (hi : i ∈ C.dk) : ∃ kvs ws, ρ[i]? = some (some (.dct kvs)) ∧ σ[i]? = some (some (.ref a)) ∧ H a = some (.dK ws) ∧ RepKV K pn G ws kvs := by
  obtain ⟨d, o, e1, e2, e3, e4⟩ := h.ex
  rw [decide_eq_true hi] at e4
  obtain ⟨ws, kvs, rfl, rfl, r⟩ := e4.isDct
  exact ⟨kvs, ws, e1, e2, e3, r⟩
/-- the slots at O are not to be read -/
def hideFrom (O : List Nat) : Nat → Env → Env
  | _, [] => []
  | k, d :: ρ => (if k ∈ O then none else d) :: hideFrom O (k + 1) ρ
def hide (O : List Nat) (ρ : Env) : Env := hideFrom O 0 ρ
theorem hideFrom_get (O : List Nat) : ∀ (ρ : Env) (k i : Nat), (hideFrom O k ρ)[i]? = (ρ[i]?).map fun d => if k + i ∈ O then none else d
  | [], k, i => by simp [hideFrom]
  | d :: ρ, k, 0 => by simp [hideFrom]
  | d :: ρ, k, i + 1 => by
    simp only [hideFrom, List.getElem?_cons_succ]
    rw [hideFrom_get O ρ (k + 1) i, show k + 1 + i = k + (i + 1) by omega]
theorem hide_get {O : List Nat} {ρ : Env} {i : Nat} {d : D} (h : (hide O ρ)[i]? = some (some d)) : i ∉ O ∧ ρ[i]? = some (some d) := by
  unfold hide at h
  rw [hideFrom_get] at h
  cases e : ρ[i]? with
  | none => rw [e] at h; cases h
  | some x =>
    rw [e] at h
    simp only [Option.map_some, Option.some.injEq, Nat.zero_add] at h
    split at h
    · cases h
    · rename_i c
      exact ⟨c, by rw [h]⟩
theorem hideFrom_len (O : List Nat) : ∀ (ρ : Env) (k : Nat), (hideFrom O k ρ).length = ρ.length
  | [], k => rfl
  | d :: ρ, k => by simp [hideFrom, hideFrom_len O ρ (k + 1)]
theorem hide_len (O : List Nat) (ρ : Env) : (hide O ρ).length = ρ.length := hideFrom_len O ρ 0

section
variable {C : Cn} {K : PySem.W.Frag} {pn : Pn} {F : Addr → Prop} {G0 H0 G H : Hp} {σ : L2.St} {ρ : Env} {O : List Nat} {n : Nat}
theorem Sat.pne (S : Sat C K pn F G0 H0 G H σ ρ O n) {a : Addr} {P : Prop} (h : H0 a = none ∨ (F a ∧ P)) : ∀ p c, pn = some (p, c) → a ≠ p ∧ a ≠ c := fun p c e => by
  rcases h with h | ⟨h, _⟩
  · obtain ⟨⟨o, h1⟩, ⟨o', h2⟩⟩ := S.p0 p c e
    refine ⟨fun z => ?_, fun z => ?_⟩
    · rw [← z, h] at h1; cases h1
    · rw [← z, h] at h2; cases h2
  · exact (S.fp a h).2.2 p c e
theorem Sat.fresh (S : Sat C K pn F G0 H0 G H σ ρ O n) {a : Addr} (ha : H a = none) : H0 a = none := by
  cases z : H0 a with
  | none => rfl
  | some u =>
    exfalso
    by_cases hp : ∀ p c, pn = some (p, c) → a ≠ p
    · by_cases hF : F a
      · obtain ⟨_, ⟨o, e⟩, _⟩ := S.fp a hF
        rw [ha] at e
        cases e
      · rw [S.ex a u z hF hp] at ha
        cases ha
    · apply hp
      intro p c e q
      obtain ⟨x, y, hx, _⟩ := (S.pst p c e).1.lst
      rw [← q, ha] at hx
      cases hx
theorem Go.there {pn : Pn} {G H H' : Hp} {n : Nat} (g : Go pn G H H' n) {a : Addr} {o : HO} (h : H a = some o) : ∃ o', H' a = some o' := by
  by_cases hp : ∀ p c, pn = some (p, c) → a ≠ p
  · exact ⟨o, g.ex a o h hp⟩
  · have hp' : ∃ p c, pn = some (p, c) ∧ a = p := Classical.byContradiction fun z => hp fun p c e q => z ⟨p, c, e, q⟩
    obtain ⟨p, c, e, q⟩ := hp'
    obtain ⟨x, y, hx, _⟩ := (g.pen p c e).lst
    exact ⟨_, q ▸ hx⟩
/-- an expression's state: the things at O'' stay one's own; behind it -/
theorem Sat.step (S : Sat C K pn F G0 H0 G H σ ρ O n) (O'' : List Nat) (hO : ∀ i ∈ O'', i ∈ O) (hio : ∀ i ∈ O, i ∈ C.io → i ∈ O'') : ∃ Ge : Hp, Sub G Ge ∧ (∀ a o, Ge a = some o → G a = some o ∨ (∃ vs, o = .lst vs) ∨ ∃ ws, o = .dK ws) ∧ At K pn Ge H σ (hide O'' ρ) n ∧
    ∀ (H' G' : Hp) (n' : Nat), Go pn Ge H H' n' → Sub Ge G' → Sub G' (ext Ge H H') → Sat C K pn F G0 H0 G' H' σ ρ O'' n' := by
  classical
  obtain ⟨A, own, inj⟩ := S.own
  let Ge : Hp := fun a => match G a with
    | some o => some o
    | none => if ∃ i ∈ O, i ∉ O'' ∧ A i = a then H a else none
  have ge1 : ∀ {a o}, G a = some o → Ge a = some o := fun {a o} h => by
    show (match G a with
      | some o => some o
      | none => if ∃ i ∈ O, i ∉ O'' ∧ A i = a then H a else none) = some o
    rw [h]
  have ge2 : ∀ {a o}, Ge a = some o → G a = some o ∨ (G a = none ∧ H a = some o ∧ ∃ i ∈ O, i ∉ O'' ∧ A i = a) := fun {a o} h => by
    have h : (match G a with
      | some o => some o
      | none => if ∃ i ∈ O, i ∉ O'' ∧ A i = a then H a else none) = some o := h
    cases g : G a with
    | some u => rw [g] at h; exact .inl h
    | none =>
      rw [g] at h
      simp only at h
      split at h
      · rename_i c
        exact .inr ⟨rfl, h, c⟩
      · cases h
  have ge3 : ∀ {i}, i ∈ O → i ∉ O'' → ∀ {o}, H (A i) = some o → Ge (A i) = some o := fun {i} hi hn {o} h => by
    show (match G (A i) with
      | some o => some o
      | none => if ∃ j ∈ O, j ∉ O'' ∧ A j = A i then H (A i) else none) = some o
    rw [(own i hi).noG]
    simp only
    rw [if_pos ⟨i, hi, hn, rfl⟩]
    exact h
  have gH : Sub Ge H := fun a o h => by
    rcases ge2 h with h | h
    · exact S.sub _ _ h
    · exact h.2.1
  have gp : ∀ p c, pn = some (p, c) → Ge p = none ∧ Ge c = none := fun p c e => by
    obtain ⟨_, h1, h2⟩ := S.pst p c e
    constructor
    · cases z : Ge p with
      | none => rfl
      | some o =>
        rcases ge2 z with h | ⟨_, _, i, hi, _, hA⟩
        · rw [h1] at h; cases h
        · exact absurd hA (S.pne (own i hi).noH p c e).1
    · cases z : Ge c with
      | none => rfl
      | some o =>
        rcases ge2 z with h | ⟨_, _, i, hi, _, hA⟩
        · rw [h2] at h; cases h
        · exact absurd hA (S.pne (own i hi).noH p c e).2
  have hsub : Sub G Ge := fun a o h => ge1 h
  refine ⟨Ge, hsub, fun a o h => (ge2 h).elim .inl fun ⟨_, hh, i, hi, _, hA⟩ => .inr (by
    obtain ⟨d, o', _, _, e3, e4⟩ := (own i hi).ex
    rw [← hA, e3] at hh
    cases hh
    exact e4.kind), ⟨gH, fun p c e => ⟨(S.pst p c e).1, gp p c e⟩, fun i d h => ?_, by rw [hide_len]; exact S.len⟩, fun H' G' n' g h1 h2 => ?_⟩
  · obtain ⟨hn, h⟩ := hide_get h
    by_cases hi : i ∈ O
    · obtain ⟨d', o, e1, e2, e3, e4⟩ := (own i hi).ex
      rw [e1] at h
      cases h
      exact ⟨_, e2, e4.rep hsub (ge3 hi hn e3)⟩
    · obtain ⟨v, e1, e2⟩ := S.env i d hi h
      exact ⟨v, e1, Rep.mono hsub _ _ e2⟩
  · have pe : Pst pn Ge H n := fun p c e => ⟨(S.pst p c e).1, gp p c e⟩
    have hE : Sub (ext Ge H H') H' := ext_sub gH pe g.ex
    refine ⟨h2.trans hE, (S.g0.trans hsub).trans h1, fun a o h => ?_, S.ex.trans g.ex, fun p c e => ?_, S.p0, fun a ha => ⟨(S.fp a ha).1, ?_, (S.fp a ha).2.2⟩, ⟨A, fun i hi => ?_, fun i hi j hj => inj i (hO i hi) j (hO j hj)⟩, fun i d hi h => ?_, S.len⟩
    · have h := h2 _ _ h
      cases z : Ge a with
      | some u =>
        rw [ext_some z] at h
        cases h
        rcases ge2 z with h | ⟨_, _, i, hi, hn, hA⟩
        · exact S.fr _ _ h
        · rcases (own i hi).noH with q | ⟨_, q⟩
          · exact .inr (by rw [← hA]; exact q)
          · exact absurd (hio i hi q) hn
      | none =>
        cases z2 : H a with
        | some u => rw [ext_old z z2] at h; cases h
        | none => exact .inr (S.fresh z2)
    · refine ⟨g.pen p c e, ?_, ?_⟩
      · cases z : G' p with
        | none => rfl
        | some u =>
          have z := h2 _ _ z
          obtain ⟨x, y, hx, _⟩ := (S.pst p c e).1.lst
          rw [ext_old (gp p c e).1 hx] at z
          cases z
      · cases z : G' c with
        | none => rfl
        | some u =>
          have z := h2 _ _ z
          obtain ⟨ns, hx, _⟩ := (S.pst p c e).1.cells
          rw [ext_old (gp p c e).2 hx] at z
          cases z
    · obtain ⟨o, e⟩ := (S.fp a ha).2.1
      exact g.there e
    · obtain ⟨d, o, e1, e2, e3, e4⟩ := (own i (hO i hi)).ex
      refine ⟨⟨d, o, e1, e2, g.ex _ _ e3 fun p c e => (S.pne (own i (hO i hi)).noH p c e).1, e4.mono (hsub.trans h1)⟩, ?_, (own i (hO i hi)).noH⟩
      cases z : G' (A i) with
      | none => rfl
      | some u =>
        have z := h2 _ _ z
        have : Ge (A i) = none := by
          cases z5 : Ge (A i) with
          | none => rfl
          | some w =>
            rcases ge2 z5 with h | ⟨_, _, j, hj, hn, hA⟩
            · rw [(own i (hO i hi)).noG] at h; cases h
            · exact absurd (inj j hj i (hO i hi) hA ▸ hi) hn
        rw [ext_old this e3] at z
        cases z
    · by_cases hiO : i ∈ O
      · obtain ⟨d', o, e1, e2, e3, e4⟩ := (own i hiO).ex
        rw [e1] at h
        cases h
        exact ⟨_, e2, e4.rep (hsub.trans h1) (h1 _ _ (ge3 hiO hi e3))⟩
      · obtain ⟨v, e1, e2⟩ := S.env i d hiO h
        exact ⟨v, e1, Rep.mono (hsub.trans h1) _ _ e2⟩
/-- fewer things of one's own -/
theorem Sat.weak (S : Sat C K pn F G0 H0 G H σ ρ O n) (O'' : List Nat) (hO : ∀ i ∈ O'', i ∈ O) (hio : ∀ i ∈ O, i ∈ C.io → i ∈ O'') : ∃ G', Sub G G' ∧ Sat C K pn F G0 H0 G' H σ ρ O'' n := by
  obtain ⟨Ge, h1, _, A, k⟩ := S.step O'' hO hio
  exact ⟨Ge, h1, k H Ge n (Go.refl A.pst) (Sub.refl _) (by rw [ext_refl]; exact Sub.refl _)⟩
/-- a name is given a frozen thing -/
theorem Sat.set (S : Sat C K pn F G0 H0 G H σ ρ O n) {σ' : L2.St} {ρ' : Env} {ts : List Nat} (env : EnvOk K pn G (O.filter (· ∉ ts)) σ' ρ') (l1 : σ'.length = σ.length) (l2 : ρ'.length = ρ.length) (same : ∀ i, i ∉ ts → σ'[i]? = σ[i]? ∧ ρ'[i]? = ρ[i]?) :
    Sat C K pn F G0 H0 G H σ' ρ' (O.filter (· ∉ ts)) n := by
  obtain ⟨A, own, inj⟩ := S.own
  refine ⟨S.sub, S.g0, S.fr, S.ex, S.pst, S.p0, S.fp, ⟨A, fun i hi => ?_, fun i hi j hj => inj i (List.mem_filter.mp hi).1 j (List.mem_filter.mp hj).1⟩, env, by rw [l1, l2]; exact S.len⟩
  obtain ⟨h1, h2⟩ := List.mem_filter.mp hi
  have h2 : i ∉ ts := of_decide_eq_true h2
  obtain ⟨⟨d, o, e1, e2, e3⟩, e4, e5⟩ := own i h1
  exact ⟨⟨d, o, by rw [(same i h2).2]; exact e1, by rw [(same i h2).1]; exact e2, e3⟩, e4, e5⟩
/-- a name is given a thing that is one's own -/
theorem Sat.setOwn (S : Sat C K pn F G0 H0 G H σ ρ O n) {a : Addr} {o : HO} {d : D} (i : Nat) (ha : H a = some o) (hG : G a = none) (h0 : H0 a = none) (hr : OwnO (decide (i ∈ C.dk)) K pn G o d) (hn : ∀ j ∈ O, ∀ b, OwnAt C K pn F H0 G H σ ρ j b → b ≠ a) (hi : i < ρ.length) :
    Sat C K pn F G0 H0 G H (σ.set i (some (.ref a))) (ρ.set i (some d)) (i :: O.filter (· ∉ [i])) n := by
  obtain ⟨A, own, inj⟩ := S.own
  have ne : ∀ {j}, j ∈ O.filter (· ∉ [i]) → j ∈ O ∧ j ≠ i := fun {j} h => by
    obtain ⟨h1, h2⟩ := List.mem_filter.mp h
    exact ⟨h1, by simpa using h2⟩
  refine ⟨S.sub, S.g0, S.fr, S.ex, S.pst, S.p0, S.fp, ⟨fun j => if j = i then a else A j, fun j hj => ?_, fun j hj k hk e => ?_⟩, fun j d' hj hd => ?_, by simp [S.len]⟩
  · rcases List.mem_cons.mp hj with rfl | hj
    · dsimp only
      rw [if_pos rfl]
      exact ⟨⟨d, o, List.getElem?_set_self hi, List.getElem?_set_self (by rw [S.len]; exact hi), ha, hr⟩, hG, .inl h0⟩
    · obtain ⟨h1, h2⟩ := ne hj
      dsimp only
      rw [if_neg h2]
      obtain ⟨⟨es, ws, e1, e2, e3⟩, e4, e5⟩ := own j h1
      exact ⟨⟨es, ws, by rw [List.getElem?_set_ne (Ne.symm h2)]; exact e1, by rw [List.getElem?_set_ne (Ne.symm h2)]; exact e2, e3⟩, e4, e5⟩
  · dsimp only at e
    by_cases hji : j = i
    · by_cases hki : k = i
      · rw [hji, hki]
      · rw [if_pos hji, if_neg hki] at e
        rcases List.mem_cons.mp hk with hk | hk
        · exact absurd hk hki
        · exact absurd e.symm (hn k (ne hk).1 _ (own k (ne hk).1))
    · rcases List.mem_cons.mp hj with hj | hj
      · exact absurd hj hji
      · by_cases hki : k = i
        · rw [if_neg hji, if_pos hki] at e
          exact absurd e (hn j (ne hj).1 _ (own j (ne hj).1))
        · rw [if_neg hji, if_neg hki] at e
          rcases List.mem_cons.mp hk with hk | hk
          · exact absurd hk hki
          · exact inj j (ne hj).1 k (ne hk).1 e
  · have hji : j ≠ i := fun z => hj (by rw [z]; exact List.mem_cons_self)
    rw [List.getElem?_set_ne (Ne.symm hji)] at hd
    have : j ∉ O := fun z => hj (List.mem_cons_of_mem _ (List.mem_filter.mpr ⟨z, by simpa using hji⟩))
    obtain ⟨w, h1, h2⟩ := S.env j d' this hd
    exact ⟨w, by rw [List.getElem?_set_ne (Ne.symm hji)]; exact h1, h2⟩
/-- a thing of one's own is changed -/
theorem Sat.mut (S : Sat C K pn F G0 H0 G H σ ρ O n) {i : Nat} (hi : i ∈ O) {d : D} {a : Addr} {o o' : HO} (hs : σ[i]? = some (some (.ref a))) (ho : H a = some o) (hG : G a = none) (h0 : H0 a = none ∨ (F a ∧ i ∈ C.io)) (hr : OwnO (decide (i ∈ C.dk)) K pn G o' d) (hl : i < ρ.length) :
    Sat C K pn F G0 H0 G (upd H a o') σ (ρ.set i (some d)) O n := by
  obtain ⟨A, own, inj⟩ := S.own
  have hA : A i = a := by
    obtain ⟨ds', vs', e1, e2, _⟩ := (own i hi).ex
    rw [hs] at e2
    cases e2
    rfl
  have ne : ∀ b o, G b = some o → b ≠ a := fun b o h z => by rw [z, hG] at h; cases h
  refine ⟨fun b o h => by rw [upd_ne (ne b o h)]; exact S.sub b o h, S.g0, S.fr, fun b o h nf np => ?_, fun p c e => ?_, S.p0, fun b hb => ⟨(S.fp b hb).1, ?_, (S.fp b hb).2.2⟩, ⟨A, fun j hj => ?_, inj⟩, fun j d hj hd => ?_, by simp [S.len]⟩
  · have : b ≠ a := fun z => by
      rcases h0 with h0 | ⟨h0, _⟩
      · rw [z, h0] at h; cases h
      · exact nf (z ▸ h0)
    rw [upd_ne this]
    exact S.ex b o h nf np
  · obtain ⟨⟨⟨x, y, h1, h2⟩, ⟨ns, h3⟩, h4⟩, h5⟩ := S.pst p c e
    have := S.pne h0 p c e
    exact ⟨⟨⟨x, y, by rw [upd_ne (Ne.symm this.1)]; exact h1, h2⟩, ⟨ns, by rw [upd_ne (Ne.symm this.2)]; exact h3.1, h3.2⟩, h4⟩, h5⟩
  · by_cases hba : b = a
    · exact ⟨_, by rw [hba]; exact upd_same⟩
    · obtain ⟨u, e⟩ := (S.fp b hb).2.1
      exact ⟨u, by rw [upd_ne hba]; exact e⟩
  · obtain ⟨⟨es', ws', e1, e2, e3, e4⟩, e5, e6⟩ := own j hj
    by_cases hji : j = i
    · subst hji
      exact ⟨⟨d, o', List.getElem?_set_self hl, e2, by rw [hA, upd_same], hr⟩, e5, e6⟩
    · have : A j ≠ a := fun z => hji (inj j hj i hi (z.trans hA.symm))
      exact ⟨⟨es', ws', by rw [List.getElem?_set_ne (Ne.symm hji)]; exact e1, e2, by rw [upd_ne this]; exact e3, e4⟩, e5, e6⟩
  · have hji : j ≠ i := fun z => hj (z ▸ hi)
    rw [List.getElem?_set_ne (Ne.symm hji)] at hd
    exact S.env j d hj hd
end
end DL
namespace DL
open PySem PySem.Spec PyProof.Rows L2

/-! ### data without lists -/
mutual
def pureD : D → Bool
  | .tup ds => pureDs ds
  | .lst _ | .dct _ | .pen | .scr _ => false
  | .non | .bl _ | .int _ | .str _ => true
def pureDs : List D → Bool
  | [] => true
  | d :: ds => pureD d && pureDs ds
end
def TupLe (G G' : Hp) : Prop := ∀ a xs, Rd G a (.tup xs) → Rd G' a (.tup xs)
mutual
theorem Rep.pure {K : PySem.W.Frag} {pn : Pn} {G G' : Hp} (t : TupLe G G') : ∀ (d : D) (v : V), pureD d = true → Rep K pn G v d → Rep K pn G' v d
  | .non, v, _, h => h
  | .bl b, v, _, h => h
  | .int i, v, _, h => h
  | .str x, v, _, h => h
  | .tup ds, v, p, h => by
    obtain ⟨a, vs, e, h1, h2⟩ := h
    refine ⟨a, vs, e, ?_, Reps.pure t ds vs (by simpa [pureD] using p) h2⟩
    rcases h1 with h1 | h1
    · exact .inl (t _ _ h1)
    · exact .inr h1
  | .lst ds, v, p, h => by simp [pureD] at p
  | .dct kvs, v, p, h => by simp [pureD] at p
  | .pen, v, p, h => by simp [pureD] at p
  | .scr ns, v, p, h => by simp [pureD] at p
theorem Reps.pure {K : PySem.W.Frag} {pn : Pn} {G G' : Hp} (t : TupLe G G') : ∀ (ds : List D) (vs : List V), pureDs ds = true → Reps K pn G vs ds → Reps K pn G' vs ds
  | [], vs, _, h => h
  | d :: ds, vs, p, h => by
    obtain ⟨v, r, e, h1, h2⟩ := h
    have p' : pureD d = true ∧ pureDs ds = true := by simpa [pureDs] using p
    exact ⟨v, r, e, Rep.pure t d v p'.1 h1, Reps.pure t ds r p'.2 h2⟩
end
theorem hideFrom_nil : ∀ (ρ : Env) (k : Nat), hideFrom [] k ρ = ρ
  | [], _ => rfl
  | d :: ρ, k => by simp [hideFrom, hideFrom_nil ρ (k + 1)]
theorem hide_nil (ρ : Env) : hide [] ρ = ρ := hideFrom_nil ρ 0
section
variable {C : Cn} {K : PySem.W.Frag} {pn : Pn} {F : Addr → Prop} {G0 H0 G H : Hp} {σ : L2.St} {ρ : Env} {O : List Nat} {n : Nat}
/-- all things of one's own seen as frozen -/
theorem Sat.seen (S : Sat C K pn F G0 H0 G H σ ρ O n) : ∃ Ge : Hp, Sub G Ge ∧ (∀ a o, Ge a = some o → G a = some o ∨ (∃ vs, o = .lst vs) ∨ ∃ ws, o = .dK ws) ∧ At K pn Ge H σ ρ n := by
  classical
  let Hr : Hp := fun a => if ∃ p c, pn = some (p, c) ∧ (a = p ∨ a = c) then H a else none
  have S' : Sat ⟨C.dk, []⟩ K pn noF G Hr G H σ ρ O n := by
    obtain ⟨A, own, inj⟩ := S.own
    refine ⟨S.sub, Sub.refl _, fun a o h => .inl h, fun a o h _ _ => ?_, S.pst, fun p c e => ?_, fun a h => h.elim, ⟨A, fun i hi => ⟨(own i hi).ex, (own i hi).noG, .inl ?_⟩, inj⟩, S.env, S.len⟩
    · have h : (if ∃ p c, pn = some (p, c) ∧ (a = p ∨ a = c) then H a else none) = some o := h
      split at h
      · exact h
      · cases h
    · obtain ⟨⟨⟨x, y, h1, _⟩, ⟨ns, h2, _⟩, _⟩, _⟩ := S.pst p c e
      have e1 : Hr p = H p := if_pos ⟨p, c, e, .inl rfl⟩
      have e2 : Hr c = H c := if_pos ⟨p, c, e, .inr rfl⟩
      exact ⟨⟨_, e1.trans h1⟩, ⟨_, e2.trans h2⟩⟩
    · show (if ∃ p c, pn = some (p, c) ∧ (A i = p ∨ A i = c) then H (A i) else none) = none
      refine if_neg fun ⟨p, c, e, q⟩ => ?_
      have := S.pne (own i hi).noH p c e
      rcases q with q | q
      · exact this.1 q
      · exact this.2 q
  obtain ⟨Ge, s1, l1, A, _⟩ := S'.step [] (fun _ h => nomatch h) (fun _ _ h => nomatch h)
  rw [hide_nil] at A
  exact ⟨Ge, s1, l1, A⟩
/-- an expression whose value has no list: every list stays one's own. a: an address whose object is left out of the frozen part -/
theorem Sat.stepP (S : Sat C K pn F G0 H0 G H σ ρ O n) : ∃ Ge : Hp, Sub G Ge ∧ At K pn Ge H σ ρ n ∧ ∀ (H' : Hp) (n' : Nat), Go pn Ge H H' n' →
    ∃ Gf : Hp, Sub G Gf ∧ Sub Gf H ∧ (∀ G', Sub Gf G' → Sub G' (ext Gf H H') → Sat C K pn F G0 H0 G' H' σ ρ O n') ∧ TupLe (ext Ge H H') (ext Gf H H') ∧ (∀ a, H a = none → TupLe (Fz Ge H a H') (Fz Gf H a H')) := by
  obtain ⟨Ge, s1, l1, A⟩ := S.seen
  refine ⟨Ge, s1, A, fun H' n' g => ?_⟩
  obtain ⟨Gf, s2, l2, A2, k2⟩ := S.step O (fun _ h => h) (fun _ h _ => h)
  have ht : ∀ a u, (∀ vs, u ≠ HO.lst vs) → (∀ ws, u ≠ HO.dK ws) → ext Ge H H' a = some u → ext Gf H H' a = some u := fun a u hu hu2 h => by
    cases z : Ge a with
    | some w =>
      rw [ext_some z] at h
      cases h
      rcases l1 a _ z with q | ⟨vs, q⟩ | ⟨ws, q⟩
      · exact ext_some (s2 _ _ q)
      · exact absurd q (hu vs)
      · exact absurd q (hu2 ws)
    | none =>
      cases z2 : H a with
      | some w => rw [ext_old z z2] at h; cases h
      | none =>
        rw [ext_none z z2] at h
        rw [ext_none ?_ z2]
        · exact h
        · cases z3 : Gf a with
          | none => rfl
          | some w => rw [A2.sub _ _ z3] at z2; cases z2
  refine ⟨Gf, s2, A2.sub, fun G' h1 h2 => k2 H' G' n' ⟨g.ex, g.pen⟩ h1 h2, fun a xs h => ?_, fun b _ a xs h => ?_⟩
  · rcases h with h | ⟨o, h⟩
    · exact .inl (ht _ _ (fun vs z => nomatch z) (fun vs z => nomatch z) h)
    · exact .inr ⟨o, ht _ _ (fun vs z => nomatch z) (fun vs z => nomatch z) h⟩
  · have nb : ∀ {u}, Fz Ge H b H' a = some u → a ≠ b := fun {u} h z => by
      subst z
      rw [Fz_D] at h
      cases h
    rcases h with h | ⟨o, h⟩
    · have := nb h
      rw [Fz_ne this] at h
      exact .inl (by rw [Fz_ne this]; exact ht _ _ (fun vs z => nomatch z) (fun vs z => nomatch z) h)
    · have := nb h
      rw [Fz_ne this] at h
      exact .inr ⟨o, by rw [Fz_ne this]; exact ht _ _ (fun vs z => nomatch z) (fun vs z => nomatch z) h⟩
/-- what was frozen in a def's body is new to its caller -/
theorem Sat.out (S : Sat C K pn F G0 H0 G H σ ρ O n) : Sub G (ext G0 H0 H) := fun a o h => by
  rcases S.fr a o h with q | q
  · exact ext_some q
  · cases z : G0 a with
    | some u =>
      have := S.g0 _ _ z
      rw [h] at this
      cases this
      exact ext_some z
    | none =>
      rw [ext_none z q]
      exact S.sub _ _ h
end

/-! ### the ends of a statement -/
structure DE where
  nx : Env → Nat → Prop
  rt : QD
  bk : Env → Nat → Prop
  ct : Env → Nat → Prop
abbrev TDS := DE → Env → Nat → Prop
/-- what is returned, with the things handed in -/
def ioV (ρ : Env) (i : Nat) : D := ((ρ[i]?).getD none).getD .non
def ioD (io : List Nat) (ρ : Env) (d : D) : D := match io with
  | [] => d
  | i :: is => .tup (d :: (i :: is).map (ioV ρ))
structure EndsOk (C : Cn) (K : PySem.W.Frag) (pn : Pn) (F : Addr → Prop) (G0 H0 G : Hp) (Ol O' : List Nat) (Dd : DE) (E : Ends) : Prop where
  nx : ∀ σ H G' ρ n, Sub G G' → Sat C K pn F G0 H0 G' H σ ρ O' n → Dd.nx ρ n → E.nx σ H
  rt : ∀ v H G' σ ρ d n, Sub G G' → Sat C K pn F G0 H0 G' H σ ρ C.io n → Rep K pn G' v d → Dd.rt (ioD C.io ρ d) n → E.rt v H
  bk : ∀ σ H G' ρ n, Sub G G' → Sat C K pn F G0 H0 G' H σ ρ Ol n → Dd.bk ρ n → E.bk σ H
  ct : ∀ σ H G' ρ n, Sub G G' → Sat C K pn F G0 H0 G' H σ ρ Ol n → Dd.ct ρ n → E.ct σ H
def RunS (C : Cn) (K : PySem.W.Frag) (t : TS) (Ol O O' : List Nat) (T : TDS) : Prop := ∀ (σ : L2.St) (H G G0 H0 : Hp) (pn : Pn) (F : Addr → Prop) (n : Nat) (ρ : Env) (Dd : DE), Sat C K pn F G0 H0 G H σ ρ O n → T Dd ρ n → ∀ E : Ends, EndsOk C K pn F G0 H0 G Ol O' Dd E → t E σ H
def S1 (C : Cn) (X : Cx) (Ol O : List Nat) (st : Stmt) (O' : List Nat) (T : TDS) : Prop := ∃ t, PS X st t ∧ RunS C X.K t Ol O O' T
def SD (C : Cn) (X : Cx) (Ol O : List Nat) (st : List Stmt) (O' : List Nat) (T : TDS) : Prop := ∃ t, PSs X st t ∧ RunS C X.K t Ol O O' T
/-- a transformer gives data; gives a list of one's own -/
def ER (K : PySem.W.Frag) (t : TE) (T : TD) : Prop := ∀ (σ : L2.St) (H G : Hp) (pn : Pn) (n : Nat) (ρ : Env) (q : QD), At K pn G H σ ρ n → T ρ n q → ∀ Q : VK, (∀ v H', Post K pn G H q v H' → Q v H') → t σ H Q
def LR (K : PySem.W.Frag) (t : TE) (T : TDs) : Prop := ∀ (σ : L2.St) (H G : Hp) (pn : Pn) (n : Nat) (ρ : Env) (q : List D → Nat → Prop), At K pn G H σ ρ n → T ρ n q → ∀ Q : VK, (∀ a Hh ds n', H a = none → Lc K pn G H a Hh ds n' → q ds n' → Q (.ref a) Hh) → t σ H Q
def LD (X : Cx) (e : Expr) (T : TDs) : Prop := ∃ t, PE X e t ∧ LR X.K t T
section
variable {C : Cn} {X : Cx} {Ol O O' O'' : List Nat}
def sNil : TDS := fun Dd ρ n => Dd.nx ρ n
def sSeq (T U : TDS) : TDS := fun Dd ρ n => T { Dd with nx := U Dd } ρ n
theorem s_nil : SD C X Ol O [] O sNil := ⟨_, pss_nil, fun σ H G G0 H0 pn F n ρ Dd S hT E k => k.nx σ H G ρ n (Sub.refl _) S hT⟩
theorem run_seq {K : PySem.W.Frag} {t u : TS} {O1 : List Nat} {T U : TDS} (k1 : RunS C K t Ol O O1 T) (k2 : RunS C K u Ol O1 O' U) : RunS C K (tSeq t u) Ol O O' (sSeq T U) := fun σ H G G0 H0 pn F n ρ Dd S hT E k =>
  k1 σ H G G0 H0 pn F n ρ _ S hT _ ⟨fun σ1 H1 G1 ρ1 n1 s S1 h1 => k2 σ1 H1 G1 G0 H0 pn F n1 ρ1 Dd S1 h1 E ⟨fun σ2 H2 G2 ρ2 n2 s2 => k.nx σ2 H2 G2 ρ2 n2 (s.trans s2), fun v H2 G2 σ2 ρ2 d n2 s2 => k.rt v H2 G2 σ2 ρ2 d n2 (s.trans s2), fun σ2 H2 G2 ρ2 n2 s2 => k.bk σ2 H2 G2 ρ2 n2 (s.trans s2), fun σ2 H2 G2 ρ2 n2 s2 => k.ct σ2 H2 G2 ρ2 n2 (s.trans s2)⟩, k.rt, k.bk, k.ct⟩
theorem s_cons {st : Stmt} {rest : List Stmt} {O1 : List Nat} {T U : TDS} (h1 : S1 C X Ol O st O1 T) (h2 : SD C X Ol O1 rest O' U) : SD C X Ol O (st :: rest) O' (sSeq T U) := by
  obtain ⟨t, p, k⟩ := h1
  obtain ⟨u, p2, k2⟩ := h2
  exact ⟨_, pss_cons p p2, run_seq k k2⟩
theorem s_one {st : Stmt} {T : TDS} (h1 : S1 C X Ol O st O' T) : SD C X Ol O [st] O' T := by
  obtain ⟨t, p, k⟩ := h1
  exact ⟨_, pss_one p, k⟩
/-- at the end fewer lists of one's own -/
theorem s_weak {st : List Stmt} {T : TDS} (h1 : SD C X Ol O st O' T) (hO : ∀ i ∈ O'', i ∈ O') (hio : ∀ i ∈ O', i ∈ C.io → i ∈ O'' := by decide) : SD C X Ol O st O'' T := by
  obtain ⟨t, p, k⟩ := h1
  refine ⟨t, p, fun σ H G G0 H0 pn F n ρ Dd S hT E ke => k σ H G G0 H0 pn F n ρ Dd S hT E ⟨fun σ1 H1 G1 ρ1 n1 s S1 h => ?_, ke.rt, ke.bk, ke.ct⟩⟩
  obtain ⟨G2, s2, S2⟩ := S1.weak O'' hO hio
  exact ke.nx σ1 H1 G2 ρ1 n1 (s.trans s2) S2 h
/-- never reached behind a return -/
theorem s_any {st : List Stmt} {T : TDS} (h1 : SD C X Ol O st O' (fun Dd => T Dd)) (hT : ∀ (D1 D2 : DE) ρ n, D1.rt = D2.rt → D1.bk = D2.bk → D1.ct = D2.ct → T D1 ρ n → T D2 ρ n) : SD C X Ol O st O'' T := by
  obtain ⟨t, p, k⟩ := h1
  refine ⟨t, p, fun σ H G G0 H0 pn F n ρ Dd S hT' E ke => k σ H G G0 H0 pn F n ρ { Dd with nx := fun _ _ => False } S (hT Dd _ ρ n rfl rfl rfl hT') E ⟨fun _ _ _ _ _ _ _ h => h.elim, ke.rt, ke.bk, ke.ct⟩⟩

/-! ### assignments -/
def sAsg (O'' : List Nat) (f : D → Env → Option Env) (Te : TD) : TDS := fun Dd ρ n => Te (hide O'' ρ) n fun d n => ∃ ρ', f d ρ = some ρ' ∧ Dd.nx ρ' n
def sAsgP (f : D → Env → Option Env) (Te : TD) : TDS := fun Dd ρ n => Te ρ n fun d n => pureD d = true ∧ ∃ ρ', f d ρ = some ρ' ∧ Dd.nx ρ' n
theorem run_asg {K : PySem.W.Frag} {t : TE} {g : TG} {f : D → Env → Option Env} {ts : List Nat} {Te : TD} (O'' : List Nat) (k : ER K t Te) (tr : TgRun K g f ts) (hO : ∀ i ∈ O'', i ∈ O) (hio : ∀ i ∈ O, i ∈ C.io → i ∈ O'') : RunS C K (tAsg t g) Ol O (O''.filter (· ∉ ts)) (sAsg O'' f Te) := by
  intro σ H G G0 H0 pn F n ρ Dd S hT E ke
  obtain ⟨Ge, s1, _, A, st⟩ := S.step O'' hO hio
  refine k σ H Ge pn n _ _ A hT _ fun v H1 ⟨d, n1, g1, r1, ρ', hf, hq⟩ => ?_
  have S1 := st H1 _ n1 g1 sub_ext (Sub.refl _)
  refine tr.run σ H1 _ pn O'' v d ρ ρ' S1.sub r1 hf S1.env S1.len _ fun σ' env' l1 l2 same => ?_
  exact ke.nx σ' H1 _ ρ' n1 (s1.trans sub_ext) (S1.set env' l1 l2 same) hq
theorem run_asgP {K : PySem.W.Frag} {t : TE} {g : TG} {f : D → Env → Option Env} {ts : List Nat} {Te : TD} (k : ER K t Te) (tr : TgRun K g f ts) : RunS C K (tAsg t g) Ol O (O.filter (· ∉ ts)) (sAsgP f Te) := by
  intro σ H G G0 H0 pn F n ρ Dd S hT E ke
  obtain ⟨Ge, s1, A, st⟩ := S.stepP
  refine k σ H Ge pn n _ _ A hT _ fun v H1 ⟨d, n1, g1, r1, hp, ρ', hf, hq⟩ => ?_
  obtain ⟨Gf, s2, _, mk, tl, _⟩ := st H1 n1 g1
  have S1 := mk _ sub_ext (Sub.refl _)
  refine tr.run σ H1 _ pn O v d ρ ρ' S1.sub (Rep.pure tl d v hp r1) hf S1.env S1.len _ fun σ' env' l1 l2 same => ?_
  exact ke.nx σ' H1 _ ρ' n1 (s2.trans sub_ext) (S1.set env' l1 l2 same) hq
def sOwn (O'' : List Nat) (i : Nat) (Te : TDs) : TDS := fun Dd ρ n => Te (hide O'' ρ) n fun ds n => i < ρ.length ∧ Dd.nx (ρ.set i (some (.lst ds))) n
def sOwnP (i : Nat) (Te : TDs) : TDS := fun Dd ρ n => Te ρ n fun ds n => pureDs ds = true ∧ i < ρ.length ∧ Dd.nx (ρ.set i (some (.lst ds))) n
theorem run_own {K : PySem.W.Frag} {t : TE} {Te : TDs} {i : Nat} (O'' : List Nat) (k : LR K t Te) (hO : ∀ i ∈ O'', i ∈ O) (hio : ∀ i ∈ O, i ∈ C.io → i ∈ O'') (hk : i ∉ C.dk) : RunS C K (tAsg t (gName i)) Ol O (i :: O''.filter (· ∉ [i])) (sOwn O'' i Te) := by
  intro σ H G G0 H0 pn F n ρ Dd S hT E ke
  obtain ⟨Ge, s1, _, A, st⟩ := S.step O'' hO hio
  refine k σ H Ge pn n _ _ A hT _ fun a H1 ds n1 ha L ⟨hi, hq⟩ => ?_
  obtain ⟨vs, hv, rv⟩ := L.ls
  have S1 := st H1 (Fz Ge H a H1) n1 L.go (Fz_le A.sub ha) Fz_ext_le
  have h0 : H0 a = none := S.fresh ha
  refine ke.nx _ H1 _ _ n1 (s1.trans (Fz_le A.sub ha)) (S1.setOwn i hv Fz_D h0 (by rw [decide_eq_false hk]; exact .ofLst rv) (fun j hj b hb z => ?_) hi) hq
  obtain ⟨es, ws, e1, e2, e3, _⟩ := hb.ex
  obtain ⟨B, own, _⟩ := S.own
  obtain ⟨es', ws', f1, f2, f3, _⟩ := (own j (hO j hj)).ex
  rw [e2] at f2
  cases f2
  rw [z, ha] at f3
  cases f3
theorem run_ownP {K : PySem.W.Frag} {t : TE} {Te : TDs} {i : Nat} (k : LR K t Te) (hk : i ∉ C.dk) : RunS C K (tAsg t (gName i)) Ol O (i :: O.filter (· ∉ [i])) (sOwnP i Te) := by
  intro σ H G G0 H0 pn F n ρ Dd S hT E ke
  obtain ⟨Ge, s1, A, st⟩ := S.stepP
  refine k σ H Ge pn n _ _ A hT _ fun a H1 ds n1 ha L ⟨hp, hi, hq⟩ => ?_
  obtain ⟨vs, hv, rv⟩ := L.ls
  obtain ⟨Gf, s2, sfH, mk, _, tl⟩ := st H1 n1 L.go
  have S1 := mk (Fz Gf H a H1) (Fz_le sfH ha) Fz_ext_le
  have h0 : H0 a = none := S.fresh ha
  refine ke.nx _ H1 _ _ n1 (s2.trans (Fz_le sfH ha)) (S1.setOwn i hv Fz_D h0 (by rw [decide_eq_false hk]; exact .ofLst (Reps.pure (tl a ha) _ _ hp rv)) (fun j hj b hb z => ?_) hi) hq
  obtain ⟨es, ws, e1, e2, e3, _⟩ := hb.ex
  obtain ⟨B, own, _⟩ := S.own
  obtain ⟨es', ws', f1, f2, f3, _⟩ := (own j hj).ex
  rw [e2] at f2
  cases f2
  rw [z, ha] at f3
  cases f3
theorem s_asg {st : Stmt} {e : Expr} {g : TG} {f : D → Env → Option Env} {ts : List Nat} {Te : TD} (O'' : List Nat) (mk : ∀ te, PE X e te → PS X st (tAsg te g)) (h : ED X e Te) (tr : TgRun X.K g f ts) (hO : ∀ i ∈ O'', i ∈ O := by decide) (hio : ∀ i ∈ O, i ∈ C.io → i ∈ O'' := by decide) : S1 C X Ol O st (O''.filter (· ∉ ts)) (sAsg O'' f Te) := by
  obtain ⟨t, p, k⟩ := h
  exact ⟨_, mk _ p, run_asg O'' k tr hO hio⟩
theorem s_asgP {st : Stmt} {e : Expr} {g : TG} {f : D → Env → Option Env} {ts : List Nat} {Te : TD} (mk : ∀ te, PE X e te → PS X st (tAsg te g)) (h : ED X e Te) (tr : TgRun X.K g f ts) : S1 C X Ol O st (O.filter (· ∉ ts)) (sAsgP f Te) := by
  obtain ⟨t, p, k⟩ := h
  exact ⟨_, mk _ p, run_asgP k tr⟩
theorem s_own {st : Stmt} {e : Expr} {i : Nat} {Te : TDs} (O'' : List Nat) (mk : ∀ te, PE X e te → PS X st (tAsg te (gName i))) (h : LD X e Te) (hO : ∀ i ∈ O'', i ∈ O := by decide) (hio : ∀ i ∈ O, i ∈ C.io → i ∈ O'' := by decide) (hk : i ∉ C.dk := by decide) : S1 C X Ol O st (i :: O''.filter (· ∉ [i])) (sOwn O'' i Te) := by
  obtain ⟨t, p, k⟩ := h
  exact ⟨_, mk _ p, run_own O'' k hO hio hk⟩
theorem s_ownP {st : Stmt} {e : Expr} {i : Nat} {Te : TDs} (mk : ∀ te, PE X e te → PS X st (tAsg te (gName i))) (h : LD X e Te) (hk : i ∉ C.dk := by decide) : S1 C X Ol O st (i :: O.filter (· ∉ [i])) (sOwnP i Te) := by
  obtain ⟨t, p, k⟩ := h
  exact ⟨_, mk _ p, run_ownP k hk⟩

/-! ### return, if -/
def sRet (Te : TD) : TDS := fun Dd ρ n => Te ρ n Dd.rt
theorem s_ret {e : Expr} {pos : Pos} {Te : TD} (h : ED X e Te) (hi : C.io = [] := by rfl) : S1 C X Ol O (.Return (some e) pos) O' (sRet Te) := by
  obtain ⟨t, p, k⟩ := h
  refine ⟨_, ps_ret p, fun σ H G G0 H0 pn F n ρ Dd S hT E ke => ?_⟩
  obtain ⟨Ge, s1, _, A, st⟩ := S.step [] (fun _ h => nomatch h) (fun _ _ h => by rw [hi] at h; exact nomatch h)
  rw [hide_nil] at A
  refine k σ H Ge pn n _ _ A hT _ fun v H1 ⟨d, n1, g1, r1, hq⟩ => ?_
  have S1 := st H1 _ n1 g1 sub_ext (Sub.refl _)
  exact ke.rt v H1 _ σ ρ d n1 (s1.trans sub_ext) (by rw [hi]; exact S1) r1 (by rw [hi]; exact hq)
def sRetN : TDS := fun Dd _ n => Dd.rt .non n
theorem s_retN {pos : Pos} (hi : C.io = [] := by rfl) : S1 C X Ol O (.Return none pos) O' sRetN :=
  ⟨_, ps_retN, fun σ H G G0 H0 pn F n ρ Dd S hT E ke => by
    obtain ⟨G7, s7, S7⟩ := S.weak [] (fun _ h => nomatch h) (fun _ _ h => by rw [hi] at h; exact nomatch h)
    exact ke.rt _ H G7 σ ρ .non n s7 (by rw [hi]; exact S7) rfl (by rw [hi]; exact hT)⟩
/-- the same in a def that changes things of its caller's -/
def sRetIO (io : List Nat) (Te : TD) : TDS := fun Dd ρ n => Te (hide io ρ) n fun d n => Dd.rt (ioD io ρ d) n
theorem s_retIO {e : Expr} {pos : Pos} {Te : TD} (io : List Nat) (h : ED X e Te) (hi : C.io = io := by rfl) (hO : ∀ i ∈ io, i ∈ O := by decide) : S1 C X Ol O (.Return (some e) pos) O' (sRetIO io Te) := by
  obtain ⟨t, p, k⟩ := h
  refine ⟨_, ps_ret p, fun σ H G G0 H0 pn F n ρ Dd S hT E ke => ?_⟩
  obtain ⟨Ge, s1, _, A, st⟩ := S.step io hO (fun _ _ h => by rw [hi] at h; exact h)
  refine k σ H Ge pn n _ _ A hT _ fun v H1 ⟨d, n1, g1, r1, hq⟩ => ?_
  have S1 := st H1 _ n1 g1 sub_ext (Sub.refl _)
  exact ke.rt v H1 _ σ ρ d n1 (s1.trans sub_ext) (by rw [hi]; exact S1) r1 (by rw [hi]; exact hq)
/-- the same where the answer is read off things of one's own -/
def sRetIOP (io : List Nat) (Te : TD) : TDS := fun Dd ρ n => Te ρ n fun d n => pureD d = true ∧ Dd.rt (ioD io ρ d) n
theorem s_retIOP {e : Expr} {pos : Pos} {Te : TD} (io : List Nat) (h : ED X e Te) (hi : C.io = io := by rfl) (hO : ∀ i ∈ io, i ∈ O := by decide) : S1 C X Ol O (.Return (some e) pos) O' (sRetIOP io Te) := by
  obtain ⟨t, p, k⟩ := h
  refine ⟨_, ps_ret p, fun σ H G G0 H0 pn F n ρ Dd S hT E ke => ?_⟩
  obtain ⟨Ge, s1, A, st⟩ := S.stepP
  refine k σ H Ge pn n _ _ A hT _ fun v H1 ⟨d, n1, g1, r1, hp, hq⟩ => ?_
  obtain ⟨Gf, s2, _, mk, tl, _⟩ := st H1 n1 g1
  have S1 := mk _ sub_ext (Sub.refl _)
  obtain ⟨G7, s7, S7⟩ := S1.weak io hO (fun _ _ h => by rw [hi] at h; exact h)
  exact ke.rt v H1 _ σ ρ d n1 ((s2.trans sub_ext).trans s7) (by rw [hi]; exact S7) (Rep.mono s7 _ _ (Rep.pure tl d v hp r1)) (by rw [hi]; exact hq)
def sRetNIO (io : List Nat) : TDS := fun Dd ρ n => Dd.rt (ioD io ρ .non) n
theorem s_retNIO {pos : Pos} (io : List Nat) (hi : C.io = io := by rfl) (hO : ∀ i ∈ io, i ∈ O := by decide) : S1 C X Ol O (.Return none pos) O' (sRetNIO io) :=
  ⟨_, ps_retN, fun σ H G G0 H0 pn F n ρ Dd S hT E ke => by
    obtain ⟨G7, s7, S7⟩ := S.weak io hO (fun _ _ h => by rw [hi] at h; exact h)
    exact ke.rt _ H G7 σ ρ .non n s7 (by rw [hi]; exact S7) rfl (by rw [hi]; exact hT)⟩
def sIf (A : TDb) (T U : TDS) : TDS := fun Dd ρ n => A ρ n fun b n => if b = true then T Dd ρ n else U Dd ρ n
theorem s_if {c : Expr} {a b : List Stmt} {pos : Pos} {A : TDb} {T U : TDS} (hc : BD X c A) (ha : SD C X Ol O a O' T) (hb : SD C X Ol O b O' U) : S1 C X Ol O (.If c a b pos) O' (sIf A T U) := by
  obtain ⟨t, p, k⟩ := hc
  obtain ⟨t1, p1, k1⟩ := ha
  obtain ⟨t2, p2, k2⟩ := hb
  refine ⟨_, ps_if p p1 p2, fun σ H G G0 H0 pn F n ρ Dd S hT E ke => ?_⟩
  obtain ⟨Ge, s1, A1, st⟩ := S.stepP
  refine k σ H Ge pn n _ _ A1 hT _ fun bb H1 ⟨n1, g1, hq⟩ => ?_
  obtain ⟨Gf, s2, _, mk, _, _⟩ := st H1 n1 g1
  have S1 := mk _ sub_ext (Sub.refl _)
  have ke1 : EndsOk C X.K pn F G0 H0 (ext Gf H H1) Ol O' Dd E := ⟨fun σ2 H2 G2 ρ2 n2 s => ke.nx σ2 H2 G2 ρ2 n2 ((s2.trans sub_ext).trans s), fun v H2 G2 σ2 ρ2 d n2 s => ke.rt v H2 G2 σ2 ρ2 d n2 ((s2.trans sub_ext).trans s), fun σ2 H2 G2 ρ2 n2 s => ke.bk σ2 H2 G2 ρ2 n2 ((s2.trans sub_ext).trans s), fun σ2 H2 G2 ρ2 n2 s => ke.ct σ2 H2 G2 ρ2 n2 ((s2.trans sub_ext).trans s)⟩
  cases bb with
  | true => exact k1 σ H1 _ G0 H0 pn F n1 ρ Dd S1 hq E ke1
  | false => exact k2 σ H1 _ G0 H0 pn F n1 ρ Dd S1 hq E ke1
end
end DL
namespace DL
open PySem PySem.Spec PyProof.Rows L2
section
variable {C : Cn} {X : Cx} {Ol O O' O'' : List Nat}
/-! ### lists that are made -/
theorem LR.of_new {K : PySem.W.Frag} {t : TE} {T : TDs} (h : ∀ (σ : L2.St) (H G : Hp) (pn : Pn) (n : Nat) (ρ : Env) (q : List D → Nat → Prop), At K pn G H σ ρ n → T ρ n q → ∀ Q : VK,
    (∀ vs ds H1 n1 p, Go pn G H H1 n1 → Reps K pn (ext G H H1) vs ds → q ds n1 → H1 p = none → Q (.ref p) (upd H1 p (.lst vs))) → t σ H Q) : LR K t T := fun σ H G pn n ρ q A hT Q k => by
  refine h σ H G pn n ρ q A hT Q fun vs ds H1 n1 p g1 r hq hp => ?_
  have A1 := A.go g1
  have hH : H p = none := by
    cases z : H p with
    | none => rfl
    | some u =>
      exfalso
      by_cases hpp : ∀ a c, pn = some (a, c) → p ≠ a
      · rw [g1.ex p u z hpp] at hp; cases hp
      · apply hpp
        intro a c e w
        obtain ⟨x, y, hx, _⟩ := (g1.pen a c e).lst
        rw [← w, hp] at hx
        cases hx
  refine k p _ ds n1 hH ⟨g1.trans (Go.new A1.pst hp), vs, upd_same, ?_⟩ hq
  rw [Fz_upd]
  refine Reps.mono (fun a o h => ?_) _ _ r
  have : a ≠ p := fun z => by
    subst z
    rw [A1.sub _ _ h] at hp
    cases hp
  rw [Fz_ne this]
  exact h
theorem ld_lst {es : List Expr} {pos : Pos} {T : TDs} (h : AD X es T) : LD X (.List es pos) (fun ρ n q => T ρ n fun ds n => ds.length ≤ LIM ∧ q ds n) := by
  obtain ⟨t, p, k⟩ := h
  refine ⟨_, pe_lst p, LR.of_new fun σ H G pn n ρ q A hT Q kq => ?_⟩
  exact k σ H G pn n ρ _ A hT _ fun vs H1 ⟨ds, n1, g1, r1, hl, hq⟩ => ⟨lim_le (by rw [Reps.length r1]; exact hl), fun a ha => kq vs ds H1 n1 a g1 r1 hq ha⟩
def ldList (Ta : TDs) : TDs := fun ρ n q => Ta ρ n fun as n => ∃ ds, (as = [.lst ds] ∨ as = [.tup ds]) ∧ q ds n
theorem ld_list {e : Expr} {p pos : Pos} {T : TDs} (B : NoB X.mg) (hg : Gl X "list") (h : AD X [e] T) (he : starEach [e] X.env = (false, eval e X.env) :: starEach [] X.env := by rfl) : LD X (.Call (.Name "list" p) [e] [] pos) (ldList T) := by
  obtain ⟨t, pa, k⟩ := h
  refine ⟨_, pe_callTy call_list_of hg (B _ (by decide)) (by decide +kernel) pa (he := he), LR.of_new fun σ H G pn n ρ q A hT Q kq => ?_⟩
  refine k σ H G pn n ρ _ A hT _ fun vs H1 ⟨as, n1, g1, r1, ds, hd, hq⟩ => ?_
  have A1 := A.go g1
  rcases hd with rfl | rfl
  · obtain ⟨v, rfl, h1⟩ := reps1 r1
    obtain ⟨a, ws, rfl, h2, h3⟩ := h1
    exact ⟨a, ws, rfl, .inl (SqL.of (A1.sub _ _ h2)), fun l hl => kq ws ds H1 n1 l g1 h3 hq hl⟩
  · obtain ⟨v, rfl, h1⟩ := reps1 r1
    obtain ⟨a, ws, rfl, h2, h3⟩ := h1
    exact ⟨a, ws, rfl, .inr (A1.sub.sqT h2), fun l hl => kq ws ds H1 n1 l g1 h3 hq hl⟩
def ldAdd (Ta Tb : TD) : TDs := fun ρ n q => Ta ρ n fun x n => Tb ρ n fun y n => ∃ xs ys, x = .lst xs ∧ y = .lst ys ∧ xs.length + ys.length ≤ LIM ∧ q (xs ++ ys) n
theorem ld_add {a b : Expr} {pos : Pos} {Ta Tb : TD} (ha : ED X a Ta) (hb : ED X b Tb) : LD X (.BinOp a .Add b pos) (ldAdd Ta Tb) := by
  obtain ⟨ta, pa, ka⟩ := ha
  obtain ⟨tb, pb, kb⟩ := hb
  refine ⟨_, pe_op op_cat pa pb, LR.of_new fun σ H G pn n ρ q A hT Q kq => ?_⟩
  refine ka σ H G pn n ρ _ A hT _ fun x H1 ⟨d, n1, g1, r1, hT2⟩ => ?_
  have A1 := A.go g1
  refine kb σ H1 _ pn n1 ρ _ A1 hT2 _ fun y H2 ⟨e, n2, g2, r2, xs, ys, h1, h2, hl, hq⟩ => ?_
  subst h1 h2
  have A2 := A1.go g2
  have r1 := Rep.mono (sub_ext (G := ext G H H1) (H := H1) (H' := H2)) _ _ r1
  rw [A.ext_ext g1 g2] at r1 r2 A2
  obtain ⟨a, vs, rfl, h3, h4⟩ := r1
  obtain ⟨b, ws, rfl, h5, h6⟩ := r2
  exact ⟨a, b, vs, ws, rfl, rfl, A2.sub _ _ h3, A2.sub _ _ h5, lim_le (by rw [Reps.length h4, Reps.length h6]; exact hl), fun p hp => kq _ _ H2 n2 p (g1.trans g2) (Reps.append h4 h6) hq hp⟩
def tCompL (Tw : TDs) (f : D → Env → Option Env) (tt : TDb) (Te : TD) (vs : List Nat) : TDs := fun ρ n q => Tw ρ n fun ds n => compD f tt Te ds [] (wipeE ρ vs) n q
theorem lr_comp {K : PySem.W.Frag} {wi : TI} {Tw : TDs} {f : D → Env → Option Env} {tt : TDb} {Te : TD} {g : TG} {ts vs : List Nat} (hr : TgRun K g f ts) (sub : ∀ i ∈ ts, i ∈ vs)
    (kw : ∀ (σ : L2.St) (H G : Hp) (pn : Pn) (n : Nat) (ρ : Env) (q : List D → Nat → Prop), At K pn G H σ ρ n → Tw ρ n q → ∀ R : It → Hp → Prop, (∀ J ds n' H', Go pn G H H' n' → q ds n' → Walks K pn J (ext G H H') ds → R J H') → wi σ H R) :
    LR K (tLc wi g (canB K tt) (can K Te) vs) (tCompL Tw f tt Te vs) := fun σ H G pn n ρ q A hT Q kq => by
  refine kw σ H G pn n ρ _ A hT _ fun J ds n1 H1 g1 hq w => ?_
  intro Dd hD
  have A1 := A.go g1
  have hH : H Dd = none := by
    cases z : H Dd with
    | none => rfl
    | some u =>
      exfalso
      by_cases hpp : ∀ a c, pn = some (a, c) → Dd ≠ a
      · rw [g1.ex Dd u z hpp] at hD; cases hD
      · apply hpp
        intro a c e w
        obtain ⟨x, y, hx, _⟩ := (g1.pen a c e).lst
        rw [← w, hD] at hx
        cases hx
  refine lc_ed hr sub A1 w hq hD fun Hh acc n' L hq' => kq Dd Hh acc n' hH ⟨g1.trans L.go, ?_⟩ hq'
  obtain ⟨us, h1, h2⟩ := L.ls
  refine ⟨us, h1, Reps.mono (fun a o h => ?_) _ _ h2⟩
  by_cases ha : a = Dd
  · subst ha
    rw [Fz_D] at h
    cases h
  · rw [Fz_ne ha] at h ⊢
    rw [A.ext_ext g1 L.go] at h
    exact h
theorem ld_lc {elt tg iter : Expr} {ifs : List Expr} {scope : Scope} {own : List (Str × Nat)} {pos : Pos} {Tw : TDs} {f : D → Env → Option Env} {tt : TDb} {Te : TD} {g : TG} {ts : List Nat} (hc : X.calm = true) (hN : X.N.Nodup) (hw : WD X tg iter Tw) (ok : BlkOk X.N X.env.scope scope own)
    (hr : TgRun X.K g f ts) (hg : ∀ (s : Shared) (H : Hp) (C : Addr) (cl : List (Str × Addr)) (fp : List Addr), PG (X.blk s H scope (compEnvC scope cl C X.env) fp) tg g) (ht : ∀ (s : Shared) (H : Hp) (C : Addr) (cl : List (Str × Addr)) (fp : List Addr), TsD (X.blk s H scope (compEnvC scope cl C X.env) fp) ifs tt)
    (he : ∀ (s : Shared) (H : Hp) (C : Addr) (cl : List (Str × Addr)) (fp : List Addr), ED (X.blk s H scope (compEnvC scope cl C X.env) fp) elt Te) (sub : ∀ i ∈ ts, i ∈ own.map (·.2) := by decide) (hs : ∀ x, foldedSetIterable iter X.env x = pure x := by intro _; rfl) :
    LD X (.ListComp elt [⟨tg, iter, ifs, 0⟩] scope pos) (tCompL Tw f tt Te (own.map (·.2))) := by
  obtain ⟨wi, pi, kw⟩ := hw
  exact ⟨_, pe_lc (tt := canB X.K tt) (te := can X.K Te) hc hN pi ok hg (fun s H C cl fp => ts_can (ht s H C cl fp)) (fun s H C cl fp => ed_can (he s H C cl fp)) hs, lr_comp hr sub kw⟩
theorem LR.er {K : PySem.W.Frag} {t : TE} {T : TDs} (h : LR K t T) : ER K t (fun ρ n q => T ρ n fun ds n => q (.lst ds) n) := fun σ H G pn n ρ q A hT Q k => by
  refine h σ H G pn n ρ _ A hT Q fun a Hh ds n' ha L hq => k _ Hh ⟨.lst ds, n', L.go, ?_, hq⟩
  obtain ⟨us, h1, h2⟩ := L.ls
  refine ⟨a, us, rfl, ?_, Reps.mono Fz_ext_le _ _ h2⟩
  rw [ext_none ?_ ha]
  · exact h1
  · cases z : G a with
    | none => rfl
    | some u =>
      rw [A.sub _ _ z] at ha
      cases ha
/-- y = [..] on one line -/
theorem ps_lcSet {i : Nat} {y : Str} {py : Pos} {elt tg iter : Expr} {ifs : List Expr} {scope : Scope} {own : List (Str × Nat)} {pos spos : Pos} {Tw : TDs} {f : D → Env → Option Env} {tt : TDb} {Te : TD} {g : TG} {ts : List Nat} (hc : X.calm = true) (hN : X.N.Nodup) (hy : X.N[i]? = some y) (hyl : X.env.scope.names.lookup y = some .local)
    (hsw : swapsWith (.ListComp elt [⟨tg, iter, ifs, 0⟩] scope pos) (some (.Name y py)) spos.line X.env = pure true) (hw : WD X tg iter Tw) (ok : BlkOk X.N X.env.scope scope own)
    (hr : TgRun X.K g f ts) (hg : ∀ (s : Shared) (H : Hp) (C : Addr) (cl : List (Str × Addr)) (fp : List Addr), PG (X.blk s H scope (compEnvC scope cl C X.env) fp) tg g) (ht : ∀ (s : Shared) (H : Hp) (C : Addr) (cl : List (Str × Addr)) (fp : List Addr), TsD (X.blk s H scope (compEnvC scope cl C X.env) fp) ifs tt)
    (he : ∀ (s : Shared) (H : Hp) (C : Addr) (cl : List (Str × Addr)) (fp : List Addr), ED (X.blk s H scope (compEnvC scope cl C X.env) fp) elt Te) (sub : ∀ i ∈ ts, i ∈ own.map (·.2) := by decide) (hs : ∀ x, foldedSetIterable iter X.env x = pure x := by intro _; rfl) :
    ∃ t, PS X (.Assign [.Name y py] (.ListComp elt [⟨tg, iter, ifs, 0⟩] scope pos) spos) (tAsg t (gName i)) ∧ LR X.K t (tCompL Tw f tt Te (own.map (·.2))) := by
  obtain ⟨wi, pi, kw⟩ := hw
  exact ⟨_, ps_setLc (tt := canB X.K tt) (te := can X.K Te) hc hN hy hyl hsw pi ok hg (fun s H C cl fp => ts_can (ht s H C cl fp)) (fun s H C cl fp => ed_can (he s H C cl fp)) hs, lr_comp hr sub kw⟩
theorem s_ownT {st : Stmt} {i : Nat} {Te : TDs} (O'' : List Nat) (h : ∃ t, PS X st (tAsg t (gName i)) ∧ LR X.K t Te) (hO : ∀ i ∈ O'', i ∈ O := by decide) (hio : ∀ i ∈ O, i ∈ C.io → i ∈ O'' := by decide) (hk : i ∉ C.dk := by decide) : S1 C X Ol O st (i :: O''.filter (· ∉ [i])) (sOwn O'' i Te) := by
  obtain ⟨t, p, k⟩ := h
  exact ⟨_, p, run_own O'' k hO hio hk⟩
theorem s_ownPT {st : Stmt} {i : Nat} {Te : TDs} (h : ∃ t, PS X st (tAsg t (gName i)) ∧ LR X.K t Te) (hk : i ∉ C.dk := by decide) : S1 C X Ol O st (i :: O.filter (· ∉ [i])) (sOwnP i Te) := by
  obtain ⟨t, p, k⟩ := h
  exact ⟨_, p, run_ownP k hk⟩
def tL (T : TDs) : TD := fun ρ n q => T ρ n fun ds n => q (.lst ds) n
theorem s_asgT {st : Stmt} {i : Nat} {Te : TDs} (O'' : List Nat) (h : ∃ t, PS X st (tAsg t (gName i)) ∧ LR X.K t Te) (hO : ∀ i ∈ O'', i ∈ O := by decide) (hio : ∀ i ∈ O, i ∈ C.io → i ∈ O'' := by decide) : S1 C X Ol O st (O''.filter (· ∉ [i])) (sAsg O'' (fName i) (tL Te)) := by
  obtain ⟨t, p, k⟩ := h
  exact ⟨_, p, run_asg O'' k.er (tr_name i) hO hio⟩

/-! ### a, b = x, y -/
def sPar (O'' : List Nat) (i j : Nat) (Ta : TDs) : TDS := fun Dd ρ n => Ta (hide O'' ρ) n fun ds n => ∃ d e, ds = [d, e] ∧ Dd.nx ((ρ.set i (some d)).set j (some e)) n
theorem s_par {st : Stmt} {es : List Expr} {i j : Nat} {Ta : TDs} (O'' : List Nat) (mk : ∀ ta, PA X es ta → PS X st (tPar i j ta)) (h : AD X es Ta) (hO : ∀ i ∈ O'', i ∈ O := by decide) (hio : ∀ i ∈ O, i ∈ C.io → i ∈ O'' := by decide) : S1 C X Ol O st ((O''.filter (· ∉ [i])).filter (· ∉ [j])) (sPar O'' i j Ta) := by
  obtain ⟨t, p, k⟩ := h
  refine ⟨_, mk _ p, fun σ H G G0 H0 pn F n ρ Dd S hT E ke => ?_⟩
  obtain ⟨Ge, s1, _, A, st⟩ := S.step O'' hO hio
  refine k σ H Ge pn n _ _ A hT _ fun vs H1 ⟨ds, n1, g1, r1, d, e, hd, hq⟩ => ?_
  subst hd
  obtain ⟨v, w, rfl, r2, r3⟩ := reps2 r1
  have S1 := st H1 _ n1 g1 sub_ext (Sub.refl _)
  refine ⟨v, w, rfl, ?_⟩
  have same : ∀ (i : Nat) {α : Type} (l : List α) (x : α) (k : Nat), k ∉ [i] → (l.set i x)[k]? = l[k]? := fun i α l x k hk => List.getElem?_set_ne fun e => hk (by simp [e])
  have S2 := S1.set (ts := [i]) (S1.env.set i r2 S1.len) (by simp) (by simp) fun k hk => ⟨same i _ _ k hk, same i _ _ k hk⟩
  have S3 := S2.set (ts := [j]) (S2.env.set j r3 S2.len) (by simp) (by simp) fun k hk => ⟨same j _ _ k hk, same j _ _ k hk⟩
  exact ke.nx _ H1 _ _ n1 (s1.trans sub_ext) S3 hq

/-! ### a list of one's own changed -/
def sApp (O'' : List Nat) (i : Nat) (Te : TD) : TDS := fun Dd ρ n => Te (hide O'' ρ) n fun d n => ∃ ds, ρ[i]? = some (some (.lst ds)) ∧ ds.length < LIM ∧ Dd.nx (ρ.set i (some (.lst (ds ++ [d])))) n
theorem s_app {st : Stmt} {e : Expr} {i : Nat} {Te : TD} (O'' : List Nat) (mk : ∀ te, PE X e te → PS X st (tDrop (tBM X.K "list" rAppend (tVar i) (tCons te tNil)))) (h : ED X e Te) (hi : i ∈ O'' := by decide) (hO : ∀ i ∈ O'', i ∈ O := by decide) (hio : ∀ i ∈ O, i ∈ C.io → i ∈ O'' := by decide) (hk : i ∉ C.dk := by decide) : S1 C X Ol O st O'' (sApp O'' i Te) := by
  obtain ⟨t, p, k⟩ := h
  refine ⟨_, mk _ p, fun σ H G G0 H0 pn F n ρ Dd S hT E ke => ?_⟩
  obtain ⟨Ge, s1, _, A, st⟩ := S.step O'' hO hio
  obtain ⟨B, own, _⟩ := S.own
  obtain ⟨ds0, vs0, f1, f2, f3, f4⟩ := (own i (hO i hi)).lst hk
  refine ⟨_, f2, .inl ⟨rfl, _, .inl (.inl f3)⟩, ?_⟩
  refine k σ H Ge pn n _ _ A hT _ fun v H1 ⟨d, n1, g1, r1, ds, hd, hl, hq⟩ => ?_
  have S1 := st H1 _ n1 g1 sub_ext (Sub.refl _)
  obtain ⟨B1, own1, _⟩ := S1.own
  obtain ⟨ds1, vs1, e1, e2, e3, e4⟩ := (own1 i hi).lst hk
  obtain ⟨_, e5, e6⟩ := own1 i hi
  rw [f2] at e2
  have hB : B i = B1 i := by
    injection e2 with e2
    injection e2 with e2
    injection e2
  rw [hd] at e1
  cases e1
  rw [hB]
  refine ⟨_, vs1, v, rfl, rfl, e3, lim_lt (by rw [Reps.length e4]; omega), ?_⟩
  have hlen : i < ρ.length := by
    obtain ⟨q, _⟩ := List.getElem?_eq_some_iff.mp hd
    exact q
  exact ke.nx _ _ _ _ n1 (s1.trans sub_ext) (S1.mut hi (by rw [f2, hB]) e3 e5 e6 (by rw [decide_eq_false hk]; exact .ofLst (Reps.append e4 (show Reps X.K pn _ [v] [d] from ⟨v, [], rfl, r1, rfl⟩))) hlen) hq
def sAppP (i : Nat) (Te : TD) : TDS := fun Dd ρ n => Te ρ n fun d n => pureD d = true ∧ ∃ ds, ρ[i]? = some (some (.lst ds)) ∧ ds.length < LIM ∧ Dd.nx (ρ.set i (some (.lst (ds ++ [d])))) n
theorem s_appP {st : Stmt} {e : Expr} {i : Nat} {Te : TD} (mk : ∀ te, PE X e te → PS X st (tDrop (tBM X.K "list" rAppend (tVar i) (tCons te tNil)))) (h : ED X e Te) (hi : i ∈ O := by decide) (hk : i ∉ C.dk := by decide) : S1 C X Ol O st O (sAppP i Te) := by
  obtain ⟨t, p, k⟩ := h
  refine ⟨_, mk _ p, fun σ H G G0 H0 pn F n ρ Dd S hT E ke => ?_⟩
  obtain ⟨Ge, s1, A, st⟩ := S.stepP
  obtain ⟨B, own, _⟩ := S.own
  obtain ⟨ds0, vs0, f1, f2, f3, f4⟩ := (own i hi).lst hk
  refine ⟨_, f2, .inl ⟨rfl, _, .inl (.inl f3)⟩, ?_⟩
  refine k σ H Ge pn n _ _ A hT _ fun v H1 ⟨d, n1, g1, r1, hp, ds, hd, hl, hq⟩ => ?_
  obtain ⟨Gf, s2, _, mk2, tl, _⟩ := st H1 n1 g1
  have S1 := mk2 _ sub_ext (Sub.refl _)
  obtain ⟨B1, own1, _⟩ := S1.own
  obtain ⟨ds1, vs1, e1, e2, e3, e4⟩ := (own1 i hi).lst hk
  obtain ⟨_, e5, e6⟩ := own1 i hi
  rw [f2] at e2
  have hB : B i = B1 i := by
    injection e2 with e2
    injection e2 with e2
    injection e2
  rw [hd] at e1
  cases e1
  rw [hB]
  refine ⟨_, vs1, v, rfl, rfl, e3, lim_lt (by rw [Reps.length e4]; omega), ?_⟩
  have hlen : i < ρ.length := by
    obtain ⟨q, _⟩ := List.getElem?_eq_some_iff.mp hd
    exact q
  exact ke.nx _ _ _ _ n1 (s2.trans sub_ext) (S1.mut hi (by rw [f2, hB]) e3 e5 e6 (by rw [decide_eq_false hk]; exact .ofLst (Reps.append e4 (show Reps X.K pn _ [v] [d] from ⟨v, [], rfl, Rep.pure tl _ _ hp r1, rfl⟩))) hlen) hq
def sRem (i : Nat) (Te : TD) : TDS := fun Dd ρ n => Te ρ n fun d n => ∃ (ns : List Int) (k : Int), d = .int k ∧ ρ[i]? = some (some (.lst (ns.map D.int))) ∧ k ∈ ns ∧ Dd.nx (ρ.set i (some (.lst ((ns.erase k).map D.int)))) n
def sSet (i : Nat) (Te Ti : TD) : TDS := fun Dd ρ n => Te ρ n fun d n => Ti ρ n fun z n => pureD d = true ∧ ∃ ds k j, z = .int k ∧ ρ[i]? = some (some (.lst ds)) ∧ ixN ds.length k = some j ∧ Dd.nx (ρ.set i (some (.lst (ds.set j d)))) n
theorem s_set {st : Stmt} {e ix : Expr} {i : Nat} {Te Ti : TD} (mk : ∀ te ti, PE X e te → PE X ix ti → PS X st (tAsg te (gSub (tVar i) ti rSetL))) (h : ED X e Te) (h2 : ED X ix Ti) (hi : i ∈ O := by decide) (hk : i ∉ C.dk := by decide) : S1 C X Ol O st O (sSet i Te Ti) := by
  obtain ⟨t, p, k⟩ := h
  obtain ⟨t2, p2, k2⟩ := h2
  refine ⟨_, mk _ _ p p2, fun σ H G G0 H0 pn F n ρ Dd S hT E ke => ?_⟩
  obtain ⟨Ge, s1, A, st⟩ := S.stepP
  refine k σ H Ge pn n _ _ A hT _ fun v H1 ⟨d, n1, g1, r1, hT2⟩ => ?_
  have A1 := A.go g1
  obtain ⟨B, own, _⟩ := S.own
  obtain ⟨ds0, vs0, f1, f2, f3, f4⟩ := (own i hi).lst hk
  refine ⟨_, f2, ?_⟩
  refine k2 σ H1 _ pn n1 _ _ A1 hT2 _ fun w H2 ⟨z, n2, g2, r2, hp, ds, kk, j, hz, hd, hj, hq⟩ => ?_
  subst hz
  obtain ⟨Gf, s2, _, mk2, tl, _⟩ := st H2 n2 (g1.trans g2)
  have S1 := mk2 _ sub_ext (Sub.refl _)
  obtain ⟨B1, own1, _⟩ := S1.own
  obtain ⟨ds1, vs1, e1, e2, e3, e4⟩ := (own1 i hi).lst hk
  obtain ⟨_, e5, e6⟩ := own1 i hi
  rw [f2] at e2
  have hB : B i = B1 i := by
    injection e2 with e2
    injection e2 with e2
    injection e2
  rw [hd] at e1
  cases e1
  have rv := Rep.mono (sub_ext (G := ext Ge H H1) (H := H1) (H' := H2)) _ _ r1
  rw [A.ext_ext g1 g2] at rv
  rw [hB]
  refine ⟨_, vs1, kk, j, rfl, r2, e3, by rw [Reps.length e4]; exact hj, ?_⟩
  have hlen : i < ρ.length := by
    obtain ⟨q, _⟩ := List.getElem?_eq_some_iff.mp hd
    exact q
  exact ke.nx _ _ _ _ n2 (s2.trans sub_ext) (S1.mut hi (by rw [f2, hB]) e3 e5 e6 (by rw [decide_eq_false hk]; exact .ofLst (Reps.set (Rep.pure tl _ _ hp rv) j e4)) hlen) hq

/-! ### for -/
def forD (f : D → Env → Option Env) (Tb : TDS) (Dd : DE) : List D → Env → Nat → Prop
  | [], ρ, n => Dd.nx ρ n
  | d :: ds, ρ, n => ∃ ρ', f d ρ = some ρ' ∧ Tb { nx := forD f Tb Dd ds, rt := Dd.rt, bk := Dd.nx, ct := forD f Tb Dd ds } ρ' n
def sFor (O'' : List Nat) (Tw : TDs) (f : D → Env → Option Env) (Tb : TDS) : TDS := fun Dd ρ n => Tw (hide O'' ρ) n fun ds n => forD f Tb Dd ds ρ n
theorem s_for {tg iter : Expr} {body : List Stmt} {pos : Pos} {g : TG} {f : D → Env → Option Env} {ts : List Nat} {Tw : TDs} {Tb : TDS} (O'' Ob : List Nat) (hp : PassesOwn (model X.prog X.w) X.A X.env X.xe) (hc : X.calm = true) (hw : WD X tg iter Tw) (hg : PG X tg g) (tr : TgRun X.K g f ts) (hb : SD C X O'' O'' body Ob Tb) (hfs : ∀ x, foldedSetIterable iter X.env x = pure x := by intro _; rfl)
    (hO : ∀ i ∈ O'', i ∈ O := by decide) (hts : ∀ i ∈ ts, i ∉ O'' := by decide) (hOb : ∀ i ∈ O'', i ∈ Ob := by decide) (hio : ∀ i ∈ O, i ∈ C.io → i ∈ O'' := by decide) (hiob : ∀ i ∈ Ob, i ∈ C.io → i ∈ O'' := by decide) : S1 C X Ol O (.For tg iter body [] pos) O'' (sFor O'' Tw f Tb) := by
  obtain ⟨wi, pi, kw⟩ := hw
  obtain ⟨tb, pb, kb⟩ := hb
  refine ⟨_, ps_for hp hc pi hg pb hfs, fun σ H G G0 H0 pn F n ρ Dd S hT E ke => ?_⟩
  obtain ⟨Ge, s1, _, A, st⟩ := S.step O'' hO hio
  refine kw σ H Ge pn n _ _ A hT _ fun J ds n1 H1 g1 hq w => ?_
  have S1 := st H1 _ n1 g1 sub_ext (Sub.refl _)
  have filt : O''.filter (· ∉ ts) = O'' := List.filter_eq_self.mpr fun i hi => decide_eq_true fun z => hts i z hi
  refine ⟨fun i m σ' H' => ∃ ρ' n' G', m = ds.length - i ∧ i ≤ ds.length ∧ Sat C X.K pn F G0 H0 G' H' σ' ρ' O'' n' ∧ Sub (ext Ge H H1) G' ∧ forD f Tb Dd (ds.drop i) ρ' n', ⟨ds.length, ρ, n1, _, by simp, Nat.zero_le _, S1, Sub.refl _, hq⟩, ?_⟩
  rintro i m σ' H' ⟨ρ', n', G', rfl, hi, S2, sG, hf⟩
  by_cases hlt : i < ds.length
  · refine .inr ⟨w.go i H' (sG.trans S2.sub) hlt, fun σ3 H3 => ∃ ρ3 n3 G3, Sat C X.K pn F G0 H0 G3 H3 σ3 ρ3 O'' n3 ∧ Sub (ext Ge H H1) G3 ∧ forD f Tb Dd (ds.drop (i + 1)) ρ3 n3, fun σ3 H3 ⟨a, b, c, x, y, z⟩ => ⟨ds.length - (i + 1), by omega, a, b, c, rfl, hlt, x, y, z⟩, fun x H3 y => ?_⟩
    obtain ⟨s3, y3⟩ := w.yld i H' x H3 (sG.trans S2.sub) y
    rw [show ds.drop i = ds[i] :: ds.drop (i + 1) from List.drop_eq_getElem_cons hlt] at hf
    obtain ⟨ρ4, hρ, hb4⟩ := hf
    obtain ⟨Gx, sx, _, Ax, stx⟩ := S2.step O'' (fun _ h => h) (fun _ h _ => h)
    have gx : Go pn Gx H' H3 n' := Go.of_sub Ax.pst s3
    have S3 := stx H3 _ n' gx sub_ext (Sub.refl _)
    have r3 := y3 ds[i] (List.getElem?_eq_getElem hlt) Gx (sG.trans sx) Ax.sub
    refine tr.run σ' H3 _ pn O'' x ds[i] ρ' ρ4 S3.sub r3 hρ S3.env S3.len _ fun σ5 env5 l1 l2 same => ?_
    have S5 := S3.set env5 l1 l2 same
    rw [filt] at S5
    have sG5 : Sub (ext Ge H H1) (ext Gx H' H3) := (sG.trans sx).trans sub_ext
    refine kb σ5 H3 _ G0 H0 pn F n' ρ4 _ S5 hb4 _ ⟨fun σ6 H6 G6 ρ6 n6 s6 S6 h6 => ?_, fun v H6 G6 σ6 ρ6 d6 n6 s6 => ke.rt v H6 G6 σ6 ρ6 d6 n6 (((s1.trans sub_ext).trans sG5).trans s6), fun σ6 H6 G6 ρ6 n6 s6 S6 h6 => ?_, fun σ6 H6 G6 ρ6 n6 s6 S6 h6 => ?_⟩
    · obtain ⟨G7, s7, S7⟩ := S6.weak O'' hOb hiob
      exact ⟨ρ6, n6, G7, S7, (sG5.trans s6).trans s7, h6⟩
    · exact ke.nx σ6 H6 G6 ρ6 n6 (((s1.trans sub_ext).trans sG5).trans s6) S6 h6
    · exact ⟨ρ6, n6, G6, S6, sG5.trans s6, h6⟩
  · refine .inl ⟨w.stop i H' (sG.trans S2.sub) (by omega), ?_⟩
    rw [List.drop_eq_nil_of_le (by omega)] at hf
    exact ke.nx σ' H' G' ρ' n' ((s1.trans sub_ext).trans sG) S2 hf
def sBreak : TDS := fun Dd ρ n => Dd.bk ρ n
def sCont : TDS := fun Dd ρ n => Dd.ct ρ n
theorem s_break {pos : Pos} (hO : ∀ i ∈ Ol, i ∈ O := by decide) (hio : ∀ i ∈ O, i ∈ C.io → i ∈ Ol := by decide) : S1 C X Ol O (.Break pos) O' sBreak := ⟨_, ps_break, fun σ H G G0 H0 pn F n ρ Dd S hT E ke => by
  obtain ⟨G7, s7, S7⟩ := S.weak Ol hO hio
  exact ke.bk σ H G7 ρ n s7 S7 hT⟩
theorem s_cont {pos : Pos} (hO : ∀ i ∈ Ol, i ∈ O := by decide) (hio : ∀ i ∈ O, i ∈ C.io → i ∈ Ol := by decide) : S1 C X Ol O (.Continue pos) O' sCont := ⟨_, ps_continue, fun σ H G G0 H0 pn F n ρ Dd S hT E ke => by
  obtain ⟨G7, s7, S7⟩ := S.weak Ol hO hio
  exact ke.ct σ H G7 ρ n s7 S7 hT⟩
end

/-! ### a def -/
def startE (m : Nat) (ds : List D) : Env := ds.map some ++ List.replicate (m - ds.length) none
/-- what a def's body is worth over data -/
def fnD (np m : Nat) (T : TDS) : FT := fun ds n q => ds.length = np ∧ T { nx := fun _ n => q .non n, rt := q, bk := fun _ _ => False, ct := fun _ _ => False } (startE m ds) n
theorem env_start {K : PySem.W.Frag} {pn : Pn} {G : Hp} {N : List Str} : ∀ {ds : List D} {vs : List V}, Reps K pn G vs ds → EnvOk K pn G [] (start N vs) (startE N.length ds) := fun {ds vs} r i d _ h => by
  unfold startE at h
  unfold L2.start
  have hl := Reps.length r
  by_cases hi : i < ds.length
  · rw [List.getElem?_append_left (by simpa using hi), List.getElem?_map] at h
    cases e : ds[i]? with
    | none => rw [e] at h; cases h
    | some d' =>
      rw [e] at h
      cases h
      obtain ⟨v, h1, h2⟩ := Reps.get r e
      exact ⟨v, by rw [List.getElem?_append_left (by simp; omega), List.getElem?_map, h1]; rfl, h2⟩
  · rw [List.getElem?_append_right (by simp; omega)] at h
    rw [List.getElem?_replicate] at h
    split at h
    · cases h
    · cases h
theorem Post.of_io {C : Cn} {K : PySem.W.Frag} {pn : Pn} {G0 H0 G H : Hp} {σ : L2.St} {ρ : Env} {n : Nat} {v : V} {d : D} {q : QD} (S : Sat C K pn noF G0 H0 G H σ ρ [] n) (r : Rep K pn G v d) (h : q d n) : Post K pn G0 H0 q v H :=
  ⟨d, n, ⟨S.ex.ex, fun a c e => (S.pst a c e).1⟩, Rep.mono S.out d v r, h⟩
theorem fn_D {P : Program} {w : World} {K : PySem.W.Frag} {mg : Str → Option Value} {base : Heap} {x qual : Str} {st : Stmt} {f : Addr} {fd : FuncData} {N ps : List Str} {k : Nat} {T : TDS} (np m : Nat) (hm : N.length = m) (hnp : ps.length = np) (hle : np ≤ m) (F : Fun K x qual st f fd) (S : FnScope N ps (defScope st)) (dk : List Nat)
    (hbody : ∀ (cdv : Value) (A : Around) (outer : List PySem.Env) (s : Shared) (H : Hp) (E : XK), Room k (A.deeper (envOfC qual (defScope st) s.heap.objs.size f cdv)) →
      ∃ O', SD ⟨dk, []⟩ (cxOf CX0 P w K mg base N qual (defScope st) f cdv A outer s H E).nox [] [] (defBody st) O' T) : FnOk P w K mg base CX0 (k + 1) f fd ps (lift K np (fnD np m T)) := by
  refine F.ok S (fun vs H Q E h => by rw [hnp]; exact h.1) (fun cdv A outer s H vs Q E hr h => ?_)
  obtain ⟨hl, pn, G, n, ds, q, sG, hp, r, ⟨hds, hT⟩, kq⟩ := h
  obtain ⟨O', t, p, run⟩ := hbody cdv A outer s H E hr
  refine ⟨t, p, run (start N vs) H G G H pn noF n (startE m ds) _ ⟨sG, Sub.refl _, fun a o h => .inl h, ExF.refl _ _ _, hp, fun a c e => ?_, fun a h => h.elim, ⟨fun _ => 0, ⟨fun i hi => absurd hi (by simp), fun i hi => absurd hi (by simp)⟩⟩, by rw [← hm]; exact env_start r, ?_⟩ hT _ ⟨fun σ1 H1 G1 ρ1 n1 s1 S1 h1 => ?_, fun v H1 G1 σ1 ρ1 d n1 s1 S1 r1 h1 => kq v H1 (Post.of_io S1 r1 h1), fun _ _ _ _ _ _ _ h => h.elim, fun _ _ _ _ _ _ _ h => h.elim⟩⟩
  · obtain ⟨⟨⟨x, y, h1, _⟩, ⟨ns, h2, _⟩, _⟩, _⟩ := hp a c e
    exact ⟨⟨_, h1⟩, ⟨_, h2⟩⟩
  · unfold L2.start startE
    simp only [List.length_append, List.length_map, List.length_replicate]
    omega
  · obtain ⟨G7, s7, S7⟩ := S1.weak [] (fun _ h => nomatch h) (fun _ _ h => nomatch h)
    exact kq _ H1 (Post.of_io (d := .non) S7 (show V.non = V.non from rfl) h1)
end DL
namespace DL
open PySem PySem.Spec PyProof.Rows L2
section
variable {C : Cn} {X : Cx} {Ol O O' O'' : List Nat}
def tTupD (T : TDs) : TD := fun ρ n q => T ρ n fun ds n => ds.length ≤ LIM ∧ q (.tup ds) n
def tLstD (T : TDs) : TD := fun ρ n q => T ρ n fun ds n => ds.length ≤ LIM ∧ q (.lst ds) n
def lLstD (T : TDs) : TDs := fun ρ n q => T ρ n fun ds n => ds.length ≤ LIM ∧ q ds n
def bVal (T : TD) : TDb := fun ρ n q => T ρ n fun d n => ∃ b, d = .bl b ∧ q b n
def bCmp (f : D → D → Option D) (Ta Tb : TD) : TDb := fun ρ n q => tOpD f Ta Tb ρ n fun d n => ∃ b, d = .bl b ∧ q b n
theorem ed_tupT {es : List Expr} {x1 : Nat} {pos : Pos} {T : TDs} (h : AD X es T) : ED X (.Tuple es x1 pos) (tTupD T) := ed_tup h
theorem ed_lstT {es : List Expr} {pos : Pos} {T : TDs} (h : AD X es T) : ED X (.List es pos) (tLstD T) := ed_lst h
theorem ld_lstT {es : List Expr} {pos : Pos} {T : TDs} (h : AD X es T) : LD X (.List es pos) (lLstD T) := ld_lst h
theorem bd_valT {e : Expr} {T : TD} (h : ED X e T) (he : ∀ whole, isTrue e X.env whole = (do let v ← whole; standAt e.pos; holding [v] (truthy v)) := by intro _; rfl) : BD X e (bVal T) := bd_val h he
theorem bd_cmpT {op : CmpOp} {a b : Expr} {pos : Pos} {Ta Tb : TD} {r : R2} {f : D → D → Option D} (o : OpR X (compareOp op) r) (hm : behindInMarks op b = false) (h : Op2 X r f) (ha : ED X a Ta) (hb : ED X b Tb) : BD X (.Compare a [op] [b] pos) (bCmp f Ta Tb) := bd_cmp o hm h ha hb
def bChain (f g : D → D → Option D) (Ta Tb Tc : TD) : TDb := fun ρ n q => Ta ρ n fun x n => Tb ρ n fun y n => ∃ k, f x y = some (.bl k) ∧ if k = true then Tc ρ n fun z n => ∃ w, g y z = some (.bl w) ∧ q w n else q false n
theorem bd_chain {op op' : CmpOp} {a b c : Expr} {pos : Pos} {Ta Tb Tc : TD} {r r' : R2} {f g : D → D → Option D} (o : OpR X (compareOp op) r) (o' : OpR X (compareOp op') r') (h : Op2 X r f) (h' : Op2 X r' g) (ha : ED X a Ta) (hb : ED X b Tb) (hc : ED X c Tc)
    (hm : lastMarks [op, op'] [b, c] = false := by with_unfolding_all rfl) : BD X (.Compare a [op, op'] [b, c] pos) (bChain f g Ta Tb Tc) := by
  obtain ⟨ta, pa, ka⟩ := ha
  obtain ⟨tb, pb, kb⟩ := hb
  obtain ⟨tc, pc, kc⟩ := hc
  refine ⟨_, pt_chain o o' pa pb pc hm, fun σ H G pn n ρ q A hT Q k => ?_⟩
  refine ka σ H G pn n ρ _ A hT _ fun x H1 ⟨d, n1, g1, r1, hT2⟩ => ?_
  have A1 := A.go g1
  refine kb σ H1 _ pn n1 ρ _ A1 hT2 _ fun y H2 ⟨e, n2, g2, r2, c, hz, hq⟩ => ?_
  have A2 := A1.go g2
  refine h _ H2 pn n2 x y d e _ A2.sub A2.pst (Rep.mono sub_ext d x r1) r2 hz _ fun v H3 g3 r3 => ⟨c, r3, ?_⟩
  have A3 := A2.go g3
  have g123 := (g1.trans g2).trans g3
  cases c with
  | false => exact ⟨false, rfl, k _ H3 ⟨n2, g123, hq⟩⟩
  | true =>
    refine kc σ H3 _ pn n2 ρ _ A3 hq _ fun w H4 ⟨d4, n4, g4, r4, z, hz4, hq4⟩ => ?_
    have A4 := A3.go g4
    exact h' _ H4 pn n4 y w e d4 _ A4.sub A4.pst (Rep.mono sub_ext e y (Rep.mono sub_ext e y r2)) r4 hz4 _ fun v5 H5 g5 r5 => ⟨z, r5, k z H5 ⟨n4, (g123.trans g4).trans g5, hq4⟩⟩
/-! ### a list or a tuple, walked -/
def wAny (Ta : TD) : TDs := fun ρ n q => Ta ρ n fun d n => ∃ ds, (d = .lst ds ∨ d = .tup ds) ∧ q ds n
theorem wd_seq {tg e : Expr} {T : TD} (h : ED X e T) : WD X tg e (wAny T) := by
  have hp := ed_can h
  -- both walks over one evaluation
  refine ⟨fun σ H R => ∃ (G : Hp) (pn : Pn) (n : Nat) (ρ : DL.Env) (q : List D → Nat → Prop), At X.K pn G H σ ρ n ∧ wAny T ρ n q ∧ ∀ J ds n' H', Go pn G H H' n' → q ds n' → Walks X.K pn J (ext G H H') ds → R J H', ⟨fun pins s σ H R I ⟨G, pn, n, ρ, q, A, hT, kr⟩ => ?_⟩, fun σ H G pn n ρ q A hT R kr => ⟨G, pn, n, ρ, q, A, hT, kr⟩⟩
  refine thn (hp.run pins s σ H (fun v H1 => ∃ ds n1, Go pn G H H1 n1 ∧ q ds n1 ∧ (Rep X.K pn (ext G H H1) v (.lst ds) ∨ Rep X.K pn (ext G H H1) v (.tup ds))) I ⟨G, pn, n, ρ, _, A, hT, fun v H1 ⟨d, n1, g1, r1, ds, hd, hq⟩ => ⟨ds, n1, g1, hq, by
    rcases hd with rfl | rfl
    · exact .inl r1
    · exact .inr r1⟩⟩) fun u s1 ⟨v, H1, I1, ru, ds, n1, g1, hq, hr⟩ => ?_
  have A1 := A.go g1
  rcases hr with hr | hr
  · obtain ⟨a, vs, rfl, h1, h2⟩ := hr
    obtain rfl : u = Value.ref a := ru
    obtain ⟨its, rv, pl, hz⟩ := I1.list (SqL.of (A1.sub _ _ h1))
    refine wpAny_pyIter_list pl.isList ⟨s1.heap.objs.size, [s1.heap.objs.size], _, _, H1, rfl, I1.kept (t' := s1.toks) (fun b o e => Heap.get?_push_of_some _ e), turn_list a _, ⟨_, Heap.get?_push_size _ rfl, rfl, rfl⟩, fun b hb => ?_, kr _ ds n1 H1 g1 hq (walks_lst h1 h2)⟩
    obtain rfl : b = s1.heap.objs.size := by simpa using hb
    exact I1.fpOk (Nat.le_refl _) (I1.hok.fresh (Nat.le_refl _))
  · obtain ⟨a, vs, rfl, h1, h2⟩ := hr
    obtain rfl : u = Value.ref a := ru
    obtain ⟨its, rv, pl, hz⟩ := I1.tuple (A1.sub.sqT h1)
    refine wpAny_pyIter_tuple (show s1.heap.IsTuple a its.toArray from pl) ⟨s1.heap.objs.size, [s1.heap.objs.size], _, _, H1, rfl, I1.kept (t' := s1.toks) (fun b o e => Heap.get?_push_of_some _ e), turn_tuple a _, ⟨_, Heap.get?_push_size _ rfl, rfl, rfl⟩, fun b hb => ?_, kr _ ds n1 H1 g1 hq (walks_tup h1 h2)⟩
    obtain rfl : b = s1.heap.objs.size := by simpa using hb
    exact I1.fpOk (Nat.le_refl _) (I1.hok.fresh (Nat.le_refl _))
/-! ### list(range(..)) -/
def tList_range1 (Ta : TDs) : TD := fun ρ n q => Ta ρ n fun ds n => ∃ j : Int, ds = [.int j] ∧ 0 ≤ j ∧ j ≤ LIM ∧ q (.lst (rangeD 0 j.toNat)) n
def tList_range2 (Ta : TDs) : TD := fun ρ n q => Ta ρ n fun ds n => ∃ i j : Int, ds = [.int i, .int j] ∧ 0 ≤ i ∧ i ≤ LIM ∧ 0 ≤ j ∧ j ≤ LIM ∧ q (.lst (rangeD i (j - i).toNat)) n
def lList_range1 (Ta : TDs) : TDs := fun ρ n q => Ta ρ n fun ds n => ∃ j : Int, ds = [.int j] ∧ 0 ≤ j ∧ j ≤ LIM ∧ q (rangeD 0 j.toNat) n
def lList_range2 (Ta : TDs) : TDs := fun ρ n q => Ta ρ n fun ds n => ∃ i j : Int, ds = [.int i, .int j] ∧ 0 ≤ i ∧ i ≤ LIM ∧ 0 ≤ j ∧ j ≤ LIM ∧ q (rangeD i (j - i).toNat) n
theorem rgV_rep {K : PySem.W.Frag} {pn : Pn} {G : Hp} {i j : Int} : Reps K pn G (rgV i j) (rangeD i (j - i).toNat) := by
  have h1 : rangeD i (j - i).toNat = ((List.range (j - i).toNat).map fun (k : Nat) => i + (k : Int)).map D.int := by
    unfold rangeD
    rw [List.map_map]
    rfl
  have h2 : rgV i j = ((List.range (j - i).toNat).map fun (k : Nat) => i + (k : Int)).map V.int := by
    unfold rgV
    rw [List.map_map]
    rfl
  rw [h1, h2]
  exact Reps.ints.mpr rfl
theorem rgOk_lim {i j : Int} (h0 : 0 ≤ i) (h1 : i ≤ LIM) (h2 : 0 ≤ j) (h3 : j ≤ LIM) : RgOk i j := by
  have : (LIM : Int) = 1000000 := rfl
  exact RgOk.of_le h0 (by omega) (by omega) h2
theorem ad1 {a : Expr} {Ta : TD} (h : ED X a Ta) : True := trivial
theorem ld_list_range1 {a : Expr} {Ta : TD} {p p2 q pos : Pos} (B : NoB X.mg) (hc : X.calm = true) (hg : Gl X "list") (hg2 : Gl X "range") (h : ED X a Ta) (na : starEach [a] X.env = (false, eval a X.env) :: starEach [] X.env := by rfl)
    (nb : starEach [.Call (.Name "range" p2) [a] [] q] X.env = (false, eval (.Call (.Name "range" p2) [a] [] q) X.env) :: starEach [] X.env := by rfl) : LD X (.Call (.Name "list" p) [.Call (.Name "range" p2) [a] [] q] [] pos) (lList_range1 (aCons Ta aNil)) := by
  obtain ⟨t, pa, k⟩ := h
  refine ⟨_, pe_listRg hc hg (B _ (by decide)) (prg_1 hg2 (B _ (by decide)) pa na) nb, LR.of_new fun σ H G pn n ρ q A hT Q kq => ?_⟩
  refine k σ H G pn n ρ _ A hT _ fun v H1 ⟨d, n1, g1, r1, j, hd, h0, h1, hq⟩ => ?_
  cases hd
  refine ⟨j, r1, rgOk_lim (by omega) (by omega) h0 h1, fun p hp => kq _ _ H1 n1 p g1 rgV_rep ?_ hp⟩
  rw [show j - 0 = j by omega]
  exact hq
theorem ld_list_range2 {a b : Expr} {Ta Tb : TD} {p p2 q pos : Pos} (B : NoB X.mg) (hc : X.calm = true) (hg : Gl X "list") (hg2 : Gl X "range") (h : ED X a Ta) (h2 : ED X b Tb) (na : starEach [a, b] X.env = (false, eval a X.env) :: starEach [b] X.env := by rfl) (na2 : starEach [b] X.env = (false, eval b X.env) :: starEach [] X.env := by rfl) (npl : (backTo q (starEach [b] X.env)).any (·.1) = false := by rfl)
    (nb : starEach [.Call (.Name "range" p2) [a, b] [] q] X.env = (false, eval (.Call (.Name "range" p2) [a, b] [] q) X.env) :: starEach [] X.env := by rfl) : LD X (.Call (.Name "list" p) [.Call (.Name "range" p2) [a, b] [] q] [] pos) (lList_range2 (aCons Ta (aCons Tb aNil))) := by
  obtain ⟨t, pa, k⟩ := h
  obtain ⟨t2, pa2, k2⟩ := h2
  refine ⟨_, pe_listRg hc hg (B _ (by decide)) (prg_2 hg2 (B _ (by decide)) pa pa2 na na2 npl) nb, LR.of_new fun σ H G pn n ρ q A hT Q kq => ?_⟩
  refine k σ H G pn n ρ _ A hT _ fun v H1 ⟨d, n1, g1, r1, hT2⟩ => ?_
  have A1 := A.go g1
  refine k2 σ H1 _ pn n1 ρ _ A1 hT2 _ fun w H2 ⟨e, n2, g2, r2, i, j, hd, b1, b2, b3, b4, hq⟩ => ?_
  cases hd
  exact ⟨i, j, r1, r2, rgOk_lim b1 b2 b3 b4, fun p hp => kq _ _ H2 n2 p (g1.trans g2) rgV_rep hq hp⟩
theorem LD.ed {e : Expr} {T : TDs} (h : LD X e T) : ED X e (tL T) := by
  obtain ⟨t, p, k⟩ := h
  exact ⟨t, p, k.er⟩
theorem s_rem {st : Stmt} {e : Expr} {i : Nat} {Te : TD} (mk : ∀ te, PE X e te → PS X st (tDrop (tBM X.K "list" rRemI (tVar i) (tCons te tNil)))) (h : ED X e Te) (hi : i ∈ O := by decide) (hk : i ∉ C.dk := by decide) : S1 C X Ol O st O (sRem i Te) := by
  obtain ⟨t, p, k⟩ := h
  refine ⟨_, mk _ p, fun σ H G G0 H0 pn F n ρ Dd S hT E ke => ?_⟩
  obtain ⟨Ge, s1, A, st⟩ := S.stepP
  obtain ⟨B, own, _⟩ := S.own
  obtain ⟨ds0, vs0, f1, f2, f3, f4⟩ := (own i hi).lst hk
  refine ⟨_, f2, .inl ⟨rfl, _, .inl (.inl f3)⟩, ?_⟩
  refine k σ H Ge pn n _ _ A hT _ fun v H1 ⟨d, n1, g1, r1, ns, kk, hd, hρ, hm, hq⟩ => ?_
  subst hd
  obtain ⟨Gf, s2, _, mk2, tl, _⟩ := st H1 n1 g1
  have S1 := mk2 _ sub_ext (Sub.refl _)
  obtain ⟨B1, own1, _⟩ := S1.own
  obtain ⟨ds1, vs1, e1, e2, e3, e4⟩ := (own1 i hi).lst hk
  obtain ⟨_, e5, e6⟩ := own1 i hi
  rw [f2] at e2
  have hB : B i = B1 i := by
    injection e2 with e2
    injection e2 with e2
    injection e2
  rw [hρ] at e1
  cases e1
  rw [hB]
  have hv := Reps.ints.mp e4
  subst hv
  obtain ⟨j, hj, hmin⟩ : ∃ j : Nat, ns[j]? = some kk ∧ (∀ m : Nat, m < j → ns[m]? ≠ some kk) ∧ ns.eraseIdx j = ns.erase kk := by
    have hlt : ns.findIdx (· == kk) < ns.length := List.findIdx_lt_length_of_exists ⟨kk, hm, by simp⟩
    refine ⟨ns.idxOf kk, ?_, fun m hmj e => ?_, ?_⟩
    · show ns[ns.findIdx (· == kk)]? = some kk
      rw [List.getElem?_eq_getElem hlt]
      have := List.findIdx_getElem (w := hlt)
      simpa using this
    · have hlt : m < ns.length := (List.getElem?_eq_some_iff.mp e).1
      have := List.not_of_lt_findIdx (p := (· == kk)) (xs := ns) hmj
      have e' : ns[m] = kk := (List.getElem?_eq_some_iff.mp e).2
      simp [e'] at this
    · exact (List.erase_eq_eraseIdx_of_idxOf rfl).symm
  refine ⟨_, ns, kk, j, rfl, by rw [show v = V.int kk from r1], e3, hj, hmin.1, ?_⟩
  have hlen : i < ρ.length := by
    obtain ⟨q, _⟩ := List.getElem?_eq_some_iff.mp hρ
    exact q
  rw [hmin.2]
  exact ke.nx _ _ _ _ n1 (s2.trans sub_ext) (S1.mut hi (by rw [f2, hB]) e3 e5 e6 (by rw [decide_eq_false hk]; exact .ofLst (Reps.ints.mpr rfl)) hlen) hq
end
end DL
namespace DL
open PySem PySem.Spec PyProof.Rows L2
/-- a def of the text as it stands behind the top -/
structure Ent (K : PySem.W.Frag) (mg : Str → Option Value) (x : Str) (st : Stmt) (ps : List Str) (f : Addr) (fd : FuncData) : Prop where
  F : Fun K x x st f fd
  b : Binds K fd ps []
  g : mg x = some (.ref f)
end DL
namespace DL
open PySem PySem.Spec PyProof.Rows L2
/-- a draw: some number below the amount -/
def takeD : FT := fun ds n q => ∃ m : Int, ds = [.pen, .int m] ∧ 0 < m ∧ m < 1073741824 ∧ n < 1000000000 ∧ ∀ k : Int, 0 ≤ k → k < m → q (.int k) (n + 1)
theorem takeD_len : ∀ ds n q, takeD ds n q → ds.length = 2 := fun ds n q ⟨m, h, _⟩ => by rw [h]; rfl
/-- what the draw asks of the def that spreads a cell -/
def SpreadOk (T : FT) : Prop := ∀ (c a : Int) (n : Nat) (q : QD), 0 ≤ a → a < 1000000000 → (∀ i : Int, q (.int i) n) → T [.int c, .int a] n q
end DL
namespace DL
open PySem PySem.Spec PyProof.Rows L2
set_option maxHeartbeats 2000000
/-- how many different ones -/
def dist : List Int → Nat
  | [] => 0
  | x :: xs => if x ∈ xs then dist xs else dist xs + 1
theorem dist_of : ∀ (ns l : List Int), l.Nodup → (∀ k, k ∈ l ↔ k ∈ ns) → l.length = dist ns
  | [], l, _, h => by
    cases l with
    | nil => rfl
    | cons x r => exact absurd ((h x).mp List.mem_cons_self) (by simp)
  | x :: xs, l, nd, h => by
    unfold dist
    split
    · rename_i hx
      exact dist_of xs l nd fun k => (h k).trans ⟨fun z => by
        rcases List.mem_cons.mp z with rfl | z
        · exact hx
        · exact z, fun z => List.mem_cons_of_mem _ z⟩
    · rename_i hx
      have hm : x ∈ l := (h x).mpr List.mem_cons_self
      have := dist_of xs (l.erase x) (nd.erase x) fun k => by
        rw [nd.mem_erase_iff, h k, List.mem_cons]
        constructor
        · rintro ⟨a, b | b⟩
          · exact absurd b a
          · exact b
        · intro z
          exact ⟨fun e => hx (e ▸ z), .inr z⟩
      rw [List.length_erase_of_mem hm] at this
      have : 0 < l.length := List.length_pos_of_mem hm
      omega
def tLenSetT (K : PySem.W.Frag) (ta : TE) : TE := fun σ H Q => ta σ H fun x H1 => ∃ (l : Addr) (ns : List Int), x = .ref l ∧ SqT K H1 l (ns.map V.int) ∧ ns.length ≤ 4000 ∧ Q (.int (dist ns : Nat)) H1
theorem pe_lenSetT {X : Cx} {a : Expr} {ta : TE} {p p2 q pos : Pos} (hg : Gl X "len") (hm : X.mg "len" = none) (hg2 : Gl X "set") (hm2 : X.mg "set" = none) (ha : PE X a ta) (hc : X.calm = true)
    (na : starEach [a] X.env = (false, eval a X.env) :: starEach [] X.env := by rfl) (nb : starEach [.Call (.Name "set" p2) [a] [] q] X.env = (false, eval (.Call (.Name "set" p2) [a] [] q) X.env) :: starEach [] X.env := by rfl) : PE X (.Call (.Name "len" p) [.Call (.Name "set" p2) [a] [] q] [] pos) (tLenSetT X.K ta) := by
  refine ⟨fun pins s σ H Q I h => ?_⟩
  refine Call_ (ld_blt I hg hm boot_len ?_)
  refine PyProof.Rows.callWith_builtin1 (PyProof.Rows.args_cons ?_ nb) nb rfl
  refine Call_ (ld_blt I hg2 hm2 boot_set ?_)
  refine PyProof.Rows.callWith_type1 (PyProof.Rows.args_cons (thn (ha.run pins s σ H _ I h) fun v s1 ⟨x, H1, I1, r1, q1⟩ => PyProof.Rows.args_nil ?_) na) na rfl
  obtain ⟨l, ns, rfl, hq, hl, q1⟩ := q1
  obtain rfl : v = Value.ref l := r1
  obtain ⟨its, r, pl, hz⟩ := I1.tuple hq
  refine call_set_tupI ns (I1.ok.hd hc) pl (by simpa using RZ.intsAre_vals r) (by unfold scanBound; omega) fun h' tk c hS hc' hk => ?_
  refine PyProof.Rows.args_nil ?_
  obtain ⟨o, es, ep, t, ho, hex, hd, g, nd, hmem, hb, hf, hn, _⟩ := hS
  have I2 : Inv X pins σ H1 { s1 with heap := h', toks := tk } := I1.kept hk
  have hlen : es.size = dist ns := by
    have := dist_of ns _ nd fun k => by
      have := hmem k
      simp only [decide_eq_true_eq] at this
      exact this.symm
    rw [List.length_map, Array.length_toList] at this
    exact this
  exact call_len_set ho hex hd hf (by unfold scanBound at hb; omega) ⟨.int (dist ns : Nat), H1, I2.tok _, ⟨_, by rw [hlen]⟩, q1⟩
def lensetD : D → Option D
  | .tup ds => (intsOf ds).bind fun ns => if ns.length ≤ 4000 then some (.int (dist ns : Nat)) else none
  | _ => none
section
variable {X : Cx}
theorem ed_lenset {a : Expr} {Ta : TD} {p p2 q pos : Pos} (B : NoB X.mg) (hc : X.calm = true) (hg : Gl X "len") (hg2 : Gl X "set") (h : ED X a Ta) (na : starEach [a] X.env = (false, eval a X.env) :: starEach [] X.env := by rfl)
    (nb : starEach [.Call (.Name "set" p2) [a] [] q] X.env = (false, eval (.Call (.Name "set" p2) [a] [] q) X.env) :: starEach [] X.env := by rfl) : ED X (.Call (.Name "len" p) [.Call (.Name "set" p2) [a] [] q] [] pos) (tOp1D lensetD Ta) := by
  obtain ⟨t, pa, k⟩ := h
  refine ⟨_, pe_lenSetT hg (B _ (by decide)) hg2 (B _ (by decide)) pa hc na nb, fun σ H G pn n ρ q A hT Q kq => ?_⟩
  refine k σ H G pn n ρ _ A hT _ fun v H1 ⟨d, n1, g1, r1, z, hz, hq⟩ => ?_
  have A1 := A.go g1
  cases d <;> simp only [lensetD, reduceCtorEq] at hz
  obtain ⟨ns, hns, h2⟩ := Option.bind_eq_some_iff.mp hz
  split at h2
  · rename_i hlim
    cases h2
    obtain ⟨a, vs, rfl, h3, h4⟩ := r1
    rw [intsOf_eq hns] at h4
    rw [Reps.ints.mp h4] at h3
    exact ⟨a, ns, rfl, A1.sub.sqT h3, hlim, kq _ H1 ⟨.int (dist ns : Nat), n1, g1, rfl, hq⟩⟩
  · cases h2
/-! ### isinstance(e, (int, str)) -/
def tIsiIS (Ta : TD) : TD := fun ρ n q => Ta ρ n fun d n => q (.bl (isTy "int" d || isTy "str" d)) n
theorem ed_isiIS {e : Expr} {p p2 p3 pos : Pos} {x1 : Nat} {p4 : Pos} {Ta : TD} (B : NoB X.mg) (hg : Gl X "isinstance") (hg2 : Gl X "int") (hg3 : Gl X "str") (h : ED X e Ta)
    (he : starEach [e, .Tuple [.Name "int" p2, .Name "str" p3] x1 p4] X.env = (false, eval e X.env) :: starEach [.Tuple [.Name "int" p2, .Name "str" p3] x1 p4] X.env := by rfl) (hpl : (backTo pos (starEach [.Tuple [.Name "int" p2, .Name "str" p3] x1 p4] X.env)).any (·.1) = false := by rfl) :
    ED X (.Call (.Name "isinstance" p) [e, .Tuple [.Name "int" p2, .Name "str" p3] x1 p4] [] pos) (tIsiIS Ta) := by
  obtain ⟨t, pe, k⟩ := h
  have pint : PE X (.Name "int" p2) (tC (.ty "int")) := pe_bltn (v := .ty "int") hg2 (B _ (by decide)) (by decide +kernel) rfl
  have pstr : PE X (.Name "str" p3) (tC (.ty "str")) := pe_bltn (v := .ty "str") hg3 (B _ (by decide)) (by decide +kernel) rfl
  refine ⟨_, pe_callB call_isiT hg (B _ (by decide)) (by decide +kernel) (pa_cons pe (pa_cons (pe_tup (pa_cons pint (pa_cons pstr pa_nil))) pa_nil) he) (he := he) (hpl := hpl), fun σ H G pn n ρ q A hT Q kq => ?_⟩
  refine k σ H G pn n ρ _ A hT _ fun v H1 ⟨d, n1, g1, r1, hq⟩ => ?_
  have A1 := A.go g1
  refine ⟨by show 2 ≤ sizeLine; decide, fun tp htp => ?_⟩
  have hsub : Sub H1 (upd H1 tp (.tup [V.ty "int", V.ty "str"])) := fun a u e => by
    rw [upd_ne (ne_of_none e htp)]
    exact e
  have g2 : Go pn (ext G H H1) H1 (upd H1 tp (.tup [V.ty "int", V.ty "str"])) n1 := Go.of_sub A1.pst hsub
  obtain ⟨t1, m1⟩ := rep_ty (A1.go g2).sub n1 (A1.go g2).pst (Rep.mono sub_ext d v r1)
  have k1 : kitB (tyN d) "int" = some (isTy "int" d) := by
    have : kindsOk "int" = true := by decide +kernel
    unfold kindsOk at this
    rw [List.all_eq_true] at this
    exact eq_of_beq (this _ m1)
  have k2 : kitB (tyN d) "str" = some (isTy "str" d) := by
    have : kindsOk "str" = true := by decide +kernel
    unfold kindsOk at this
    rw [List.all_eq_true] at this
    exact eq_of_beq (this _ m1)
  refine ⟨v, tp, _, _, [.type "int", .type "str"], isTy "int" d || isTy "str" d, rfl, upd_same, .cons (.ty _) (.cons (.ty _) .nil), t1, ?_, kq _ _ ⟨.bl _, n1, g1.trans g2, rfl, hq⟩⟩
  exact kitAny_cons (kit_ty k1) (fun e => by
    rw [e, Bool.false_or]
    exact kitAny_cons (kit_ty k2) (fun e2 => by rw [e2]; exact kitAny_nil) (fun e2 => e2)) (fun e => by rw [e, Bool.true_or])
/-! ### zip -/
def zipD : List D → List D → List D
  | d :: ds, e :: es => .tup [d, e] :: zipD ds es
  | _, _ => []
theorem zipD_get : ∀ (ds es : List D) (i : Nat) (d e : D), ds[i]? = some d → es[i]? = some e → (zipD ds es)[i]? = some (.tup [d, e])
  | [], _, _, _, _, h, _ => by simp at h
  | _ :: _, [], _, _, _, _, h => by simp at h
  | d :: ds, e :: es, 0, _, _, h, h2 => by
    simp at h h2
    simp [zipD, h, h2]
  | d :: ds, e :: es, i + 1, _, _, h, h2 => by
    simp only [zipD, List.getElem?_cons_succ] at *
    exact zipD_get ds es i _ _ h h2
theorem zipD_len : ∀ (ds es : List D), (zipD ds es).length = min ds.length es.length
  | [], _ => by simp [zipD]
  | _ :: _, [] => by simp [zipD]
  | d :: ds, e :: es => by simp [zipD, zipD_len ds es, Nat.succ_min_succ]
theorem walks_zipL {K : PySem.W.Frag} {pn : Pn} {G : Hp} {a b : Addr} {vs ws : List V} {ds es : List D} (h1 : G a = some (.lst vs)) (h2 : G b = some (.lst ws)) (r1 : Reps K pn G vs ds) (r2 : Reps K pn G ws es) : Walks K pn (Itz K a b) G (zipD ds es) := by
  have l1 := Reps.length r1
  have l2 := Reps.length r2
  refine ⟨fun i H s hi => ?_, fun i H x H' s y => ?_, fun i H s hi => ?_⟩
  · rw [zipD_len] at hi
    have a1 : i < vs.length := by omega
    have a2 : i < ws.length := by omega
    exact ⟨vs, ws, vs[i], ws[i], SqL.of (s _ _ h1), SqL.of (s _ _ h2), List.getElem?_eq_getElem a1, List.getElem?_eq_getElem a2⟩
  · obtain ⟨T, x, y, rfl, hT, rfl, hx, hy⟩ := y
    refine ⟨fun a u e => by rw [upd_ne (ne_of_none e hT)]; exact e, fun d hd G1 s1 s2 => ?_⟩
    obtain ⟨x', e1, e2⟩ := Reps.get' r1 (hx vs (SqL.of (s _ _ h1)))
    obtain ⟨y', e3, e4⟩ := Reps.get' r2 (hy ws (SqL.of (s _ _ h2)))
    rw [zipD_get ds es i x' y' e1 e3] at hd
    cases hd
    rw [ext_new s2 hT]
    exact ⟨T, _, rfl, SqT.of upd_same, x, _, rfl, Rep.mono (upd_sub s2 hT) _ _ (Rep.mono s1 _ _ e2), y, [], rfl, Rep.mono (upd_sub s2 hT) _ _ (Rep.mono s1 _ _ e4), rfl⟩
  · rw [zipD_len] at hi
    exact ⟨vs, ws, SqL.of (s _ _ h1), SqL.of (s _ _ h2), by omega⟩
theorem walks_zipT {K : PySem.W.Frag} {pn : Pn} {G : Hp} {a b : Addr} {vs ws : List V} {ds es : List D} (h1 : SqT K G a vs) (h2 : SqT K G b ws) (r1 : Reps K pn G vs ds) (r2 : Reps K pn G ws es) : Walks K pn (RZ.ItzT K a b) G (zipD ds es) := by
  have l1 := Reps.length r1
  have l2 := Reps.length r2
  refine ⟨fun i H s hi => ?_, fun i H x H' s y => ?_, fun i H s hi => ?_⟩
  · rw [zipD_len] at hi
    have a1 : i < vs.length := by omega
    have a2 : i < ws.length := by omega
    exact ⟨vs, ws, vs[i], ws[i], s.sqT h1, s.sqT h2, List.getElem?_eq_getElem a1, List.getElem?_eq_getElem a2⟩
  · obtain ⟨T, x, y, rfl, hT, rfl, hx, hy⟩ := y
    refine ⟨fun a u e => by rw [upd_ne (ne_of_none e hT)]; exact e, fun d hd G1 s1 s2 => ?_⟩
    obtain ⟨x', e1, e2⟩ := Reps.get' r1 (hx vs (s.sqT h1))
    obtain ⟨y', e3, e4⟩ := Reps.get' r2 (hy ws (s.sqT h2))
    rw [zipD_get ds es i x' y' e1 e3] at hd
    cases hd
    rw [ext_new s2 hT]
    exact ⟨T, _, rfl, SqT.of upd_same, x, _, rfl, Rep.mono (upd_sub s2 hT) _ _ (Rep.mono s1 _ _ e2), y, [], rfl, Rep.mono (upd_sub s2 hT) _ _ (Rep.mono s1 _ _ e4), rfl⟩
  · rw [zipD_len] at hi
    exact ⟨vs, ws, s.sqT h1, s.sqT h2, by omega⟩
def wZip (Ta : TDs) : TDs := fun ρ n q => Ta ρ n fun as n => ∃ ds es, (as = [.lst ds, .lst es] ∨ as = [.tup ds, .tup es]) ∧ q (zipD ds es) n
theorem wd_zip {a b : Expr} {Ta : TDs} {p pos tpos : Pos} {elts : List Expr} {kk : Nat} (B : NoB X.mg) (hg : Gl X "zip") (ha : AD X [a, b] Ta) (hs : starEach [a, b] X.env = (false, eval a X.env) :: starEach [b] X.env := by rfl) (hpl : (backTo pos (starEach [b] X.env)).any (·.1) = false := by rfl) : WD X (.Tuple elts kk tpos) (.Call (.Name "zip" p) [a, b] [] pos) (wZip Ta) := by
  obtain ⟨t, pa, k⟩ := ha
  refine ⟨_, RZ.pi_zipA hg (B _ (by decide)) pa hs hpl, fun σ H G pn n ρ q A hT R kr => ?_⟩
  refine k σ H G pn n ρ _ A hT _ fun vs H1 ⟨as, n1, g1, r1, ds, es, hd, hq⟩ => ?_
  have A1 := A.go g1
  rcases hd with rfl | rfl
  · obtain ⟨v, w, rfl, h1, h2⟩ := reps2 r1
    obtain ⟨a, xs, rfl, h3, h4⟩ := h1
    obtain ⟨b, ys, rfl, h5, h6⟩ := h2
    exact ⟨a, b, xs, ys, rfl, .inl ⟨SqL.of (A1.sub _ _ h3), SqL.of (A1.sub _ _ h5), kr _ _ n1 H1 g1 hq (walks_zipL h3 h5 h4 h6)⟩⟩
  · obtain ⟨v, w, rfl, h1, h2⟩ := reps2 r1
    obtain ⟨a, xs, rfl, h3, h4⟩ := h1
    obtain ⟨b, ys, rfl, h5, h6⟩ := h2
    exact ⟨a, b, xs, ys, rfl, .inr ⟨A1.sub.sqT h3, A1.sub.sqT h5, kr _ _ n1 H1 g1 hq (walks_zipT h3 h5 h4 h6)⟩⟩
end
end DL
set_option maxHeartbeats 4000000
/-! t[::-1], t * k, three comparisons, {} -/
namespace DL
open PySem PySem.Spec PyProof.Rows L2
section
variable {prog : Program} {w : World} {A : Around} {E : Value → Shared → Prop} {s : Shared}
theorem adjust_rev (n : Nat) : Builtin.Slice.sliceAdjust none none (-1) (n : Int) = ((n : Int) - 1, -1) := by
  unfold Builtin.Slice.sliceAdjust
  first
    | rfl
    | simp
theorem places_rev (n : Nat) : Builtin.Slice.slicePlaces ((n : Int) - 1) (-1) (-1) = n := by
  unfold Builtin.Slice.slicePlaces
  have h1 : ¬ ((-1 : Int) > 0) := by omega
  simp only [h1, if_false]
  have e : ((n : Int) - 1 - -1 - 1) / (- -1) = (n : Int) - 1 := by
    rw [show (- -1 : Int) = 1 by decide, Int.ediv_one]
    omega
  split <;> omega
theorem rev_places (n : Nat) : (List.range n).map (fun k => n - 1 - k) = (List.range n).reverse := by
  apply List.ext_getElem
  · simp
  · intro i _ _
    simp
theorem all_places (xs : Array Value) : (List.range xs.size).filterMap (xs[·]?) = xs.toList := by
  have h := HT.pick_gen xs 0 xs.size
  have h2 := congrArg Array.toList h
  have e : (fun (m : Nat) => xs[(((0 : Nat) : Int) + (m : Int) * 1).toNat]?) = fun m => xs[m]? := by
    funext m
    rw [show (((0 : Nat) : Int) + (m : Int) * 1).toNat = m by omega]
  rw [e] at h2
  simpa [List.take_of_length_le] using h2
theorem pick_rev (xs : Array Value) : (List.range xs.size).filterMap (fun (m : Nat) => xs[(((xs.size : Nat) : Int) - 1 + (m : Int) * (-1)).toNat]?) = xs.toList.reverse := by
  have e : (List.range xs.size).filterMap (fun (m : Nat) => xs[(((xs.size : Nat) : Int) - 1 + (m : Int) * (-1)).toNat]?) = ((List.range xs.size).map fun k => xs.size - 1 - k).filterMap (xs[·]?) := by
    have e1 : ((List.range xs.size).map fun (m : Nat) => (((xs.size : Nat) : Int) - 1 + (m : Int) * (-1)).toNat) = (List.range xs.size).map fun k => xs.size - 1 - k := by
      refine List.map_congr_left fun m hm => ?_
      have := List.mem_range.mp hm
      omega
    rw [← e1, List.filterMap_map]
    rfl
  rw [e, rev_places, List.filterMap_reverse, all_places]
theorem applied_rev {sl : Addr} {tk : Tok} {n : Nat} {Q : Int × Int × Nat → Shared → Prop} (hs : s.heap.IsSliceOf sl .none .none (.int (-1) tk))
    (h : Q ((n : Int) - 1, -1, n) s) : wpAny (model prog w) A (Builtin.Slice.sliceApplied (.ref sl) (pure (n : Int))) Q E s := by
  obtain ⟨os, hos, hcs, hds⟩ := id hs
  unfold Builtin.Slice.sliceApplied Builtin.Slice.sliceFields
  refine wpAny_bind (wpAny_bind (wpAny_field hos hds (x := .none) rfl (wpAny_bind (wpAny_field hos hds (x := .none) rfl (wpAny_bind (wpAny_field hos hds (x := .int (-1) tk) rfl (wpAny_pure ?_)))))))
  refine wpAny_bind (HT.slicePart_ (.int (-1) tk) ?_)
  show wpAny _ _ (if ((-1 : Int) == 0) = true then _ else _) _ _ s
  rw [if_neg (by decide)]
  refine wpAny_bind (HT.slicePart_ .none (wpAny_bind (HT.slicePart_ .none (wpAny_bind (wpAny_pure ?_)))))
  show wpAny _ _ (match Builtin.Slice.sliceAdjust none none (-1) (n : Int) with | (lo, hi) => pure (lo, (-1 : Int), Builtin.Slice.slicePlaces lo hi (-1))) _ _ s
  rw [adjust_rev n]
  show wpAny _ _ (pure ((n : Int) - 1, (-1 : Int), Builtin.Slice.slicePlaces ((n : Int) - 1) (-1) (-1))) _ _ s
  rw [places_rev]
  exact wpAny_pure h
theorem turned {t sl : Addr} {its : Array Value} {tk : Tok} {Q : Value → Shared → Prop} (ht : IsTup s.heap t its) (hs : s.heap.IsSliceOf sl .none .none (.int (-1) tk)) (hsz : its.size ≤ sizeLine)
    (h : Q (.ref s.heap.objs.size) { s with heap := s.heap.push { cls := .type "tuple", data := .seq its.toList.reverse.toArray } }) : wpAny (model prog w) A (getItem (.ref t) (.ref sl)) Q E s := by
  have hz : sizeOk (.seq its.toList.reverse.toArray) := by
    show its.toList.reverse.toArray.size ≤ sizeLine
    rw [List.size_toArray, List.length_reverse, Array.length_toList]
    exact hsz
  obtain ⟨os, hos, hcs, hds⟩ := id hs
  have hT : s.TypeIs (.ref sl) "slice" := ⟨os, hos, hcs⟩
  unfold getItem
  try with_reducible refine wpAny_holding ?_
  first | refine wpAny_bind (wpAny_pure ?_) | skip
  refine wpAny_bind (wpAny_sequenceKey ht.typeIs (by decide) ?_)
  refine wpAny_bind (wpAny_callSpecial?_slot (name := Str.ofString "__getitem__") ht.typeIs PyProof.Rows.slot_tuple_getitem
    (wpAny_call_entry PyProof.Rows.slot_tuple_getitem ht.typeIs entry_tuple_getitem ?_ (args_tuple_getitem _ _)))
  show wpAny _ _ (Builtin.Tuple.tupleItemsOf (.ref t) >>= _) _ _ s
  refine wpAny_bind (tupleItemsOf_ ht ?_)
  refine wpAny_bind (wpAny_typeOf hT ?_)
  rw [if_pos (by decide)]
  refine wpAny_bind (applied_rev hs ?_)
  show wpAny _ _ (if (((its.size : Int) - 1) == 0 && (-1 : Int) == 1 && its.size == its.size) = true then _ else _) _ _ s
  rw [if_neg (by simp), pick_rev]
  first
    | exact wpAny_bind (m := Builtin.Tuple.tupleExact _) (wpAny_newObj_type (wpAny_pure ⟨_, rfl, wpAny_pure h⟩) hz)
    | exact wpAny_bind (m := Builtin.Tuple.tupleExact _) (wpAny_newObj_type (wpAny_bind (wpAny_pure (wpAny_pure ⟨_, rfl, wpAny_pure h⟩))) hz)
    | exact wpAny_bind (wpAny_bind (m := Builtin.Tuple.tupleExact _) (wpAny_newObj_type (wpAny_pure (wpAny_pure ⟨_, rfl, wpAny_pure h⟩)) hz))
    | exact wpAny_bind (wpAny_bind (m := Builtin.Tuple.tupleExact _) (wpAny_newObj_type (wpAny_pure ⟨_, rfl, wpAny_pure h⟩) hz))
end
section
variable {X : Cx}
def tRevT (K : PySem.W.Frag) (te t3 : TE) : TE := fun σ H Q => te σ H fun x H1 => t3 σ H1 fun y H2 => y = .int (-1) ∧ ∃ a xs, x = .ref a ∧ SqT K H2 a xs ∧ ∀ p, H2 p = none → Q (.ref p) (upd H2 p (.tup xs.reverse))
theorem Vals.rev {xs : List V} {us : List Value} (r : Vals xs us) : Vals xs.reverse us.reverse := by
  induction r with
  | nil => exact .nil
  | cons r1 r2 ih =>
    rw [List.reverse_cons, List.reverse_cons]
    exact ih.append (.cons r1 .nil)
theorem pe_revT {e a3 : Expr} {te t3 : TE} {p2 p3 pos : Pos} (he : PE X e te) (h3 : PE X (.UnaryOp .USub a3 p3) t3) : PE X (.Subscript e (.Slice none none (some (.UnaryOp .USub a3 p3)) p2) pos) (tRevT X.K te t3) := by
  refine ⟨fun pins s σ H Q I h => ?_⟩
  refine Subscript_ (thn (he.run pins s σ H _ I h) fun v s1 ⟨x, H1, I1, r1, q1⟩ => ?_)
  refine wpAny_Slice ?_
  rw [evalPart_none]
  refine wpAny_pure (wpAny_pure ?_)
  rw [evalPart_some]
  refine thn (h3.run pins s1 σ H1 _ I1 q1) fun u s3 ⟨y, H3, I3, r3, hy, a, xs, hx, hS, q⟩ => ?_
  subst hy hx
  cases r1
  obtain ⟨tk, rfl⟩ := r3
  have I4 : Inv X pins σ H3 { s3 with heap := s3.heap.push { cls := .type "slice", data := .fields #[.none, .none, .int (-1) tk] } } := I3.kept (t' := s3.toks) fun b ob q => Heap.get?_push_of_some _ q
  obtain ⟨its, r, ht, hz⟩ := I4.tuple hS
  have hlen : its.toArray.size = xs.length := by rw [List.size_toArray]; exact r.length.symm
  show wpAny (model X.prog X.w) X.A (subscriptTail e (.Slice none none (some (.UnaryOp .USub a3 p3)) p2) (.ref a) (.ref s3.heap.objs.size)) (EP X pins σ Q) X.xe { s3 with heap := s3.heap.push { cls := .type "slice", data := .fields #[.none, .none, .int (-1) tk] } }
  refine tail_any (ops := [.ref a, .ref s3.heap.objs.size]) ht.typeIs PyProof.Rows.slot_tuple_getitem.lookup ?_ (by with_unfolding_all rfl)
  refine turned ht (Heap.IsSliceOf.new ..) (by rw [hlen]; exact hz) ?_
  refine ⟨.ref _, _, I4.laid (t' := s3.toks) (o := .tup xs.reverse) (fun b ob q => Heap.get?_push_of_some _ q) (Nat.le_refl _) ?_, rfl, q _ (I4.hok.fresh (Nat.le_refl _))⟩
  exact ⟨by rw [List.length_reverse]; exact hz, _, Vals.rev r, IsTup.new _ _⟩
def tRevD (Ta T3 : TD) : TD := fun ρ n q => Ta ρ n fun d n => T3 ρ n fun e n => e = .int (-1) ∧ ∃ ds, d = .tup ds ∧ q (.tup ds.reverse) n
theorem ed_rev {e a3 : Expr} {Ta T3 : TD} {p2 p3 pos : Pos} (h : ED X e Ta) (h3 : ED X (.UnaryOp .USub a3 p3) T3) : ED X (.Subscript e (.Slice none none (some (.UnaryOp .USub a3 p3)) p2) pos) (tRevD Ta T3) := by
  obtain ⟨t, p, k⟩ := h
  obtain ⟨t3, p3, k3⟩ := h3
  refine ⟨_, pe_revT p p3, fun σ H G pn n ρ q A hT Q kq => ?_⟩
  refine k σ H G pn n ρ _ A hT _ fun v H1 ⟨d, n1, g1, r1, hq⟩ => ?_
  have A1 := A.go g1
  refine k3 σ H1 _ pn n1 ρ _ A1 hq _ fun v2 H2 ⟨d2, n2, g2, r2, e2, ds, e1, hq2⟩ => ?_
  subst e2 e1
  obtain ⟨a, vs, rfl, h1, h2⟩ := r1
  have A2 := A1.go g2
  refine ⟨r2, a, vs, rfl, A2.sub.sqT (sub_ext.sqT h1), fun p hp => ?_⟩
  have g12 := g1.trans g2
  have AA := A.go g12
  refine kq _ _ ⟨.tup ds.reverse, n2, g12.trans (Go.new AA.pst hp), ⟨p, vs.reverse, rfl, SqT.of ?_, ?_⟩, hq2⟩
  · rw [ext_upd A g12 hp, upd_same]
  · rw [ext_upd A g12 hp]
    refine Reps.mono (upd_sub AA.sub hp) _ _ (Reps.reverse ?_)
    have := Reps.mono (sub_ext (G := ext G H H1) (H := H1) (H' := H2)) _ _ h2
    rw [A.ext_ext g1 g2] at this
    exact this
/-! t * k -/
theorem tuple_mulSame (l : Addr) (items : Array Value) (n : Nat) (dd : Option Addr) (sl : Array (Option Value)) (x : Int) (u : Tok) (c0 : (decide (x < -(2 ^ 63)) || decide (x ≥ 2 ^ 63)) = false) (c1 : (items.isEmpty || x == 1) = true) :
    Meets (Builtin.«tuple.__mul__» ⟨[.ref l, .int x u], []⟩) (fun _ R s => s.heap.get? l = some { cls := .type "tuple", dict := dd, data := .seq items n, slots := sl } ∧ R (.ok (.ret (.ref l))) s) :=
  .of_wp fun prog w A R s h => by
    obtain ⟨hp, g, d, tk, os⟩ := s
    obtain ⟨hl, h⟩ := h
    have f1 := AutoSeq1.idx_int
    wp_walk using wpAny_loadPart' hl
    repeat (first
      | (refine wpAny_ite_false (decide_eq_false (by rw [c0]; exact Bool.false_ne_true)) ?_; wp_walk using wpAny_loadPart' hl)
      | (refine wpAny_ite_true (decide_eq_true (by rw [c1])) ?_; wp_walk using wpAny_loadPart' hl))
    exact ⟨_, rfl, h⟩
def rRepS (K : PySem.W.Frag) : R2 := fun x y H Q => ∃ l k xs, x = .ref l ∧ y = .int k ∧ SqT K H l xs ∧ (xs = [] ∨ k = 1) ∧ -(2 ^ 63) ≤ k ∧ k < 2 ^ 63 ∧ Q (.ref l) H
theorem op_repS : OpR X (binaryOp .Mult) (rRepS X.K) := by
  intro pins s σ H x y v u Q I rx ry h
  obtain ⟨l, k, xs, rfl, rfl, hT, hor, h1, h2, q⟩ := h
  cases rx
  obtain ⟨t, rfl⟩ := ry
  obtain ⟨its, r, ⟨⟨cls, dd, data, sl⟩, ho, hc, n, hd⟩, hs⟩ := I.tuple hT
  simp only at hc hd
  subst hc hd
  have c0 : (decide (k < -(2 ^ 63)) || decide (k ≥ 2 ^ 63)) = false := by
    rw [decide_eq_false (by omega), decide_eq_false (by omega)] <;> rfl
  have c1 : (its.toArray.isEmpty || k == 1) = true := by
    rcases hor with e | e
    · subst e
      cases r
      rfl
    · subst e
      simp
  exact wpAny_binaryOp_repeat_ref (T := "tuple") (U := "int") (by decide) ⟨_, ho, rfl⟩ (fun s' => typeIs_int s' k t) noFill_tuple_mul F.fills_int_mul F.slot_int_rmul repeat_tuple F.slot_int_index.lookup
    (call_meets F.slot_int_rmul (typeIs_int s k t) F.entry_int_rmul (F.args_int_rmul_2 _ _) (int_rmul_tuple k t l its.toArray n dd sl)
      ⟨ho, rfl, ⟨_, ho, rfl⟩, call_meets F.slot_tuple_mul ⟨_, ho, rfl⟩ F.entry_tuple_mul (F.args_tuple_mul_2 _ _) (tuple_mulSame l its.toArray n dd sl k t c0 c1) ⟨ho, ⟨.ref l, H, I, rfl, q⟩⟩⟩)
theorem tuple_mul0 (l : Addr) (items : Array Value) (n : Nat) (dd : Option Addr) (sl : Array (Option Value)) (x : Int) (u : Tok) (c0 : (decide (x < -(2 ^ 63)) || decide (x ≥ 2 ^ 63)) = false) (c1 : (items.isEmpty || x == 1) = false) (c2 : (decide (x ≤ 0) || items.isEmpty) = true) :
    Meets (Builtin.«tuple.__mul__» ⟨[.ref l, .int x u], []⟩) (fun _ R s => s.heap.get? l = some { cls := .type "tuple", dict := dd, data := .seq items n, slots := sl } ∧
      R (.ok (.ret (Value.ref s.heap.objs.size))) { s with heap := s.heap.push { cls := Value.type "tuple", data := Data.seq #[] }, toks := s.toks }) :=
  .of_wp fun prog w A R s h => by
    obtain ⟨hp, g, d, tk, os⟩ := s
    obtain ⟨hl, h⟩ := h
    have f1 := AutoSeq1.idx_int
    wp_walk using wpAny_loadPart' hl
    repeat (first
      | (refine wpAny_ite_false (decide_eq_false (by rw [c0]; exact Bool.false_ne_true)) ?_; wp_walk using wpAny_loadPart' hl)
      | (refine wpAny_ite_false (decide_eq_false (by rw [c1]; exact Bool.false_ne_true)) ?_; wp_walk using wpAny_loadPart' hl)
      | (refine wpAny_ite_true (decide_eq_true (by rw [c2])) ?_; wp_walk using wpAny_loadPart' hl))
    exact ⟨_, rfl, h⟩
def rRepZ (K : PySem.W.Frag) : R2 := fun x y H Q => ∃ l k xs, x = .ref l ∧ y = .int k ∧ SqT K H l xs ∧ xs ≠ [] ∧ k ≤ 0 ∧ -1000 ≤ k ∧ ∀ p, H p = none → Q (.ref p) (upd H p (.tup []))
theorem op_repZ : OpR X (binaryOp .Mult) (rRepZ X.K) := by
  intro pins s σ H x y v u Q I rx ry h
  obtain ⟨l, k, xs, rfl, rfl, hT, hne, h1, h2, q⟩ := h
  cases rx
  obtain ⟨t, rfl⟩ := ry
  obtain ⟨its, r, ⟨⟨cls, dd, data, sl⟩, ho, hc, n, hd⟩, hs⟩ := I.tuple hT
  simp only at hc hd
  subst hc hd
  have hi : its.toArray.isEmpty = false := by
    cases its with
    | nil =>
      cases r
      exact absurd rfl hne
    | cons a b => rfl
  have c0 : (decide (k < -(2 ^ 63)) || decide (k ≥ 2 ^ 63)) = false := by
    rw [decide_eq_false (by omega), decide_eq_false (by omega)] <;> rfl
  have c1 : (its.toArray.isEmpty || k == 1) = false := by
    rw [hi, Bool.false_or]
    exact beq_eq_false_iff_ne.mpr (by omega)
  have c2 : (decide (k ≤ 0) || its.toArray.isEmpty) = true := by
    rw [decide_eq_true h1, Bool.true_or]
  refine wpAny_binaryOp_repeat_ref (T := "tuple") (U := "int") (by decide) ⟨_, ho, rfl⟩ (fun s' => typeIs_int s' k t) noFill_tuple_mul F.fills_int_mul F.slot_int_rmul repeat_tuple F.slot_int_index.lookup
    (call_meets F.slot_int_rmul (typeIs_int s k t) F.entry_int_rmul (F.args_int_rmul_2 _ _) (int_rmul_tuple k t l its.toArray n dd sl)
      ⟨ho, rfl, ⟨_, ho, rfl⟩, call_meets F.slot_tuple_mul ⟨_, ho, rfl⟩ F.entry_tuple_mul (F.args_tuple_mul_2 _ _) (tuple_mul0 l its.toArray n dd sl k t c0 c1 c2) ⟨ho, ?_⟩⟩)
  refine ⟨.ref s.heap.objs.size, _, I.laid (t' := s.toks) (o := .tup []) (fun b ob q => Heap.get?_push_of_some _ q) (Nat.le_refl _) ?_, rfl, q _ (I.hok.fresh (Nat.le_refl _))⟩
  exact ⟨Nat.zero_le _, [], .nil, IsTup.new _ _⟩
def repT : D → D → Option D
  | .tup ds, .int k => if 1 ≤ k ∧ k ≤ 1000 ∧ ds.length ≤ 1000 then some (.tup (List.replicate k.toNat ds).flatten) else none
  | _, _ => none
/-- none of it -/
def repZ : D → D → Option D
  | .tup ds, .int k => if k ≤ 0 ∧ -1000 ≤ k ∧ ds.length ≤ 1000 then some (.tup []) else none
  | _, _ => none
theorem Reps.repl {K : PySem.W.Frag} {pn : Pn} {G : Hp} {ds : List D} {vs : List V} (h : Reps K pn G vs ds) : ∀ n : Nat, Reps K pn G (List.replicate n vs).flatten (List.replicate n ds).flatten
  | 0 => rfl
  | n + 1 => by
    rw [List.replicate_succ, List.replicate_succ, List.flatten_cons, List.flatten_cons]
    exact Reps.append h (Reps.repl h n)
theorem repl_nil {α : Type} : ∀ n : Nat, (List.replicate n ([] : List α)).flatten = []
  | 0 => rfl
  | n + 1 => by rw [List.replicate_succ, List.flatten_cons, repl_nil n]; rfl
theorem o2_repT : Op2 X (fun x y H Q => rRepT X.K x y H Q ∨ rRepS X.K x y H Q) repT := fun G H pn n x y d e z s p r1 r2 hz Q k => by
  cases d <;> cases e <;> simp only [repT, reduceCtorEq] at hz
  split at hz
  · rename_i ds i c
    cases hz
    obtain ⟨a, vs, rfl, h1, h2⟩ := r1
    have l1 := Reps.length h2
    by_cases hS : vs = [] ∨ i = 1
    · refine .inr ⟨a, i, vs, rfl, r2, s.sqT h1, hS, by omega, by omega, k _ _ (Go.refl p) ?_⟩
      rw [ext_refl]
      refine ⟨a, vs, rfl, h1, ?_⟩
      rcases hS with e | e
      · subst e
        obtain rfl : ds = [] := List.eq_nil_of_length_eq_zero (by rw [← l1]; rfl)
        rw [repl_nil]
        rfl
      · subst e
        show Reps X.K pn G vs (List.replicate 1 ds).flatten
        simpa using h2
    · have hne : vs ≠ [] := fun e => hS (.inl e)
      have hne1 : i ≠ 1 := fun e => hS (.inr e)
      refine .inl ⟨a, i, vs, rfl, r2, s.sqT h1, hne, by omega, c.2.1, by rw [l1]; exact c.2.2, fun q hq => k _ _ (Go.new p hq) ⟨q, (List.replicate i.toNat vs).flatten, rfl, SqT.of ?_, ?_⟩⟩
      · rw [ext_new s hq, upd_same]
      · rw [ext_new s hq]
        exact Reps.mono (upd_sub s hq) _ _ (Reps.repl h2 _)
  · cases hz
theorem o2_repZ : Op2 X (fun x y H Q => rRepZ X.K x y H Q ∨ rRepS X.K x y H Q) repZ := fun G H pn n x y d e z s p r1 r2 hz Q k => by
  cases d <;> cases e <;> simp only [repZ, reduceCtorEq] at hz
  split at hz
  · rename_i ds i c
    cases hz
    obtain ⟨a, vs, rfl, h1, h2⟩ := r1
    by_cases hS : vs = []
    · refine .inr ⟨a, i, vs, rfl, r2, s.sqT h1, .inl hS, by omega, by omega, k _ _ (Go.refl p) ?_⟩
      rw [ext_refl]
      exact ⟨a, vs, rfl, h1, hS⟩
    · refine .inl ⟨a, i, vs, rfl, r2, s.sqT h1, hS, c.1, c.2.1, fun q hq => k _ _ (Go.new p hq) ⟨q, [], rfl, SqT.of ?_, rfl⟩⟩
      rw [ext_new s hq, upd_same]
  · cases hz
def repL : D → D → Option D
  | .lst ds, .int k => if 0 ≤ k ∧ k ≤ 1000 ∧ ds.length ≤ 1000 then some (.lst (List.replicate k.toNat ds).flatten) else none
  | _, _ => none
theorem o2_repL : Op2 X rRep repL := fun G H pn n x y d e z s p r1 r2 hz Q k => by
  cases d <;> cases e <;> simp only [repL, reduceCtorEq] at hz
  split at hz
  · rename_i ds i c
    cases hz
    obtain ⟨a, vs, rfl, h1, h2⟩ := r1
    have l1 := Reps.length h2
    refine ⟨a, i, vs, rfl, r2, s _ _ h1, by omega, by omega, ?_, fun q hq => k _ _ (Go.new p hq) ⟨q, (List.replicate i.toNat vs).flatten, rfl, ?_, ?_⟩⟩
    · rw [sizeLine_eq, l1]
      have a1 : ds.length * i.toNat ≤ 1000 * 1000 := Nat.mul_le_mul c.2.2 (by omega)
      omega
    · rw [ext_new s hq, upd_same]
    · rw [ext_new s hq]
      exact Reps.mono (upd_sub s hq) _ _ (Reps.repl h2 _)
  · cases hz
def mulD : D → D → Option D := orD mulID (orD repT (orD repL repZ))
theorem ed_mul {a b : Expr} {pos : Pos} {Ta Tb : TD} (ha : ED X a Ta) (hb : ED X b Tb) : ED X (.BinOp a .Mult b pos) (tOpD mulD Ta Tb) :=
  ed_bin (op_mul.or ((op_repT.or op_repS).or (op_rep.or (op_repZ.or op_repS)))) ((o2_arC fun i j h => show (-(2 ^ 64) < i ∧ i < 2 ^ 64) ∨ (-(2 ^ 64) < j ∧ j < 2 ^ 64) from of_decide_eq_true h).or (o2_repT.or (o2_repL.or o2_repZ))) ha hb
end
end DL
set_option maxHeartbeats 4000000
/-! three comparisons in a row, {}, tuple(range(..)) -/
namespace DL
open PySem PySem.Spec PyProof.Rows L2
section
variable {X : Cx}
def tThree (r1 r2 r3 : R2) (ta tb tc td : TE) : L2.St → Hp → (Bool → Hp → Prop) → Prop := fun σ H Q => ta σ H fun x H1 => tb σ H1 fun y H2 => r1 x y H2 fun z H3 => ∃ k, z = .bl k ∧
  if k = true then tc σ H3 fun x2 H4 => r2 y x2 H4 fun z2 H5 => ∃ k2, z2 = .bl k2 ∧ if k2 = true then td σ H5 fun x3 H6 => r3 x2 x3 H6 fun z3 H7 => ∃ k3, z3 = .bl k3 ∧ Q k3 H7 else Q false H5 else Q false H3
theorem pt_three {o1 o2 o3 : CmpOp} {r1 r2 r3 : R2} {a b c d : Expr} {ta tb tc td : TE} {pos : Pos} (h1 : OpR X (compareOp o1) r1) (h2 : OpR X (compareOp o2) r2) (h3 : OpR X (compareOp o3) r3) (ha : PE X a ta) (hb : PE X b tb) (hc : PE X c tc) (hd : PE X d td)
    (hm : lastMarks [o1, o2, o3] [b, c, d] = false := by with_unfolding_all rfl) : PT X (.Compare a [o1, o2, o3] [b, c, d] pos) (tThree r1 r2 r3 ta tb tc td) := by
  refine ⟨fun pins s σ H Q I h => ?_⟩
  refine isTrue_chain (thn (ha.run pins s σ H _ I h) fun v s1 ⟨x, H1, I1, k1, q1⟩ => test_link (thn (hb.run pins s1 σ H1 _ I1 q1) fun u s2 ⟨y, H2, I2, k2, q2⟩ =>
    thn (h1 pins s2 σ H2 x y v u _ I2 k1 k2 q2) fun e s3 ⟨z, H3, I3, k3, m, e1, q3⟩ => ?_)) hm
  subst e1
  cases k3
  refine wpAny_truthy_bool ?_
  cases m with
  | false => exact ite_ff ⟨H3, I3, q3⟩
  | true =>
    refine ite_tt (test_link (thn (hc.run pins s3 σ H3 _ I3 q3) fun w s4 ⟨x2, H4, I4, k4, q4⟩ => thn (h2 pins s4 σ H4 y x2 u w _ I4 k2 k4 q4) fun e s5 ⟨z2, H5, I5, k5, m2, e2, q5⟩ => ?_))
    subst e2
    cases k5
    refine wpAny_truthy_bool ?_
    cases m2 with
    | false => exact ite_ff ⟨H5, I5, q5⟩
    | true =>
      refine ite_tt (test_last (thn (hd.run pins s5 σ H5 _ I5 q5) fun w3 s6 ⟨x3, H6, I6, k6, q6⟩ => thn (h3 pins s6 σ H6 x2 x3 w w3 _ I6 k4 k6 q6) fun e s7 ⟨z3, H7, I7, k7, m3, e3, q7⟩ => ?_))
      subst e3
      cases k7
      exact wpAny_truthy_bool ⟨H7, I7, q7⟩
def bChain3 (f g h : D → D → Option D) (Ta Tb Tc Td : TD) : TDb := fun ρ n q => Ta ρ n fun x n => Tb ρ n fun y n => ∃ k, f x y = some (.bl k) ∧ if k = true then Tc ρ n fun z n => ∃ k2, g y z = some (.bl k2) ∧ if k2 = true then Td ρ n fun w n => ∃ k3, h z w = some (.bl k3) ∧ q k3 n else q false n else q false n
theorem bd_chain3 {o1 o2 o3 : CmpOp} {a b c d : Expr} {pos : Pos} {Ta Tb Tc Td : TD} {r1 r2 r3 : R2} {f g h : D → D → Option D} (p1 : OpR X (compareOp o1) r1) (p2 : OpR X (compareOp o2) r2) (p3 : OpR X (compareOp o3) r3) (m1 : Op2 X r1 f) (m2 : Op2 X r2 g) (m3 : Op2 X r3 h) (ha : ED X a Ta) (hb : ED X b Tb) (hc : ED X c Tc) (hd : ED X d Td)
    (hm : lastMarks [o1, o2, o3] [b, c, d] = false := by with_unfolding_all rfl) : BD X (.Compare a [o1, o2, o3] [b, c, d] pos) (bChain3 f g h Ta Tb Tc Td) := by
  obtain ⟨ta, pa, ka⟩ := ha
  obtain ⟨tb, pb, kb⟩ := hb
  obtain ⟨tc, pc, kc⟩ := hc
  obtain ⟨td, pd, kd⟩ := hd
  refine ⟨_, pt_three p1 p2 p3 pa pb pc pd hm, fun σ H G pn n ρ q A hT Q k => ?_⟩
  refine ka σ H G pn n ρ _ A hT _ fun x H1 ⟨dx, n1, g1, e1, hT2⟩ => ?_
  have A1 := A.go g1
  refine kb σ H1 _ pn n1 ρ _ A1 hT2 _ fun y H2 ⟨dy, n2, g2, e2, t, hz, hq⟩ => ?_
  have A2 := A1.go g2
  refine m1 _ H2 pn n2 x y dx dy _ A2.sub A2.pst (Rep.mono sub_ext dx x e1) e2 hz _ fun v H3 g3 e3 => ⟨t, e3, ?_⟩
  have A3 := A2.go g3
  have g123 := (g1.trans g2).trans g3
  cases t with
  | false => exact k _ H3 ⟨n2, g123, hq⟩
  | true =>
    refine kc σ H3 _ pn n2 ρ _ A3 hq _ fun w H4 ⟨dz, n4, g4, e4, t2, hz4, hq4⟩ => ?_
    have A4 := A3.go g4
    refine m2 _ H4 pn n4 y w dy dz _ A4.sub A4.pst (Rep.mono sub_ext dy y (Rep.mono sub_ext dy y e2)) e4 hz4 _ fun v5 H5 g5 e5 => ⟨t2, e5, ?_⟩
    have A5 := A4.go g5
    have g15 := (g123.trans g4).trans g5
    cases t2 with
    | false => exact k _ H5 ⟨n4, g15, hq4⟩
    | true =>
      refine kd σ H5 _ pn n4 ρ _ A5 hq4 _ fun w3 H6 ⟨dw, n6, g6, e6, t3, hz6, hq6⟩ => ?_
      have A6 := A5.go g6
      exact m3 _ H6 pn n6 w w3 dz dw _ A6.sub A6.pst (Rep.mono sub_ext dz w (Rep.mono sub_ext dz w e4)) e6 hz6 _ fun v7 H7 g7 e7 => ⟨t3, e7, k _ H7 ⟨n6, (g15.trans g6).trans g7, hq6⟩⟩
/-! {} -/
def tNoDict : TD := fun _ n q => q (.dct []) n
theorem ed_dnew {pos : Pos} : ED X (.Dict [] [] pos) tNoDict := by
  refine ⟨_, pe_dnewK, fun σ H G pn n ρ q A hT Q kq => ?_⟩
  intro p hp
  refine kq _ _ ⟨.dct [], n, Go.new A.pst hp, ⟨p, [], rfl, .inl ?_, rfl⟩, hT⟩
  rw [ext_new A.sub hp, upd_same]
/-! tuple(range(n)) -/
def tTuple_range1 (Ta : TDs) : TD := fun ρ n q => Ta ρ n fun ds n => ∃ j : Int, ds = [.int j] ∧ 0 ≤ j ∧ j ≤ LIM ∧ q (.tup (rangeD 0 j.toNat)) n
theorem ed_tuple_range1 {a : Expr} {Ta : TD} {p p2 q pos : Pos} (B : NoB X.mg) (hc : X.calm = true) (hg : Gl X "tuple") (hg2 : Gl X "range") (h : ED X a Ta) (na : starEach [a] X.env = (false, eval a X.env) :: starEach [] X.env := by rfl)
    (nb : starEach [.Call (.Name "range" p2) [a] [] q] X.env = (false, eval (.Call (.Name "range" p2) [a] [] q) X.env) :: starEach [] X.env := by rfl) : ED X (.Call (.Name "tuple" p) [.Call (.Name "range" p2) [a] [] q] [] pos) (tTuple_range1 (aCons Ta aNil)) := by
  obtain ⟨t, pa, k⟩ := h
  refine ⟨_, pe_tupRg hc hg (B _ (by decide)) (prg_1 hg2 (B _ (by decide)) pa na) nb, fun σ H G pn n ρ q A hT Q kq => ?_⟩
  refine k σ H G pn n ρ _ A hT _ fun v H1 ⟨d, n1, g1, r1, j, hd, h0, h1, hq⟩ => ?_
  cases hd
  have A1 := A.go g1
  refine ⟨j, r1, rgOk_lim (by omega) (by omega) h0 h1, fun p hp => kq _ _ ⟨.tup (rangeD 0 j.toNat), n1, g1.trans (Go.new A1.pst hp), ⟨p, rgV 0 j, rfl, SqT.of ?_, ?_⟩, hq⟩⟩
  · rw [ext_upd A g1 hp, upd_same]
  · have := rgV_rep (K := X.K) (pn := pn) (G := ext G H (upd H1 p (.tup (rgV 0 j)))) (i := 0) (j := j)
    rw [show j - 0 = j by omega] at this
    exact this
end
end DL
set_option maxHeartbeats 4000000
/-! a zip whose last pair is kept elsewhere: its next turn -/
namespace DL
open PySem PySem.Spec PyProof.Rows L2
abbrev ZKept (h : Heap) (z TI TO T0 : Addr) (f1 : Bool) : Prop :=
  h.get? z = some { cls := .type "zip", dict := none, data := .fields #[.int (T0 : Nat) 0, .bool f1, .bool false, .ref TI, .ref TO], slots := #[] }
section
variable {prog : Program} {w : World} {A : Around} {E : Value → Shared → Prop} {s : Shared}
theorem loadAlive {a : Addr} {o : Obj} {Q : Option Obj → Shared → Prop} (ho : s.heap.get? a = some o) (h : Q (some o) s) : wpAny (model prog w) A (loadIfAlive a) Q E s := fun Γ p _ => by
  show Sem.wp _ _ (.loadIfAlive a .pure) _ _ _ _
  rw [Sem.wp_loadIfAlive, ho]
  exact h

theorem kept_item {z TI TO T0 i1 i2 l1 l2 : Addr} {f1 : Bool} {ob : Obj} {k1 k2 : Nat} {xs ys : Array Value} {x y : Value} {Q : Value → Shared → Prop} (D : ZipApart z TI TO i1 i2 l1 l2)
    (hz : ZKept s.heap z TI TO T0 f1) (hTI : IsPair s.heap TI (.ref i1) (.ref i2)) (hT0 : s.heap.get? T0 = some ob)
    (h1 : s.heap.IsTupleIter i1 l1 k1) (h2 : s.heap.IsTupleIter i2 l2 k2) (hl1 : s.heap.IsTuple l1 xs) (hl2 : s.heap.IsTuple l2 ys) (hx : xs[k1]? = some x) (hy : ys[k2]? = some y)
    (hQ : ∀ h', ZKept h' z TI TO T0 true → h'.IsTupleIter i1 l1 (k1 + 1) → h'.IsTupleIter i2 l2 (k2 + 1) → IsPair h' s.heap.objs.size x y → h'.objs.size = s.heap.objs.size + 1 →
      (∀ c o, c ≠ z → c ≠ i1 → c ≠ i2 → s.heap.get? c = some o → h'.get? c = some o) → Q (.ref s.heap.objs.size) { s with heap := h' }) :
    wpAny (model prog w) A (Builtin.«zip.__next__» ⟨[.ref z], []⟩) (fun fin s' => ∃ v, fin = .done (.ret v) ∧ Q v s') E s := by
  show wpAny _ _ (field (.ref z) 2 >>= _) _ _ _
  refine wpAny_bind (wpAny_field hz rfl (x := .bool false) rfl ?_)
  show wpAny _ _ (field (.ref z) 3 >>= _) _ _ _
  refine wpAny_bind (wpAny_field hz rfl (x := .ref TI) rfl ?_)
  refine wpAny_bind (wpAny_seqItems hTI rfl ?_)
  show wpAny _ _ (Builtin.SmallTypes.ownedTupleIsFree (.ref z) >>= _) _ _ _
  refine wpAny_bind (wpAny_mono (Q := fun b s' => b = false ∧ ∃ hp, s' = { s with heap := hp } ∧ ZKept hp z TI TO T0 true ∧ Heap.ExtBut z s.heap hp ∧ hp.objs.size = s.heap.objs.size) (E := E) ?_ (fun b s' hb => ?_) fun _ _ q => q)
  · unfold Builtin.SmallTypes.ownedTupleIsFree
    refine wpAny_bind (wpAny_field hz rfl (x := .int (T0 : Nat) 0) rfl ?_)
    show wpAny _ _ (loadIfAlive ((T0 : Nat) : Int).toNat >>= _) _ _ _
    rw [Int.toNat_natCast]
    refine wpAny_bind (loadAlive hT0 ?_)
    rw [if_neg (by simp)]
    refine wpAny_bind (wpAny_field hz rfl (x := .bool f1) rfl ?_)
    cases f1 with
    | true => exact wpAny_pure ⟨rfl, s.heap, rfl, hz, fun c o _ e => e, rfl⟩
    | false =>
      refine wpAny_bind (wpAny_setField_rec hz (by simp) fun h₁ hz₁ hs₁ => wpAny_pure ⟨rfl, h₁, rfl, ?_, hs₁.extBut, hs₁.1⟩)
      exact hz₁
  obtain ⟨rfl, hp, rfl, hzp, hs, hsz⟩ := hb
  rw [if_neg Bool.false_ne_true]
  refine wpAny_bind ?_
  rw [List.forIn_toArray]
  simp only [List.forIn_cons, List.forIn_nil]
  refine wpAny_bind (wpAny_bind (wpAny_holding ?_))
  show wpAny _ _ (Builtin.SmallTypes.nextOf (.ref i1) >>= _) _ _ _
  refine wpAny_bind (RZ.nextOf_tuple_item (h1.at fun o e => hs _ o D.i1z e) (by obtain ⟨o, e, r⟩ := hl1; exact ⟨o, hs _ _ D.l1z e, r⟩) hx fun h₂ h1₂ hs₂ => wpAny_pure (wpAny_pure ?_))
  refine wpAny_bind (wpAny_bind (wpAny_holding ?_))
  show wpAny _ _ (Builtin.SmallTypes.nextOf (.ref i2) >>= _) _ _ _
  refine wpAny_bind (RZ.nextOf_tuple_item ((h2.at fun o e => hs _ o D.i2z e).extBut hs₂.extBut D.i12.symm) (by obtain ⟨o, e, r⟩ := hl2; exact ⟨o, hs₂.extBut _ _ D.l2i1 (hs _ _ D.l2z e), r⟩) hy fun h₄ h2₄ hs₄ => wpAny_pure (wpAny_pure ?_))
  refine wpAny_pure ?_
  refine wpAny_bind (wpAny_newTuple ?_ (by show 2 ≤ sizeLine; decide))
  have hsz4 : h₄.objs.size = s.heap.objs.size := by rw [hs₄.1, hs₂.1, hsz]
  refine wpAny_pure ⟨_, rfl, ?_⟩
  show Q (.ref h₄.objs.size) _
  rw [hsz4]
  have up : ∀ c o, c ≠ z → c ≠ i1 → c ≠ i2 → s.heap.get? c = some o → h₄.get? c = some o := fun c o a1 a2 a3 e => hs₄.extBut _ _ a3 (hs₂.extBut _ _ a2 (hs _ _ a1 e))
  refine hQ _ ?_ ?_ ?_ ?_ ?_ fun c o a1 a2 a3 e => Heap.get?_push_of_some _ (up c o a1 a2 a3 e)
  · exact Heap.get?_push_of_some _ (hs₄.extBut _ _ D.i2z.symm (hs₂.extBut _ _ D.i1z.symm hzp))
  · exact (h1₂.extBut hs₄.extBut D.i12).at fun o e => Heap.get?_push_of_some _ e
  · exact h2₄.at fun o e => Heap.get?_push_of_some _ e
  · rw [← hsz4]
    exact Heap.get?_push_size _ rfl
  · rw [Heap.size_push, hsz4]
theorem kept_end {z TI TO T0 i1 i2 l1 l2 : Addr} {f1 : Bool} {ob : Obj} {k1 k2 : Nat} {xs ys : Array Value} {Q : Fin → Shared → Prop} (hh : A.handled = none) (D : ZipApart z TI TO i1 i2 l1 l2)
    (hz : ZKept s.heap z TI TO T0 f1) (hTI : IsPair s.heap TI (.ref i1) (.ref i2)) (hT0 : s.heap.get? T0 = some ob)
    (h1 : s.heap.IsTupleIter i1 l1 k1) (h2 : s.heap.IsTupleIter i2 l2 k2) (hl1 : s.heap.IsTuple l1 xs) (hl2 : s.heap.IsTuple l2 ys) (hend : xs[k1]? = none ∨ ys[k2]? = none)
    (hE : ∀ h' e, (∀ c o, c ≠ z → c ≠ i1 → c ≠ i2 → s.heap.get? c = some o → h'.get? c = some o) → (∃ o, h'.get? e = some o ∧ o.cls = .type "StopIteration") → E (.ref e) { s with heap := h' }) :
    wpAny (model prog w) A (Builtin.«zip.__next__» ⟨[.ref z], []⟩) Q E s := by
  show wpAny _ _ (field (.ref z) 2 >>= _) _ _ _
  refine wpAny_bind (wpAny_field hz rfl (x := .bool false) rfl ?_)
  show wpAny _ _ (field (.ref z) 3 >>= _) _ _ _
  refine wpAny_bind (wpAny_field hz rfl (x := .ref TI) rfl ?_)
  refine wpAny_bind (wpAny_seqItems hTI rfl ?_)
  show wpAny _ _ (Builtin.SmallTypes.ownedTupleIsFree (.ref z) >>= _) _ _ _
  refine wpAny_bind (wpAny_mono (Q := fun b s' => b = false ∧ ∃ hp, s' = { s with heap := hp } ∧ ZKept hp z TI TO T0 true ∧ Heap.ExtBut z s.heap hp) (E := E) ?_ (fun b s' hb => ?_) fun _ _ q => q)
  · unfold Builtin.SmallTypes.ownedTupleIsFree
    refine wpAny_bind (wpAny_field hz rfl (x := .int (T0 : Nat) 0) rfl ?_)
    show wpAny _ _ (loadIfAlive ((T0 : Nat) : Int).toNat >>= _) _ _ _
    rw [Int.toNat_natCast]
    refine wpAny_bind (loadAlive hT0 ?_)
    rw [if_neg (by simp)]
    refine wpAny_bind (wpAny_field hz rfl (x := .bool f1) rfl ?_)
    cases f1 with
    | true => exact wpAny_pure ⟨rfl, s.heap, rfl, hz, fun c o _ e => e⟩
    | false =>
      refine wpAny_bind (wpAny_setField_rec hz (by simp) fun h₁ hz₁ hs₁ => wpAny_pure ⟨rfl, h₁, rfl, ?_, hs₁.extBut⟩)
      exact hz₁
  obtain ⟨rfl, hp, rfl, hzp, hs⟩ := hb
  have t1 : hp.IsTuple l1 xs := by obtain ⟨o, e, r⟩ := hl1; exact ⟨o, hs _ _ D.l1z e, r⟩
  have t2 : hp.IsTuple l2 ys := by obtain ⟨o, e, r⟩ := hl2; exact ⟨o, hs _ _ D.l2z e, r⟩
  rw [if_neg Bool.false_ne_true]
  refine wpAny_bind ?_
  rw [List.forIn_toArray]
  simp only [List.forIn_cons, List.forIn_nil]
  refine wpAny_bind (wpAny_bind (wpAny_holding ?_))
  show wpAny _ _ (Builtin.SmallTypes.nextOf (.ref i1) >>= _) _ _ _
  cases hx : xs[k1]? with
  | none => exact wpAny_bind (RZ.nextOf_tuple_end hh (h1.at fun o e => hs _ o D.i1z e) t1 hx fun h₂ e hs₂ he => hE h₂ e (fun c o a1 a2 a3 q => hs₂ _ _ a2 (hs _ _ a1 q)) he)
  | some x =>
    have hy : ys[k2]? = none := by
      rcases hend with q | q
      · rw [hx] at q
        cases q
      · exact q
    refine wpAny_bind (RZ.nextOf_tuple_item (h1.at fun o e => hs _ o D.i1z e) t1 hx fun h₂ h1₂ hs₂ => wpAny_pure (wpAny_pure ?_))
    refine wpAny_bind (wpAny_bind (wpAny_holding ?_))
    show wpAny _ _ (Builtin.SmallTypes.nextOf (.ref i2) >>= _) _ _ _
    exact wpAny_bind (RZ.nextOf_tuple_end hh ((h2.at fun o e => hs _ o D.i2z e).extBut hs₂.extBut D.i12.symm) (by obtain ⟨o, e, r⟩ := t2; exact ⟨o, hs₂.extBut _ _ D.l2i1 e, r⟩) hy
      fun h₄ e hs₄ he => hE h₄ e (fun c o a1 a2 a3 q => hs₄ _ _ a3 (hs₂.extBut _ _ a2 (hs _ _ a1 q))) he)
end
end DL
set_option maxHeartbeats 4000000
/-! list(zip(t, u)) of two tuples -/
namespace DL
open PySem PySem.Spec PyProof.Rows L2
theorem zip_noLen : typeLookup (.type "zip") "__len__" = pure none := by
  rw [typeLookup_type, builtinLookup_eq_fast]
  kernel_rfl
theorem zip_noHint : typeLookup (.type "zip") "__length_hint__" = pure none := by
  rw [typeLookup_type, builtinLookup_eq_fast]
  kernel_rfl
/-- what stands at S behind i turns: new pairs -/
structure Zs (H Hc : Hp) (S : Addr) (xs ys acc : List V) (i : Nat) : Prop where
  sub : Sub H Hc
  new : H S = none
  at_ : Hc S = some (.lst acc)
  len : acc.length = i
  el : ∀ j, j < i → ∃ T x y, acc[j]? = some (.ref T) ∧ T ≠ S ∧ H T = none ∧ Hc T = some (.tup [x, y]) ∧ xs[j]? = some x ∧ ys[j]? = some y
/-- the zip at its i-th turn: its tuple is its own, or its last pair stands elsewhere -/
def ZFr (z TI TO : Addr) (S : Addr) (fp : List Addr) (h : Heap) : Prop := IsZip h z TI TO .none ∨ ∃ T0 f1 ob, ZKept h z TI TO T0 f1 ∧ h.get? T0 = some ob ∧ T0 ∉ fp ∧ T0 ≠ S
def ZSt (z TI TO i1 i2 a b S : Addr) (i : Nat) (h : Heap) : Prop := ZFr z TI TO S [z, TI, TO, i1, i2] h ∧ IsPair h TI (.ref i1) (.ref i2) ∧ (∃ x y, IsPair h TO x y) ∧ h.IsTupleIter i1 a i ∧ h.IsTupleIter i2 b i
theorem ZSt.keep {z TI TO i1 i2 a b S : Addr} {i : Nat} {h h' : Heap} (st : ZSt z TI TO i1 i2 a b S i h) (k : ∀ c, c ≠ S → ∀ o, h.get? c = some o → h'.get? c = some o) (hS : ∀ c ∈ [z, TI, TO, i1, i2], S ≠ c) : ZSt z TI TO i1 i2 a b S i h' := by
  obtain ⟨e1, e2, ⟨x, y, e3⟩, e4, e5⟩ := st
  have n : ∀ c ∈ [z, TI, TO, i1, i2], c ≠ S := fun c hc q => hS c hc q.symm
  refine ⟨?_, k TI (n _ (by simp)) _ e2, ⟨x, y, k TO (n _ (by simp)) _ e3⟩, e4.at fun o q => k i1 (n _ (by simp)) o q, e5.at fun o q => k i2 (n _ (by simp)) o q⟩
  rcases e1 with e1 | ⟨T0, f1, ob, q1, q2, q3, q4⟩
  · exact .inl (k z (n _ (by simp)) _ e1)
  · exact .inr ⟨T0, f1, ob, k z (n _ (by simp)) _ q1, k T0 q4 _ q2, q3, q4⟩
theorem ZSt.mem {z TI TO i1 i2 a b S : Addr} {i : Nat} {h : Heap} (st : ZSt z TI TO i1 i2 a b S i h) {c : Addr} (hc : c ∈ [z, TI, TO, i1, i2]) : c < h.objs.size := by
  obtain ⟨e1, e2, ⟨x, y, e3⟩, ⟨o1, e4, _⟩, ⟨o2, e5, _⟩⟩ := st
  have e' : c = z ∨ c = TI ∨ c = TO ∨ c = i1 ∨ c = i2 := by simpa using hc
  rcases e' with q | q | q | q | q <;> subst q
  · rcases e1 with e1 | ⟨T0, f1, ob, q1, _⟩
    · exact Heap.lt_size e1
    · exact Heap.lt_size q1
  · exact Heap.lt_size e2
  · exact Heap.lt_size e3
  · exact Heap.lt_size e4
  · exact Heap.lt_size e5
section
variable {prog : Program} {w : World} {A : Around} {E : Value → Shared → Prop} {s : Shared}
theorem zany_item {z TI TO i1 i2 l1 l2 S : Addr} {i : Nat} {xs ys : Array Value} {x y : Value} {Q : Option Value → Shared → Prop} (D : ZipApart z TI TO i1 i2 l1 l2) (st : ZSt z TI TO i1 i2 l1 l2 S i s.heap)
    (hl1 : s.heap.IsTuple l1 xs) (hl2 : s.heap.IsTuple l2 ys) (hx : xs[i]? = some x) (hy : ys[i]? = some y) (hST : S ≠ s.heap.objs.size)
    (hQ : ∀ h', ZSt z TI TO i1 i2 l1 l2 S (i + 1) h' → IsPair h' s.heap.objs.size x y → (∀ c o, c ∉ [z, TI, TO, i1, i2] → s.heap.get? c = some o → h'.get? c = some o) → Q (some (.ref s.heap.objs.size)) { s with heap := h' }) :
    wpAny (model prog w) A (pyNext (.ref z)) Q E s := by
  have hlt := fun c (hc : c ∈ [z, TI, TO, i1, i2]) => ZSt.mem st hc
  have hfr : s.heap.objs.size ∉ [z, TI, TO, i1, i2] := fun q => Nat.lt_irrefl _ (hlt _ q)
  obtain ⟨e1, hTI, ⟨x0, y0, hTO⟩, h1, h2⟩ := st
  rcases e1 with hz | ⟨T0, f1, ob, hz, hT0, q3, q4⟩
  · refine RZ.pyNext_zipT_item D hz hTI hTO h1 h2 hl1 hl2 hx hy fun h' z' TO' h1' h2' hT hsz hk => ?_
    refine hQ h' ⟨.inr ⟨s.heap.objs.size, false, _, z', hT, hfr, hST.symm⟩, hk _ _ D.TIz D.TITO D.TIi1 D.TIi2 hTI, ⟨x, y, TO'⟩, h1', h2'⟩ hT fun c o hc q => ?_
    exact hk c o (fun e => hc (by simp [e])) (fun e => hc (by simp [e])) (fun e => hc (by simp [e])) (fun e => hc (by simp [e])) q
  · have hT : s.TypeIs (.ref z) "zip" := ⟨_, hz, rfl⟩
    unfold pyNext
    refine wpAny_bind (wpAny_attempt (wpAny_callSpecial?_slot (name := Str.ofString "__next__") hT F.slot_zip_next
      (wpAny_call_entry F.slot_zip_next hT F.entry_zip_next (kept_item D hz hTI hT0 h1 h2 hl1 hl2 hx hy fun h' z' h1' h2' hP hsz hk => wpAny_pure ?_) (F.args_zip_next_1 _))))
    have hk' : ∀ c o, c ∉ [z, i1, i2] → s.heap.get? c = some o → h'.get? c = some o := fun c o hc q => hk c o (fun e => hc (by simp [e])) (fun e => hc (by simp [e])) (fun e => hc (by simp [e])) q
    have hT0' : T0 ∉ [z, i1, i2] := fun e => q3 (by
      have : T0 = z ∨ T0 = i1 ∨ T0 = i2 := by simpa using e
      rcases this with q | q | q <;> simp [q])
    refine hQ h' ⟨.inr ⟨T0, true, ob, z', hk' _ _ hT0' hT0, q3, q4⟩, hk _ _ D.TIz D.TIi1 D.TIi2 hTI, ⟨x0, y0, hk _ _ D.TOz D.TOi1 D.TOi2 hTO⟩, h1', h2'⟩ hP fun c o hc q => ?_
    exact hk c o (fun e => hc (by simp [e])) (fun e => hc (by simp [e])) (fun e => hc (by simp [e])) q
theorem zany_end {z TI TO i1 i2 l1 l2 S : Addr} {i : Nat} {xs ys : Array Value} {Q : Option Value → Shared → Prop} (hh : A.handled = none) (D : ZipApart z TI TO i1 i2 l1 l2) (st : ZSt z TI TO i1 i2 l1 l2 S i s.heap)
    (hl1 : s.heap.IsTuple l1 xs) (hl2 : s.heap.IsTuple l2 ys) (hend : xs[i]? = none ∨ ys[i]? = none)
    (hQ : ∀ h', (∀ c o, c ∉ [z, TI, TO, i1, i2] → s.heap.get? c = some o → h'.get? c = some o) → Q none { s with heap := h' }) : wpAny (model prog w) A (pyNext (.ref z)) Q E s := by
  obtain ⟨e1, hTI, ⟨x0, y0, hTO⟩, h1, h2⟩ := st
  rcases e1 with hz | ⟨T0, f1, ob, hz, hT0, q3, q4⟩
  · refine RZ.pyNext_zipT_end hh D hz hTI hTO h1 h2 hl1 hl2 hend fun h' hk => hQ h' fun c o hc q => ?_
    exact hk c o (fun e => hc (by simp [e])) (fun e => hc (by simp [e])) (fun e => hc (by simp [e])) (fun e => hc (by simp [e])) q
  · have hT : s.TypeIs (.ref z) "zip" := ⟨_, hz, rfl⟩
    unfold pyNext
    refine wpAny_bind (wpAny_attempt (wpAny_callSpecial?_slot (name := Str.ofString "__next__") hT F.slot_zip_next
      (wpAny_call_entry F.slot_zip_next hT F.entry_zip_next (kept_end hh D hz hTI hT0 h1 h2 hl1 hl2 hend fun h' e hk he => ?_) (F.args_zip_next_1 _))))
    obtain ⟨o, ho, hc⟩ := he
    refine wpAny_bind (wpAny_isInstance (T := "StopIteration") (b := true) ⟨o, ho, hc⟩ isSubtype_stop (wpAny_pure (hQ h' fun c o hc q => ?_)))
    exact hk c o (fun e => hc (by simp [e])) (fun e => hc (by simp [e])) (fun e => hc (by simp [e])) q
end
section
variable {X : Cx}
/-- one turn's pair, laid and put behind the others -/
theorem Zs.step {H Hc : Hp} {S T : Addr} {xs ys acc : List V} {i : Nat} {x y : V} (Z : Zs H Hc S xs ys acc i) (hT : Hc T = none) (hx : xs[i]? = some x) (hy : ys[i]? = some y) : Zs H (upd (upd Hc T (.tup [x, y])) S (.lst (acc ++ [.ref T]))) S xs ys (acc ++ [.ref T]) (i + 1) := by
  have hTS : T ≠ S := fun e => by
    rw [e, Z.at_] at hT
    cases hT
  have hTn : H T = none := by
    cases g : H T with
    | none => rfl
    | some o =>
      rw [Z.sub _ _ g] at hT
      cases hT
  refine ⟨fun c o e => ?_, Z.new, upd_same, by simp [Z.len], fun j hj => ?_⟩
  · have h1 : c ≠ S := fun q => by
      rw [q, Z.new] at e
      cases e
    have h2 : c ≠ T := fun q => by
      rw [q, hTn] at e
      cases e
    rw [upd_ne h1, upd_ne h2]
    exact Z.sub _ _ e
  · by_cases hji : j < i
    · obtain ⟨T', x', y', a1, a2, a3, a4, a5, a6⟩ := Z.el j hji
      have : T' ≠ T := fun q => by
        rw [q, hT] at a4
        cases a4
      refine ⟨T', x', y', ?_, a2, a3, ?_, a5, a6⟩
      · rw [List.getElem?_append_left (by rw [Z.len]; exact hji)]
        exact a1
      · rw [upd_ne a2, upd_ne this]
        exact a4
    · obtain rfl : j = i := by omega
      refine ⟨T, x, y, ?_, hTS, hTn, ?_, hx, hy⟩
      · rw [List.getElem?_append_right (by rw [Z.len]; exact Nat.le_refl _), Z.len]
        simp
      · rw [upd_ne hTS, upd_same]
theorem zip_loop {A : Around} {pins : List (Addr × Obj)} {σ : L2.St} {H : Hp} {z TI TO i1 i2 a b S : Addr} {xs ys : List V} {res : Value} {R : Result → Shared → Prop} (hh : A.in1.handled = none) (D : ZipApart z TI TO i1 i2 a b) (ha : SqT X.K H a xs) (hb : SqT X.K H b ys) (hlim : min xs.length ys.length ≤ LIM)
    (hR : ∀ s' Hc' acc', Inv X pins σ Hc' s' → Zs H Hc' S xs ys acc' (min xs.length ys.length) → R (.ok (.ret res)) s') :
    ∀ (k i : Nat) (s : Shared) (Hc : Hp) (acc : List V), min xs.length ys.length - i = k → i ≤ min xs.length ys.length → Inv X pins σ Hc s → ZSt z TI TO i1 i2 a b S i s.heap → (∀ c ∈ [z, TI, TO, i1, i2], FpOk X pins Hc c) → Zs H Hc S xs ys acc i →
    codeAny (model X.prog X.w) A (.builtin "list.extend.loop" ⟨[.ref S, .ref z, res], []⟩) R s := by
  intro k
  induction k with
  | zero =>
    intro i s Hc acc hk hi I st hf Z
    obtain ⟨its, rv, p, _⟩ := I.tuple (Z.sub.sqT ha)
    obtain ⟨its2, rv2, p2, _⟩ := I.tuple (Z.sub.sqT hb)
    have l1 := rv.length
    have l2 := rv2.length
    have he : its.toArray[i]? = none ∨ its2.toArray[i]? = none := by
      by_cases q : xs.length ≤ i
      · exact .inl (by simp; omega)
      · exact .inr (by simp; omega)
    refine codeAny_builtin F.entry_extend_loop ?_
    rw [Around.under_plainId F.plain_extend_loop _]
    show wpAny _ A.in1 (pyNext (.ref z) >>= _) _ _ s
    refine wpAny_bind (zany_end hh D st p p2 he fun h' hk' => wpAny_pure ?_)
    have I2 : Inv X pins σ Hc { s with heap := h' } := I.turnedL (t' := s.toks) (ch := [z, TI, TO, i1, i2]) hk' hf
    obtain rfl : i = min xs.length ys.length := by omega
    exact hR _ Hc acc I2 Z
  | succ k ih =>
    intro i s Hc acc hk hi I st hf Z
    have hlt : i < xs.length ∧ i < ys.length := by omega
    obtain ⟨its, rv, p, _⟩ := I.tuple (Z.sub.sqT ha)
    obtain ⟨its2, rv2, p2, _⟩ := I.tuple (Z.sub.sqT hb)
    have hx : xs[i]? = some xs[i] := List.getElem?_eq_getElem hlt.1
    have hy : ys[i]? = some ys[i] := List.getElem?_eq_getElem hlt.2
    obtain ⟨u, hu, ru⟩ := rv.get hx
    obtain ⟨u2, hu2, ru2⟩ := rv2.get hy
    have fr : Hc s.heap.objs.size = none := I.fresh
    have hST : S ≠ s.heap.objs.size := fun q => by
      rw [← q, Z.at_] at fr
      cases fr
    refine codeAny_builtin F.entry_extend_loop ?_
    rw [Around.under_plainId F.plain_extend_loop _]
    show wpAny _ A.in1 (pyNext (.ref z) >>= _) _ _ s
    refine wpAny_bind (zany_item D st p p2 (x := u) (y := u2) (by simpa using hu) (by simpa using hu2) hST fun h' st' hT hk' => ?_)
    have new : ObjOk X.prog X.w (upd Hc s.heap.objs.size (.tup [xs[i], ys[i]])) h' s.heap.objs.size (.tup [xs[i], ys[i]]) :=
      ⟨by show 2 ≤ sizeLine; decide, [u, u2], .cons ru (.cons ru2 .nil), ⟨_, hT, rfl, _, rfl⟩⟩
    have I1 : Inv X pins σ (upd Hc s.heap.objs.size (.tup [xs[i], ys[i]])) { s with heap := h' } :=
      I.turnedNew (t' := s.toks) (ch := [z, TI, TO, i1, i2]) hk' hf (Nat.le_refl _) new
    have hS1 : upd Hc s.heap.objs.size (.tup [xs[i], ys[i]]) S = some (.lst acc) := by
      rw [upd_ne hST]
      exact Z.at_
    obtain ⟨zz, its3, n3, r3, hl3, e3⟩ := I1.lstM hS1
    have hlen : its3.length = i := by rw [← hl3, Z.len]
    have hle : i ≤ 1000000 := by
      have : LIM = 1000000 := rfl
      omega
    have hSf : ∀ c ∈ [z, TI, TO, i1, i2], S ≠ c := fun c hc q => by
      have := (hf c hc).1
      rw [← q, Z.at_] at this
      cases this
    show wpAny _ A.in1 (updateSeq S (·.push (.ref s.heap.objs.size)) >>= _) _ _ _
    refine wpAny_bind (wpAny_updateSeq e3 rfl (wpAny_pure ⟨plainId_quiet F.plain_extend_loop _, ?_⟩) (by rw [List.size_toArray, hlen, sizeLine_eq]; omega) (by rw [Array.size_push, List.size_toArray, hlen, sizeLine_eq]; omega))
    have hv : Vals (acc ++ [.ref s.heap.objs.size]) (its3 ++ [.ref s.heap.objs.size]) := r3.append (.cons (show L2.RelV (.ref s.heap.objs.size) (.ref s.heap.objs.size) from rfl) .nil)
    have I2 := I1.lset (its' := its3 ++ [.ref s.heap.objs.size]) (ys := acc ++ [.ref s.heap.objs.size]) (f := (·.push (.ref s.heap.objs.size))) (t' := s.toks) hS1 e3 (by simp) hv (by rw [List.length_append, Z.len, sizeLine_eq]; show i + 1 ≤ _; omega)
    refine ih (i + 1) _ _ _ (by omega) (by omega) I2 (st'.keep (fun c hc o q => (Heap.get?_update_other h' _ hc.symm).trans q) hSf) (fun c hc => ?_) (Z.step fr hx hy)
    have hcl := ZSt.mem st hc
    refine ⟨?_, (hf c hc).2⟩
    rw [upd_ne (hSf c hc).symm, upd_ne (Nat.ne_of_lt hcl)]
    exact (hf c hc).1
/-- the list made of the zip's pairs -/
theorem call_listZip {A : Around} {E : Value → Shared → Prop} {pins : List (Addr × Obj)} {σ : L2.St} {H : Hp} {s : Shared} {z TI TO i1 i2 a b : Addr} {xs ys : List V} {Q : Value → Shared → Prop} (hh : A.handled = none) (D : ZipApart z TI TO i1 i2 a b) (ha : SqT X.K H a xs) (hb : SqT X.K H b ys) (hlim : min xs.length ys.length ≤ LIM)
    (I : Inv X pins σ H s) (st : ∀ S, ZSt z TI TO i1 i2 a b S 0 s.heap) (hf : ∀ c ∈ [z, TI, TO, i1, i2], FpOk X pins H c)
    (hQ : ∀ s' Hc' acc', Inv X pins σ Hc' s' → Zs H Hc' s.heap.objs.size xs ys acc' (min xs.length ys.length) → Q (.ref s.heap.objs.size) s') :
    wpAny (model X.prog X.w) A (call (.type "list") [.ref z]) Q E s := by
  have hlt := fun c (hc : c ∈ [z, TI, TO, i1, i2]) => ZSt.mem (st 0) hc
  have hzl := hlt z (by simp)
  have hzS : s.heap.objs.size ≠ z := Nat.ne_of_gt hzl
  have hTz : s.TypeIs (.ref z) "zip" := by
    rcases (st 0).1 with e | ⟨_, _, _, e, _⟩
    · exact ⟨_, e, rfl⟩
    · exact ⟨_, e, rfl⟩
  refine callType_codes (Q₁ := fun obj s₁ => obj = .ref s.heap.objs.size ∧ s₁ = { s with heap := s.heap.push { cls := .type "list", data := .seq #[] } }) F.called_list (F.typeCall_list_1 _) F.entry_list_init
    (code_list_new _ ⟨rfl, rfl⟩) fun obj s₁ h₁ => ?_
  obtain ⟨rfl, rfl⟩ := h₁
  have hS : (s.heap.push { cls := .type "list", data := .seq #[] }).get? s.heap.objs.size = some { cls := .type "list", data := .seq #[] } := Heap.get?_push_size _ rfl
  have I1 : Inv X pins σ (upd H s.heap.objs.size (.lst [])) { s with heap := s.heap.push { cls := .type "list", data := .seq #[] } } := I.lnew (its := []) (t' := s.toks) .nil (Nat.zero_le _)
  refine ⟨⟨_, hS, rfl⟩, F.args_list_init_2 _ _, ?_⟩
  show wpAny _ A.in1.in1 (do let old ← Builtin.List.listItems (.ref s.heap.objs.size); Builtin.List.listUpdate (.ref s.heap.objs.size) (fun _ => #[]); letGo old.toList.reverse; Builtin.List.listExtendWith (.ref s.heap.objs.size) (.ref z) .none) _ _ _
  refine wpAny_bind ?_
  unfold Builtin.List.listItems
  refine wpAny_bind (wpAny_seqItems hS rfl (wpAny_pure ?_))
  show wpAny _ A.in1.in1 (updateSeq s.heap.objs.size (fun _ => #[]) >>= fun _ => letGo (#[] : Array Value).toList.reverse >>= fun _ => Builtin.List.listExtendWith (.ref s.heap.objs.size) (.ref z) .none) _ _ _
  refine wpAny_bind (wpAny_updateSeq hS rfl ?_)
  have I2 := I1.lset (its' := []) (ys := []) (f := fun _ => #[]) (t' := s.toks) upd_same hS rfl .nil (Nat.zero_le _)
  have hS2 := Heap.get?_update_self (Obj.mapSeq (fun _ => (#[] : Array Value))) hS rfl
  refine wpAny_bind (wpAny_letGo ?_)
  have st2 : ZSt z TI TO i1 i2 a b s.heap.objs.size 0 ((s.heap.push { cls := .type "list", data := .seq #[] }).update s.heap.objs.size (Obj.mapSeq fun _ => #[])) :=
    (st _).keep (fun c hc o q => (Heap.get?_update_other _ _ hc.symm).trans (Heap.get?_push_of_some _ q)) fun c hc => Nat.ne_of_gt (hlt c hc)
  have hTz2 : ∀ h', ZSt z TI TO i1 i2 a b s.heap.objs.size 0 h' → ({ s with heap := h' } : Shared).TypeIs (.ref z) "zip" := fun h' q => by
    rcases q.1 with e | ⟨_, _, _, e, _⟩
    · exact ⟨_, e, rfl⟩
    · exact ⟨_, e, rfl⟩
  unfold Builtin.List.listExtendWith
  refine wpAny_bind (wpAny_typeOf (hTz2 _ st2) ?_)
  have g1 : Builtin.List.listSameRef (.ref s.heap.objs.size) (.ref z) = false := by simp [Builtin.List.listSameRef, hzS]
  have g2 : (Value.type "zip" == Value.type "list") = false := by decide
  have g3 : (Value.type "zip" == Value.type "tuple") = false := by decide
  simp only [g1, g2, g3, Bool.or_false, Bool.false_eq_true, if_false]
  have hself : ∀ {A' : Around} {Q' : Value → Shared → Prop} {E' : Value → Shared → Prop} (h' : Heap), ZSt z TI TO i1 i2 a b s.heap.objs.size 0 h' → Q' (.ref z) { s with heap := h' } → wpAny (model X.prog X.w) A' (pyIter (.ref z)) Q' E' { s with heap := h' } := fun h' q k => by
    have hT := hTz2 h' q
    refine wpAny_pyIter_slot hT F.slot_zip_iter (wpAny_call_entry F.slot_zip_iter hT F.entry_zip_iter ?_ (F.args_zip_iter_1 _))
    exact wpAny_pure ⟨_, rfl, "zip", _, hT, F.slot_zip_next.lookup, k⟩
  refine wpAny_bind (hself _ st2 ?_)
  refine wpAny_bind (wpAny_holding ?_)
  unfold Builtin.List.listLengthHint
  refine wpAny_bind (wpAny_specialOf (hTz2 _ st2) zip_noLen ?_)
  show wpAny _ A.in1.in1 (specialOf (Value.ref z) (Str.ofString "__length_hint__") >>= _) _ _ _
  refine wpAny_bind (wpAny_specialOf (hTz2 _ st2) zip_noHint ?_)
  refine wpAny_pure ?_
  show wpAny _ A.in1.in1 (rule "list.extend.makes-room" >>= fun _ => Builtin.List.listTouch (.ref s.heap.objs.size) >>= fun _ =>
    again (.builtin "list.extend.loop" ⟨[.ref s.heap.objs.size, .ref z, .none], []⟩)) _ _ _
  refine wpAny_bind (wpAny_rule ?_)
  refine wpAny_bind ?_
  show wpAny _ A.in1.in1 (updateSeq s.heap.objs.size (·.push .none) >>= fun _ => updateSeq s.heap.objs.size (·.pop)) _ _ _
  refine wpAny_bind (wpAny_updateSeq hS2 rfl ?_)
  have I3 := I2.lset (its' := [.none]) (ys := [.non]) (f := (·.push .none)) (t' := s.toks) (by rw [upd_same]) hS2 rfl (.cons (show L2.RelV .non .none from rfl) .nil) (by decide)
  have hS3 := Heap.get?_update_self (Obj.mapSeq (·.push Value.none)) hS2 rfl
  refine wpAny_updateSeq (hz := by seq_fits) hS3 rfl ?_
  have I4 := I3.lset (its' := []) (ys := []) (f := (·.pop)) (t' := s.toks) (by rw [upd_same]) hS3 rfl .nil (Nat.zero_le _)
  have st4 := (st2.keep (h' := (((s.heap.push { cls := .type "list", data := .seq #[] }).update s.heap.objs.size (Obj.mapSeq fun _ => #[])).update s.heap.objs.size (Obj.mapSeq (·.push Value.none))).update s.heap.objs.size (Obj.mapSeq (·.pop))) (fun c hc o q => (Heap.get?_update_other _ _ hc.symm).trans ((Heap.get?_update_other _ _ hc.symm).trans q)) fun c hc => Nat.ne_of_gt (hlt c hc))
  have fr : H s.heap.objs.size = none := I.fresh
  refine wpAny_pure ⟨plainId_quiet F.plain_extend_loop _, ?_⟩
  refine zip_loop (A := A.in1) (S := s.heap.objs.size) (H := H) (xs := xs) (ys := ys) hh D ha hb hlim ?_ _ 0 _ _ [] rfl (Nat.zero_le _) I4 st4 (fun c hc => ?_) ⟨fun c o e => ?_, fr, upd_same, rfl, fun j hj => absurd hj (Nat.not_lt_zero _)⟩
  · exact fun s' Hc' acc' I' Z' => ⟨rfl, hQ s' Hc' acc' I' Z'⟩
  · have hcl := hlt c hc
    refine ⟨?_, (hf c hc).2⟩
    have n := Nat.ne_of_lt hcl
    rw [upd_ne n, upd_ne n, upd_ne n, upd_ne n]
    exact (hf c hc).1
  · have n : c ≠ s.heap.objs.size := fun q => by
      rw [q, fr] at e
      cases e
    rw [upd_ne n, upd_ne n, upd_ne n, upd_ne n]
    exact e
end
end DL
namespace DL
open PySem PySem.Spec PyProof.Rows L2
section
variable {X : Cx}
def tListZipT (K : PySem.W.Frag) (ta : TA) : TE := fun σ H Q => ta σ H fun vs H1 => ∃ a b xs ys, vs = [.ref a, .ref b] ∧ SqT K H1 a xs ∧ SqT K H1 b ys ∧ min xs.length ys.length ≤ LIM ∧ ∀ H' S acc, Zs H1 H' S xs ys acc (min xs.length ys.length) → Q (.ref S) H'
theorem pe_listZipT {e e2 : Expr} {ta : TA} {p p2 q pos : Pos} (hc : X.calm = true) (hg : Gl X "list") (hm : X.mg "list" = none) (hg2 : Gl X "zip") (hm2 : X.mg "zip" = none) (ha : PA X [e, e2] ta)
    (hs : starEach [e, e2] X.env = (false, eval e X.env) :: starEach [e2] X.env := by rfl) (hpl : (backTo q (starEach [e2] X.env)).any (·.1) = false := by rfl)
    (nb : starEach [.Call (.Name "zip" p2) [e, e2] [] q] X.env = (false, eval (.Call (.Name "zip" p2) [e, e2] [] q) X.env) :: starEach [] X.env := by rfl) :
    PE X (.Call (.Name "list" p) [.Call (.Name "zip" p2) [e, e2] [] q] [] pos) (tListZipT X.K ta) := by
  refine ⟨fun pins s σ H Q I h => ?_⟩
  refine Call_ (ld_blt I hg hm PyProof.Rows.boot_list ?_)
  refine PyProof.Rows.callWith_type1 (PyProof.Rows.args_cons ?_ nb) nb rfl
  refine Call_ (ld_blt I hg2 hm2 PyProof.Rows.boot_zip (PyProof.Rows.callWith_type1 (thn (ha.run q pins s σ H _ I h) fun us s1 ⟨vs, H1, I1, r1, q1⟩ => ?_) hs hpl))
  obtain ⟨a, b, xs, ys, ex, hx, hy, hlim, q1⟩ := q1
  subst ex
  obtain _ | ⟨r, rr⟩ := r1
  obtain _ | ⟨r', rr⟩ := rr
  cases rr
  cases r
  cases r'
  obtain ⟨its, rv, p1, _⟩ := I1.tuple hx
  obtain ⟨its2, rv2, p2, _⟩ := I1.tuple hy
  obtain ⟨o1, ho1, _⟩ := id p1
  obtain ⟨o2, ho2, _⟩ := id p2
  refine RZ.call_zipT (show s1.heap.IsTuple a its.toArray from p1) (show s1.heap.IsTuple b its2.toArray from p2) fun h' hz hTI hTO h1 h2 hsz hk => PyProof.Rows.args_nil ?_
  have I2 : Inv X pins σ H1 { s1 with heap := h' } := I1.kept (t' := s1.toks) hk
  refine call_listZip (I1.ok.hd hc) (PySem.W.ktu_apart s1.heap.objs.size a b (Heap.lt_size ho1) (Heap.lt_size ho2)) hx hy hlim I2 (fun S => ⟨.inl hz, hTI, ⟨_, _, hTO⟩, h1, h2⟩) (fun c hcm => ?_) fun s' Hc' acc' I' Z' => ⟨.ref _, Hc', I', rfl, q1 _ _ _ Z'⟩
  have e' : c = s1.heap.objs.size + 4 ∨ c = s1.heap.objs.size + 2 ∨ c = s1.heap.objs.size + 3 ∨ c = s1.heap.objs.size ∨ c = s1.heap.objs.size + 1 := by simpa using hcm
  have hle : s1.heap.objs.size ≤ c := by
    rcases e' with q | q | q | q | q <;> rw [q]
    · exact Nat.le_add_right _ _
    · exact Nat.le_add_right _ _
    · exact Nat.le_add_right _ _
    · exact Nat.le_refl _
    · exact Nat.le_add_right _ _
  exact I1.fpOk hle (I1.hok.fresh hle)
def tList_zip2 (Ta : TDs) : TD := fun ρ n q => Ta ρ n fun as n => ∃ ds es, as = [.tup ds, .tup es] ∧ min ds.length es.length ≤ LIM ∧ q (.lst (zipD ds es)) n
theorem reps_of_get {K : PySem.W.Frag} {pn : Pn} {G : Hp} : ∀ {ds : List D} {vs : List V}, vs.length = ds.length → (∀ (i : Nat) (d : D) (v : V), ds[i]? = some d → vs[i]? = some v → Rep K pn G v d) → Reps K pn G vs ds
  | [], [], _, _ => rfl
  | d :: ds, v :: vs, hl, h => ⟨v, vs, rfl, h 0 d v rfl rfl, reps_of_get (by simpa using hl) fun i d v h1 h2 => h (i + 1) d v (by simpa using h1) (by simpa using h2)⟩
theorem ed_list_zip2 {a b : Expr} {Ta : TDs} {p p2 q pos : Pos} (B : NoB X.mg) (hc : X.calm = true) (hg : Gl X "list") (hg2 : Gl X "zip") (ha : AD X [a, b] Ta)
    (hs : starEach [a, b] X.env = (false, eval a X.env) :: starEach [b] X.env := by rfl) (hpl : (backTo q (starEach [b] X.env)).any (·.1) = false := by rfl)
    (nb : starEach [.Call (.Name "zip" p2) [a, b] [] q] X.env = (false, eval (.Call (.Name "zip" p2) [a, b] [] q) X.env) :: starEach [] X.env := by rfl) : ED X (.Call (.Name "list" p) [.Call (.Name "zip" p2) [a, b] [] q] [] pos) (tList_zip2 Ta) := by
  obtain ⟨t, pa, k⟩ := ha
  refine ⟨_, pe_listZipT hc hg (B _ (by decide)) hg2 (B _ (by decide)) pa hs hpl nb, fun σ H G pn n ρ q A hT Q kq => ?_⟩
  refine k σ H G pn n ρ _ A hT _ fun vs H1 ⟨as, n1, g1, r1, ds, es, hd, hlim, hq⟩ => ?_
  subst hd
  have A1 := A.go g1
  obtain ⟨v, w, rfl, r2, r3⟩ := reps2 r1
  obtain ⟨x, xs, rfl, h3, h4⟩ := r2
  obtain ⟨y, ys, rfl, h5, h6⟩ := r3
  have l1 := Reps.length h4
  have l2 := Reps.length h6
  refine ⟨x, y, xs, ys, rfl, A1.sub.sqT h3, A1.sub.sqT h5, by rw [l1, l2]; exact hlim, fun H' S acc Z => ?_⟩
  have g2 : Go pn (ext G H H1) H1 H' n1 := Go.of_sub A1.pst Z.sub
  refine kq _ _ ⟨.lst (zipD ds es), n1, g1.trans g2, ?_, hq⟩
  rw [← A.ext_ext g1 g2]
  have nS : ext G H H1 S = none := by
    cases g : ext G H H1 S with
    | none => rfl
    | some u =>
      have := A1.sub _ _ g
      rw [Z.new] at this
      cases this
  refine ⟨S, acc, rfl, ?_, ?_⟩
  · rw [ext_none nS Z.new]
    exact Z.at_
  · refine reps_of_get (by rw [Z.len, zipD_len, l1, l2]) fun i d v hd hv => ?_
    have hi : i < min xs.length ys.length := by
      rw [← Z.len]
      exact (List.getElem?_eq_some_iff.mp hv).1
    obtain ⟨T, x', y', a1, a2, a3, a4, a5, a6⟩ := Z.el i hi
    rw [a1] at hv
    cases hv
    obtain ⟨d1, b1, b2⟩ := Reps.get' h4 a5
    obtain ⟨d2, b3, b4⟩ := Reps.get' h6 a6
    rw [zipD_get ds es i d1 d2 b1 b3] at hd
    cases hd
    have nT : ext G H H1 T = none := by
      cases g : ext G H H1 T with
      | none => rfl
      | some u =>
        have := A1.sub _ _ g
        rw [a3] at this
        cases this
    exact ⟨T, [x', y'], rfl, SqT.of (by rw [ext_none nT a3]; exact a4), x', _, rfl, Rep.mono sub_ext _ _ b2, y', [], rfl, Rep.mono sub_ext _ _ b4, rfl⟩
end
end DL
set_option maxHeartbeats 4000000
/-! repr of data -/
namespace DL
open PySem PySem.Spec PyProof.Rows L2
mutual
/-- no list, no pen, no dict but the empty one within -/
def nlD : D → Bool
  | .tup ds => nlDs ds
  | .dct [] => true
  | .dct (_ :: _) => false
  | .pen => false
  | .scr _ => false
  | .non => true
  | .bl _ => true
  | .int _ => true
  | .str _ => true
  | .lst _ => false
def nlDs : List D → Bool
  | [] => true
  | d :: ds => nlD d && nlDs ds
end
mutual
def noD : D → Bool
  | .tup ds => noDs ds
  | .lst ds => noDs ds
  | .dct _ => false
  | .pen => false
  | .scr _ => false
  | .non => true
  | .bl _ => true
  | .int _ => true
  | .str _ => true
def noDs : List D → Bool
  | [] => true
  | d :: ds => noD d && noDs ds
end
section
variable {X : Cx} {pins : List (Addr × Obj)} {σ : L2.St} {G H : Hp} {s : Shared} {pn : Pn}
mutual
theorem Rep.reads (I : Inv X pins σ H s) (sg : Sub G H) : ∀ (d : D) (v : V) (u : Value), noD d = true → Rep X.K pn G v d → L2.RelV v u → ∃ as, Reads s.heap u (toPy d) as ∧ (toPy d).hasDict = false
  | .non, v, u, _, h, r => by
    obtain rfl : v = .non := h
    cases r
    exact ⟨_, .none, rfl⟩
  | .bl b, v, u, _, h, r => by
    obtain rfl : v = .bl b := h
    cases r
    exact ⟨_, .bool b, rfl⟩
  | .int i, v, u, _, h, r => by
    obtain rfl : v = .int i := h
    obtain ⟨t, rfl⟩ := r
    exact ⟨_, .int i t, rfl⟩
  | .str x, v, u, _, h, r => by
    obtain rfl : v = .str x := h
    obtain ⟨t, rfl⟩ := r
    exact ⟨_, .str x t, rfl⟩
  | .tup ds, v, u, c, h, r => by
    obtain ⟨a, vs, rfl, h1, h2⟩ := h
    cases r
    obtain ⟨its, rv, ⟨o, ho, hc, n, hd⟩, _⟩ := I.tuple (sg.sqT h1)
    obtain ⟨as, hr, hn⟩ := Reps.reads I sg ds vs its (by simpa [noD] using c) h2 rv
    exact ⟨_, .tuple ho hc hd hr, by simpa [toPy, PyData.hasDict] using hn⟩
  | .lst ds, v, u, c, h, r => by
    obtain ⟨a, vs, rfl, h1, h2⟩ := h
    cases r
    obtain ⟨z, its, n, rv, _, e⟩ := I.lstM (sg _ _ h1)
    obtain ⟨as, hr, hn⟩ := Reps.reads I sg ds vs its (by simpa [noD] using c) h2 rv
    exact ⟨_, .list e rfl rfl hr, by simpa [toPy, PyData.hasDict] using hn⟩
  | .dct _, _, _, c, _, _ => by simp [noD] at c
  | .pen, _, _, c, _, _ => by simp [noD] at c
  | .scr _, _, _, c, _, _ => by simp [noD] at c
theorem Reps.reads (I : Inv X pins σ H s) (sg : Sub G H) : ∀ (ds : List D) (vs : List V) (us : List Value), noDs ds = true → Reps X.K pn G vs ds → Vals vs us → ∃ as, ReadsAll s.heap us (toPys ds) as ∧ PyData.hasDictAll (toPys ds) = false
  | [], vs, us, _, h, r => by
    obtain rfl : vs = [] := h
    cases r
    exact ⟨_, .nil, rfl⟩
  | d :: ds, vs, us, c, h, r => by
    obtain ⟨v, w, rfl, h1, h2⟩ := h
    have c' : noD d = true ∧ noDs ds = true := by simpa [noDs] using c
    obtain _ | ⟨r1, r2⟩ := r
    obtain ⟨as, q1, q2⟩ := Rep.reads I sg d v _ c'.1 h1 r1
    obtain ⟨bs, q3, q4⟩ := Reps.reads I sg ds w _ c'.2 h2 r2
    exact ⟨_, .cons q1 q3, by simp [toPys, PyData.hasDictAll, q2, q4]⟩
end
mutual
theorem Rep.readsN (I : Inv X pins σ H s) (sg : Sub G H) : ∀ (d : D) (v : V) (u : Value), nlD d = true → Rep X.K pn G v d → L2.RelV v u → ∃ as, Reads s.heap u (toPy d) as ∧ sysModules ∉ as
  | .non, v, u, _, h, r => by
    obtain rfl : v = .non := h
    cases r
    exact ⟨_, .none, by simp⟩
  | .bl b, v, u, _, h, r => by
    obtain rfl : v = .bl b := h
    cases r
    exact ⟨_, .bool b, by simp⟩
  | .int i, v, u, _, h, r => by
    obtain rfl : v = .int i := h
    obtain ⟨t, rfl⟩ := r
    exact ⟨_, .int i t, by simp⟩
  | .str x, v, u, _, h, r => by
    obtain rfl : v = .str x := h
    obtain ⟨t, rfl⟩ := r
    exact ⟨_, .str x t, by simp⟩
  | .tup ds, v, u, c, h, r => by
    obtain ⟨a, vs, rfl, h1, h2⟩ := h
    cases r
    obtain ⟨its, rv, ⟨o, ho, hc, n, hd⟩, _⟩ := I.tuple (sg.sqT h1)
    obtain ⟨as, hr, hn⟩ := Reps.readsN I sg ds vs its (by simpa [nlD] using c) h2 rv
    exact ⟨_, .tuple ho hc hd hr, hn⟩
  | .dct [], v, u, c, h, r => by
    obtain ⟨a, ws, rfl, h1, h2⟩ := h
    obtain rfl : ws = [] := h2
    cases r
    obtain ⟨_, hs, vs, kv, o, es, n, ho, hx, hd, _, hp, _⟩ := (sg.rd h1).ok I.hok
    cases kv
    have e0 : es.toList = [] := by
      generalize es.toList = l at hp
      cases hp
      rfl
    have ne : sysModules ≠ a := fun q => by
      rw [← q] at hs
      simp at hs
    refine ⟨_, .dict ho ?_ hd (kvs := []) (as := []) (bs := []) ?_ ?_, fun hm => ?_⟩
    · exact hx.1
    · rw [e0]
      exact .nil
    · rw [e0]
      exact .nil
    · have : sysModules = a := by simpa using hm
      exact ne this
  | .dct (_ :: _), _, _, c, _, _ => by simp [nlD] at c
  | .lst _, _, _, c, _, _ => by simp [nlD] at c
  | .pen, _, _, c, _, _ => by simp [nlD] at c
  | .scr _, _, _, c, _, _ => by simp [nlD] at c
theorem Reps.readsN (I : Inv X pins σ H s) (sg : Sub G H) : ∀ (ds : List D) (vs : List V) (us : List Value), nlDs ds = true → Reps X.K pn G vs ds → Vals vs us → ∃ as, ReadsAll s.heap us (toPys ds) as ∧ sysModules ∉ as
  | [], vs, us, _, h, r => by
    obtain rfl : vs = [] := h
    cases r
    exact ⟨_, .nil, by simp⟩
  | d :: ds, vs, us, c, h, r => by
    obtain ⟨v, w, rfl, h1, h2⟩ := h
    have c' : nlD d = true ∧ nlDs ds = true := by simpa [nlDs] using c
    obtain _ | ⟨r1, r2⟩ := r
    obtain ⟨as, q1, q2⟩ := Rep.readsN I sg d v _ c'.1 h1 r1
    obtain ⟨bs, q3, q4⟩ := Reps.readsN I sg ds w _ c'.2 h2 r2
    exact ⟨_, .cons q1 q3, by simp [q2, q4]⟩
end
/-- what repr may be asked of -/
def repD (d : D) : Bool := (noD d || nlD d) && (toPy d).showable && decide ((toPy d).depth ≤ 100) && decide ((toPy d).shown.length ≤ LIM)
def rReprD (K : PySem.W.Frag) : List V → Hp → VK → Prop := fun xs H Q => ∃ (v : V) (d : D) (pn : Pn) (G : Hp), xs = [v] ∧ Sub G H ∧ Rep K pn G v d ∧ repD d = true ∧ Q (.str (toPy d).shown) H
theorem call_reprD (hg : X.A.guards = some []) (hu : X.A.units + 200 < cLine) : CallR X (.builtin "repr") (rReprD X.K) := by
  intro pins s σ H xs us Q I r h
  obtain ⟨v, d, pn, G, rfl, sg, hr, hd, q⟩ := h
  obtain ⟨u, rfl, rv⟩ := vals1 r
  unfold repD at hd
  simp only [Bool.and_eq_true, Bool.or_eq_true, decide_eq_true_eq] at hd
  obtain ⟨⟨⟨h1, h2⟩, h3⟩, h4⟩ := hd
  have h5 : (toPy d).shown.length ≤ sizeLine := lim_le h4
  have done : ∀ (h' : Heap) (t : Tok) (tk : Tok), (∀ b o, s.heap.get? b = some o → h'.get? b = some o) → EP X pins σ Q (.str (toPy d).shown t) { s with heap := h', toks := tk } := fun h' t tk hk => ⟨.str _, H, I.kept (t' := tk) hk, ⟨t, rfl⟩, q⟩
  have rd : ∃ as, Reads s.heap u (toPy d) as ∧ ((toPy d).hasDict = true → sysModules ∉ as) := by
    rcases h1 with h1 | h1
    · obtain ⟨as, q1, q2⟩ := Rep.reads I sg d v u h1 hr rv
      exact ⟨as, q1, fun z => by rw [q2] at z; cases z⟩
    · obtain ⟨as, q1, q2⟩ := Rep.readsN I sg d v u h1 hr rv
      exact ⟨as, q1, fun _ => q2⟩
  obtain ⟨as, q1, q2⟩ := rd
  cases d with
  | non =>
    obtain rfl : v = .non := hr
    cases rv
    exact PySem.P.repr_of_none (done s.heap _ _ fun _ _ e => e)
  | bl b =>
    obtain rfl : v = .bl b := hr
    cases rv
    exact PySem.P.repr_of_bool (done s.heap _ _ fun _ _ e => e)
  | int i =>
    obtain rfl : v = .int i := hr
    obtain ⟨t, rfl⟩ := rv
    exact PySem.P.repr_of_int (by simpa [toPy, PyData.showable] using h2) (done s.heap _ _ fun _ _ e => e)
  | str x =>
    obtain rfl : v = .str x := hr
    obtain ⟨t, rfl⟩ := rv
    exact PySem.P.repr_of_str (done s.heap _ _ fun _ _ e => e) h5
  | tup ds =>
    obtain ⟨a, vs, rfl, _⟩ := id hr
    cases rv
    exact repr_of_reads' q1 h2 q2 hg (by omega) (fun _ _ e => e) done h5
  | lst ds =>
    obtain ⟨a, vs, rfl, _⟩ := id hr
    cases rv
    exact repr_of_reads' q1 h2 q2 hg (by omega) (fun _ _ e => e) done h5
  | dct ds =>
    obtain ⟨a, vs, rfl, _⟩ := id hr
    cases rv
    exact repr_of_reads' q1 h2 q2 hg (by omega) (fun _ _ e => e) done h5
  | pen =>
    rcases h1 with h1 | h1 <;> simp [noD, nlD] at h1
  | scr ns =>
    rcases h1 with h1 | h1 <;> simp [noD, nlD] at h1
def reprF : List D → Option D
  | [d] => if repD d then some (.str (toPy d).shown) else none
  | _ => none
theorem oc_repr : OpC X (rReprD X.K) reprF := .val fun G H pn xs ds z s r hz => by
  rcases ds with _ | ⟨d, _ | ⟨e, ds⟩⟩
  · cases hz
  · obtain ⟨v, rfl, h1⟩ := reps1 r
    simp only [reprF] at hz
    split at hz
    · rename_i c
      cases hz
      exact ⟨_, rfl, fun Q q => ⟨v, d, pn, G, rfl, s, h1, c, q⟩⟩
    · cases hz
  · cases hz
theorem ed_repr {e : Expr} {p pos : Pos} {T : TDs} (B : NoB X.mg) (hgu : X.A.guards = some []) (hu : X.A.units + 200 < cLine) (hg : Gl X "repr") (h : AD X [e] T) (he : starEach [e] X.env = (false, eval e X.env) :: starEach [] X.env := by rfl) : ED X (.Call (.Name "repr" p) [e] [] pos) (tCallB reprF T) :=
  opc (fun _ pa => pe_callB (call_reprD hgu hu) hg (B _ (by decide)) (by decide +kernel) pa (he := he)) oc_repr h
end
end DL
set_option maxHeartbeats 4000000
/-! the law's own def, at its caller alone: there no repr is under way -/
namespace DL
open PySem PySem.Spec PyProof.Rows L2
section
variable {P : Program} {w : World} {K : PySem.W.Frag} {mg : Str → Option Value} {base : Heap}
/-- a def's promise at one caller -/
def AtA (P : Program) (w : World) (K : PySem.W.Frag) (mg : Str → Option Value) (base : Heap) (A : Around) (f : Addr) (fd : FuncData) (ps : List Str) (sp : Sp) : Prop :=
  ∀ (s : Shared) (H : Hp) (args : Args) (us : List Value) (vs : List V) (Q : VK) (E : XK), Env0 P w K mg base A [] s H → BindsTo s fd args (ps.zip us) → Vals vs us → sp vs H Q E →
    codeAny (model P w) A (.call (.ref f) args) (CR CX0 [] P w H s Q E) s
theorem Fun.atA {A : Around} {x qual : Str} {st : Stmt} {f : Addr} {fd : FuncData} {N ps : List Str} {k : Nat} {sp : Sp} (hr : Room (k + 1) A) (F : Fun K x qual st f fd) (S : FnScope N ps (defScope st))
    (len : ∀ vs H Q E, sp vs H Q E → vs.length = ps.length)
    (hbody : ∀ (cdv : Value) (s : Shared) (H : Hp) (vs : List V) (Q : VK) (E : XK), Room k (A.deeper (envOfC qual (defScope st) s.heap.objs.size f cdv)) → sp vs H Q E →
      ∃ t, PSs (cxOf CX0 P w K mg base N qual (defScope st) f cdv A [] s H E).nox (defBody st) t ∧ t { nx := fun _ H' => Q .non H', rt := Q } (start N vs) H) : AtA P w K mg base A f fd ps sp := by
  obtain ⟨oc, od, kV, doc, pm, an, cdv, ct, osl, rfl, lk, hcd⟩ := F.ex
  intro s H args us vs Q E env0 bound rel want
  obtain ⟨t, ht0, post⟩ := hbody cdv s H vs Q E (hr.deeper _) want
  have ht := ht0.nox
  have nps := len _ _ _ _ want
  have keepB : ∀ (b : Addr) (o : Obj), base.get? b = some o → s.heap.get? b = some o := fun b o e => (env0.bs b o e).1
  have inK : K.In s.heap := env0.mod.kin.keeps keepB
  have noLim : s.heap.NoLimit := env0.mod.nolimit.keeps keepB
  have kinds : ∀ y ∈ ps.zip us, (defScope st).names.lookup y.1 = some .local ∨
      ((defScope st).names.lookup y.1 = some .cell ∧ ((cellsFrom (s.heap.objs.size + 1) (defScope st).names []).lookup y.1).isSome = true) := by
    rintro ⟨n, v⟩ hy
    exact (S.par n (List.of_mem_zip hy).1).imp id fun q => ⟨q, PySem.W.cellsFrom_some _ _ _ (.inl q)⟩
  refine codeAny_call_function hr.depth (inK _ _ lk) rfl S.co S.gen rfl (PySem.W.codeRec_of inK hcd)
    (bound _ _ _ _ (wpAny_newFunctionEnv_cells S.kind kinds fun env he s1 made => ?_))
  subst he
  refine ⟨noLim.keeps made.toInCall.keep, codeAny_func ?_⟩
  have first : Inv (cxOf CX0 P w K mg base N qual (defScope st) f cdv A [] s H E) [] (start N vs) H s1 :=
    inv_start S hr.hd env0 nps rel made
  refine wpAny_mono (ht.run [] s1 (start N vs) H _ first post) (fun fl s' got => ?_) fun e s' got => got
  cases fl with
  | ret u =>
    obtain ⟨v, σ', H', J, rv, q⟩ := got
    exact ⟨v, H', J.os, J.bare, J.base, J.hok, rv, q⟩
  | next =>
    obtain ⟨σ', H', J, q⟩ := got
    exact ⟨V.non, H', J.os, J.bare, J.base, J.hok, rfl, q⟩
  | brk =>
    rcases got with ⟨_, _, _, no⟩
    exact no.elim
  | cont =>
    rcases got with ⟨_, _, _, no⟩
    exact no.elim
/-- the law is called with its script -/
theorem law_at {fa a : Addr} {fd : FuncData} {x : Str} {sp : Sp} {s₁ : Shared} {mb : Str → Option Value} {vs : List Value} {ns : List Int}
    (inK : K.In s₁.heap) (nsG : s₁.heap.Ns mainGlobals mg) (nsB : s₁.heap.Ns builtinsNs mb) (boot : ∀ x : Str, x ≠ "__name__" → mb x = bootBuiltins x) (noLim : s₁.heap.NoLimit) (noGen : s₁.gens = #[])
    (hScr : s₁.heap.get? a = some { cls := .type "list", data := .seq vs.toArray }) (whole : IntsAre vs ns) (short : ns.length ≤ sizeLine)
    (F : ∀ base : Heap, K.In base → base.Ns mainGlobals mg → AtA P w K mg base callerA fa fd [x] sp) (hbind : ∀ (s : Shared) (u : Value), BindsTo s fd ⟨[u], []⟩ [(x, u)])
    (hsp : ∀ H : Hp, Only H → SqL K H a (ns.map V.int) → sp [.ref a] H (fun v _ => v = .bl true) fun _ _ _ => False) :
    codeAny (model P w) callerA (.call (.ref fa) ⟨[.ref a], []⟩) (fun r s' => r = .ok (.ret (.bool true)) ∧ OldK s₁.heap s'.heap ∧ s'.os = s₁.os ∧ AllBare s'.gens) s₁ := by
  have rv : Vals (ns.map V.int) vs := vals_ints whole
  -- H tracks the script at most
  suffices core : ∃ H : Hp, Only H ∧ SqL K H a (ns.map V.int) ∧ HOk P w H s₁.heap ∧ (∀ b, H b ≠ none → b = a) ∧ (H a ≠ none → K.lookup a = none) by
    obtain ⟨H, only, hS, hok, onlyA, notK⟩ := core
    have seen : ∀ {b : Addr} {o : Obj}, s₁.heap.get? b = some o → (∀ vs' n, o.data ≠ .seq vs' n) → H b = none := by
      intro b o e d
      cases q : H b with
      | none => rfl
      | some u =>
        obtain rfl : b = a := onlyA b (by rw [q]; simp)
        rw [hScr] at e
        cases e
        exact absurd rfl (d _ _)
    have nsOf : ∀ {b : Addr} {m : Str → Option Value}, s₁.heap.Ns b m → (hidT s₁.heap H).Ns b m := by
      rintro b m ⟨o, es, ep, e, d, r⟩
      exact ⟨o, es, ep, hidT_get e (seen e fun _ _ z => by rw [d] at z; cases z), d, r⟩
    have inB : K.In (hidT s₁.heap H) := fun b o e => hidT_get (inK b o e) (by
      cases q : H b with
      | none => rfl
      | some u =>
        obtain rfl : b = a := onlyA b (by rw [q]; simp)
        rw [notK (by rw [q]; simp)] at e
        cases e)
    have hMod : Mod K mg (hidT s₁.heap H) := ⟨inB, nsOf nsG, ⟨mb, nsOf nsB, boot⟩, let ⟨mc, h1, h2⟩ := noLim; ⟨mc, nsOf h1, h2⟩⟩
    have env0 : Env0 P w K mg (hidT s₁.heap H) callerA [] s₁ H :=
      ⟨rfl, hMod, fun b o e => of_hidT e, Nat.le_of_eq (hidT_size _ _), trivial, fun b hb => absurd (show b ∈ ([] : List Addr) from hb) (by simp), hok, .of_eq noGen⟩
    refine codeAny_mono (F _ inB (nsOf nsG) s₁ H ⟨[.ref a], []⟩ [.ref a] [.ref a] _ _ env0 (hbind s₁ (.ref a)) (.cons rfl .nil) (hsp H only hS)) fun r s' h => ?_
    rcases r with e | fl
    · exact False.elim h
    · rcases fl with _ | _ | _ | u
      all_goals try exact False.elim h
      obtain ⟨v, H', os, bare, un, hok', ru, rfl⟩ := h
      obtain rfl : u = Value.bool true := ru
      refine ⟨rfl, OldK.of_keep fun b o e => ?_, os, bare⟩
      rcases only b with q | ⟨ob, xs, q⟩
      · exact un.keep b o e q (fun z => absurd (show b ∈ ([] : List Addr) from z) (by simp)) (by simp)
      · obtain ⟨g1, _⟩ := hok b _ q
        obtain ⟨g2, _⟩ := hok' b _ (un.frzs b ob _ q)
        rw [e] at g1
        cases g1
        exact g2
  cases hk : K.lookup a with
  | some o =>
    have e := inK a o hk
    rw [hScr] at e
    cases e
    exact ⟨fun _ => none, fun _ => .inl rfl, .inr ⟨_, vs.toArray, _, hk, rfl, rfl, rfl, by rw [List.size_toArray, whole.length]; exact short, by simpa using rv⟩, fun b u z => by simp at z, fun b z => absurd rfl z, fun z => absurd rfl z⟩
  | none =>
    refine ⟨fun b => if b = a then some (.frz { cls := .type "list", data := .seq vs.toArray } (.lst (ns.map V.int))) else none, fun b => ?_, .inl (.inr ⟨{ cls := .type "list", data := .seq vs.toArray }, if_pos rfl⟩), fun b u z => ?_, fun b z => ?_, fun _ => rfl⟩
    · by_cases hb : b = a
      · exact .inr ⟨_, _, if_pos hb⟩
      · exact .inl (if_neg hb)
    · by_cases hb : b = a
      · subst hb
        simp only [if_true, Option.some.injEq] at z
        subst z
        exact ⟨hScr, by rw [List.length_map]; exact short, vs, _, rv, hScr⟩
      · simp [hb] at z
    · by_cases hb : b = a
      · exact hb
      · simp [hb] at z
/-- the goal that the head leaves, from the law's promise at its caller -/
theorem walk_at {l : PySem.W.OpenLaw} {n : Nat} {q : Program} {loose : List Str} {XP : (Str → Option Value) → Heap → Prop} {YP : World → Heap → Prop} {d : DefRec} {KK : Params → PySem.W.Frag} {sp : World → Sp} {x : Str}
    (hn : l.most = some n) (hn2 : n ≤ sizeLine) (hdf : d.params.defaults = []) (hY : ∀ (w : World) (h : Heap), YP w h → (KK w.params).In h)
    (F : ∀ (w : World) (mg : Str → Option Value) (fa : Addr) (h : Heap), (KK w.params).In h → h.Ns mainGlobals mg → mg d.name = some (.ref fa) →
      ∃ fd : FuncData, (∀ (s : Shared) (u : Value), BindsTo s fd ⟨[u], []⟩ [(x, u)]) ∧
        ∀ base : Heap, (KK w.params).In base → base.Ns mainGlobals mg → AtA l.prog w (KK w.params) mg base callerA fa fd [x] (sp w))
    (hsp : ∀ (w : World) (H : Hp) (a : Addr) (ns : List Int), ns.length ≤ n → Only H → SqL (KK w.params) H a (ns.map V.int) → sp w [.ref a] H (fun v _ => v = .bl true) fun _ _ _ => False) :
    PySem.W.WalkO q loose XP YP l.row.toRowW d [] (fun f vs => PySem.call f vs) := by
  refine Att.attach_call hn hdf fun w s₀ s₁ mg mb fa o pm cd doc a vs ns G Y ho hd hcd hmg hobj hints hlen hg => ?_
  obtain ⟨fd, bindF, runF⟩ := F w mg fa _ (hY w _ Y) G.T.g hmg
  exact law_at (hY w _ Y) G.T.g G.T.b G.T.builtins G.T.nolimit hg hobj hints (Nat.le_trans hlen hn2) runF bindF fun H only hS => hsp w H a ns hlen only hS
end
end DL
namespace DL
open PySem PySem.Spec PyProof.Rows L2
set_option maxHeartbeats 2000000
theorem meets_enum1 {v : Value} {o : Obj} {H : Heap → Prop} (B : Begins v o H) :
    Meets (Builtin.«enumerate.__new__» ⟨[.type "enumerate", v], []⟩) (fun _ R s => H s.heap ∧
      R (.ok (.ret (.ref (s.heap.push o).objs.size))) { s with heap := (s.heap.push o).push { cls := .type "enumerate", data := .fields #[.none, .bool false, .ref s.heap.objs.size, rawInt 0, .none, .none] } }) :=
  .of_wp fun prog w A R s h => by
    obtain ⟨hp, g, d, tk, os⟩ := s
    obtain ⟨h1, h⟩ := h
    have hsub := sub_enumerate
    have q1 : ∀ {A' : Around} {E : Value → Shared → Prop} {Q : Value → Shared → Prop}, Q (.ref hp.objs.size) ⟨hp.push o, g, d, tk, os⟩ → wpAny (model prog w) A' (pyIter v) Q E ⟨hp, g, d, tk, os⟩ := fun q => B.iter prog w _ _ ⟨hp, g, d, tk, os⟩ _ h1 q
    wp_walk using q1
    refine wpAny_stack_any fun st => wpAny_pure ?_
    split
    · rename_i c _ _ _ _ _
      cases (c == Value.type "enumerate") <;> (wp_walk using q1; exact ⟨_, rfl, h⟩)
    · wp_walk using q1
      exact ⟨_, rfl, h⟩
section
variable {prog : Program} {w : World} {A : Around} {E : Value → Shared → Prop} {s : Shared}
theorem enum1 {v : Value} {o : Obj} {H : Heap → Prop} {Q : Value → Shared → Prop} (B : Begins v o H) (h1 : H s.heap)
    (h : ∀ h', IsEnum h' (s.heap.objs.size + 1) s.heap.objs.size 0 .none → h'.get? s.heap.objs.size = some o → (∀ b o, s.heap.get? b = some o → h'.get? b = some o) → Q (.ref (s.heap.objs.size + 1)) { s with heap := h' }) :
    wpAny (model prog w) A (call (.type "enumerate") [v]) Q E s := by
  refine callType_new F.called_enumerate (by decide) (F.typeCall_enumerate_1 _) (F.newCall_enumerate_1 _) (fun obj => F.args_object_init_2 obj _) F.entry_enumerate_new (meets_enum1 B) ⟨h1, ?_⟩
  have hz : (s.heap.push o).objs.size = s.heap.objs.size + 1 := Heap.size_push ..
  show _ ∧ _
  rw [hz]
  have he : IsEnum ((s.heap.push o).push { cls := .type "enumerate", data := .fields #[.none, .bool false, .ref s.heap.objs.size, rawInt 0, .none, .none] }) (s.heap.objs.size + 1) s.heap.objs.size 0 .none := by
    have z := Heap.get?_push_size (s.heap.push o) (o := { cls := .type "enumerate", data := .fields #[.none, .bool false, .ref s.heap.objs.size, rawInt 0, .none, .none] }) rfl
    rw [hz] at z
    exact z
  exact ⟨⟨_, he, rfl⟩, h _ he (Heap.get?_push_of_some _ (Heap.get?_push_size _ B.free)) fun b o x => Heap.get?_push_of_some _ (Heap.get?_push_of_some _ x)⟩
end
/-- a tuple as it stands at each turn, in new pairs with the turn's number -/
def IteT (K : PySem.W.Frag) (a : Addr) : It :=
  ⟨fun i H => ∃ (xs : List V) (x : V), SqT K H a xs ∧ xs[i]? = some x, fun i H v H' => ∃ T x, v = .ref T ∧ H T = none ∧ H' = upd H T (.tup [.int (i : Nat), x]) ∧ ∀ xs, SqT K H a xs → xs[i]? = some x, fun i H => ∃ xs : List V, SqT K H a xs ∧ xs.length ≤ i⟩
theorem tuple_ne {h : Heap} {a b : Addr} {items : Array Value} (t : IsTup h a items) {o : Obj} (e : h.get? b = some o) (c : o.cls ≠ .type "tuple") : a ≠ b := fun z => by
  obtain ⟨o', h1, h2, _⟩ := t
  rw [z, e] at h1
  cases h1
  exact c h2
theorem turn_enumT {P : Program} {w : World} {K : PySem.W.Frag} {elts : List Expr} {kk : Nat} {tpos : Pos} (a e it : Addr) :
    Turn P w K (.Tuple elts kk tpos) (IteT K a) [e, it] e (fun i h => (∃ old, IsEnum h e it ((i : Nat) : Int) old) ∧ h.IsTupleIter it a i ∧ e ≠ it) where
  mem := by simp
  obj := fun i h st b hb => by
    obtain ⟨⟨old, he⟩, ⟨o, ho, hc, hd⟩, _⟩ := st
    rcases (show b = e ∨ b = it by simpa using hb) with z | z
    · rw [z]
      exact ⟨_, he, fun v q => nomatch q⟩
    · rw [z]
      exact ⟨o, ho, fun v q => by rw [hd] at q; cases q⟩
  keep := fun i h h' st k => by
    obtain ⟨⟨old, he⟩, hi, hne⟩ := st
    exact ⟨⟨old, k e (by simp) _ he⟩, hi.at fun o q => k it (by simp) o q, hne⟩
  item := by
    intro X hP hw hK hc i pins s σ H E I hf st hg
    subst hP hw hK
    obtain ⟨⟨old, he⟩, hit, hne⟩ := st
    obtain ⟨xs, x, hq, hx⟩ := hg
    obtain ⟨its, rv, p, hz⟩ := I.tuple hq
    obtain ⟨u, hu, ru⟩ := rv.get hx
    have hel : e < s.heap.objs.size := Heap.lt_size he
    obtain ⟨oi, ho1, ho2, ho3⟩ := id hit
    have hil : it < s.heap.objs.size := Heap.lt_size ho1
    have nai : a ≠ it := tuple_ne p ho1 (by rw [ho2]; decide)
    have nae : a ≠ e := tuple_ne p he (show Value.type "enumerate" ≠ .type "tuple" by decide)
    have hlt : i < its.toArray.size := by
      rw [List.size_toArray]
      exact (List.getElem?_eq_some_iff.mp hu).1
    refine wpAny_pyNext_enum_itemD (Draws.tuple (A := X.A.in1) (I.ok.hd hc) it a nai its.toArray) he ⟨hit, p⟩ hlt hne (by simp [hne, Ne.symm nae]) fun y h' tk hy ho hit' hT hsz hk => ?_
    obtain rfl : y = u := by
      rw [List.getElem?_toArray, hu] at hy
      exact (Option.some.inj hy).symm
    refine ⟨_, rfl, wpAny_letOwnedTupleGo_enum (s := { s with heap := h', toks := tk + 1 }) ho fun h'' he' sb => ?_⟩
    have hT2 : h''.get? s.heap.objs.size = some { cls := .type "tuple", data := .seq #[.int i tk, y] } := (sb.2 _ (Nat.ne_of_gt hel)).trans hT
    have new : ObjOk X.prog X.w (upd H s.heap.objs.size (.tup [.int (i : Nat), x])) h'' s.heap.objs.size (.tup [.int (i : Nat), x]) :=
      ⟨by show 2 ≤ sizeLine; decide, [.int i tk, y], .cons ⟨_, rfl⟩ (.cons ru .nil), ⟨_, hT2, rfl, _, rfl⟩⟩
    have I1 : Inv X pins σ (upd H s.heap.objs.size (.tup [.int (i : Nat), x])) { s with heap := h'', toks := tk + 1 } :=
      I.turnedNew (ch := [e, it]) (fun b ob hb q => (sb.2 b (fun z => hb (by simp [z]))).trans (hk b ob (fun z => hb (by simp [z])) (fun z => hb (by simp [z])) q)) hf (Nat.le_refl _) new
    refine ⟨.ref s.heap.objs.size, _, I1, rfl, ⟨_, x, rfl, I.hok.fresh (Nat.le_refl _), rfl, fun ys hy => by rw [I.tuple_inj hy hq]; exact hx⟩, ⟨⟨y, ?_⟩, hit'.1.at fun o q => (sb.2 it (Ne.symm hne)).trans q, hne⟩, fun b hb => ?_⟩
    · rw [show ((i + 1 : Nat) : Int) = (i : Int) + 1 by omega]
      exact he'
    · have hb' : b < s.heap.objs.size := by
        rcases (show b = e ∨ b = it by simpa using hb) with z | z
        · rw [z]; exact hel
        · rw [z]; exact hil
      rw [upd_ne (Nat.ne_of_lt hb')]
      exact (hf b hb).1
  done := by
    intro X hP hw hK hc i pins s σ H E I hf st hg
    subst hP hw hK
    obtain ⟨⟨old, he⟩, hit, hne⟩ := st
    obtain ⟨xs, hq, hx⟩ := hg
    obtain ⟨its, rv, p, hz⟩ := I.tuple hq
    obtain ⟨f0, f1, f2, f3, f4, f5⟩ := hf it (by simp)
    have hl := rv.length
    obtain ⟨oi, ho1, ho2, ho3⟩ := id hit
    have nai : a ≠ it := tuple_ne p ho1 (by rw [ho2]; decide)
    -- beyond the end nothing is drawn either
    unfold pyNext
    have hT : s.TypeIs (.ref e) "enumerate" := ⟨_, he, rfl⟩
    refine wpAny_bind (wpAny_attempt (wpAny_callSpecial?_slot (name := Str.ofString "__next__") hT F.slot_enumerate_next (wpAny_call_entry F.slot_enumerate_next hT F.entry_enumerate_next ?_ (F.args_enumerate_next_1 _))))
    show wpAny _ _ (field (.ref e) 2 >>= _) _ _ _
    refine wpAny_bind (wpAny_field he rfl (x := .ref it) rfl ?_)
    refine wpAny_bind (wpAny_nextOf_tuple_end (I.ok.hd hc) hit p (by simp; omega) fun h' x he' hx' => ?_)
    obtain ⟨o, ho, hc'⟩ := hx'
    refine wpAny_bind (wpAny_isInstance (T := "StopIteration") (b := true) ⟨o, ho, hc'⟩ isSubtype_stop ?_)
    exact wpAny_pure ⟨rfl, I.turned (t' := s.toks) (fun b o hb q => he' b o hb q) f0 f1 f3 f4 f5⟩
  self := fun A i s Q E st h => let ⟨⟨_, he⟩, _⟩ := st; wpAny_pyIter_enum he h
def iEnumA (K : PySem.W.Frag) (ta : TA) : TI := fun σ H R => ta σ H fun vs H1 => ∃ a xs, vs = [.ref a] ∧ ((SqL K H1 a xs ∧ R (Ite K a) H1) ∨ (SqT K H1 a xs ∧ R (IteT K a) H1))
theorem pi_enumA {X : Cx} {e : Expr} {ta : TA} {p pos tpos : Pos} {elts : List Expr} {kk : Nat} (hg : Gl X "enumerate") (hm : X.mg "enumerate" = none) (ha : PA X [e] ta) (hs : starEach [e] X.env = [(false, eval e X.env)] := by rfl) :
    PI X (.Tuple elts kk tpos) (.Call (.Name "enumerate" p) [e] [] pos) (iEnumA X.K ta) := by
  refine ⟨fun pins s σ H R I h => ?_⟩
  refine Call_ (ld_blt I hg hm boot_enumerate (PyProof.Rows.callWith_type1 (thn (ha.run pos pins s σ H _ I h) fun us s1 ⟨vs, H1, I1, r1, q1⟩ => ?_) hs rfl))
  obtain ⟨a, xs, rfl, q⟩ := q1
  obtain rfl := Vals.ref1 r1
  have fresh : ∀ b, b ∈ [s1.heap.objs.size + 1, s1.heap.objs.size] → FpOk X pins H1 b := fun b hb => by
    have hle : s1.heap.objs.size ≤ b := by
      rcases (show b = s1.heap.objs.size + 1 ∨ b = s1.heap.objs.size by simpa using hb) with z | z <;> omega
    exact I1.fpOk hle (I1.hok.fresh hle)
  rcases q with ⟨hq, q⟩ | ⟨hq, q⟩
  · obtain ⟨its, rv, p', hz⟩ := I1.list hq
    refine enum1 (begins_list a its.toArray) p'.isList fun h' he hit hk => wpAny_pyIter_enum he ?_
    exact ⟨s1.heap.objs.size + 1, [s1.heap.objs.size + 1, s1.heap.objs.size], _, _, H1, rfl, I1.kept (t' := s1.toks) hk, turn_enum a (s1.heap.objs.size + 1) s1.heap.objs.size, ⟨⟨.none, he⟩, ⟨_, hit, rfl, rfl⟩, Nat.succ_ne_self _⟩, fresh, q⟩
  · obtain ⟨its, rv, p', hz⟩ := I1.tuple hq
    refine enum1 (begins_tuple a its.toArray) p' fun h' he hit hk => wpAny_pyIter_enum he ?_
    exact ⟨s1.heap.objs.size + 1, [s1.heap.objs.size + 1, s1.heap.objs.size], _, _, H1, rfl, I1.kept (t' := s1.toks) hk, turn_enumT a (s1.heap.objs.size + 1) s1.heap.objs.size, ⟨⟨.none, he⟩, ⟨_, hit, rfl, rfl⟩, Nat.succ_ne_self _⟩, fresh, q⟩
section
variable {X : Cx}
theorem walks_enumL {K : PySem.W.Frag} {pn : Pn} {G : Hp} {a : Addr} {ws : List V} {ds : List D} (h2 : G a = some (.lst ws)) (h3 : Reps K pn G ws ds) : Walks K pn (Ite K a) G (enumD 0 ds) := by
  refine ⟨fun i H s hi => ?_, fun i H x H' s y => ?_, fun i H s hi => ?_⟩
  · rw [enumD_len] at hi
    have : i < ws.length := by rw [Reps.length h3]; exact hi
    exact ⟨ws, ws[i], SqL.of (s _ _ h2), List.getElem?_eq_getElem this⟩
  · obtain ⟨T, y, rfl, hT, rfl, hy⟩ := y
    refine ⟨fun a u e => by rw [upd_ne (ne_of_none e hT)]; exact e, fun d hd G1 s1 s2 => ?_⟩
    rw [enumD_get] at hd
    cases hd' : ds[i]? with
    | none => rw [hd'] at hd; cases hd
    | some d' =>
      rw [hd'] at hd
      cases hd
      obtain ⟨v, h4, h5⟩ := Reps.get h3 hd'
      have h6 := hy ws (SqL.of (s _ _ h2))
      rw [h4] at h6
      cases h6
      rw [ext_new s2 hT]
      exact ⟨T, _, rfl, SqT.of upd_same, .int (i : Nat), _, rfl, by rw [show 0 + i = i by omega]; rfl, _, [], rfl, Rep.mono (upd_sub s2 hT) _ _ (Rep.mono s1 _ _ h5), rfl⟩
  · rw [enumD_len] at hi
    exact ⟨ws, SqL.of (s _ _ h2), by rw [Reps.length h3]; exact hi⟩
theorem walks_enumT {K : PySem.W.Frag} {pn : Pn} {G : Hp} {a : Addr} {ws : List V} {ds : List D} (h2 : SqT K G a ws) (h3 : Reps K pn G ws ds) : Walks K pn (IteT K a) G (enumD 0 ds) := by
  refine ⟨fun i H s hi => ?_, fun i H x H' s y => ?_, fun i H s hi => ?_⟩
  · rw [enumD_len] at hi
    have : i < ws.length := by rw [Reps.length h3]; exact hi
    exact ⟨ws, ws[i], s.sqT h2, List.getElem?_eq_getElem this⟩
  · obtain ⟨T, y, rfl, hT, rfl, hy⟩ := y
    refine ⟨fun a u e => by rw [upd_ne (ne_of_none e hT)]; exact e, fun d hd G1 s1 s2 => ?_⟩
    rw [enumD_get] at hd
    cases hd' : ds[i]? with
    | none => rw [hd'] at hd; cases hd
    | some d' =>
      rw [hd'] at hd
      cases hd
      obtain ⟨v, h4, h5⟩ := Reps.get h3 hd'
      have h6 := hy ws (s.sqT h2)
      rw [h4] at h6
      cases h6
      rw [ext_new s2 hT]
      exact ⟨T, _, rfl, SqT.of upd_same, .int (i : Nat), _, rfl, by rw [show 0 + i = i by omega]; rfl, _, [], rfl, Rep.mono (upd_sub s2 hT) _ _ (Rep.mono s1 _ _ h5), rfl⟩
  · rw [enumD_len] at hi
    exact ⟨ws, s.sqT h2, by rw [Reps.length h3]; exact hi⟩
def wEnum (Ta : TDs) : TDs := fun ρ n q => Ta ρ n fun as n => ∃ ds, (as = [.lst ds] ∨ as = [.tup ds]) ∧ q (enumD 0 ds) n
theorem wd_enum {e : Expr} {Ta : TDs} {p pos tpos : Pos} {elts : List Expr} {kk : Nat} (B : NoB X.mg) (hg : Gl X "enumerate") (ha : AD X [e] Ta) (hs : starEach [e] X.env = [(false, eval e X.env)] := by rfl) : WD X (.Tuple elts kk tpos) (.Call (.Name "enumerate" p) [e] [] pos) (wEnum Ta) := by
  obtain ⟨t, pa, k⟩ := ha
  refine ⟨_, pi_enumA hg (B _ (by decide)) pa hs, fun σ H G pn n ρ q A hT R kr => ?_⟩
  refine k σ H G pn n ρ _ A hT _ fun vs H1 ⟨as, n1, g1, r1, ds, hd, hq⟩ => ?_
  have A1 := A.go g1
  rcases hd with rfl | rfl
  · obtain ⟨v, rfl, h1⟩ := reps1 r1
    obtain ⟨a, ws, rfl, h2, h3⟩ := h1
    exact ⟨a, ws, rfl, .inl ⟨SqL.of (A1.sub _ _ h2), kr _ _ n1 H1 g1 hq (walks_enumL h2 h3)⟩⟩
  · obtain ⟨v, rfl, h1⟩ := reps1 r1
    obtain ⟨a, ws, rfl, h2, h3⟩ := h1
    exact ⟨a, ws, rfl, .inr ⟨A1.sub.sqT h2, kr _ _ n1 H1 g1 hq (walks_enumT h2 h3)⟩⟩
end
end DL
namespace DL
open PySem PySem.Spec PyProof.Rows L2
set_option maxHeartbeats 2000000
section
variable {prog : Program} {w : World} {A : Around} {E : Value → Shared → Prop} {s : Shared}
theorem collect_tup {l : Addr} {vs : List Value} {Q : List Value → Shared → Prop} (hl : s.heap.IsTuple l vs.toArray)
    (h : Q vs { s with heap := (s.heap.push (seqObj "list" #[] 0)).update s.heap.objs.size (Obj.mapSeq (· ++ vs.toArray)) }) (hsz : vs.length ≤ sizeLine) : wpAny (model prog w) A (collect (.ref l)) Q E s := by
  obtain ⟨o, ho, hc, n, hd⟩ := id hl
  unfold collect
  refine wpAny_bind (wpAny_runValue (codeAny_builtin entry_proto_collect' ?_))
  show wpAny _ _ (do again (.builtin "list.__iadd__" ⟨[← newList [], .ref l], []⟩)) _ _ s
  refine wpAny_bind (wpAny_newList (wpAny_pure ⟨Code.quiet_builtin _ (by decide +kernel), codeAny_builtin entry_list_iadd' ?_⟩))
  show wpAny _ _ (Builtin.List.listExtendWith (.ref s.heap.objs.size) (.ref l) (.ref s.heap.objs.size)) _ _ { s with heap := s.heap.push (seqObj "list" #[] 0) }
  unfold Builtin.List.listExtendWith
  have ho' : (s.heap.push (seqObj "list" #[] 0)).get? l = some o := Heap.get?_push_of_some _ ho
  refine wpAny_bind (wpAny_typeOf (T := "tuple") ⟨o, ho', hc⟩ ?_)
  rw [if_pos (by rw [show (Value.type "tuple" == Value.type "tuple") = true from rfl]; simp)]
  refine wpAny_bind (listItems_at ho' hd ?_)
  refine wpAny_bind (listItems_at (xs := #[]) (n := 0) (Heap.get?_push_size _ rfl) rfl ?_)
  rw [if_neg (by simp)]
  refine wpAny_bind (listUpdate_at (xs := #[]) (n := 0) (Heap.get?_push_size _ rfl) rfl ?_ (Nat.zero_le _) (by show (#[] ++ vs.toArray).size ≤ sizeLine + 1; simp only [Array.size_append, List.size_toArray, List.length_nil]; omega))
  refine wpAny_pure ?_
  show wpAny (model prog w) A (do
      let o ← load s.heap.objs.size
      match o.data with
      | .seq xs _ => pure xs.toList
      | _ => unsupported "internal:collect") Q E { s with heap := (s.heap.push (seqObj "list" #[] 0)).update s.heap.objs.size (Obj.mapSeq (· ++ vs.toArray)) }
  refine wpAny_bind (wpAny_load (get?_update_seq (Heap.get?_push_size _ rfl) _) ?_)
  show wpAny _ _ (pure ((#[] : Array Value) ++ vs.toArray).toList) Q E _
  rw [show ((#[] : Array Value) ++ vs.toArray).toList = vs by simp]
  exact wpAny_pure h
open SrtO in
theorem sorted_tup {l : Addr} {vs : List Value} {ltv : Value → Value → Bool} {Q : Value → Shared → Prop} (O : Swo ltv) (hl : s.heap.IsTuple l vs.toArray) (hz : vs.length ≤ sizeLine)
    (hS : 2 ≤ vs.length → ∀ (h₁ : Heap) (a : Addr), h₁.get? a = some (seqObj "list" vs.toArray 0) → (∀ b o, s.heap.get? b = some o → b ≠ a ∧ h₁.get? b = some o) → SortableO prog w A.in1.in1 { s with heap := h₁ } a vs ltv)
    (h : ∀ out : List Value, Srtd ltv out → Stb ltv out vs → Q (.ref (s.heap.objs.size + 1)) { s with heap := sortedAll s.heap vs out.toArray }) :
    wpAny (model prog w) A (call (.builtin "sorted") [.ref l]) Q E s := by
  refine Calls.call_function_entry kind_sorted plain_sorted entry_sorted (args_sorted1 _) ?_
  unfold Builtin.«sorted»
  refine wpAny_bind (m := checkCount "sorted" 1 1 _) (wpAny_pure ?_)
  refine wpAny_bind (collect_tup hl ?_ hz)
  refine wpAny_bind (wpAny_newList ?_ hz)
  have hsz : ((s.heap.push (seqObj "list" #[] 0)).update s.heap.objs.size (Obj.mapSeq (· ++ vs.toArray))).objs.size = s.heap.objs.size + 1 := by
    rw [Heap.size_update, size_push']
  have hoL : (((s.heap.push (seqObj "list" #[] 0)).update s.heap.objs.size (Obj.mapSeq (· ++ vs.toArray))).push (seqObj "list" vs.toArray 0)).get? (s.heap.objs.size + 1) = some (seqObj "list" vs.toArray 0) := by
    rw [← hsz]
    exact Heap.get?_push_size _ rfl
  have keep : ∀ b o, s.heap.get? b = some o → b ≠ s.heap.objs.size + 1 ∧ (((s.heap.push (seqObj "list" #[] 0)).update s.heap.objs.size (Obj.mapSeq (· ++ vs.toArray))).push (seqObj "list" vs.toArray 0)).get? b = some o := fun b o q => by
    have hlt : b < s.heap.objs.size := Heap.lt_size q
    refine ⟨Nat.ne_of_lt (Nat.lt_succ_of_lt hlt), Heap.get?_push_of_some _ ?_⟩
    rw [Heap.get?_update_ne _ _ _ _ (Nat.ne_of_lt hlt)]
    exact Heap.get?_push_of_some _ q
  show wpAny _ _ _ _ _ { s with heap := ((s.heap.push (seqObj "list" #[] 0)).update s.heap.objs.size (Obj.mapSeq (· ++ vs.toArray))).push (seqObj "list" vs.toArray 0) }
  rw [hsz]
  refine wpAny_bind (wpAny_holding (wpAny_call_entry slot_list_sort ⟨_, hoL, rfl⟩ entry_list_sort (list_sort_ord O hoL hz (fun h2 => hS h2 _ _ hoL keep) fun out hs hb => ⟨_, rfl, ?_⟩) (args_list_sort _)))
  exact wpAny_pure ⟨_, rfl, h out hs hb⟩
end
section
variable {X : Cx}
def rSortedT (K : PySem.W.Frag) : List V → Hp → VK → Prop := fun vs H Q => ∃ (a : Addr) (ns : List Int), vs = [V.ref a] ∧ SqT K H a (ns.map V.int) ∧
  ∀ (ns' : List Int) (p : Addr), ns'.Perm ns → ns'.Pairwise (· ≤ ·) → H p = none → Q (.ref p) (upd H p (.lst (ns'.map V.int)))
theorem cr_sortedT : CallR X (.builtin "sorted") (rSortedT X.K) := by
  intro pins s σ H vs us Q I r h
  obtain ⟨a, ns, rfl, hs, q⟩ := h
  obtain ⟨its, rv, hl, hz⟩ := I.tuple hs
  rw [Vals.ref1 r]
  have hi := rv.ints
  refine sorted_tup SrtO.swo_int hl (by rw [← rv.length]; exact hz) (fun h2 h₁ a' _ _ => SrtO.ints_sortable hi h2) fun out h1 h2 => ?_
  obtain ⟨k1, k2, k3⟩ := SrtO.ints_out hi h1 h2
  obtain ⟨ep, he'⟩ := PyProof.Rows.sortedAll_at s.heap its out.toArray
  have hlen : ((out.map SrtO.iv).map V.int).length ≤ sizeLine := by
    rw [List.length_map, k2.length_eq]
    rw [List.length_map] at hz
    exact hz
  exact ⟨.ref _, upd H (s.heap.objs.size + 1) (.lst ((out.map SrtO.iv).map V.int)), I.laid (t' := s.toks) (fun _ _ => PyProof.Rows.sortedAll_old) (Nat.le_succ _) ⟨hlen, out, ep, vals_of_ints k1, he'⟩, rfl, q _ _ k2 k3 (I.hok.fresh (Nat.le_succ _))⟩
def sortedAD : List D → Option D
  | [.lst ds] => (intsOf ds).map fun ns => .lst ((sortI ns).map D.int)
  | [.tup ds] => (intsOf ds).map fun ns => .lst ((sortI ns).map D.int)
  | _ => none
theorem oc_sortedA : OpC X (fun xs H Q => rSortedI X.K xs H Q ∨ rSortedT X.K xs H Q) sortedAD := .lst fun G H pn xs ds z s r hz => by
  rcases ds with _ | ⟨d, _ | ⟨e, ds⟩⟩
  · cases hz
  · obtain ⟨v, rfl, h1⟩ := reps1 r
    cases d <;> simp only [sortedAD, Option.map_eq_some_iff, reduceCtorEq] at hz
    all_goals
      obtain ⟨ns, hb, rfl⟩ := hz
      obtain ⟨a, vs, rfl, h2, h3⟩ := h1
      rw [intsOf_eq hb] at h3
      rw [Reps.ints.mp h3] at h2
    · refine ⟨(sortI ns).map .int, _, rfl, Reps.ints.mpr rfl, fun Q q => .inr ⟨a, ns, rfl, s.sqT h2, fun ns' p hp hs hn => ?_⟩⟩
      rw [sorted_uniq (hp.trans (sortI_perm ns).symm) hs (sortI_sorted ns)]
      exact q p hn
    · refine ⟨(sortI ns).map .int, _, rfl, Reps.ints.mpr rfl, fun Q q => .inl ⟨a, ns, rfl, SqL.of (s _ _ h2), fun ns' p hp hs hn => ?_⟩⟩
      rw [sorted_uniq (hp.trans (sortI_perm ns).symm) hs (sortI_sorted ns)]
      exact q p hn
  · cases d <;> cases hz
theorem ed_sortedA {e : Expr} {p pos : Pos} {T : TDs} (B : NoB X.mg) (hg : Gl X "sorted") (h : AD X [e] T) (he : starEach [e] X.env = (false, eval e X.env) :: starEach [] X.env := by rfl) : ED X (.Call (.Name "sorted" p) [e] [] pos) (tCallB sortedAD T) :=
  opc (fun _ pa => pe_callB (cr_sortedI.or cr_sortedT) hg (B _ (by decide)) (by decide +kernel) pa (he := he)) oc_sortedA h
end
end DL
set_option maxHeartbeats 4000000
/-! two new lists on one line; a loop whose iterable reads a list of one's own -/
namespace DL
open PySem PySem.Spec PyProof.Rows L2
section
variable {C : Cn} {K : PySem.W.Frag} {pn : Pn} {F : Addr → Prop} {G0 H0 G H : Hp} {σ : L2.St} {ρ : DL.Env} {O : List Nat} {n : Nat}
/-- a step that leaves every list one's own -/
theorem Sat.go (S : Sat C K pn F G0 H0 G H σ ρ O n) {H' G' : Hp} {n' : Nat} (g : Go pn G H H' n') (h1 : Sub G G') (h2 : Sub G' (ext G H H')) : Sat C K pn F G0 H0 G' H' σ ρ O n' := by
  have hE : Sub (ext G H H') H' := ext_sub S.sub S.pst g.ex
  obtain ⟨A, own, inj⟩ := S.own
  refine ⟨h2.trans hE, S.g0.trans h1, fun a o h => ?_, S.ex.trans g.ex, fun p c e => ⟨g.pen p c e, ?_, ?_⟩, S.p0, fun a ha => ⟨(S.fp a ha).1, (S.fp a ha).2.1.elim fun o e => g.there e, (S.fp a ha).2.2⟩, ⟨A, fun i hi => ?_, inj⟩, fun i d hi hd => ?_, S.len⟩
  · have h := h2 _ _ h
    cases z : G a with
    | some u =>
      rw [ext_some z] at h
      cases h
      exact S.fr _ _ z
    | none =>
      cases z2 : H a with
      | some u =>
        rw [ext_old z z2] at h
        cases h
      | none => exact .inr (S.fresh z2)
  · cases z : G' p with
    | none => rfl
    | some u =>
      have z := h2 _ _ z
      obtain ⟨⟨⟨x, y, hx, _⟩, _, _⟩, gp, gc⟩ := S.pst p c e
      rw [ext_old gp hx] at z
      cases z
  · cases z : G' c with
    | none => rfl
    | some u =>
      have z := h2 _ _ z
      obtain ⟨⟨_, ⟨ns, hx, _⟩, _⟩, gp, gc⟩ := S.pst p c e
      rw [ext_old gc hx] at z
      cases z
  · obtain ⟨⟨ds, vs, e1, e2, e3, e4⟩, e5, e6⟩ := own i hi
    refine ⟨⟨ds, vs, e1, e2, g.ex _ _ e3 fun p c e => (S.pne e6 p c e).1, e4.mono h1⟩, ?_, e6⟩
    cases z : G' (A i) with
    | none => rfl
    | some u =>
      have z := h2 _ _ z
      rw [ext_old e5 e3] at z
      cases z
  · obtain ⟨v, e1, e2⟩ := S.env i d hi hd
    exact ⟨v, e1, Rep.mono h1 _ _ e2⟩
end
section
variable {C : Cn} {X : Cx} {Ol O O' O'' : List Nat}
/-- a transformer gives a new thing of one's own: a list (false), a dict (true) -/
structure Nc (b : Bool) (K : PySem.W.Frag) (pn : Pn) (G H : Hp) (a : Addr) (Hh : Hp) (d : D) (n' : Nat) : Prop where
  go : Go pn G H Hh n'
  ow : ∃ o, Hh a = some o ∧ OwnO b K pn (Fz G H a Hh) o d
def NR (b : Bool) (K : PySem.W.Frag) (t : TE) (T : TD) : Prop := ∀ (σ : L2.St) (H G : Hp) (pn : Pn) (n : Nat) (ρ : DL.Env) (q : QD), At K pn G H σ ρ n → T ρ n q → ∀ Q : VK, (∀ a Hh d n', H a = none → Nc b K pn G H a Hh d n' → q d n' → Q (.ref a) Hh) → t σ H Q
def ND (b : Bool) (X : Cx) (e : Expr) (T : TD) : Prop := ∃ t, PE X e t ∧ NR b X.K t T
theorem NR.of_lr {K : PySem.W.Frag} {t : TE} {T : TDs} (h : LR K t T) : NR false K t (tL T) := fun σ H G pn n ρ q A hT Q k =>
  h σ H G pn n ρ _ A hT Q fun a Hh ds n' ha L hq => k a Hh (.lst ds) n' ha ⟨L.go, L.ls.elim fun vs h => ⟨_, h.1, .ofLst h.2⟩⟩ hq
theorem ND.of_ld {X : Cx} {e : Expr} {T : TDs} (h : LD X e T) : ND false X e (tL T) := by
  obtain ⟨t, p, k⟩ := h
  exact ⟨t, p, .of_lr k⟩
def sOwnN (O'' : List Nat) (i : Nat) (Te : TD) : TDS := fun Dd ρ n => Te (hide O'' ρ) n fun d n => i < ρ.length ∧ Dd.nx (ρ.set i (some d)) n
theorem s_ownN {st : Stmt} {e : Expr} {i : Nat} {Te : TD} (b : Bool) (O'' : List Nat) (mk : ∀ te, PE X e te → PS X st (tAsg te (gName i))) (h : ND b X e Te) (hO : ∀ i ∈ O'', i ∈ O := by decide) (hio : ∀ i ∈ O, i ∈ C.io → i ∈ O'' := by decide) (hk : decide (i ∈ C.dk) = b := by decide) : S1 C X Ol O st (i :: O''.filter (· ∉ [i])) (sOwnN O'' i Te) := by
  obtain ⟨t, p, k⟩ := h
  refine ⟨_, mk _ p, fun σ H G G0 H0 pn F n ρ Dd S hT E ke => ?_⟩
  obtain ⟨Ge, s1, _, A, st⟩ := S.step O'' hO hio
  refine k σ H Ge pn n _ _ A hT _ fun a H1 d n1 ha L ⟨hi, hq⟩ => ?_
  obtain ⟨o, hv, rv⟩ := L.ow
  have S1 := st H1 (Fz Ge H a H1) n1 L.go (Fz_le A.sub ha) Fz_ext_le
  have h0 : H0 a = none := S.fresh ha
  refine ke.nx _ H1 _ _ n1 (s1.trans (Fz_le A.sub ha)) (S1.setOwn i hv Fz_D h0 (by rw [hk]; exact rv) (fun j hj b hb z => ?_) hi) hq
  obtain ⟨es, ws, e1, e2, e3, _⟩ := hb.ex
  obtain ⟨B, own, _⟩ := S.own
  obtain ⟨es', ws', f1, f2, f3, _⟩ := (own j (hO j hj)).ex
  rw [e2] at f2
  cases f2
  rw [z, ha] at f3
  cases f3
def sParN (O'' : List Nat) (i j : Nat) (Ta Tb : TD) : TDS := fun Dd ρ n => Ta (hide O'' ρ) n fun d n => Tb (hide O'' ρ) n fun e n => (i < ρ.length ∧ j < ρ.length) ∧ Dd.nx ((ρ.set i (some d)).set j (some e)) n
/-- both are stored, whatever new stands in the heap meanwhile -/
def tParX (i j : Nat) (ta : TA) : TS := fun D σ H => ta σ H fun vs H1 => ∃ v w, vs = [v, w] ∧ ∀ H3, Sub H1 H3 → D.nx ((σ.set i (some v)).set j (some w)) H3
def tClose (ta : TA) : TA := fun σ H Q => ∃ Q0, ta σ H Q0 ∧ ∀ vs H1, Q0 vs H1 → Q vs H1
theorem pa_close {es : List Expr} {ta : TA} (h : PA X es ta) : PA X es (tClose ta) := ⟨fun pos pins s σ H Q I ⟨Q0, h0, hm⟩ => thn (h.run pos pins s σ H Q0 I h0) fun us s1 ⟨vs, H1, I1, r1, q⟩ => ⟨vs, H1, I1, r1, hm _ _ q⟩⟩
theorem mk_par {st : Stmt} {es : List Expr} {i j : Nat} (mk : ∀ ta, PA X es ta → PS X st (tPar i j ta)) : ∀ ta, PA X es ta → PS X st (tParX i j ta) := fun ta pa =>
  ⟨fun pins s σ H D I h => (mk _ (pa_close pa)).run pins s σ H D I ⟨_, h, fun vs H1 ⟨v, w, e, q⟩ => ⟨v, w, e, q H1 (Sub.refl _)⟩⟩⟩
theorem mk_parT {st : Stmt} {es : List Expr} {i j : Nat} (mk : ∀ ta, PA X es ta → PS X st (tAsg (tTup ta) (gTup X.K 2 (gCons (gName i) (gCons (gName j) gNil))))) : ∀ ta, PA X es ta → PS X st (tParX i j ta) := fun ta pa =>
  ⟨fun pins s σ H D I h => (mk _ (pa_close pa)).run pins s σ H D I ⟨_, h, fun vs H1 ⟨v, w, e, q⟩ => by
    subst e
    refine ⟨by show 2 ≤ sizeLine; decide, fun p hp => ⟨p, [v, w], rfl, .inl (.inl upd_same), rfl, v, [w], rfl, w, [], rfl, rfl, q _ fun a o h => ?_⟩⟩
    rw [upd_ne (ne_of_none h hp)]
    exact h⟩⟩
theorem s_parN {st : Stmt} {a b : Expr} {i j : Nat} {Ta Tb : TD} (ba bb : Bool) (O'' : List Nat) (mk : ∀ ta, PA X [a, b] ta → PS X st (tParX i j ta)) (h : ND ba X a Ta) (h2 : ND bb X b Tb) (hij : i ≠ j := by decide) (hO : ∀ i ∈ O'', i ∈ O := by decide) (hio : ∀ i ∈ O, i ∈ C.io → i ∈ O'' := by decide) (hki : decide (i ∈ C.dk) = ba := by decide) (hkj : decide (j ∈ C.dk) = bb := by decide)
    (hs : starEach [a, b] X.env = (false, eval a X.env) :: starEach [b] X.env := by rfl) (hs2 : starEach [b] X.env = (false, eval b X.env) :: starEach [] X.env := by rfl) : S1 C X Ol O st (j :: (i :: O''.filter (· ∉ [i])).filter (· ∉ [j])) (sParN O'' i j Ta Tb) := by
  obtain ⟨t, p, k⟩ := h
  obtain ⟨t2, p2, k2⟩ := h2
  refine ⟨_, mk _ (pa_cons p (pa_cons p2 pa_nil hs2) hs), fun σ H G G0 H0 pn F n ρ Dd S hT E ke => ?_⟩
  obtain ⟨Ge, s1, _, A, st⟩ := S.step O'' hO hio
  refine k σ H Ge pn n _ _ A hT _ fun x H1 ds n1 hx L hT2 => ?_
  have g1 : Sub Ge (Fz Ge H x H1) := Fz_le A.sub hx
  have S1 := st H1 (Fz Ge H x H1) n1 L.go g1 Fz_ext_le
  obtain ⟨ov, hv, rv⟩ := L.ow
  have A2 : At X.K pn (Fz Ge H x H1) H1 σ (hide O'' ρ) n1 := ⟨S1.sub, S1.pst, fun i d hd => by
    obtain ⟨v, e1, e2⟩ := A.env i d hd
    exact ⟨v, e1, Rep.mono g1 _ _ e2⟩, A.len⟩
  refine k2 σ H1 _ pn n1 _ _ A2 hT2 _ fun y H2 es n2 hy L2 hq => ?_
  obtain ⟨⟨hi, hj⟩, hq⟩ := hq
  have g2 : Sub (Fz Ge H x H1) (Fz (Fz Ge H x H1) H1 y H2) := Fz_le A2.sub hy
  have S2 := S1.go L2.go g2 Fz_ext_le
  obtain ⟨ow, hw, rw2⟩ := L2.ow
  have xH0 := S.fresh hx
  have yH0 := S1.fresh hy
  have hxy : x ≠ y := fun e => by
    rw [e, hy] at hv
    cases hv
  have hv2 : H2 x = some ov := L2.go.ex _ _ hv fun p c e => (S.pne (P := True) (.inl xH0) p c e).1
  have xg : (Fz (Fz Ge H x H1) H1 y H2) x = none := by
    rw [Fz_ne hxy]
    exact ext_old Fz_D hv
  have only : ∀ (z : Addr), H z = none → ∀ j ∈ O'', ∀ c, OwnAt C X.K pn F H0 (Fz (Fz Ge H x H1) H1 y H2) H2 σ ρ j c → c ≠ z := fun z hz j hj c hc e => by
    obtain ⟨es', ws', e1, e2, e3, _⟩ := hc.ex
    obtain ⟨B, own, _⟩ := S.own
    obtain ⟨es2, ws2, f1, f2, f3, _⟩ := (own j (hO j hj)).ex
    rw [e2] at f2
    cases f2
    rw [e, hz] at f3
    cases f3
  have hyH : H y = none := by
    cases z : H y with
    | none => rfl
    | some u =>
      obtain ⟨o, e⟩ := L.go.there z
      rw [hy] at e
      cases e
  have S3 := S2.setOwn i hv2 xg xH0 (by rw [hki]; exact rv.mono g2) (only x hx) hi
  have S4 := S3.setOwn j hw Fz_D yH0 (by rw [hkj]; exact rw2) (fun m hm c hc e => ?_) (by simpa using hj)
  · exact ⟨.ref x, .ref y, rfl, fun H3 s3 => ke.nx _ H3 _ _ n2 (((s1.trans g1).trans g2).trans sub_ext) (S4.go (Go.of_sub S4.pst s3) sub_ext (Sub.refl _)) hq⟩
  · rcases List.mem_cons.mp hm with rfl | hm
    · obtain ⟨es', ws', e1, e2, e3, _⟩ := hc.ex
      have hl : m < σ.length := by rw [S.len]; exact hi
      rw [List.getElem?_set_self hl] at e2
      cases e2
      exact hxy e
    · obtain ⟨hm1, hm2⟩ := List.mem_filter.mp hm
      have hm3 : m ≠ i := by simpa using hm2
      obtain ⟨es', ws', e1, e2, e3, _⟩ := hc.ex
      rw [List.getElem?_set_ne (Ne.symm hm3)] at e2
      obtain ⟨B, own, _⟩ := S.own
      obtain ⟨es2, ws2, f1, f2, f3, _⟩ := (own m (hO m hm1)).ex
      rw [e2] at f2
      cases f2
      rw [e, hyH] at f3
      cases f3
def sPar2 (O'' : List Nat) (i j : Nat) (Ta Tb : TDs) : TDS := fun Dd ρ n => Ta (hide O'' ρ) n fun ds n => Tb (hide O'' ρ) n fun es n => (i < ρ.length ∧ j < ρ.length) ∧ Dd.nx ((ρ.set i (some (.lst ds))).set j (some (.lst es))) n
theorem s_par2 {st : Stmt} {a b : Expr} {i j : Nat} {Ta Tb : TDs} (O'' : List Nat) (mk : ∀ ta, PA X [a, b] ta → PS X st (tPar i j ta)) (h : LD X a Ta) (h2 : LD X b Tb) (hij : i ≠ j := by decide) (hO : ∀ i ∈ O'', i ∈ O := by decide) (hio : ∀ i ∈ O, i ∈ C.io → i ∈ O'' := by decide) (hki : decide (i ∈ C.dk) = false := by decide) (hkj : decide (j ∈ C.dk) = false := by decide)
    (hs : starEach [a, b] X.env = (false, eval a X.env) :: starEach [b] X.env := by rfl) (hs2 : starEach [b] X.env = (false, eval b X.env) :: starEach [] X.env := by rfl) : S1 C X Ol O st (j :: (i :: O''.filter (· ∉ [i])).filter (· ∉ [j])) (sPar2 O'' i j Ta Tb) :=
  s_parN false false O'' (mk_par mk) (.of_ld h) (.of_ld h2) hij hO hio hki hkj hs hs2
/-- what is walked hangs on tuples alone -/
def WDp (X : Cx) (tg iter : Expr) (T : TDs) : Prop := ∃ wi, PI X tg iter wi ∧ ∀ (σ : L2.St) (H G : Hp) (pn : Pn) (n : Nat) (ρ : DL.Env) (q : List D → Nat → Prop), At X.K pn G H σ ρ n → T ρ n q →
  ∀ R : It → Hp → Prop, (∀ J ds n' H', Go pn G H H' n' → q ds n' → (∀ Gf, TupLe (ext G H H') Gf → Walks X.K pn J Gf ds) → R J H') → wi σ H R
def wEnumP (Ta : TDs) : TDs := fun ρ n q => Ta ρ n fun as n => ∃ ds, as = [.tup ds] ∧ pureDs ds = true ∧ q (enumD 0 ds) n
theorem TupLe.sqT {K : PySem.W.Frag} {G G' : Hp} (t : TupLe G G') {a : Addr} {vs : List V} (h : SqT K G a vs) : SqT K G' a vs := by
  rcases h with h | h
  · exact .inl (t _ _ h)
  · exact .inr h
theorem wdp_enum {e : Expr} {Ta : TDs} {p pos tpos : Pos} {elts : List Expr} {kk : Nat} (B : NoB X.mg) (hg : Gl X "enumerate") (ha : AD X [e] Ta) (hs : starEach [e] X.env = [(false, eval e X.env)] := by rfl) : WDp X (.Tuple elts kk tpos) (.Call (.Name "enumerate" p) [e] [] pos) (wEnumP Ta) := by
  obtain ⟨t, pa, k⟩ := ha
  refine ⟨_, pi_enumA hg (B _ (by decide)) pa hs, fun σ H G pn n ρ q A hT R kr => ?_⟩
  refine k σ H G pn n ρ _ A hT _ fun vs H1 ⟨as, n1, g1, r1, ds, hd, hp, hq⟩ => ?_
  subst hd
  have A1 := A.go g1
  obtain ⟨v, rfl, a, ws, rfl, h2, h3⟩ := reps1 r1
  exact ⟨a, ws, rfl, .inr ⟨A1.sub.sqT h2, kr _ _ n1 H1 g1 hq fun Gf tl => walks_enumT (tl.sqT h2) (Reps.pure tl _ _ hp h3)⟩⟩
def wTupP (Ta : TD) : TDs := fun ρ n q => Ta ρ n fun d n => ∃ ds, d = .tup ds ∧ pureDs ds = true ∧ q ds n
theorem wdp_tup {tg e : Expr} {T : TD} (h : ED X e T) : WDp X tg e (wTupP T) := by
  obtain ⟨t, p, k⟩ := h
  refine ⟨_, pi_tup p, fun σ H G pn n ρ q A hT R kr => ?_⟩
  refine k σ H G pn n ρ _ A hT _ fun v H1 ⟨d, n1, g1, r1, ds, e, hp, hq⟩ => ?_
  subst e
  obtain ⟨a, vs, rfl, h1, h2⟩ := r1
  have A1 := A.go g1
  exact ⟨a, rfl, ⟨vs, A1.sub.sqT h1⟩, kr _ ds n1 H1 g1 hq fun Gf tl => walks_tup (tl.sqT h1) (Reps.pure tl _ _ hp h2)⟩
theorem wdp_rng1 {tg a : Expr} {Ta : TDs} {p pos : Pos} (B : NoB X.mg) (hg : Gl X "range") (ha : AD X [a] Ta) (hs : starEach [a] X.env = [(false, eval a X.env)] := by rfl) : WDp X tg (.Call (.Name "range" p) [a] [] pos) (wRng1 Ta) := by
  obtain ⟨t, pa, k⟩ := ha
  refine ⟨_, pi_range1 hg (B _ (by decide)) pa hs, fun σ H G pn n ρ q A hT R kr => ?_⟩
  refine k σ H G pn n ρ _ A hT _ fun vs H1 ⟨ds, n1, g1, r1, j, e, b1, b2, hq⟩ => ?_
  subst e
  obtain ⟨v, rfl, h1⟩ := reps1 r1
  exact ⟨j, by rw [show v = .int j from h1], b1, b2, kr _ _ n1 H1 g1 hq fun Gf _ => walks_rng⟩
theorem wdp_rng2 {tg a b : Expr} {Ta : TDs} {p pos : Pos} (B : NoB X.mg) (hg : Gl X "range") (ha : AD X [a, b] Ta) (hs : starEach [a, b] X.env = [(false, eval a X.env), (false, eval b X.env)] := by rfl) (hs2 : starEach [b] X.env = [(false, eval b X.env)] := by rfl) : WDp X tg (.Call (.Name "range" p) [a, b] [] pos) (wRng2 Ta) := by
  obtain ⟨t, pa, k⟩ := ha
  refine ⟨_, pi_range2 hg (B _ (by decide)) pa hs hs2, fun σ H G pn n ρ q A hT R kr => ?_⟩
  refine k σ H G pn n ρ _ A hT _ fun vs H1 ⟨ds, n1, g1, r1, i, j, e, b1, hq⟩ => ?_
  subst e
  obtain ⟨v, w, rfl, h1, h2⟩ := reps2 r1
  exact ⟨i, j, by rw [show v = .int i from h1, show w = .int j from h2], b1, kr _ _ n1 H1 g1 hq fun Gf _ => walks_rng⟩
def sForP (Tw : TDs) (f : D → DL.Env → Option DL.Env) (Tb : TDS) : TDS := fun Dd ρ n => Tw ρ n fun ds n => forD f Tb Dd ds ρ n
theorem s_forP {tg iter : Expr} {body : List Stmt} {pos : Pos} {g : TG} {f : D → DL.Env → Option DL.Env} {ts : List Nat} {Tw : TDs} {Tb : TDS} (Ob : List Nat) (hp : PassesOwn (model X.prog X.w) X.A X.env X.xe) (hc : X.calm = true) (hw : WDp X tg iter Tw) (hg : PG X tg g) (tr : TgRun X.K g f ts) (hb : SD C X O O body Ob Tb)
    (hts : ∀ i ∈ ts, i ∉ O := by decide) (hOb : ∀ i ∈ O, i ∈ Ob := by decide) (hiob : ∀ i ∈ Ob, i ∈ C.io → i ∈ O := by decide) (hfs : ∀ x, foldedSetIterable iter X.env x = pure x := by intro _; rfl) : S1 C X Ol O (.For tg iter body [] pos) O (sForP Tw f Tb) := by
  obtain ⟨wi, pi, kw⟩ := hw
  obtain ⟨tb, pb, kb⟩ := hb
  refine ⟨_, ps_for hp hc pi hg pb hfs, fun σ H G G0 H0 pn F n ρ Dd S hT E ke => ?_⟩
  obtain ⟨Ge, s1, A, st⟩ := S.stepP
  refine kw σ H Ge pn n _ _ A hT _ fun J ds n1 H1 g1 hq w0 => ?_
  obtain ⟨Gf, s2, sfH, mk, tl, _⟩ := st H1 n1 g1
  have w := w0 _ tl
  have S1 := mk _ sub_ext (Sub.refl _)
  have filt : O.filter (· ∉ ts) = O := List.filter_eq_self.mpr fun i hi => decide_eq_true fun z => hts i z hi
  refine ⟨fun i m σ' H' => ∃ ρ' n' G', m = ds.length - i ∧ i ≤ ds.length ∧ Sat C X.K pn F G0 H0 G' H' σ' ρ' O n' ∧ Sub (ext Gf H H1) G' ∧ forD f Tb Dd (ds.drop i) ρ' n', ⟨ds.length, ρ, n1, _, by simp, Nat.zero_le _, S1, Sub.refl _, hq⟩, ?_⟩
  rintro i m σ' H' ⟨ρ', n', G', rfl, hi, S2, sG, hf⟩
  by_cases hlt : i < ds.length
  · refine .inr ⟨w.go i H' (sG.trans S2.sub) hlt, fun σ3 H3 => ∃ ρ3 n3 G3, Sat C X.K pn F G0 H0 G3 H3 σ3 ρ3 O n3 ∧ Sub (ext Gf H H1) G3 ∧ forD f Tb Dd (ds.drop (i + 1)) ρ3 n3, fun σ3 H3 ⟨a, b, c, x, y, z⟩ => ⟨ds.length - (i + 1), by omega, a, b, c, rfl, hlt, x, y, z⟩, fun x H3 y => ?_⟩
    obtain ⟨s3, y3⟩ := w.yld i H' x H3 (sG.trans S2.sub) y
    rw [show ds.drop i = ds[i] :: ds.drop (i + 1) from List.drop_eq_getElem_cons hlt] at hf
    obtain ⟨ρ4, hρ, hb4⟩ := hf
    have gx : Go pn G' H' H3 n' := Go.of_sub S2.pst s3
    have S3 := S2.go gx sub_ext (Sub.refl _)
    have r3 := y3 ds[i] (List.getElem?_eq_getElem hlt) G' sG S2.sub
    refine tr.run σ' H3 _ pn O x ds[i] ρ' ρ4 S3.sub r3 hρ S3.env S3.len _ fun σ5 env5 l1 l2 same => ?_
    have S5 := S3.set env5 l1 l2 same
    rw [filt] at S5
    have sG5 : Sub (ext Gf H H1) (ext G' H' H3) := sG.trans sub_ext
    refine kb σ5 H3 _ G0 H0 pn F n' ρ4 _ S5 hb4 _ ⟨fun σ6 H6 G6 ρ6 n6 s6 S6 h6 => ?_, fun v H6 G6 σ6 ρ6 d6 n6 s6 => ke.rt v H6 G6 σ6 ρ6 d6 n6 (((s2.trans sub_ext).trans sG5).trans s6), fun σ6 H6 G6 ρ6 n6 s6 S6 h6 => ?_, fun σ6 H6 G6 ρ6 n6 s6 S6 h6 => ?_⟩
    · obtain ⟨G7, s7, S7⟩ := S6.weak O hOb hiob
      exact ⟨ρ6, n6, G7, S7, (sG5.trans s6).trans s7, h6⟩
    · exact ke.nx σ6 H6 G6 ρ6 n6 (((s2.trans sub_ext).trans sG5).trans s6) S6 h6
    · exact ⟨ρ6, n6, G6, S6, sG5.trans s6, h6⟩
  · refine .inl ⟨w.stop i H' (sG.trans S2.sub) (by omega), ?_⟩
    rw [List.drop_eq_nil_of_le (by omega)] at hf
    exact ke.nx σ' H' G' ρ' n' ((s2.trans sub_ext).trans sG) S2 hf
end
end DL
set_option maxHeartbeats 4000000
namespace DL
open PySem PySem.Spec PyProof.Rows L2
/-- nothing is promised -/
theorem fn_none {P : Program} {w : World} {K : PySem.W.Frag} {mg : Str → Option Value} {base : Heap} {k np : Nat} {f : Addr} {fd : FuncData} {ps : List Str} (h : ps.length = np := by rfl) : FnOk P w K mg base CX0 k f fd ps (lift K np fun _ _ _ => False) :=
  ⟨fun vs H Q E q => by rw [h]; exact q.1, fun A outer s H args us vs Q E _ _ _ _ ⟨_, _, _, _, _, _, _, _, _, no, _⟩ => no.elim⟩
end DL
set_option maxHeartbeats 4000000
/-! the law's own body: its first row makes the pen -/
namespace DL
open PySem PySem.Spec PyProof.Rows L2
def LawRun (dk : List Nat) (X : Cx) (body : List Stmt) (O' : List Nat) (T1 T2 : TDS) : Prop := ∃ t u, PSs X body (tSeq t u) ∧ RunS ⟨dk, []⟩ X.K t [] [] [] T1 ∧ RunS ⟨dk, []⟩ X.K u [] [] O' T2
theorem law_cons {dk : List Nat} {X : Cx} {st : Stmt} {rest : List Stmt} {O' : List Nat} {T1 T2 : TDS} (h1 : S1 ⟨dk, []⟩ X [] [] st [] T1) (h2 : SD ⟨dk, []⟩ X [] [] rest O' T2) : LawRun dk X (st :: rest) O' T1 T2 := by
  obtain ⟨t, p, k⟩ := h1
  obtain ⟨u, p2, k2⟩ := h2
  exact ⟨t, u, pss_cons p p2, k, k2⟩
def endFirst (i m : Nat) : DE := ⟨fun ρ n => n = 0 ∧ ρ.length = m ∧ ∃ cs : List Int, cs.length ≤ 12 ∧ ρ[i]? = some (some (.lst [.lst (cs.map D.int), .int 0, .int 0])), fun _ _ => False, fun _ _ => False, fun _ _ => False⟩
def endLaw : DE := ⟨fun _ _ => False, fun d _ => d = .bl true, fun _ _ => False, fun _ _ => False⟩
def penE (i m : Nat) : DL.Env := (List.replicate m none).set i (some .pen)
theorem penE_get {i m j : Nat} {d : D} (h : (penE i m)[j]? = some (some d)) : j = i ∧ d = .pen := by
  unfold penE at h
  by_cases hj : i = j
  · subst hj
    have hl : i < m := by
      have := (List.getElem?_eq_some_iff.mp h).1
      simpa using this
    rw [List.getElem?_set_self (by simpa using hl)] at h
    cases h
    exact ⟨rfl, rfl⟩
  · rw [List.getElem?_set_ne hj, List.getElem?_replicate] at h
    split at h <;> cases h
theorem law_run {dk : List Nat} {X : Cx} {body : List Stmt} {O' : List Nat} {T1 T2 : TDS} {N : List Str} {a : Addr} {ns : List Int} {H : Hp} {i m : Nat} (R : LawRun dk X body O' T1 T2) (hm : N.length = m) (h1m : 1 ≤ m) (hS : SqL X.K H a (ns.map V.int))
    (hT1 : T1 (endFirst i m) (startE m [.scr ns]) 0) (hT2 : T2 endLaw (penE i m) 0) {Q : VK} (hQ : ∀ H', Q (.bl true) H') :
    ∃ t, PSs X body t ∧ t { nx := fun _ H' => Q .non H', rt := Q } (start N [.ref a]) H := by
  obtain ⟨t, u, p, k1, k2⟩ := R
  refine ⟨_, p, ?_⟩
  have r0 : Reps X.K none H [.ref a] [.scr ns] := ⟨.ref a, [], rfl, ⟨a, rfl, hS⟩, rfl⟩
  have S0 : Sat ⟨dk, []⟩ X.K none noF H H H H (start N [.ref a]) (startE m [.scr ns]) [] 0 := ⟨Sub.refl _, Sub.refl _, fun a o h => .inl h, ExF.refl _ _ _, fun p c e => (by cases e), fun p c e => (by cases e), fun a h => h.elim, ⟨fun _ => 0, fun i hi => absurd hi (by simp), fun i hi => absurd hi (by simp)⟩, by rw [← hm]; exact env_start r0, by
    unfold L2.start startE
    simp only [List.length_append, List.length_map, List.length_replicate, List.length_cons, List.length_nil]
    omega⟩
  refine k1 _ H H H H none noF 0 _ (endFirst i m) S0 hT1 _ ⟨fun σ1 H1 G1 ρ1 n1 s1 Sa hn => ?_, fun v H1 G1 σ1 ρ1 d1 n1 s1 S1 r1 h1 => ?_, fun _ _ _ _ _ _ _ no => no.elim, fun _ _ _ _ _ _ _ no => no.elim⟩
  · obtain ⟨rfl, hl, cs, hc, hρ⟩ := hn
    obtain ⟨v, hv, rp⟩ := Sa.env i _ (by simp) hρ
    obtain ⟨p, vs, rfl, hp, rvs⟩ := rp
    obtain ⟨v1, w1, rfl, ⟨c, us, rfl, hcc, rcs⟩, v2, w2, rfl, r2, v3, w3, rfl, r3, hw⟩ := rvs
    obtain rfl : v2 = .int 0 := r2
    obtain rfl : v3 = .int 0 := r3
    obtain rfl : w3 = [] := hw
    have hus := Reps.ints.mp rcs
    subst hus
    have Hp := Sa.sub _ _ hp
    have Hc := Sa.sub _ _ hcc
    have ne : p ≠ c := fun e => by
      rw [e, Hc] at Hp
      cases cs with
      | nil => cases Hp
      | cons z zs => cases Hp
    have li : i < m := by
      have := (List.getElem?_eq_some_iff.mp hρ).1
      omega
    have Sb : Sat ⟨dk, []⟩ X.K (some (p, c)) noF (fun _ => none) H1 (fun _ => none) H1 σ1 (penE i m) [] 0 := by
      refine ⟨fun a o h => (by cases h), fun a o h => (by cases h), fun a o h => (by cases h), ExF.refl _ _ _, fun p' c' e => ?_, fun p' c' e => ?_, fun a h => h.elim, ⟨fun _ => 0, fun i hi => absurd hi (by simp), fun i hi => absurd hi (by simp)⟩, fun j d _ hd => ?_, ?_⟩
      · cases e
        exact ⟨⟨⟨0, 0, Hp, by omega, by omega⟩, ⟨cs, Hc, hc⟩, ne⟩, rfl, rfl⟩
      · cases e
        exact ⟨⟨_, Hp⟩, ⟨_, Hc⟩⟩
      · obtain ⟨rfl, rfl⟩ := penE_get hd
        exact ⟨_, hv, p, c, rfl, rfl⟩
      · rw [Sa.len, hl]
        simp [penE]
    refine k2 σ1 H1 _ _ _ (some (p, c)) noF 0 _ endLaw Sb hT2 _ ⟨fun _ _ _ _ _ _ _ no => no.elim, fun v H2 G2 σ2 ρ2 d2 n2 s2 S2 rd hd => ?_, fun _ _ _ _ _ _ _ no => no.elim, fun _ _ _ _ _ _ _ no => no.elim⟩
    have hd : d2 = .bl true := hd
    subst hd
    obtain rfl : v = .bl true := rd
    exact hQ H2
  · exact h1.elim
end DL
set_option maxHeartbeats 4000000
/-! the end: what the top has left, by names -/
namespace DL
open PySem PySem.Spec PyProof.Rows L2
theorem ent_of {K : PySem.W.Frag} {mg : Str → Option Value} {x : Str} {st : Stmt} {ps : List Str} {f : Addr} {oc : Value} {od an : Option Addr} {osl : Array (Option Value)} {kV doc pm cdv ct : Value}
    (l : K.lookup f = some ⟨oc, od, .func (PySem.W.fnOf x x (defArgs st) (defBody st) (defScope st) .none kV doc pm an cdv ct), osl⟩) (c : PySem.W.codeIn K cdv x = true) (k : PySem.W.keepIn K (.ref f) = true) (g : mg x = some (.ref f))
    (hb : ∀ (kV doc pm : Value) (an : Option Addr) (cdv ct : Value) (us : List Value), us.length = ps.length → bindArgs (PySem.W.fnOf x x (defArgs st) (defBody st) (defScope st) .none kV doc pm an cdv ct) ⟨us, []⟩ = pure (ps.zip us)) :
    Ent K mg x st ps f (PySem.W.fnOf x x (defArgs st) (defBody st) (defScope st) .none kV doc pm an cdv ct) := ⟨fun_mk l c k, (fun_mk l c k).binds hb, g⟩
def builtL : List Str := ["len", "isinstance", "tuple", "list", "enumerate", "all", "any", "sorted", "set", "zip", "int", "range", "min", "max", "repr", "sum", "str", "bool", "dict"]
theorem noB_of {K : PySem.W.Frag} {mg : Str → Option Value} {h : Heap} {rest : List He.Fa} {fn : List He.FnD} (X : K.In h) (G : h.Ns mainGlobals mg) (c : He.SaysE (builtL.map He.Fa.free ++ rest) fn K) : NoB mg := fun x hx => by
  obtain ⟨i, hi⟩ := List.mem_iff_getElem?.mp (show x ∈ builtL from hx)
  refine He.free_ok X G (c.fact i ?_)
  rw [List.getElem?_append_left (by
    have := (List.getElem?_eq_some_iff.mp hi).1
    simpa using this), List.getElem?_map, hi]
  rfl
/-- a law's end over a head by facts, at its caller -/
theorem walk_atE {l : PySem.W.OpenLaw} {n : Nat} {q : Program} {loose : List Str} {XP : (Str → Option Value) → Heap → Prop} {YP : World → Heap → Prop} {d : DefRec} {x : Str}
    (hn : l.most = some n) (hn2 : n ≤ sizeLine) (hdf : d.params.defaults = [])
    (F : ∀ (w : World) (mg : Str → Option Value) (fa : Addr) (h : Heap), YP w h → h.Ns mainGlobals mg → mg d.name = some (.ref fa) →
      ∃ (K : PySem.W.Frag) (fd : FuncData) (sp : Sp), K.In h ∧ (∀ (s : Shared) (u : Value), BindsTo s fd ⟨[u], []⟩ [(x, u)]) ∧
        (∀ (H : Hp) (a : Addr) (ns : List Int), ns.length ≤ n → Only H → SqL K H a (ns.map V.int) → sp [.ref a] H (fun v _ => v = .bl true) fun _ _ _ => False) ∧
        ∀ base : Heap, K.In base → base.Ns mainGlobals mg → AtA l.prog w K mg base callerA fa fd [x] sp) :
    PySem.W.WalkO q loose XP YP l.row.toRowW d [] (fun f vs => PySem.call f vs) := by
  refine Att.attach_call hn hdf fun w s₀ s₁ mg mb fa o pm cd doc a vs ns G Y ho hd hcd hmg hobj hints hlen hg => ?_
  obtain ⟨K, fd, sp, inK, bindF, want, runF⟩ := F w mg fa _ Y G.T.g hmg
  exact law_at inK G.T.g G.T.b G.T.builtins G.T.nolimit hg hobj hints (Nat.le_trans hlen hn2) runF bindF fun H only hS => want H a ns hlen only hS
end DL
set_option maxHeartbeats 4000000
/-! reading the worth of a def over data -/
namespace DL
open PySem PySem.Spec PyProof.Rows L2
theorem startE_nil (m : Nat) : startE m [] = List.replicate m none := by simp [startE]
end DL
set_option maxHeartbeats 4000000
/-! dicts whose keys are ints and texts -/
namespace DL
open PySem PySem.Spec PyProof.Rows L2
def kOf : D → Option Key
  | .int i => some (.inl i)
  | .str x => some (.inr x)
  | _ => none
def keyD : Key → D
  | .inl i => .int i
  | .inr x => .str x
theorem kOf_rep {K : PySem.W.Frag} {pn : Pn} {G : Hp} {v : V} {k : Key} : ∀ {d : D}, kOf d = some k → Rep K pn G v d → v = kV k
  | .int i, h, r => by cases h; exact r
  | .str x, h, r => by cases h; exact r
theorem keyD_rep {K : PySem.W.Frag} {pn : Pn} {G : Hp} : ∀ {k : Key}, Rep K pn G (kV k) (keyD k)
  | .inl i => rfl
  | .inr x => rfl
def lookD (kvs : List (Key × D)) (k : Key) : Option D := (kvs.find? fun kv => decide (kv.1 = k)).map (·.2)
def putD (kvs : List (Key × D)) (k : Key) (d : D) : List (Key × D) :=
  if (kvs.any fun kv => decide (kv.1 = k)) = true then kvs.map (fun kv => if kv.1 = k then (kv.1, d) else kv) else kvs ++ [(k, d)]
theorem lookD_pos {p : Key × D} {r : List (Key × D)} {k : Key} (e : p.1 = k) : lookD (p :: r) k = some p.2 := by simp [lookD, List.find?_cons, e]
theorem lookD_neg {p : Key × D} {r : List (Key × D)} {k : Key} (e : ¬ p.1 = k) : lookD (p :: r) k = lookD r k := by simp [lookD, List.find?_cons, e]
section
variable {K : PySem.W.Frag} {pn : Pn} {G : Hp}
theorem RepKV.val (k : Key) : ∀ {kvs : List (Key × D)} {ws : List (Key × V)}, RepKV K pn G ws kvs → (valV ws k = none ∧ lookD kvs k = none) ∨ ∃ v d, valV ws k = some v ∧ lookD kvs k = some d ∧ Rep K pn G v d
  | [], ws, h => by rw [show ws = [] from h]; exact .inl ⟨rfl, rfl⟩
  | (k', d) :: kvs, ws, h => by
    obtain ⟨v, r, rfl, h1, h2⟩ := h
    by_cases e : k' = k
    · exact .inr ⟨v, d, valV_pos (p := (k', v)) e, lookD_pos (p := (k', d)) e, h1⟩
    · rw [valV_neg (p := (k', v)) e, lookD_neg (p := (k', d)) e]
      exact RepKV.val k h2
theorem RepKV.some {k : Key} {kvs : List (Key × D)} {ws : List (Key × V)} {d : D} (h : RepKV K pn G ws kvs) (e : lookD kvs k = .some d) : ∃ v, valV ws k = .some v ∧ Rep K pn G v d := by
  rcases h.val k with ⟨h1, h2⟩ | ⟨v, d', h1, h2, r⟩
  · rw [h2] at e; cases e
  · rw [h2] at e; cases e; exact ⟨v, h1, r⟩
theorem RepKV.isSome {k : Key} {kvs : List (Key × D)} {ws : List (Key × V)} (h : RepKV K pn G ws kvs) : (valV ws k).isSome = (lookD kvs k).isSome := by
  rcases h.val k with ⟨h1, h2⟩ | ⟨v, d', h1, h2, r⟩ <;> rw [h1, h2] <;> rfl
theorem RepKV.len : ∀ {kvs : List (Key × D)} {ws : List (Key × V)}, RepKV K pn G ws kvs → ws.length = kvs.length
  | [], ws, h => by rw [show ws = [] from h]; rfl
  | (k', d) :: kvs, ws, h => by
    obtain ⟨v, r, rfl, h1, h2⟩ := h
    simp [RepKV.len h2]
theorem RepKV.keys : ∀ {kvs : List (Key × D)} {ws : List (Key × V)}, RepKV K pn G ws kvs → ws.map (·.1) = kvs.map (·.1)
  | [], ws, h => by rw [show ws = [] from h]; rfl
  | (k', d) :: kvs, ws, h => by
    obtain ⟨v, r, rfl, h1, h2⟩ := h
    simp [RepKV.keys h2]
theorem RepKV.any (k : Key) {kvs : List (Key × D)} {ws : List (Key × V)} (h : RepKV K pn G ws kvs) : (ws.any fun kv => decide (kv.1 = k)) = (kvs.any fun kv => decide (kv.1 = k)) := by
  have e := h.keys
  have f : ∀ {α : Type} (xs : List (Key × α)), (xs.any fun kv => decide (kv.1 = k)) = (xs.map (·.1)).any fun k' => decide (k' = k) := fun xs => by
    rw [List.any_map]; rfl
  rw [f, f, e]
theorem RepKV.append : ∀ {kvs kvs' : List (Key × D)} {ws ws' : List (Key × V)}, RepKV K pn G ws kvs → RepKV K pn G ws' kvs' → RepKV K pn G (ws ++ ws') (kvs ++ kvs')
  | [], _, ws, _, h, h' => by rw [show ws = [] from h]; exact h'
  | (k', d) :: kvs, _, ws, _, h, h' => by
    obtain ⟨v, r, rfl, h1, h2⟩ := h
    exact ⟨v, _, rfl, h1, RepKV.append h2 h'⟩
theorem RepKV.upd {k : Key} {v : V} {d : D} (r : Rep K pn G v d) : ∀ {kvs : List (Key × D)} {ws : List (Key × V)}, RepKV K pn G ws kvs → RepKV K pn G (ws.map fun kv => if kv.1 = k then (kv.1, v) else kv) (kvs.map fun kv => if kv.1 = k then (kv.1, d) else kv)
  | [], ws, h => by rw [show ws = [] from h]; rfl
  | (k', d') :: kvs, ws, h => by
    obtain ⟨v', r', rfl, h1, h2⟩ := h
    simp only [List.map_cons]
    by_cases e : k' = k
    · rw [if_pos e, if_pos e]
      exact ⟨v, _, rfl, r, RepKV.upd r h2⟩
    · rw [if_neg e, if_neg e]
      exact ⟨v', _, rfl, h1, RepKV.upd r h2⟩
theorem RepKV.put {k : Key} {v : V} {d : D} {kvs : List (Key × D)} {ws : List (Key × V)} (h : RepKV K pn G ws kvs) (r : Rep K pn G v d) : RepKV K pn G (putK ws k v) (putD kvs k d) := by
  unfold putK putD
  rw [h.any k]
  split
  · exact RepKV.upd r h
  · exact h.append ⟨v, [], rfl, r, rfl⟩
end
section
variable {X : Cx}
/-! ### d[k], k in d, d.get(k, x) -/
def dgetD : D → D → Option D
  | .dct kvs, k => (kOf k).bind fun k => lookD kvs k
  | _, _ => none
theorem ed_dget {o i : Expr} {pos : Pos} {To Ti : TD} (hu : X.A.units + 1 < cLine) (ho : ED X o To) (hi : ED X i Ti) (hs : NoSl i := by exact fun _ _ => rfl) : ED X (.Subscript o i pos) (tOpD dgetD To Ti) := by
  obtain ⟨ta, pa, ka⟩ := ho
  obtain ⟨tb, pb, kb⟩ := hi
  refine ⟨_, pe_dget hu pa pb hs, fun σ H G pn n ρ q A hT Q k => ?_⟩
  refine ka σ H G pn n ρ _ A hT _ fun x H1 ⟨d, n1, g1, r1, hT2⟩ => ?_
  have A1 := A.go g1
  refine kb σ H1 _ pn n1 ρ _ A1 hT2 _ fun y H2 ⟨e, n2, g2, r2, z, hz, hq⟩ => ?_
  have A2 := A1.go g2
  have r1 := Rep.mono (sub_ext (G := ext G H H1) (H := H1) (H' := H2)) d x r1
  cases d <;> simp only [dgetD, reduceCtorEq] at hz
  rename_i kvs
  obtain ⟨kk, hk, hl⟩ := Option.bind_eq_some_iff.mp hz
  obtain ⟨a, ws, rfl, hw, rw'⟩ := r1
  obtain ⟨v, hv, rv⟩ := rw'.some hl
  refine ⟨a, v, rfl, .inl ⟨ws, kk, A2.sub.rd hw, kOf_rep hk r2, hv.symm⟩, k v H2 ⟨z, n2, g1.trans g2, ?_, hq⟩⟩
  rw [A.ext_ext g1 g2] at rv
  exact rv
def dinD (neg : Bool) : D → D → Option D
  | k, .dct kvs => match k with
    | .non => some (.bl neg)
    | .int i => some (.bl (xor neg (lookD kvs (.inl i)).isSome))
    | .str x => some (.bl (xor neg (lookD kvs (.inr x)).isSome))
    | _ => none
  | _, _ => none
theorem dinD_get {neg : Bool} {d e z : D} (h : dinD neg d e = some z) : ∃ kvs, e = .dct kvs ∧ ((d = .non ∧ z = .bl neg) ∨ ∃ k, kOf d = some k ∧ z = .bl (xor neg (lookD kvs k).isSome)) := by
  cases e <;> simp only [dinD, reduceCtorEq] at h
  rename_i kvs
  cases d <;> simp only [reduceCtorEq, Option.some.injEq] at h
  · exact ⟨kvs, rfl, .inl ⟨rfl, h.symm⟩⟩
  · exact ⟨kvs, rfl, .inr ⟨_, rfl, h.symm⟩⟩
  · exact ⟨kvs, rfl, .inr ⟨_, rfl, h.symm⟩⟩
theorem ed_pcin {a b : Expr} {Ta Tb : TD} {op : CmpOp} {neg : Bool} {t' : TE → TE → TE} (mk : ∀ ta tb, PE X a ta → PE X b tb → PC X op a b (t' ta tb))
    (ht : ∀ ta tb σ H Q, t' ta tb σ H Q = ta σ H fun y H1 => tb σ H1 fun x H2 => (∃ a o, x = .ref a ∧ DGet H2 a y o ∧ Q (.bl (xor neg o.isSome)) H2) ∨ ∃ a kvs, x = .ref a ∧ y = .non ∧ Rd H2 a (.dK kvs) ∧ Q (.bl neg) H2)
    (ha : ED X a Ta) (hb : ED X b Tb) : ∃ t, PC X op a b t ∧ ∀ (σ : L2.St) (H G : Hp) (pn : Pn) (n : Nat) (ρ : DL.Env) (q : QD), At X.K pn G H σ ρ n → tOpD (dinD neg) Ta Tb ρ n q → ∀ Q : VK, (∀ v H', Post X.K pn G H q v H' → Q v H') → t σ H Q := by
  obtain ⟨ta, pa, ka⟩ := ha
  obtain ⟨tb, pb, kb⟩ := hb
  refine ⟨_, mk _ _ pa pb, fun σ H G pn n ρ q A hT Q k => ?_⟩
  rw [ht]
  refine ka σ H G pn n ρ _ A hT _ fun x H1 ⟨d, n1, g1, r1, hT2⟩ => ?_
  have A1 := A.go g1
  refine kb σ H1 _ pn n1 ρ _ A1 hT2 _ fun y H2 ⟨e, n2, g2, r2, z, hz, hq⟩ => ?_
  have A2 := A1.go g2
  have r1 := Rep.mono (sub_ext (G := ext G H H1) (H := H1) (H' := H2)) d x r1
  obtain ⟨kvs, rfl, hh⟩ := dinD_get hz
  obtain ⟨a, ws, rfl, hw, rw'⟩ := r2
  rcases hh with ⟨rfl, rfl⟩ | ⟨kk, hk, rfl⟩
  · exact .inr ⟨a, ws, rfl, r1, A2.sub.rd hw, k (.bl neg) H2 ⟨.bl neg, n2, g1.trans g2, (show V.bl neg = V.bl neg from rfl), hq⟩⟩
  · refine .inl ⟨a, _, rfl, .inl ⟨ws, kk, A2.sub.rd hw, kOf_rep hk r1, rfl⟩, k _ H2 ⟨_, n2, g1.trans g2, ?_, hq⟩⟩
    rw [rw'.isSome]
    rfl
theorem ed_din {a b : Expr} {pos : Pos} {Ta Tb : TD} (hu : X.A.units + 1 < cLine) (ha : ED X a Ta) (hb : ED X b Tb) (hm : behindInMarks .In b = false := by rfl) : ED X (.Compare a [.In] [b] pos) (tOpD (dinD false) Ta Tb) := by
  obtain ⟨t, p, k⟩ := ed_pcin (neg := false) (fun _ _ pa pb => pc_dinN hu pa pb) (fun _ _ _ _ _ => by simp only [tDInN, Bool.false_xor]) ha hb
  exact ⟨t, pe_cmp p hm, k⟩
theorem ed_dnotin {a b : Expr} {pos : Pos} {Ta Tb : TD} (hu : X.A.units + 1 < cLine) (ha : ED X a Ta) (hb : ED X b Tb) (hm : behindInMarks .NotIn b = false := by rfl) : ED X (.Compare a [.NotIn] [b] pos) (tOpD (dinD true) Ta Tb) := by
  obtain ⟨t, p, k⟩ := ed_pcin (neg := true) (fun _ _ pa pb => pc_dnotinN hu pa pb) (fun _ _ _ _ _ => by simp only [tDNotInN, Bool.true_xor]) ha hb
  exact ⟨t, pe_cmp p hm, k⟩
theorem bd_din {a b : Expr} {pos : Pos} {Ta Tb : TD} (hu : X.A.units + 1 < cLine) (ha : ED X a Ta) (hb : ED X b Tb) (hm : behindInMarks .In b = false := by rfl) : BD X (.Compare a [.In] [b] pos) (bCmp (dinD false) Ta Tb) := by
  obtain ⟨t, p, k⟩ := ed_pcin (neg := false) (fun _ _ pa pb => pc_dinN hu pa pb) (fun _ _ _ _ _ => by simp only [tDInN, Bool.false_xor]) ha hb
  exact ⟨_, pt_cmp p hm, fun σ H G pn n ρ q A hT Q kq => k σ H G pn n ρ _ A hT _ fun v H1 ⟨d, n1, g1, r1, b, hb, hq⟩ => by
    subst hb
    exact ⟨b, r1, kq b H1 ⟨n1, g1, hq⟩⟩⟩
theorem bd_dnotin {a b : Expr} {pos : Pos} {Ta Tb : TD} (hu : X.A.units + 1 < cLine) (ha : ED X a Ta) (hb : ED X b Tb) (hm : behindInMarks .NotIn b = false := by rfl) : BD X (.Compare a [.NotIn] [b] pos) (bCmp (dinD true) Ta Tb) := by
  obtain ⟨t, p, k⟩ := ed_pcin (neg := true) (fun _ _ pa pb => pc_dnotinN hu pa pb) (fun _ _ _ _ _ => by simp only [tDNotInN, Bool.true_xor]) ha hb
  exact ⟨_, pt_cmp p hm, fun σ H G pn n ρ q A hT Q kq => k σ H G pn n ρ _ A hT _ fun v H1 ⟨d, n1, g1, r1, b, hb, hq⟩ => by
    subst hb
    exact ⟨b, r1, kq b H1 ⟨n1, g1, hq⟩⟩⟩
/-! d.get(k, x), k may be None -/
theorem d_get2None {pins : List (Addr × Obj)} {σ : L2.St} {H : Hp} {s : Shared} {a : Addr} {kvs : List (Key × V)} {A : Around} {E : Value → Shared → Prop} {d : V} {r : Value} {Q : Value → Shared → Prop} (I : Inv X pins σ H s) (e : Rd H a (.dK kvs)) (rd : RelV d r) (h : ∀ w' s', Inv X pins σ H s' → RelV d w' → Q w' s') :
    wpAny (model X.prog X.w) A (call (.builtin "dict.get") [.ref a, .none, r]) Q E s := by
  obtain ⟨_, hd, vs, _, dd⟩ := dk_rd I.hok e
  obtain ⟨f, hm, hf⟩ := none_map dd
  refine call_meetsIn PySem.F.slot_dict_get dd.typeIs PySem.F.entry_dict_get (PySem.F.args_dict_get_3 _ _ _) (meets_dict_get_default (noneKind X.prog X.w) a (show (noneKind X.prog X.w).is none .none = true from rfl) hd r) ⟨_, hm, h _ _ (I.tok _) ?_⟩
  rw [hf]
  exact rd
def tDGet2N (td ty tx : TE) : TE := fun σ H Q => td σ H fun x H1 => ∃ a, x = .ref a ∧ IsD H1 a ∧ ty σ H1 fun y H2 => tx σ H2 fun z H3 => (∃ o, DGet H3 a y o ∧ Q (o.getD z) H3) ∨ ∃ kvs, y = .non ∧ Rd H3 a (.dK kvs) ∧ Q z H3
theorem pe_dget2N {o e f : Expr} {apos cpos : Pos} {td ty tx : TE} (hu : X.A.units + 1 < cLine) (ho : PE X o td) (he : PE X e ty) (hf : PE X f tx) (m : M2 X o "get" apos e f cpos) : PE X (.Call (.Attribute o "get" apos) [e, f] [] cpos) (tDGet2N td ty tx) := by
  refine ⟨fun pins s σ H Q I h => ?_⟩
  refine wpAny_Call_method m.base m.few m.line PySem.F.plainAttrs_dict PySem.F.slot_dict_get PySem.F.type_dict_get (thn (ho.run pins s σ H _ I h) fun u s1 ⟨x, H1, I1, rx, a, ex, d, q1⟩ => ?_)
  subst ex
  obtain rfl : u = Value.ref a := rx
  obtain ⟨t1, t2, _⟩ := isD_at I1 d
  refine ⟨t1, t2, ?_⟩
  rw [m.trees]
  refine Calls.callWith_builtin rfl (Calls.evalArgs_plain (Calls.spliced_cons (thn (he.run pins s1 σ H1 _ I1 q1) fun iv s2 ⟨y, H2, I2, ry, q2⟩ =>
    Calls.spliced_cons (thn (hf.run pins s2 σ H2 _ I2 q2) fun fv s3 ⟨z, H3, I3, rz, q3⟩ => Calls.spliced_nil ?_))))
  rcases q3 with ⟨ov, g, q3⟩ | ⟨kvs, ey, g, q3⟩
  · exact d_get2 hu I3 g ry rz fun w' s4 I4 rw' => ⟨_, H3, I4, rw', q3⟩
  · subst ey
    obtain rfl : iv = Value.none := ry
    exact d_get2None I3 g rz fun w' s4 I4 rw' => ⟨_, H3, I4, rw', q3⟩
def getOrD : D → D → D → Option D
  | .dct kvs, .non, d => some d
  | .dct kvs, .int i, d => some ((lookD kvs (.inl i)).getD d)
  | .dct kvs, .str x, d => some ((lookD kvs (.inr x)).getD d)
  | _, _, _ => none
theorem getOrD_get {d e f z : D} (h : getOrD d e f = some z) : ∃ kvs, d = .dct kvs ∧ ((e = .non ∧ z = f) ∨ ∃ k, kOf e = some k ∧ z = (lookD kvs k).getD f) := by
  cases d <;> try (simp [getOrD] at h; done)
  rename_i kvs
  cases e <;> simp only [getOrD, reduceCtorEq, Option.some.injEq] at h
  · exact ⟨kvs, rfl, .inl ⟨rfl, h.symm⟩⟩
  · exact ⟨kvs, rfl, .inr ⟨_, rfl, h.symm⟩⟩
  · exact ⟨kvs, rfl, .inr ⟨_, rfl, h.symm⟩⟩
def tGet2 (Ta Tb Tc : TD) : TD := fun ρ n q => Ta ρ n fun x n => (∃ kvs, x = .dct kvs) ∧ Tb ρ n fun y n => Tc ρ n fun z n => ∃ w, getOrD x y z = some w ∧ q w n
theorem ed_get2 {o e f : Expr} {apos cpos : Pos} {Ta Tb Tc : TD} (hu : X.A.units + 1 < cLine) (ho : ED X o Ta) (he : ED X e Tb) (hf : ED X f Tc) (m : M2 X o "get" apos e f cpos := by exact ⟨rfl, rfl, rfl, rfl⟩) : ED X (.Call (.Attribute o "get" apos) [e, f] [] cpos) (tGet2 Ta Tb Tc) := by
  obtain ⟨ta, pa, ka⟩ := ho
  obtain ⟨tb, pb, kb⟩ := he
  obtain ⟨tc, pc, kc⟩ := hf
  refine ⟨_, pe_dget2N hu pa pb pc m, fun σ H G pn n ρ q A hT Q k => ?_⟩
  refine ka σ H G pn n ρ _ A hT _ fun x H1 ⟨d, n1, g1, r1, ⟨kvs, hd⟩, hT2⟩ => ?_
  subst hd
  have A1 := A.go g1
  obtain ⟨a, ws, rfl, hw, rw'⟩ := r1
  refine ⟨a, rfl, .inl ⟨ws, A1.sub.rd hw⟩, ?_⟩
  refine kb σ H1 _ pn n1 ρ _ A1 hT2 _ fun y H2 ⟨e, n2, g2, r2, hT3⟩ => ?_
  have A2 := A1.go g2
  refine kc σ H2 _ pn n2 ρ _ A2 hT3 _ fun w H3 ⟨f, n3, g3, r3, z, hz, hq⟩ => ?_
  have A3 := A2.go g3
  have s2 : Sub (ext G H H1) (ext (ext G H H1) H1 H2) := sub_ext
  have s3 : Sub (ext (ext G H H1) H1 H2) (ext (ext (ext G H H1) H1 H2) H2 H3) := sub_ext
  have e3 : ext (ext (ext G H H1) H1 H2) H2 H3 = ext G H H3 := by rw [A1.ext_ext g2 g3, A.ext_ext g1 (g2.trans g3)]
  obtain ⟨kvs', e', hh⟩ := getOrD_get hz
  cases e'
  rcases hh with ⟨rfl, rfl⟩ | ⟨kk, hk, rfl⟩
  · exact .inr ⟨ws, r2, A3.sub.rd ((s2.trans s3).rd hw), k _ H3 ⟨_, n3, (g1.trans g2).trans g3, by rw [← e3]; exact r3, hq⟩⟩
  · refine .inl ⟨valV ws kk, .inl ⟨ws, kk, A3.sub.rd ((s2.trans s3).rd hw), kOf_rep hk r2, rfl⟩, k _ H3 ⟨_, n3, (g1.trans g2).trans g3, ?_, hq⟩⟩
    rw [← e3]
    rcases rw'.val kk with ⟨h1, h2⟩ | ⟨v, d', h1, h2, r⟩
    · rw [h1, h2]
      exact r3
    · rw [h1, h2]
      exact Rep.mono (s2.trans s3) _ _ r
/-! ### len(d), sorted(d) -/
def lenDD : List D → Option D
  | [.dct kvs] => some (.int (kvs.length : Nat))
  | _ => none
theorem oc_lenD : OpC X (fun xs H Q => ∃ p kvs, xs = [.ref p] ∧ Rd H p (.dK kvs) ∧ Q (.int kvs.length) H) lenDD := .val fun G H pn xs ds z s r hz => by
  match ds, hz with
  | [.dct kvs], hz =>
    cases hz
    obtain ⟨v, rfl, a, ws, rfl, hw, rw'⟩ := reps1 r
    exact ⟨_, rfl, fun Q q => ⟨a, ws, rfl, s.rd hw, by rw [rw'.len]; exact q⟩⟩
def keysI : List (Key × D) → Option (List Int)
  | [] => some []
  | (.inl i, _) :: r => (keysI r).map (i :: ·)
  | (.inr _, _) :: _ => none
theorem keysI_eq : ∀ {kvs : List (Key × D)} {ns : List Int}, keysI kvs = some ns → kvs.map (·.1) = ns.map Sum.inl
  | [], ns, h => by cases h; rfl
  | (.inl i, d) :: r, ns, h => by
    obtain ⟨ms, h1, rfl⟩ := Option.map_eq_some_iff.mp h
    simp [keysI_eq h1]
  | (.inr _, _) :: _, _, h => by cases h
def sortedDD : List D → Option D
  | [.dct kvs] => (keysI kvs).bind fun ns => if ns.length < 64 then some (.lst ((sortI ns).map D.int)) else none
  | _ => none
theorem oc_sortedD : OpC X (fun xs H Q => ∃ (a : Addr) (kvs : List (Key × V)) (ks : List Int), xs = [.ref a] ∧ Rd H a (.dK kvs) ∧ kvs.map (·.1) = ks.map Sum.inl ∧ ks.length < 64 ∧
    ∀ (ys : List Int) (p : Addr), ys.Perm ks → ys.Pairwise (· ≤ ·) → H p = none → Q (.ref p) (upd H p (.lst (ys.map V.int)))) sortedDD := .lst fun G H pn xs ds z s r hz => by
  match ds, hz with
  | [.dct kvs], hz =>
    obtain ⟨ns, h1, h2⟩ := Option.bind_eq_some_iff.mp hz
    split at h2
    · rename_i hl
      cases h2
      obtain ⟨v, rfl, a, ws, rfl, hw, rw'⟩ := reps1 r
      refine ⟨(sortI ns).map .int, _, rfl, Reps.ints.mpr rfl, fun Q q => ⟨a, ws, ns, rfl, s.rd hw, by rw [rw'.keys, keysI_eq h1], hl, fun ys p hp hs hn => ?_⟩⟩
      rw [sorted_uniq (hp.trans (sortI_perm ns).symm) hs (sortI_sorted ns)]
      exact q p hn
    · cases h2
theorem ed_sortedDict {e : Expr} {p pos : Pos} {T : TDs} (B : NoB X.mg) (hc : X.calm = true) (hg : Gl X "sorted") (h : AD X [e] T) (he : starEach [e] X.env = (false, eval e X.env) :: starEach [] X.env := by rfl) : ED X (.Call (.Name "sorted" p) [e] [] pos) (tCallB sortedDD T) :=
  opc (fun _ pa => pe_callB (call_sortedDI hc) hg (B _ (by decide)) (by decide +kernel) pa (he := he)) oc_sortedD h
end
/-! ### d[k] = v, a dict of one's own -/
section
variable {C : Cn} {X : Cx} {Ol O O' O'' : List Nat}
def sDSet (i : Nat) (Te Ti : TD) : TDS := fun Dd ρ n => Te ρ n fun d n => Ti ρ n fun z n => pureD d = true ∧ ∃ kvs k, kOf z = some k ∧ ρ[i]? = some (some (.dct kvs)) ∧ kvs.length < LIM ∧ Dd.nx (ρ.set i (some (.dct (putD kvs k d)))) n
theorem s_dset {st : Stmt} {e ix : Expr} {i : Nat} {Te Ti : TD} (mk : ∀ te ti, PE X e te → PE X ix ti → PS X st (sDPut (tVar i) ti te)) (h : ED X e Te) (h2 : ED X ix Ti) (hi : i ∈ O := by decide) (hk : i ∈ C.dk := by decide) : S1 C X Ol O st O (sDSet i Te Ti) := by
  obtain ⟨t, p, k⟩ := h
  obtain ⟨t2, p2, k2⟩ := h2
  refine ⟨_, mk _ _ p p2, fun σ H G G0 H0 pn F n ρ Dd S hT E ke => ?_⟩
  obtain ⟨Ge, s1, A, st⟩ := S.stepP
  refine k σ H Ge pn n _ _ A hT _ fun v H1 ⟨d, n1, g1, r1, hT2⟩ => ?_
  have A1 := A.go g1
  obtain ⟨B, own, _⟩ := S.own
  obtain ⟨ds0, vs0, f1, f2, f3, f4⟩ := (own i hi).dct hk
  refine ⟨_, f2, ?_⟩
  refine k2 σ H1 _ pn n1 _ _ A1 hT2 _ fun w H2 ⟨z, n2, g2, r2, hp, kvs, kk, hz, hd, hl, hq⟩ => ?_
  obtain ⟨Gf, s2, _, mk2, tl, _⟩ := st H2 n2 (g1.trans g2)
  have S1 := mk2 _ sub_ext (Sub.refl _)
  obtain ⟨B1, own1, _⟩ := S1.own
  obtain ⟨ds1, vs1, e1, e2, e3, e4⟩ := (own1 i hi).dct hk
  obtain ⟨_, e5, e6⟩ := own1 i hi
  rw [f2] at e2
  have hB : B i = B1 i := by
    injection e2 with e2
    injection e2 with e2
    injection e2
  rw [hd] at e1
  cases e1
  have rv := Rep.mono (sub_ext (G := ext Ge H H1) (H := H1) (H' := H2)) _ _ r1
  rw [A.ext_ext g1 g2] at rv
  rw [hB]
  have hlen : i < ρ.length := by
    obtain ⟨q, _⟩ := List.getElem?_eq_some_iff.mp hd
    exact q
  refine ⟨_, _, rfl, .inl ⟨vs1, kk, e3, kOf_rep hz r2, lim_lt (by rw [e4.len]; omega), rfl⟩, ?_⟩
  exact ke.nx _ _ _ _ n2 (s2.trans sub_ext) (S1.mut hi (by rw [f2, hB]) e3 e5 e6 (by rw [decide_eq_true hk]; exact .ofDct (e4.put (Rep.pure tl _ _ hp rv))) hlen) hq
theorem nd_dnew {pos : Pos} : ND true X (.Dict [] [] pos) tNoDict :=
  ⟨_, pe_dnewK, fun σ H G pn n ρ q A hT Q kq p hp => kq p _ (.dct []) n hp ⟨Go.new A.pst hp, .dK [], upd_same, .ofDct (show ([] : List (Key × V)) = [] from rfl)⟩ hT⟩
end
end DL
set_option maxHeartbeats 4000000
/-! comprehensions with two fors; over a dict -/
namespace DL
open PySem PySem.Spec PyProof.Rows L2
/-- what is walked, in every block -/
def canW (K : PySem.W.Frag) (T : TDs) : TI := fun σ H R => ∃ (G : Hp) (pn : Pn) (n : Nat) (ρ : DL.Env) (q : List D → Nat → Prop), At K pn G H σ ρ n ∧ T ρ n q ∧ ∀ J ds n' H', Go pn G H H' n' → q ds n' → Walks K pn J (ext G H H') ds → R J H'
theorem wd_can {X : Cx} {tg e : Expr} {T : TDs} (h : WD X tg e T) : PI X tg e (canW X.K T) := by
  obtain ⟨wi, p, k⟩ := h
  exact ⟨fun pins s σ H R I ⟨G, pn, n, ρ, q, A, hT, hR⟩ => p.run pins s σ H R I (k σ H G pn n ρ q A hT R hR)⟩
section
variable {K : PySem.W.Frag} {pn : Pn} {G H : Hp} {Dd : Addr} {σ : L2.St} {ρ : DL.Env} {n : Nat}
theorem Fz_mono {H1 H2 : Hp} {n1 : Nat} (A : At K pn G H σ ρ n) (g1 : Go pn G H H1 n1) (e2 : Ex pn H1 H2) : Sub (Fz G H Dd H1) (Fz G H Dd H2) := fun a o h => by
  by_cases ha : a = Dd
  · subst ha
    rw [Fz_D] at h
    cases h
  · rw [Fz_ne ha] at h ⊢
    rw [← ext_ext A.pst g1.pen g1.ex e2]
    exact ext_some h
theorem lc_at (A : At K pn G H σ ρ n) (hD : H Dd = none) {H1 : Hp} {n1 : Nat} (g1 : Go pn G H H1 n1) : Sub (Fz G H Dd H1) H1 ∧ Pst pn (Fz G H Dd H1) H1 n1 := by
  have npD : ∀ p c, pn = some (p, c) → Dd ≠ p := fun p c e z => by
    obtain ⟨x, y, h1, _⟩ := (A.pst p c e).1.lst
    rw [← z, hD] at h1
    cases h1
  refine ⟨Fz_sub A.sub A.pst g1.ex, fun p c e => ⟨g1.pen p c e, ?_, ?_⟩⟩
  · rw [Fz_ne (fun z => npD p c e z.symm)]
    obtain ⟨x, y, h1, _⟩ := (A.pst p c e).1.lst
    exact ext_old (A.pst p c e).2.1 h1
  · obtain ⟨ns, h1, _⟩ := (A.pst p c e).1.cells
    have : c ≠ Dd := fun z => by rw [z, hD] at h1; cases h1
    rw [Fz_ne this]
    exact ext_old (A.pst p c e).2.2 h1
/-- a turn, behind the store of its item -/
theorem lc_turn {tt : TDb} {Te : TD} (A : At K pn G H σ ρ n) (hD : H Dd = none) {Hh H1 : Hp} {acc : List D} {n' : Nat} (L : Lc K pn G H Dd Hh acc n') (s1 : Sub Hh H1) {σ' : L2.St} {ρ' : DL.Env} (A1 : At K pn (Fz G H Dd H1) H1 σ' ρ' n') {cont : List D → Nat → Prop} {Nx : Hp → Prop}
    (hN : ∀ Hh acc n', Lc K pn G H Dd Hh acc n' → Sub (Fz G H Dd H1) (Fz G H Dd Hh) → cont acc n' → Nx Hh)
    (hT : tt ρ' n' fun b n => if b = true then Te ρ' n fun y n => acc.length < LIM ∧ cont (acc ++ [y]) n else cont acc n) :
    canB K tt σ' H1 fun b H2 => if b = true then can K Te σ' H2 fun y H3 => ∃ acc, H3 Dd = some (.lst acc) ∧ acc.length < sizeLine ∧ Nx (upd H3 Dd (.lst (acc ++ [y]))) else Nx H2 := by
  have npD : ∀ p c, pn = some (p, c) → Dd ≠ p := fun p c e z => by
    obtain ⟨x, y, h1, _⟩ := (A.pst p c e).1.lst
    rw [← z, hD] at h1
    cases h1
  obtain ⟨us, hus, rus⟩ := L.ls
  have g1 : Go pn G H H1 n' := L.go.sub s1
  have hus1 : H1 Dd = some (.lst us) := s1 _ _ hus
  refine ⟨Fz G H Dd H1, pn, n', ρ', _, A1, hT, fun b H2 ⟨n2, g2, hb⟩ => ?_⟩
  have e2 : ext (Fz G H Dd H1) H1 H2 = Fz G H Dd H2 := Fz_ext A.pst g1.pen g1.ex g2.ex hus1
  have g12 : Go pn G H H2 n2 := g1.trans g2
  have A2 := A1.go g2
  rw [e2] at A2
  have hus2 : H2 Dd = some (.lst us) := g2.ex _ _ hus1 npD
  have m12 : Sub (Fz G H Dd H1) (Fz G H Dd H2) := Fz_mono A g1 g2.ex
  have rus2 : Reps K pn (Fz G H Dd H2) us acc := Reps.mono (Fz_mono A L.go ((Ex.of_same s1).trans g2.ex)) _ _ rus
  cases b with
  | false => exact hN H2 acc n2 ⟨g12, us, hus2, rus2⟩ m12 hb
  | true =>
    refine ⟨Fz G H Dd H2, pn, n2, ρ', _, A2, hb, fun y H3 ⟨d, n3, g3, r3, hl, hc⟩ => ?_⟩
    have e3 : ext (Fz G H Dd H2) H2 H3 = Fz G H Dd H3 := Fz_ext A.pst g12.pen g12.ex g3.ex hus2
    rw [e3] at r3
    have hus3 : H3 Dd = some (.lst us) := g3.ex _ _ hus2 npD
    have g123 := g12.trans g3
    have rus3 : Reps K pn (Fz G H Dd H3) us acc := Reps.mono (Fz_mono A g12 g3.ex) _ _ rus2
    refine ⟨us, hus3, by rw [Reps.length rus]; exact Nat.lt_of_lt_of_le hl (lim_le (Nat.le_refl _)), hN _ (acc ++ [d]) n3 ⟨⟨fun a o h np => ?_, fun p c e => ?_⟩, us ++ [y], upd_same, ?_⟩ ?_ hc⟩
    · have : a ≠ Dd := fun z => by rw [z, hD] at h; cases h
      rw [upd_ne this]
      exact g123.ex a o h np
    · obtain ⟨⟨x, z, h1, h2⟩, ⟨ns, h3⟩, h4⟩ := g123.pen p c e
      obtain ⟨ns0, h0, _⟩ := (A.pst p c e).1.cells
      have n1 : p ≠ Dd := fun z => npD p c e z.symm
      have n2 : c ≠ Dd := fun z => by rw [z, hD] at h0; cases h0
      exact ⟨⟨x, z, by rw [upd_ne n1]; exact h1, h2⟩, ⟨ns, by rw [upd_ne n2]; exact h3.1, h3.2⟩, h4⟩
    · rw [Fz_upd]
      exact Reps.append rus3 ⟨y, [], rfl, r3, rfl⟩
    · rw [Fz_upd]
      exact m12.trans (Fz_mono A g12 g3.ex)
/-- the store of an item -/
theorem lc_item {f : D → DL.Env → Option DL.Env} {g : TG} {ts vs : List Nat} (hr : TgRun K g f ts) (sub : ∀ i ∈ ts, i ∈ vs) (A : At K pn G H σ ρ n) (hD : H Dd = none) {H1 : Hp} {n1 : Nat} (g1 : Go pn G H H1 n1) {σ0 : L2.St} {ρ0 ρ' : DL.Env} (env : ∀ (i : Nat) (d : D), ρ0[i]? = some (some d) → ∃ v, σ0[i]? = some (some v) ∧ Rep K pn (Fz G H Dd H1) v d) (hl : σ0.length = ρ0.length)
    {x : V} {d : D} (r : Rep K pn (Fz G H Dd H1) x d) (hf : f d (wipeE ρ0 vs) = some ρ') {Q : L2.St → Hp → Prop} (k : ∀ σ', wipe σ' vs = wipe σ0 vs → At K pn (Fz G H Dd H1) H1 σ' ρ' n1 → Q σ' H1) : g x (wipe σ0 vs) H1 Q := by
  obtain ⟨sF1, pF1⟩ := lc_at A hD g1
  have A0 : At K pn (Fz G H Dd H1) H1 σ0 ρ0 n1 := ⟨sF1, pF1, env, hl⟩
  have Aw := A0.wiped vs
  refine hr.run (wipe σ0 vs) H1 (Fz G H Dd H1) pn [] x d (wipeE ρ0 vs) ρ' sF1 r hf (fun j d _ h => Aw.env j d h) Aw.len _ fun σ' env' l1 l2 same => ?_
  exact k σ' (wipe_same l1 (fun j hj => (same j hj).1) sub) ⟨sF1, pF1, fun i d h => env' i d (by simp) h, by rw [l1, l2]; exact Aw.len⟩
end
/-! ### [elt for x in xs if .. for y in ys if ..] -/
def compD2 (f : D → DL.Env → Option DL.Env) (tt : TDb) (Tw1 : TDs) (f1 : D → DL.Env → Option DL.Env) (tt1 : TDb) (Te : TD) (vs1 : List Nat) : List D → List D → DL.Env → Nat → (List D → Nat → Prop) → Prop
  | [], acc, _, n, q => q acc n
  | d :: ds, acc, ρ, n, q => ∃ ρ', f d ρ = some ρ' ∧ tt ρ' n fun b n => if b = true then Tw1 ρ' n fun es n => compD f1 tt1 Te es acc (wipeE ρ' vs1) n fun acc n => compD2 f tt Tw1 f1 tt1 Te vs1 ds acc ρ n q else compD2 f tt Tw1 f1 tt1 Te vs1 ds acc ρ n q
theorem lr_comp2 {K : PySem.W.Frag} {wi : TI} {Tw Tw1 : TDs} {f f1 : D → DL.Env → Option DL.Env} {tt tt1 : TDb} {Te : TD} {g g1 : TG} {ts ts1 vs vs1 : List Nat} (hr : TgRun K g f ts) (sub : ∀ i ∈ ts, i ∈ vs) (hr1 : TgRun K g1 f1 ts1) (sub1 : ∀ i ∈ ts1, i ∈ vs1)
    (kw : ∀ (σ : L2.St) (H G : Hp) (pn : Pn) (n : Nat) (ρ : DL.Env) (q : List D → Nat → Prop), At K pn G H σ ρ n → Tw ρ n q → ∀ R : It → Hp → Prop, (∀ J ds n' H', Go pn G H H' n' → q ds n' → Walks K pn J (ext G H H') ds → R J H') → wi σ H R) :
    LR K (tLc2 wi g (canB K tt) (canW K Tw1) g1 (canB K tt1) (can K Te) vs vs1) (fun ρ n q => Tw ρ n fun ds n => compD2 f tt Tw1 f1 tt1 Te vs1 ds [] (wipeE ρ vs) n q) := fun σ H0 G0 pn n0 ρ q A0 hT Q kq => by
  refine kw σ H0 G0 pn n0 ρ _ A0 hT _ fun J ds n H g0 hq w => ?_
  intro Dd hD
  have A := A0.go g0
  generalize hG : ext G0 H0 H = G at A w
  have hH0 : H0 Dd = none := by
    cases z : H0 Dd with
    | none => rfl
    | some u =>
      obtain ⟨o, e⟩ := g0.there z
      rw [hD] at e
      cases e
  have npD : ∀ p c, pn = some (p, c) → Dd ≠ p := fun p c e z => by
    obtain ⟨x, y, h1, _⟩ := (A.pst p c e).1.lst
    rw [← z, hD] at h1
    cases h1
  have gD : G Dd = none := by
    cases z : G Dd with
    | none => rfl
    | some u => rw [A.sub _ _ z] at hD; cases hD
  refine ⟨fun i m Hh => ∃ acc n', m = ds.length - i ∧ i ≤ ds.length ∧ Lc K pn G H Dd Hh acc n' ∧ compD2 f tt Tw1 f1 tt1 Te vs1 (ds.drop i) acc (wipeE ρ vs) n' q, ⟨ds.length, [], n, by simp, Nat.zero_le _, ⟨Go.new A.pst hD, [], upd_same, rfl⟩, hq⟩, ?_⟩
  rintro i m Hh ⟨acc, n', rfl, hi, L, hc⟩
  have sF : Sub G (Fz G H Dd Hh) := Fz_le A.sub hD
  obtain ⟨sFH, _⟩ := lc_at A hD L.go
  by_cases hlt : i < ds.length
  · refine .inr ⟨w.go i Hh (sF.trans sFH) hlt, fun H' => ∃ acc n', Lc K pn G H Dd H' acc n' ∧ compD2 f tt Tw1 f1 tt1 Te vs1 (ds.drop (i + 1)) acc (wipeE ρ vs) n' q, fun H' ⟨a, k, l, c⟩ => ⟨ds.length - (i + 1), by omega, a, k, rfl, hlt, l, c⟩, fun x H1 y => ?_⟩
    obtain ⟨s1, y1⟩ := w.yld i Hh x H1 (sF.trans sFH) y
    rw [show ds.drop i = ds[i] :: ds.drop (i + 1) from List.drop_eq_getElem_cons hlt] at hc
    obtain ⟨ρ', hf, htt⟩ := hc
    obtain ⟨us, hus, rus⟩ := L.ls
    have r1 := y1 ds[i] (List.getElem?_eq_getElem hlt) _ sF sFH
    have g1 : Go pn G H H1 n' := L.go.sub s1
    rw [Fz_ext A.pst L.go.pen L.go.ex (.of_same s1) hus] at r1
    refine lc_item hr sub A hD g1 (σ0 := σ) (ρ0 := ρ) (fun j d h => ?_) A.len r1 hf fun σ2 hw2 A2 => ⟨hw2, ?_⟩
    · obtain ⟨v, h1, h2⟩ := A.env j d h
      exact ⟨v, h1, Rep.mono (Fz_le A.sub hD) _ _ h2⟩
    have hus1 : H1 Dd = some (.lst us) := s1 _ _ hus
    refine ⟨Fz G H Dd H1, pn, n', ρ', _, A2, htt, fun b H3 ⟨n3, g3, hb⟩ => ?_⟩
    have e3 : ext (Fz G H Dd H1) H1 H3 = Fz G H Dd H3 := Fz_ext A.pst g1.pen g1.ex g3.ex hus1
    have g13 : Go pn G H H3 n3 := g1.trans g3
    have A3 := A2.go g3
    rw [e3] at A3
    have hus3 : H3 Dd = some (.lst us) := g3.ex _ _ hus1 npD
    have rus3 : Reps K pn (Fz G H Dd H3) us acc := Reps.mono (Fz_mono A L.go ((Ex.of_same s1).trans g3.ex)) _ _ rus
    cases b with
    | false => exact ⟨acc, n3, ⟨g13, us, hus3, rus3⟩, hb⟩
    | true =>
      simp only [if_true]
      refine ⟨Fz G H Dd H3, pn, n3, ρ', _, A3, hb, fun J1 es n4 H4 g4 hc4 w1 => ?_⟩
      have e4 : ext (Fz G H Dd H3) H3 H4 = Fz G H Dd H4 := Fz_ext A.pst g13.pen g13.ex g4.ex hus3
      rw [e4] at w1
      have g14 : Go pn G H H4 n4 := g13.trans g4
      have hus4 : H4 Dd = some (.lst us) := g4.ex _ _ hus3 npD
      have m34 : Sub (Fz G H Dd H3) (Fz G H Dd H4) := Fz_mono A g13 g4.ex
      have L4 : Lc K pn G H Dd H4 acc n4 := ⟨g14, us, hus4, Reps.mono m34 _ _ rus3⟩
      refine ⟨fun j k Hj => ∃ acc n', k = es.length - j ∧ j ≤ es.length ∧ Lc K pn G H Dd Hj acc n' ∧ Sub (Fz G H Dd H4) (Fz G H Dd Hj) ∧ compD f1 tt1 Te (es.drop j) acc (wipeE ρ' vs1) n' fun acc n => compD2 f tt Tw1 f1 tt1 Te vs1 (ds.drop (i + 1)) acc (wipeE ρ vs) n q, ⟨es.length, acc, n4, by simp, Nat.zero_le _, L4, Sub.refl _, hc4⟩, ?_⟩
      rintro j k Hj ⟨acc5, n5, rfl, hj, L5, m5, hc5⟩
      obtain ⟨sFj, _⟩ := lc_at A hD L5.go
      by_cases hjt : j < es.length
      · refine .inr ⟨w1.go j Hj (m5.trans sFj) hjt, fun H' => ∃ acc n', Lc K pn G H Dd H' acc n' ∧ Sub (Fz G H Dd H4) (Fz G H Dd H') ∧ compD f1 tt1 Te (es.drop (j + 1)) acc (wipeE ρ' vs1) n' fun acc n => compD2 f tt Tw1 f1 tt1 Te vs1 (ds.drop (i + 1)) acc (wipeE ρ vs) n q, fun H' ⟨a, k, l, s, c⟩ => ⟨es.length - (j + 1), by omega, a, k, rfl, hjt, l, s, c⟩, fun x6 H6 y6 => ?_⟩
        obtain ⟨s6, y6'⟩ := w1.yld j Hj x6 H6 (m5.trans sFj) y6
        rw [show es.drop j = es[j] :: es.drop (j + 1) from List.drop_eq_getElem_cons hjt] at hc5
        obtain ⟨ρ6, hf6, htt6⟩ := hc5
        obtain ⟨us5, hus5, rus5⟩ := L5.ls
        have r6 := y6' es[j] (List.getElem?_eq_getElem hjt) _ m5 sFj
        have g6 : Go pn G H H6 n5 := L5.go.sub s6
        rw [Fz_ext A.pst L5.go.pen L5.go.ex (.of_same s6) hus5] at r6
        have m56 : Sub (Fz G H Dd Hj) (Fz G H Dd H6) := Fz_mono A L5.go (.of_same s6)
        have m36 := (m34.trans m5).trans m56
        refine lc_item hr1 sub1 A hD g6 (σ0 := σ2) (ρ0 := ρ') (fun j d h => ?_) A3.len r6 hf6 fun σ7 hw7 A7 => ⟨hw7, ?_⟩
        · obtain ⟨v, h1, h2⟩ := A3.env j d h
          exact ⟨v, h1, Rep.mono m36 _ _ h2⟩
        exact lc_turn A hD L5 s6 A7 (fun Hh8 acc8 n8 L8 m8 c8 => ⟨acc8, n8, L8, (m5.trans m56).trans m8, c8⟩) htt6
      · refine .inl ⟨w1.stop j Hj (m5.trans sFj) (by omega), acc5, n5, L5, ?_⟩
        rw [List.drop_eq_nil_of_le (by omega)] at hc5
        exact hc5
  · refine .inl ⟨w.stop i Hh (sF.trans sFH) (by omega), ?_⟩
    rw [List.drop_eq_nil_of_le (by omega)] at hc
    have hq : q acc n' := hc
    refine kq Dd Hh acc n' hH0 ⟨g0.trans L.go, ?_⟩ hq
    obtain ⟨us, h1, h2⟩ := L.ls
    refine ⟨us, h1, Reps.mono (fun a o h => ?_) _ _ h2⟩
    by_cases ha : a = Dd
    · subst ha
      rw [Fz_D] at h
      cases h
    · rw [Fz_ne ha] at h ⊢
      rw [← hG, A0.ext_ext g0 L.go] at h
      exact h
def tComp2L (Tw : TDs) (f : D → DL.Env → Option DL.Env) (tt : TDb) (Tw1 : TDs) (f1 : D → DL.Env → Option DL.Env) (tt1 : TDb) (Te : TD) (vs vs1 : List Nat) : TDs := fun ρ n q => Tw ρ n fun ds n => compD2 f tt Tw1 f1 tt1 Te vs1 ds [] (wipeE ρ vs) n q
theorem ld_lc2 {X : Cx} {elt tg iter tg1 iter1 : Expr} {ifs ifs1 : List Expr} {scope : Scope} {own : List (Str × Nat)} {pos : Pos} {Tw Tw1 : TDs} {f f1 : D → DL.Env → Option DL.Env} {tt tt1 : TDb} {Te : TD} {g g1 : TG} {ts ts1 : List Nat} (hc : X.calm = true) (hN : X.N.Nodup) (vs1 : List Nat) (hw : WD X tg iter Tw) (ok : BlkOk X.N X.env.scope scope own)
    (hr : TgRun X.K g f ts) (hr1 : TgRun X.K g1 f1 ts1) (hg : ∀ (s : Shared) (H : Hp) (C : Addr) (cl : List (Str × Addr)) (fp : List Addr), PG (X.blk s H scope (compEnvC scope cl C X.env) fp) tg g) (ht : ∀ (s : Shared) (H : Hp) (C : Addr) (cl : List (Str × Addr)) (fp : List Addr), TsD (X.blk s H scope (compEnvC scope cl C X.env) fp) ifs tt)
    (hw1 : ∀ (s : Shared) (H : Hp) (C : Addr) (cl : List (Str × Addr)) (fp : List Addr), WD (X.blk s H scope (compEnvC scope cl C X.env) fp) tg1 iter1 Tw1) (hg1 : ∀ (s : Shared) (H : Hp) (C : Addr) (cl : List (Str × Addr)) (fp : List Addr), PG (X.blk s H scope (compEnvC scope cl C X.env) fp) tg1 g1) (ht1 : ∀ (s : Shared) (H : Hp) (C : Addr) (cl : List (Str × Addr)) (fp : List Addr), TsD (X.blk s H scope (compEnvC scope cl C X.env) fp) ifs1 tt1)
    (he : ∀ (s : Shared) (H : Hp) (C : Addr) (cl : List (Str × Addr)) (fp : List Addr), ED (X.blk s H scope (compEnvC scope cl C X.env) fp) elt Te) (sub : ∀ i ∈ ts, i ∈ own.map (·.2) := by decide) (sub1 : ∀ i ∈ ts1, i ∈ vs1 := by decide) (hv : ∀ i ∈ vs1, i ∈ own.map (·.2) := by decide) (hs : ∀ x, foldedSetIterable iter X.env x = pure x := by intro _; rfl) (hs1 : ∀ env x, foldedSetIterable iter1 env x = pure x := by intro _ _; rfl) :
    LD X (.ListComp elt [⟨tg, iter, ifs, 0⟩, ⟨tg1, iter1, ifs1, 0⟩] scope pos) (tComp2L Tw f tt Tw1 f1 tt1 Te (own.map (·.2)) vs1) := by
  obtain ⟨wi, pi, kw⟩ := hw
  exact ⟨_, pe_lc2 (tt := canB X.K tt) (tt1 := canB X.K tt1) (te := can X.K Te) (wi1 := canW X.K Tw1) hc hN pi ok hv hg (fun s H C cl fp => ts_can (ht s H C cl fp)) (fun s H C cl fp => wd_can (hw1 s H C cl fp)) hg1 (fun s H C cl fp => ts_can (ht1 s H C cl fp)) (fun s H C cl fp => ed_can (he s H C cl fp)) hs hs1, lr_comp2 hr sub hr1 sub1 kw⟩
theorem ps_lcSet2 {X : Cx} {i : Nat} {y : Str} {py : Pos} {elt tg iter tg1 iter1 : Expr} {ifs ifs1 : List Expr} {scope : Scope} {own : List (Str × Nat)} {pos spos : Pos} {Tw Tw1 : TDs} {f f1 : D → DL.Env → Option DL.Env} {tt tt1 : TDb} {Te : TD} {g g1 : TG} {ts ts1 : List Nat} (hc : X.calm = true) (hN : X.N.Nodup) (hy : X.N[i]? = some y) (hyl : X.env.scope.names.lookup y = some .local)
    (hsw : swapsWith (.ListComp elt [⟨tg, iter, ifs, 0⟩, ⟨tg1, iter1, ifs1, 0⟩] scope pos) (some (.Name y py)) spos.line X.env = pure true) (vs1 : List Nat) (hw : WD X tg iter Tw) (ok : BlkOk X.N X.env.scope scope own)
    (hr : TgRun X.K g f ts) (hr1 : TgRun X.K g1 f1 ts1) (hg : ∀ (s : Shared) (H : Hp) (C : Addr) (cl : List (Str × Addr)) (fp : List Addr), PG (X.blk s H scope (compEnvC scope cl C X.env) fp) tg g) (ht : ∀ (s : Shared) (H : Hp) (C : Addr) (cl : List (Str × Addr)) (fp : List Addr), TsD (X.blk s H scope (compEnvC scope cl C X.env) fp) ifs tt)
    (hw1 : ∀ (s : Shared) (H : Hp) (C : Addr) (cl : List (Str × Addr)) (fp : List Addr), WD (X.blk s H scope (compEnvC scope cl C X.env) fp) tg1 iter1 Tw1) (hg1 : ∀ (s : Shared) (H : Hp) (C : Addr) (cl : List (Str × Addr)) (fp : List Addr), PG (X.blk s H scope (compEnvC scope cl C X.env) fp) tg1 g1) (ht1 : ∀ (s : Shared) (H : Hp) (C : Addr) (cl : List (Str × Addr)) (fp : List Addr), TsD (X.blk s H scope (compEnvC scope cl C X.env) fp) ifs1 tt1)
    (he : ∀ (s : Shared) (H : Hp) (C : Addr) (cl : List (Str × Addr)) (fp : List Addr), ED (X.blk s H scope (compEnvC scope cl C X.env) fp) elt Te) (sub : ∀ i ∈ ts, i ∈ own.map (·.2) := by decide) (sub1 : ∀ i ∈ ts1, i ∈ vs1 := by decide) (hv : ∀ i ∈ vs1, i ∈ own.map (·.2) := by decide) (hs : ∀ x, foldedSetIterable iter X.env x = pure x := by intro _; rfl) (hs1 : ∀ env x, foldedSetIterable iter1 env x = pure x := by intro _ _; rfl) :
    ∃ t, PS X (.Assign [.Name y py] (.ListComp elt [⟨tg, iter, ifs, 0⟩, ⟨tg1, iter1, ifs1, 0⟩] scope pos) spos) (tAsg t (gName i)) ∧ LR X.K t (tComp2L Tw f tt Tw1 f1 tt1 Te (own.map (·.2)) vs1) := by
  obtain ⟨wi, pi, kw⟩ := hw
  exact ⟨_, ps_setLc2 (tt := canB X.K tt) (tt1 := canB X.K tt1) (te := can X.K Te) (wi1 := canW X.K Tw1) hc hN hy hyl hsw pi ok hv hg (fun s H C cl fp => ts_can (ht s H C cl fp)) (fun s H C cl fp => wd_can (hw1 s H C cl fp)) hg1 (fun s H C cl fp => ts_can (ht1 s H C cl fp)) (fun s H C cl fp => ed_can (he s H C cl fp)) hs hs1, lr_comp2 hr sub hr1 sub1 kw⟩
end DL
set_option maxHeartbeats 4000000
/-! a comprehension over the keys of a dict, which is locked meanwhile -/
namespace DL
open PySem PySem.Spec PyProof.Rows L2
structure RdLe (G G' : Hp) : Prop where
  tup : ∀ a xs, Rd G a (.tup xs) → Rd G' a (.tup xs)
  dk : ∀ a ws, Rd G a (.dK ws) → Rd G' a (.dK ws)
  rl : ∀ a xs, Rd G a (.lst xs) → Rd G' a (.lst xs)
  lst : ∀ a xs, G a = some (.lst xs) → G' a = some (.lst xs)
mutual
theorem Rep.rdle {K : PySem.W.Frag} {pn : Pn} {G G' : Hp} (t : RdLe G G') : ∀ (d : D) (v : V), Rep K pn G v d → Rep K pn G' v d
  | .non, v, h => h
  | .bl b, v, h => h
  | .int i, v, h => h
  | .str x, v, h => h
  | .tup ds, v, h => by
    obtain ⟨a, vs, e, h1, h2⟩ := h
    exact ⟨a, vs, e, h1.imp (t.tup _ _) id, Reps.rdle t ds vs h2⟩
  | .lst ds, v, h => by
    obtain ⟨a, vs, e, h1, h2⟩ := h
    exact ⟨a, vs, e, t.lst _ _ h1, Reps.rdle t ds vs h2⟩
  | .dct kvs, v, h => by
    obtain ⟨a, ws, e, h1, h2⟩ := h
    exact ⟨a, ws, e, t.dk _ _ h1, RepKV.rdle t kvs ws h2⟩
  | .pen, v, h => h
  | .scr ns, v, h => by
    obtain ⟨a, e, h1⟩ := h
    exact ⟨a, e, h1.imp (t.rl _ _) id⟩
theorem Reps.rdle {K : PySem.W.Frag} {pn : Pn} {G G' : Hp} (t : RdLe G G') : ∀ (ds : List D) (vs : List V), Reps K pn G vs ds → Reps K pn G' vs ds
  | [], vs, h => h
  | d :: ds, vs, h => by
    obtain ⟨v, r, e, h1, h2⟩ := h
    exact ⟨v, r, e, Rep.rdle t d v h1, Reps.rdle t ds r h2⟩
theorem RepKV.rdle {K : PySem.W.Frag} {pn : Pn} {G G' : Hp} (t : RdLe G G') : ∀ (kds : List (Key × D)) (ws : List (Key × V)), RepKV K pn G ws kds → RepKV K pn G' ws kds
  | [], ws, h => h
  | (k, d) :: kds, ws, h => by
    obtain ⟨v, r, e, h1, h2⟩ := h
    exact ⟨v, r, e, Rep.rdle t d v h1, RepKV.rdle t kds r h2⟩
end
theorem rdle_lock {G G' : Hp} {a : Addr} {od : Obj} {ws : List (Key × V)} (h : G a = some (.dK ws)) (h' : G' a = some (.frz od (.dK ws))) (hne : ∀ x, x ≠ a → G' x = G x) : RdLe G G' := by
  have key : ∀ x u, (∀ o w, u ≠ .frz o w) → Rd G x u → (x = a ∧ u = .dK ws) ∨ (x ≠ a ∧ Rd G' x u) := fun x u hu r => by
    by_cases hx : x = a
    · subst hx
      rcases r with r | ⟨o, r⟩
      · rw [h] at r
        cases r
        exact .inl ⟨rfl, rfl⟩
      · rw [h] at r
        cases r
    · refine .inr ⟨hx, ?_⟩
      rcases r with r | ⟨o, r⟩
      · exact .inl (by rw [hne x hx]; exact r)
      · exact .inr ⟨o, by rw [hne x hx]; exact r⟩
  refine ⟨fun x xs r => ?_, fun x ws' r => ?_, fun x xs r => ?_, fun x xs r => ?_⟩
  · rcases key x _ (fun _ _ z => by cases z) r with ⟨_, z⟩ | ⟨_, q⟩
    · cases z
    · exact q
  · rcases key x _ (fun _ _ z => by cases z) r with ⟨rfl, z⟩ | ⟨_, q⟩
    · cases z
      exact .inr ⟨od, h'⟩
    · exact q
  · rcases key x _ (fun _ _ z => by cases z) r with ⟨_, z⟩ | ⟨_, q⟩
    · cases z
    · exact q
  · by_cases hx : x = a
    · subst hx
      rw [h] at r
      cases r
    · rw [hne x hx]
      exact r
theorem rdle_unlock {G G' : Hp} {a : Addr} {od : Obj} {ws : List (Key × V)} (h : G a = some (.dK ws)) (h' : G' a = some (.frz od (.dK ws))) (hne : ∀ x, x ≠ a → G' x = G x) : RdLe G' G := by
  have key : ∀ x u, (∀ o w, u ≠ .frz o w) → Rd G' x u → (x = a ∧ u = .dK ws) ∨ (x ≠ a ∧ Rd G x u) := fun x u hu r => by
    by_cases hx : x = a
    · subst hx
      rcases r with r | ⟨o, r⟩
      · rw [h'] at r
        cases r
        exact absurd rfl (hu _ _)
      · rw [h'] at r
        cases r
        exact .inl ⟨rfl, rfl⟩
    · refine .inr ⟨hx, ?_⟩
      rcases r with r | ⟨o, r⟩
      · exact .inl (by rw [← hne x hx]; exact r)
      · exact .inr ⟨o, by rw [← hne x hx]; exact r⟩
  refine ⟨fun x xs r => ?_, fun x ws' r => ?_, fun x xs r => ?_, fun x xs r => ?_⟩
  · rcases key x _ (fun _ _ z => by cases z) r with ⟨_, z⟩ | ⟨_, q⟩
    · cases z
    · exact q
  · rcases key x _ (fun _ _ z => by cases z) r with ⟨rfl, z⟩ | ⟨_, q⟩
    · cases z
      exact .inl h
    · exact q
  · rcases key x _ (fun _ _ z => by cases z) r with ⟨_, z⟩ | ⟨_, q⟩
    · cases z
    · exact q
  · by_cases hx : x = a
    · subst hx
      rw [h'] at r
      cases r
    · rw [← hne x hx]
      exact r
def keysD (kvs : List (Key × D)) : List D := kvs.map fun kv => keyD kv.1
theorem walks_keys {K : PySem.W.Frag} {pn : Pn} {G : Hp} {a : Addr} {od : Obj} {ws : List (Key × V)} {kvs : List (Key × D)} (h : G a = some (.frz od (.dK ws))) (r : RepKV K pn G ws kvs) : Walks K pn (Itk a od ws) G (keysD kvs) := by
  have hl : (keysD kvs).length = ws.length := by unfold keysD; rw [List.length_map, r.len]
  refine ⟨fun i H s hi => ⟨s _ _ h, by omega⟩, fun i H x H' s y => ?_, fun i H s hi => ⟨s _ _ h, by omega⟩⟩
  obtain ⟨rfl, k, v, hk, rfl⟩ := y
  refine ⟨Sub.refl _, fun d hd G1 s1 s2 => ?_⟩
  have e := congrArg (fun l => l[i]?) r.keys
  simp only [List.getElem?_map, hk, Option.map_some] at e
  unfold keysD at hd
  rw [List.getElem?_map] at hd
  obtain ⟨kv, e1, e2⟩ := Option.map_eq_some_iff.mp hd
  rw [e1] at e
  simp only [Option.map_some, Option.some.injEq] at e
  subst e2
  rw [e]
  exact keyD_rep
def wKeysV (i : Nat) : TDs := fun ρ n q => ∃ kvs, ρ[i]? = some (some (.dct kvs)) ∧ q (keysD kvs) n
def tOr (t u : TE) : TE := fun σ H Q => t σ H Q ∨ u σ H Q
theorem PE.or {X : Cx} {e : Expr} {t u : TE} (h : PE X e t) (k : PE X e u) : PE X e (tOr t u) := ⟨fun pins s σ H Q I q => q.elim (h.run pins s σ H Q I) (k.run pins s σ H Q I)⟩
theorem PS.orAsg {X : Cx} {st : Stmt} {t u : TE} {g : TG} (h : PS X st (tAsg t g)) (k : PS X st (tAsg u g)) : PS X st (tAsg (tOr t u) g) := ⟨fun pins s σ H D I q => by
  rcases q with q | q
  · exact h.run pins s σ H D I q
  · exact k.run pins s σ H D I q⟩
theorem PS.lockAsg {X : Cx} {st : Stmt} {t : TE} {i : Nat} (h : PS X st (tAsg t (gName i))) : PS X st (tAsg (tLockE t) (gName i)) := ⟨fun pins s σ H D I q => (ps_lock h).run pins s σ H D I q⟩
theorem lr_keys {K : PySem.W.Frag} {i : Nat} {f : D → DL.Env → Option DL.Env} {tt : TDb} {Te : TD} {g : TG} {ts vs : List Nat} (hr : TgRun K g f ts) (sub : ∀ i ∈ ts, i ∈ vs) :
    LR K (tOr (tLockE (tLc (iKeys (tVar i)) g (canB K tt) (can K Te) vs)) (tLc (iKeys (tVar i)) g (canB K tt) (can K Te) vs)) (tCompL (wKeysV i) f tt Te vs) := fun σ H G pn n ρ q A ⟨kvs, hρ, hq⟩ Q kq => by
  obtain ⟨v, hσ, a, ws, rfl, hw, rw'⟩ := A.env i _ hρ
  rcases hw with hw | ⟨od, hw⟩
  · have hH := A.sub _ _ hw
    refine .inl ⟨a, .dK ws, hH, trivial, fun od => ?_⟩
    have hap : ∀ p c, pn = some (p, c) → a ≠ p ∧ a ≠ c := fun p c e => by
      obtain ⟨_, h1, h2⟩ := A.pst p c e
      refine ⟨fun z => ?_, fun z => ?_⟩
      · rw [← z, hw] at h1; cases h1
      · rw [← z, hw] at h2; cases h2
    have rl : RdLe G (upd G a (.frz od (.dK ws))) := rdle_lock hw upd_same fun x hx => upd_ne hx
    have A1 : At K pn (upd G a (.frz od (.dK ws))) (upd H a (.frz od (.dK ws))) σ ρ n := by
      refine ⟨fun x o h => ?_, fun p c e => ?_, fun j d h => ?_, A.len⟩
      · by_cases hx : x = a
        · subst hx
          rw [upd_same] at h ⊢
          exact h
        · rw [upd_ne hx] at h ⊢
          exact A.sub _ _ h
      · obtain ⟨⟨⟨x, y, h1, h2⟩, ⟨ns, h3⟩, h4⟩, h5, h6⟩ := A.pst p c e
        obtain ⟨n1, n2⟩ := hap p c e
        exact ⟨⟨⟨x, y, by rw [upd_ne (Ne.symm n1)]; exact h1, h2⟩, ⟨ns, by rw [upd_ne (Ne.symm n2)]; exact h3.1, h3.2⟩, h4⟩, by rw [upd_ne (Ne.symm n1)]; exact h5, by rw [upd_ne (Ne.symm n2)]; exact h6⟩
      · obtain ⟨v, e1, e2⟩ := A.env j d h
        exact ⟨v, e1, Rep.rdle rl d v e2⟩
    refine ⟨_, hσ, a, od, rfl, .inl ⟨ws, upd_same, ?_⟩⟩
    intro Dd hD
    have hDa : Dd ≠ a := fun z => by
      rw [z, upd_same] at hD
      cases hD
    have hD' : H Dd = none := by
      rw [upd_ne hDa] at hD
      exact hD
    refine lc_ed hr sub A1 (walks_keys upd_same (RepKV.rdle rl _ _ rw')) hq hD fun Hh acc n' L hq' => ⟨L.go.ex _ _ upd_same fun p c e => (hap p c e).1, kq Dd _ acc n' hD' ?_ hq'⟩
    obtain ⟨us, h1, h2⟩ := L.ls
    have hHa : Hh a = some (.frz od (.dK ws)) := L.go.ex _ _ upd_same fun p c e => (hap p c e).1
    refine ⟨⟨fun x o h np => ?_, fun p c e => ?_⟩, us, by rw [upd_ne hDa]; exact h1, Reps.rdle (rdle_unlock (a := a) (od := od) (ws := ws) ?_ ?_ fun x hx => ?_) _ _ h2⟩
    · by_cases hx : x = a
      · subst hx
        rw [hH] at h
        rw [upd_same]
        exact h
      · rw [upd_ne hx]
        exact L.go.ex x o (by rw [upd_ne hx]; exact h) np
    · obtain ⟨⟨x, y, h1, h2⟩, ⟨ns, h3⟩, h4⟩ := L.go.pen p c e
      obtain ⟨n1, n2⟩ := hap p c e
      exact ⟨⟨x, y, by rw [upd_ne (Ne.symm n1)]; exact h1, h2⟩, ⟨ns, by rw [upd_ne (Ne.symm n2)]; exact h3.1, h3.2⟩, h4⟩
    · rw [Fz_ne (Ne.symm hDa)]
      exact ext_some hw
    · rw [Fz_ne (Ne.symm hDa)]
      exact ext_some upd_same
    · by_cases hxD : x = Dd
      · subst hxD
        rw [Fz_D, Fz_D]
      · rw [Fz_ne hxD, Fz_ne hxD]
        unfold ext
        rw [upd_ne hx, upd_ne hx, upd_ne hx]
  · refine .inr ⟨_, hσ, a, od, rfl, .inl ⟨ws, A.sub _ _ hw, ?_⟩⟩
    intro Dd hD
    exact lc_ed hr sub A (walks_keys hw rw') hq hD fun Hh acc n' L hq' => kq Dd Hh acc n' hD L hq'
section
variable {X : Cx} {elt tg iter : Expr} {ifs : List Expr} {scope : Scope} {own : List (Str × Nat)} {pos : Pos} {f : D → DL.Env → Option DL.Env} {tt : TDb} {Te : TD} {g : TG} {ts : List Nat}
theorem ld_lcK (i : Nat) (hc : X.calm = true) (hN : X.N.Nodup) (hv : PE X iter (tVar i)) (ok : BlkOk X.N X.env.scope scope own)
    (hr : TgRun X.K g f ts) (hg : ∀ (s : Shared) (H : Hp) (C : Addr) (cl : List (Str × Addr)) (fp : List Addr), PG (X.blk s H scope (compEnvC scope cl C X.env) fp) tg g) (ht : ∀ (s : Shared) (H : Hp) (C : Addr) (cl : List (Str × Addr)) (fp : List Addr), TsD (X.blk s H scope (compEnvC scope cl C X.env) fp) ifs tt)
    (he : ∀ (s : Shared) (H : Hp) (C : Addr) (cl : List (Str × Addr)) (fp : List Addr), ED (X.blk s H scope (compEnvC scope cl C X.env) fp) elt Te) (sub : ∀ i ∈ ts, i ∈ own.map (·.2) := by decide) (hs : ∀ x, foldedSetIterable iter X.env x = pure x := by intro _; rfl) :
    LD X (.ListComp elt [⟨tg, iter, ifs, 0⟩] scope pos) (tCompL (wKeysV i) f tt Te (own.map (·.2))) := by
  have p := pe_lc (pos := pos) (tt := canB X.K tt) (te := can X.K Te) hc hN (pi_keys (tg := tg) hv) ok hg (fun s H C cl fp => ts_can (ht s H C cl fp)) (fun s H C cl fp => ed_can (he s H C cl fp)) hs
  exact ⟨_, DL.PE.or (pe_lock p) p, lr_keys hr sub⟩
theorem ps_lcSetK {j : Nat} {y : Str} {py spos : Pos} (i : Nat) (hc : X.calm = true) (hN : X.N.Nodup) (hy : X.N[j]? = some y) (hyl : X.env.scope.names.lookup y = some .local)
    (hsw : swapsWith (.ListComp elt [⟨tg, iter, ifs, 0⟩] scope pos) (some (.Name y py)) spos.line X.env = pure true) (hv : PE X iter (tVar i)) (ok : BlkOk X.N X.env.scope scope own)
    (hr : TgRun X.K g f ts) (hg : ∀ (s : Shared) (H : Hp) (C : Addr) (cl : List (Str × Addr)) (fp : List Addr), PG (X.blk s H scope (compEnvC scope cl C X.env) fp) tg g) (ht : ∀ (s : Shared) (H : Hp) (C : Addr) (cl : List (Str × Addr)) (fp : List Addr), TsD (X.blk s H scope (compEnvC scope cl C X.env) fp) ifs tt)
    (he : ∀ (s : Shared) (H : Hp) (C : Addr) (cl : List (Str × Addr)) (fp : List Addr), ED (X.blk s H scope (compEnvC scope cl C X.env) fp) elt Te) (sub : ∀ i ∈ ts, i ∈ own.map (·.2) := by decide) (hs : ∀ x, foldedSetIterable iter X.env x = pure x := by intro _; rfl) :
    ∃ t, PS X (.Assign [.Name y py] (.ListComp elt [⟨tg, iter, ifs, 0⟩] scope pos) spos) (tAsg t (gName j)) ∧ LR X.K t (tCompL (wKeysV i) f tt Te (own.map (·.2))) := by
  have p := ps_setLc (tt := canB X.K tt) (te := can X.K Te) hc hN hy hyl hsw (pi_keys (tg := tg) hv) ok hg (fun s H C cl fp => ts_can (ht s H C cl fp)) (fun s H C cl fp => ed_can (he s H C cl fp)) hs
  exact ⟨_, DL.PS.orAsg (DL.PS.lockAsg p) p, lr_keys hr sub⟩
end
end DL
namespace DL
open PySem PySem.Spec PyProof.Rows L2
theorem hu1 {k : Nat} {A : Around} (hr : Room k A) : A.units + 1 < cLine := by
  have := hr.units
  omega
end DL
set_option maxHeartbeats 4000000
/-! x in a list or tuple of flat things, whatever x is -/
namespace PySem.SeqAt
open AutoSeq1 (wpAny_loadPart')
open MeetsSeq
theorem dict_eq_declines_int (l : Addr) (es : Array DictEntry) (ep : Nat) (dd : Option Addr) (sl : Array (Option Value)) (b : Int) (u : Tok) :
    Meets (Builtin.«dict.__eq__» ⟨[.ref l, .int b u], []⟩) (fun _ R s => s.heap.get? l = some { cls := .type "dict", dict := dd, data := .dict es ep, slots := sl } ∧ R (.ok (.ret .notImplemented)) s) :=
  .of_wp fun prog w A R s h => by obtain ⟨hp, g, d, tk, os⟩ := s; obtain ⟨hl, h⟩ := h; have f1 := F.sub_int_dict; wp_walk using wpAny_loadPart' hl, wpAny_load hl; exact ⟨_, rfl, h⟩
theorem dict_eq_declines_str (l : Addr) (es : Array DictEntry) (ep : Nat) (dd : Option Addr) (sl : Array (Option Value)) (b : Str) (u : Tok) :
    Meets (Builtin.«dict.__eq__» ⟨[.ref l, .str b u], []⟩) (fun _ R s => s.heap.get? l = some { cls := .type "dict", dict := dd, data := .dict es ep, slots := sl } ∧ R (.ok (.ret .notImplemented)) s) :=
  .of_wp fun prog w A R s h => by obtain ⟨hp, g, d, tk, os⟩ := s; obtain ⟨hl, h⟩ := h; have f1 := F.sub_str_dict; wp_walk using wpAny_loadPart' hl, wpAny_load hl; exact ⟨_, rfl, h⟩
theorem int_eq_declines_dict (b : Int) (u : Tok) (l : Addr) (c : Value) (es : Array DictEntry) (ep : Nat) (dd : Option Addr) (sl : Array (Option Value)) :
    Meets (Builtin.«int.__eq__» ⟨[.int b u, .ref l], []⟩) (fun _ R s => s.heap.get? l = some { cls := c, dict := dd, data := .dict es ep, slots := sl } ∧ R (.ok (.ret .notImplemented)) s) :=
  .of_wp fun prog w A R s h => by obtain ⟨hp, g, d, tk, os⟩ := s; obtain ⟨hl, h⟩ := h; wp_walk using wpAny_loadPart' hl, wpAny_load hl; exact ⟨_, rfl, h⟩
theorem str_eq_declines_dict (b : Str) (u : Tok) (l : Addr) (c : Value) (es : Array DictEntry) (ep : Nat) (dd : Option Addr) (sl : Array (Option Value)) :
    Meets (Builtin.«str.__eq__» ⟨[.str b u, .ref l], []⟩) (fun _ R s => s.heap.get? l = some { cls := c, dict := dd, data := .dict es ep, slots := sl } ∧ R (.ok (.ret .notImplemented)) s) :=
  .of_wp fun prog w A R s h => by obtain ⟨hp, g, d, tk, os⟩ := s; obtain ⟨hl, h⟩ := h; wp_walk using wpAny_loadPart' hl, wpAny_load hl; exact ⟨_, rfl, h⟩
section
variable {A : Around} {s : Shared}
theorem EqAt.int_dict {l : Addr} {es : Array DictEntry} {ep : Nat} {dd : Option Addr} {sl : Array (Option Value)} (b : Int) (u : Tok) (ho : s.heap.get? l = some { cls := .type "dict", dict := dd, data := .dict es ep, slots := sl }) (hu : A.units < cLine) : EqAt A s (.int b u) (.ref l) false := fun prog w E Q h => by
  unfold eqBool
  refine wpAny_holding ?_
  refine wpAny_ite_split (fun hab => absurd (eq_of_beq hab) nofun) (fun _ => ?_)
  refine wpAny_bind (rc_eq_decline_or (k := false) (typeIs_int s b u) ⟨_, ho, rfl⟩ (by decide) F.sub_dict_int F.slot_int_eq F.slot_dict_eq_refl
    (fun _ hq => call_meets F.slot_int_eq (typeIs_int s b u) F.entry_int_eq (F.args_int_eq_2 _ _) (int_eq_declines_dict b u l (.type "dict") es ep dd sl) ⟨ho, hq⟩)
    (fun _ hq => call_meets F.slot_dict_eq_refl ⟨_, ho, rfl⟩ F.entry_dict_eq (F.args_dict_eq_2 _ _) (dict_eq_declines_int l es ep dd sl b u) ⟨ho, hq⟩)
    (fun _ hq => wpAny_of_eq (rfl : isSame (.int b u) (.ref l) = pure false) hq) (.inr hu) (wpAny_truthy_bool h))
theorem EqAt.str_dict {l : Addr} {es : Array DictEntry} {ep : Nat} {dd : Option Addr} {sl : Array (Option Value)} (b : Str) (u : Tok) (ho : s.heap.get? l = some { cls := .type "dict", dict := dd, data := .dict es ep, slots := sl }) (hu : A.units < cLine) : EqAt A s (.str b u) (.ref l) false := fun prog w E Q h => by
  unfold eqBool
  refine wpAny_holding ?_
  refine wpAny_ite_split (fun hab => absurd (eq_of_beq hab) nofun) (fun _ => ?_)
  refine wpAny_bind (rc_eq_decline_or (k := false) (typeIs_str s b u) ⟨_, ho, rfl⟩ (by decide) F.sub_dict_str F.slot_str_eq F.slot_dict_eq_refl
    (fun _ hq => call_meets F.slot_str_eq (typeIs_str s b u) F.entry_str_eq (F.args_str_eq_2 _ _) (str_eq_declines_dict b u l (.type "dict") es ep dd sl) ⟨ho, hq⟩)
    (fun _ hq => call_meets F.slot_dict_eq_refl ⟨_, ho, rfl⟩ F.entry_dict_eq (F.args_dict_eq_2 _ _) (dict_eq_declines_str l es ep dd sl b u) ⟨ho, hq⟩)
    (fun _ hq => wpAny_of_eq (rfl : isSame (.str b u) (.ref l) = pure false) hq) (.inr hu) (wpAny_truthy_bool h))
end
end PySem.SeqAt
set_option maxHeartbeats 4000000
namespace DL
open PySem PySem.Spec PyProof.Rows L2
section
variable {X : Cx}
def rInG (K : PySem.W.Frag) (neg : Bool) : R2 := fun x y H Q => ∃ p xs, y = .ref p ∧ (SqL K H p xs ∨ SqT K H p xs) ∧
  ((∃ d es, Dp K H x d ∧ DpAll K H xs es ∧ d.canLay0 = true ∧ PyData.canLayAll0 es = true ∧ d.depth ≤ 60 ∧ Q (.bl (xor neg (es.any fun y => PyData.eqv y d))) H) ∨
   ∃ a, x = .ref a ∧ ((∃ kvs, Rd H a (.dK kvs)) ∨ (∃ zs, SqL K H a zs) ∨ ∃ zs, SqT K H a zs) ∧ (∀ v ∈ xs, (∃ i, v = V.int i) ∨ ∃ t, v = V.str t) ∧ Q (.bl neg) H)
theorem vals_mem {xs : List V} {us : List Value} (r : Vals xs us) : ∀ u ∈ us, ∃ x ∈ xs, RelV x u := by
  induction r with
  | nil => intro u hu; cases hu
  | cons h _ ih =>
    intro u hu
    rcases List.mem_cons.mp hu with rfl | hu
    · exact ⟨_, List.mem_cons_self, h⟩
    · obtain ⟨x, hx, rx⟩ := ih u hu
      exact ⟨x, List.mem_cons_of_mem _ hx, rx⟩
theorem dict_obj {pins : List (Addr × Obj)} {σ : L2.St} {H : Hp} {s : Shared} {a : Addr} {kvs : List (Key × V)} (I : Inv X pins σ H s) (g : Rd H a (.dK kvs)) : ∃ es ep dd sl, s.heap.get? a = some { cls := .type "dict", dict := dd, data := .dict es ep, slots := sl } := by
  obtain ⟨_, _, vs, _, o, es, ep, h1, h2, h3, _⟩ := dk_rd I.hok g
  obtain ⟨cls, dd, data, sl⟩ := o
  obtain ⟨rfl, _⟩ := h2
  subst h3
  exact ⟨es, ep, dd, sl, h1⟩
theorem flat_eqAt {pins : List (Addr × Obj)} {σ : L2.St} {H : Hp} {s : Shared} {a : Addr} (hu : X.A.units + 64 < cLine) (I : Inv X pins σ H s) (g : (∃ kvs, Rd H a (.dK kvs)) ∨ (∃ zs, SqL X.K H a zs) ∨ ∃ zs, SqT X.K H a zs) {xs : List V} {us : List Value} (r : Vals xs us) (hf : ∀ v ∈ xs, (∃ i, v = V.int i) ∨ ∃ t, v = V.str t) : ∀ u ∈ us.toArray, SeqAt.EqAt X.A.in1 s u (.ref a) false := fun u hm => by
  obtain ⟨x, hx, rx⟩ := vals_mem r u (by simpa using hm)
  have hu' : X.A.in1.units < cLine := by show X.A.units + 1 < cLine; omega
  rcases g with ⟨kvs, g⟩ | ⟨zs, g⟩ | ⟨zs, g⟩
  · obtain ⟨es, ep, dd, sl, ho⟩ := dict_obj I g
    rcases hf x hx with ⟨i, rfl⟩ | ⟨t, rfl⟩
    · obtain ⟨tk, rfl⟩ := rx
      exact SeqAt.EqAt.int_dict i tk ho hu'
    · obtain ⟨tk, rfl⟩ := rx
      exact SeqAt.EqAt.str_dict t tk ho hu'
  · obtain ⟨its, _, pl, _⟩ := I.list g
    rcases hf x hx with ⟨i, rfl⟩ | ⟨t, rfl⟩
    · obtain ⟨tk, rfl⟩ := rx
      exact SeqAt.EqAt.int_list i tk pl.isList hu'
    · obtain ⟨tk, rfl⟩ := rx
      exact SeqAt.EqAt.str_list t tk pl.isList hu'
  · obtain ⟨its, _, pl, _⟩ := I.tuple g
    rcases hf x hx with ⟨i, rfl⟩ | ⟨t, rfl⟩
    · obtain ⟨tk, rfl⟩ := rx
      exact SeqAt.EqAt.int_tuple i tk pl hu'
    · obtain ⟨tk, rfl⟩ := rx
      exact SeqAt.EqAt.str_tuple t tk pl hu'
theorem op_inG (hu : X.A.units + 64 < cLine) : OpR X (compareOp .In) (rInG X.K false) := by
  intro pins s σ H x y v u Q I rx ry h
  obtain ⟨p, xs, rfl, hq, h⟩ := h
  cases ry
  rcases h with ⟨d, es, hd, hes, cd, ces, dp, q⟩ | ⟨a, rfl, g, hf, q⟩
  · obtain ⟨as, rd⟩ := Dp.reads I d x v hd rx
    have room : X.A.units + 1 + min (PyData.depthAll es) d.depth < cLine := by
      have := Nat.min_le_right (PyData.depthAll es) d.depth
      omega
    rw [Bool.false_xor] at q
    rcases hq with hq | hq
    · obtain ⟨its, rv, ⟨o, n, ho, hc, _, hdt⟩, _⟩ := I.list hq
      obtain ⟨bs, rs⟩ := Dp.readsAll I es _ its hes rv
      exact SeqAt.in_list_reads (Reads.list ho hc hdt rs) rd ces cd room ⟨.bl _, H, I, rfl, q⟩
    · obtain ⟨its, rv, ⟨o, ho, hc, n, hdt⟩, _⟩ := I.tuple hq
      obtain ⟨bs, rs⟩ := Dp.readsAll I es _ its hes rv
      exact SeqAt.in_tuple_reads (Reads.tuple ho hc hdt rs) rd ces cd room ⟨.bl _, H, I, rfl, q⟩
  · cases rx
    rcases hq with hq | hq
    · obtain ⟨its, r, pl, hz⟩ := I.list hq
      refine SeqAt.in_listAt (fun _ => false) pl.isList (flat_eqAt hu I g r hf) ⟨.bl _, H, I, rfl, ?_⟩
      have : its.toArray.any (fun _ => false) = false := by simp
      rw [this]
      exact q
    · obtain ⟨its, r, pl, hz⟩ := I.tuple hq
      refine SeqAt.in_tupleAt (fun _ => false) pl (flat_eqAt hu I g r hf) ⟨.bl _, H, I, rfl, ?_⟩
      have : its.toArray.any (fun _ => false) = false := by simp
      rw [this]
      exact q
theorem op_notInG (hu : X.A.units + 64 < cLine) : OpR X (compareOp .NotIn) (rInG X.K true) := by
  intro pins s σ H x y v u Q I rx ry h
  obtain ⟨p, xs, rfl, hq, h⟩ := h
  cases ry
  rcases h with ⟨d, es, hd, hes, cd, ces, dp, q⟩ | ⟨a, rfl, g, hf, q⟩
  · obtain ⟨as, rd⟩ := Dp.reads I d x v hd rx
    have room : X.A.units + 1 + min (PyData.depthAll es) d.depth < cLine := by
      have := Nat.min_le_right (PyData.depthAll es) d.depth
      omega
    rw [Bool.true_xor] at q
    rcases hq with hq | hq
    · obtain ⟨its, rv, ⟨o, n, ho, hc, _, hdt⟩, _⟩ := I.list hq
      obtain ⟨bs, rs⟩ := Dp.readsAll I es _ its hes rv
      exact SeqAt.notIn_list_reads (Reads.list ho hc hdt rs) rd ces cd room ⟨.bl _, H, I, rfl, q⟩
    · obtain ⟨its, rv, ⟨o, ho, hc, n, hdt⟩, _⟩ := I.tuple hq
      obtain ⟨bs, rs⟩ := Dp.readsAll I es _ its hes rv
      exact SeqAt.notIn_tuple_reads (Reads.tuple ho hc hdt rs) rd ces cd room ⟨.bl _, H, I, rfl, q⟩
  · cases rx
    rcases hq with hq | hq
    · obtain ⟨its, r, pl, hz⟩ := I.list hq
      refine SeqAt.notIn_listAt (fun _ => false) pl.isList (flat_eqAt hu I g r hf) ⟨.bl _, H, I, rfl, ?_⟩
      have : its.toArray.any (fun _ => false) = false := by simp
      rw [this]
      exact q
    · obtain ⟨its, r, pl, hz⟩ := I.tuple hq
      refine SeqAt.notIn_tupleAt (fun _ => false) pl (flat_eqAt hu I g r hf) ⟨.bl _, H, I, rfl, ?_⟩
      have : its.toArray.any (fun _ => false) = false := by simp
      rw [this]
      exact q
/-- a tuple, a list, a dict -/
def isObj : D → Bool
  | .tup _ | .lst _ | .dct _ => true
  | _ => false
def isIS : D → Bool
  | .int _ | .str _ => true
  | _ => false
def ok60 (d : D) : Bool := (toPy d).canLay0 && decide ((toPy d).depth ≤ 60)
def inGs (neg : Bool) (x : D) (ds : List D) : Option D :=
  if isObj x && ds.all isIS then some (.bl neg)
  else if ok60 x && PyData.canLayAll0 (toPys ds) then some (.bl (xor neg ((toPys ds).any fun y => PyData.eqv y (toPy x)))) else none
def inGD (neg : Bool) : D → D → Option D
  | x, .lst ds => inGs neg x ds
  | x, .tup ds => inGs neg x ds
  | _, _ => none
theorem inGs_rep {neg : Bool} {G H : Hp} {pn : Pn} {x y : V} {d z : D} {p : Addr} {vs : List V} {ds : List D} (s : Sub G H) (r1 : Rep X.K pn G x d) (hy : y = .ref p) (hq : SqL X.K H p vs ∨ SqT X.K H p vs) (r2 : Reps X.K pn G vs ds) (hz : inGs neg d ds = some z) : ∃ v, Rep X.K pn G v z ∧ ∀ Q : VK, Q v H → rInG X.K neg x y H Q := by
  unfold inGs at hz
  split at hz
  · rename_i c
    cases hz
    simp only [Bool.and_eq_true] at c
    obtain ⟨c1, c2⟩ := c
    have fl : ∀ v ∈ vs, (∃ i, v = V.int i) ∨ ∃ t, v = V.str t := fun v hv => by
      obtain ⟨i, hi⟩ := List.mem_iff_getElem?.mp hv
      obtain ⟨e, he, re⟩ := Reps.get' r2 hi
      rw [List.all_eq_true] at c2
      have := c2 e (List.mem_of_getElem? he)
      cases e <;> simp only [isIS, reduceCtorEq] at this
      · exact .inl ⟨_, re⟩
      · exact .inr ⟨_, re⟩
    cases d <;> simp only [isObj, reduceCtorEq] at c1
    · obtain ⟨a, zs, rfl, h1, _⟩ := r1
      exact ⟨.bl _, rfl, fun Q q => ⟨p, vs, hy, hq, .inr ⟨a, rfl, .inr (.inr ⟨zs, s.sqT h1⟩), fl, q⟩⟩⟩
    · obtain ⟨a, zs, rfl, h1, _⟩ := r1
      exact ⟨.bl _, rfl, fun Q q => ⟨p, vs, hy, hq, .inr ⟨a, rfl, .inr (.inl ⟨zs, SqL.of (s _ _ h1)⟩), fl, q⟩⟩⟩
    · obtain ⟨a, ws, rfl, hw, _⟩ := r1
      exact ⟨.bl _, rfl, fun Q q => ⟨p, vs, hy, hq, .inr ⟨a, rfl, .inl ⟨ws, s.rd hw⟩, fl, q⟩⟩⟩
  · split at hz
    · rename_i c
      cases hz
      simp only [Bool.and_eq_true] at c
      obtain ⟨c1, c2⟩ := c
      unfold ok60 at c1
      simp only [Bool.and_eq_true, decide_eq_true_eq] at c1
      exact ⟨.bl _, rfl, fun Q q => ⟨p, vs, hy, hq, .inl ⟨toPy d, toPys ds, Dp.sub s _ _ (Rep.dp d x c1.1 r1), DpAll.sub s _ _ (Reps.dp ds vs c2 r2), c1.1, c2, c1.2, q⟩⟩⟩
    · cases hz
theorem o2_inG {neg : Bool} : Op2 X (rInG X.K neg) (inGD neg) := .val fun G H pn x y d e z s r1 r2 hz => by
  cases e <;> simp only [inGD, reduceCtorEq] at hz
  · obtain ⟨a, vs, rfl, h1, h2⟩ := r2
    exact inGs_rep s r1 rfl (.inr (s.sqT h1)) h2 hz
  · obtain ⟨a, vs, rfl, h1, h2⟩ := r2
    exact inGs_rep s r1 rfl (.inl (SqL.of (s _ _ h1))) h2 hz
def inAD (neg : Bool) : D → D → Option D := orD (inD neg) (inGD neg)
end
end DL
set_option maxHeartbeats 4000000
/-! a list of lists of one's own -/
namespace DL
open PySem PySem.Spec PyProof.Rows L2
/-- R: the list, bs: the lists within, dss: what they hold -/
structure NestH (K : PySem.W.Frag) (pn : Pn) (G H : Hp) (R : Addr) (bs : List Addr) (dss : List (List D)) : Prop where
  out : H R = some (.lst (bs.map .ref))
  len : bs.length = dss.length
  ins : ∀ (j : Nat) (b : Addr), bs[j]? = some b → ∃ ws ds, H b = some (.lst ws) ∧ dss[j]? = some ds ∧ Reps K pn G ws ds
  nd : (R :: bs).Nodup
  noG : ∀ a ∈ R :: bs, G a = none
def nestD (dss : List (List D)) : D := .lst (dss.map .lst)
def reb (H0 H : Hp) (L : List Addr) : Hp := fun a => if a ∈ L then H a else H0 a
structure SatN (C : Cn) (K : PySem.W.Frag) (pn : Pn) (F : Addr → Prop) (G0 H0 G H : Hp) (σ : L2.St) (ρ : DL.Env) (O : List Nat) (n : Nat) (r : Nat) (R : Addr) (bs : List Addr) : Prop where
  S : Sat C K pn F G0 H0 G H σ (ρ.set r none) O n
  N : ∃ dss, NestH K pn G H R bs dss ∧ ρ[r]? = some (some (nestD dss))
  slot : σ[r]? = some (some (.ref R))
  noH : ∀ a ∈ R :: bs, H0 a = none
  dj : ∀ i ∈ O, ∀ a, σ[i]? = some (some (.ref a)) → a ∉ R :: bs
  ro : r ∉ O
section
variable {C : Cn} {K : PySem.W.Frag} {pn : Pn} {F : Addr → Prop} {G0 H0 G H : Hp} {σ : L2.St} {ρ : DL.Env} {O : List Nat} {n r : Nat} {R : Addr} {bs : List Addr} {dss : List (List D)}
theorem NestH.alive (h : NestH K pn G H R bs dss) : ∀ a ∈ R :: bs, ∃ vs, H a = some (.lst vs) := fun a ha => by
  rcases List.mem_cons.mp ha with rfl | ha
  · exact ⟨_, h.out⟩
  · obtain ⟨j, hj, rfl⟩ := List.getElem_of_mem ha
    obtain ⟨ws, ds, e, _⟩ := h.ins j _ (List.getElem?_eq_getElem hj)
    exact ⟨ws, e⟩
theorem NestH.keep (h : NestH K pn G H R bs dss) {G' H' : Hp} (s : Sub G G') (e : ∀ a ∈ R :: bs, H' a = H a) (no : ∀ a ∈ R :: bs, G' a = none) : NestH K pn G' H' R bs dss :=
  ⟨(e R List.mem_cons_self).trans h.out, h.len, fun j b hb => by
    obtain ⟨ws, ds, e1, e2, e3⟩ := h.ins j b hb
    exact ⟨ws, ds, (e b (List.mem_cons_of_mem _ (List.mem_of_getElem? hb))).trans e1, e2, Reps.mono s _ _ e3⟩, h.nd, no⟩
/-- seen as frozen -/
theorem NestH.rep (h : NestH K pn G H R bs dss) {G' : Hp} (s : Sub G G') (e : ∀ a ∈ R :: bs, G' a = H a) : Rep K pn G' (.ref R) (nestD dss) := by
  refine ⟨R, bs.map .ref, rfl, (e R List.mem_cons_self).trans h.out, reps_of_get (by simp [h.len]) fun i d v hd hv => ?_⟩
  rw [List.getElem?_map] at hd hv
  cases hb : bs[i]? with
  | none => rw [hb] at hv; cases hv
  | some b =>
    rw [hb] at hv
    cases hv
    obtain ⟨ws, ds, e1, e2, e3⟩ := h.ins i b hb
    rw [e2] at hd
    cases hd
    exact ⟨b, ws, rfl, (e b (List.mem_cons_of_mem _ (List.mem_of_getElem? hb))).trans e1, Reps.mono s _ _ e3⟩
theorem SatN.pne (S : SatN C K pn F G0 H0 G H σ ρ O n r R bs) : ∀ a ∈ R :: bs, ∀ p c, pn = some (p, c) → a ≠ p ∧ a ≠ c := fun a ha p c e => by
  obtain ⟨⟨o, h1⟩, ⟨o', h2⟩⟩ := S.S.p0 p c e
  refine ⟨fun z => ?_, fun z => ?_⟩
  · rw [← z, S.noH a ha] at h1; cases h1
  · rw [← z, S.noH a ha] at h2; cases h2
theorem SatN.nF (S : SatN C K pn F G0 H0 G H σ ρ O n r R bs) : ∀ a ∈ R :: bs, ¬ F a := fun a ha hF => by
  obtain ⟨⟨o, h1⟩, _⟩ := S.S.fp a hF
  rw [S.noH a ha] at h1
  cases h1
/-- the same with the list of lists taken for the caller's -/
theorem SatN.reb (S : SatN C K pn F G0 H0 G H σ ρ O n r R bs) : Sat C K pn F G0 (reb H0 H (R :: bs)) G H σ (ρ.set r none) O n := by
  obtain ⟨dss, N, _⟩ := S.N
  have nin : ∀ {a : Addr} {o : HO}, H0 a = some o → a ∉ R :: bs := fun {a o} h z => by rw [S.noH a z] at h; cases h
  have re : ∀ {a : Addr}, a ∉ R :: bs → DL.reb H0 H (R :: bs) a = H0 a := fun {a} h => if_neg h
  obtain ⟨A, own, inj⟩ := S.S.own
  refine ⟨S.S.sub, S.S.g0, fun a o h => ?_, fun a o h nf np => ?_, S.S.pst, fun p c e => ?_, fun a ha => ?_, ⟨A, fun i hi => ⟨(own i hi).ex, (own i hi).noG, ?_⟩, inj⟩, S.S.env, S.S.len⟩
  · rcases S.S.fr a o h with q | q
    · exact .inl q
    · refine .inr ((re fun z => ?_).trans q)
      rw [N.noG a z] at h
      cases h
  · by_cases ha : a ∈ R :: bs
    · have e : DL.reb H0 H (R :: bs) a = H a := if_pos ha
      exact e.symm.trans h
    · exact S.S.ex a o ((re ha).symm.trans h) nf np
  · obtain ⟨⟨o, h1⟩, ⟨o', h2⟩⟩ := S.S.p0 p c e
    exact ⟨⟨o, (re (nin h1)).trans h1⟩, ⟨o', (re (nin h2)).trans h2⟩⟩
  · obtain ⟨⟨o, h1⟩, h2⟩ := S.S.fp a ha
    exact ⟨⟨o, (re (nin h1)).trans h1⟩, h2⟩
  · rcases (own i hi).noH with q | q
    · obtain ⟨d, o, _, e2, _⟩ := (own i hi).ex
      exact .inl ((re (S.dj i hi _ e2)).trans q)
    · exact .inr q
theorem SatN.back (S : SatN C K pn F G0 H0 G H σ ρ O n r R bs) {G' H' : Hp} {σ' : L2.St} {ρ' : DL.Env} {O' : List Nat} {n' : Nat} (S' : Sat C K pn F G0 (DL.reb H0 H (R :: bs)) G' H' σ' (ρ'.set r none) O' n') (s : Sub G G') (h1 : σ'[r]? = σ[r]?) (h2 : ρ'[r]? = ρ[r]?) (h3 : r ∉ O') :
    SatN C K pn F G0 H0 G' H' σ' ρ' O' n' r R bs := by
  obtain ⟨dss, N, hd⟩ := S.N
  have al := N.alive
  have reN : ∀ {a : Addr}, a ∈ R :: bs → DL.reb H0 H (R :: bs) a = H a := fun {a} h => if_pos h
  have re : ∀ {a : Addr}, a ∉ R :: bs → DL.reb H0 H (R :: bs) a = H0 a := fun {a} h => if_neg h
  have nin : ∀ {a : Addr} {o : HO}, H0 a = some o → a ∉ R :: bs := fun {a o} h z => by rw [S.noH a z] at h; cases h
  have nout : ∀ {a : Addr}, DL.reb H0 H (R :: bs) a = none → a ∉ R :: bs := fun {a} h z => by
    obtain ⟨vs, e⟩ := al a z
    rw [reN z, e] at h
    cases h
  obtain ⟨A, own, inj⟩ := S'.own
  have oN : ∀ i ∈ O', A i ∉ R :: bs := fun i hi => by
    rcases (own i hi).noH with q | ⟨q, _⟩
    · exact nout q
    · exact fun z => S.nF _ z q
  refine ⟨⟨S'.sub, S'.g0, fun a o h => ?_, fun a o h nf np => S'.ex a o ((re (nin h)).trans h) nf np, S'.pst, S.S.p0, fun a ha => ⟨(S.S.fp a ha).1, (S'.fp a ha).2⟩, ⟨A, fun i hi => ⟨(own i hi).ex, (own i hi).noG, ?_⟩, inj⟩, S'.env, S'.len⟩, ⟨dss, N.keep s (fun a ha => ?_) fun a ha => ?_, h2.trans hd⟩, h1.trans S.slot, S.noH, fun i hi a e => ?_, h3⟩
  · rcases S'.fr a o h with q | q
    · exact .inl q
    · exact .inr ((re (nout q)).symm.trans q)
  · rcases (own i hi).noH with q | q
    · exact .inl ((re (oN i hi)).symm.trans q)
    · exact .inr q
  · obtain ⟨vs, e⟩ := al a ha
    rw [e]
    exact S'.ex a _ ((reN ha).trans e) (S.nF a ha) fun p c z => (S.pne a ha p c z).1
  · cases z : G' a with
    | none => rfl
    | some u =>
      rcases S'.fr a u z with q | q
      · have q2 := S.S.g0 _ _ q
        rw [N.noG a ha] at q2
        cases q2
      · exact absurd ha (nout q)
  · obtain ⟨d, o, _, e2, _⟩ := (own i hi).ex
    rw [e] at e2
    have : a = A i := by injection e2 with e2; injection e2 with e2; injection e2
    rw [this]
    exact oN i hi
theorem set_get_ne {i j : Nat} {x : Option D} (h : i ≠ j) : (ρ.set j x)[i]? = ρ[i]? := List.getElem?_set_ne (Ne.symm h)
theorem SatN.len (S : SatN C K pn F G0 H0 G H σ ρ O n r R bs) : σ.length = ρ.length := by
  have := S.S.len
  simpa using this
theorem SatN.rl (S : SatN C K pn F G0 H0 G H σ ρ O n r R bs) : r < ρ.length := by
  obtain ⟨dss, _, h⟩ := S.N
  exact (List.getElem?_eq_some_iff.mp h).1
/-- an expression whose value has no list, read off all -/
theorem SatN.stepP (S : SatN C K pn F G0 H0 G H σ ρ O n r R bs) : ∃ Ge : Hp, Sub G Ge ∧ At K pn Ge H σ ρ n ∧ (∀ a ∈ R :: bs, Ge a = H a) ∧ ∀ (H' : Hp) (n' : Nat), Go pn Ge H H' n' →
    ∃ Gf : Hp, Sub G Gf ∧ Sub Gf H ∧ (∀ G', Sub Gf G' → Sub G' (ext Gf H H') → SatN C K pn F G0 H0 G' H' σ ρ O n' r R bs) ∧ TupLe (ext Ge H H') (ext Gf H H') ∧ (∀ a, H a = none → TupLe (Fz Ge H a H') (Fz Gf H a H')) := by
  obtain ⟨dss, N, hd⟩ := S.N
  obtain ⟨Ge0, s1, A, st⟩ := S.reb.stepP
  let Ge : Hp := fun a => if a ∈ R :: bs then H a else Ge0 a
  have gN : ∀ {a : Addr}, a ∈ R :: bs → Ge a = H a := fun {a} h => if_pos h
  have gO : ∀ {a : Addr}, a ∉ R :: bs → Ge a = Ge0 a := fun {a} h => if_neg h
  have s2 : Sub Ge0 Ge := fun a o h => by
    by_cases ha : a ∈ R :: bs
    · rw [gN ha]; exact A.sub _ _ h
    · rw [gO ha]; exact h
  refine ⟨Ge, s1.trans s2, ⟨fun a o h => ?_, fun p c e => ⟨(A.pst p c e).1, ?_, ?_⟩, fun i d h => ?_, S.len⟩, fun a ha => gN ha, fun H' n' g => ?_⟩
  · by_cases ha : a ∈ R :: bs
    · rw [gN ha] at h; exact h
    · rw [gO ha] at h; exact A.sub _ _ h
  · rw [gO fun z => (S.pne p z p c e).1 rfl]; exact (A.pst p c e).2.1
  · rw [gO fun z => (S.pne c z p c e).2 rfl]; exact (A.pst p c e).2.2
  · by_cases hi : i = r
    · subst hi
      rw [hd] at h
      cases h
      exact ⟨_, S.slot, N.rep (s1.trans s2) fun a ha => gN ha⟩
    · obtain ⟨v, e1, e2⟩ := A.env i d (by rw [set_get_ne hi]; exact h)
      exact ⟨v, e1, Rep.mono s2 _ _ e2⟩
  · obtain ⟨Gf, s3, sf, mk, tl, tf⟩ := st H' n' ⟨g.ex, g.pen⟩
    have al := N.alive
    have up : ∀ (a : Addr) (u : HO), (∀ vs, u ≠ .lst vs) → ext Ge H H' a = some u → ext Ge0 H H' a = some u := fun a u hu h => by
      by_cases ha : a ∈ R :: bs
      · obtain ⟨vs, e⟩ := al a ha
        rw [ext_some ((gN ha).trans e)] at h
        cases h
        exact absurd rfl (hu vs)
      · unfold ext at h ⊢
        rw [gO ha] at h
        exact h
    refine ⟨Gf, s3, sf, fun G' h1 h2 => S.back (mk G' h1 h2) (s3.trans h1) rfl rfl S.ro, fun a xs h => tl a xs ?_, fun b hb a xs h => tf b hb a xs ?_⟩
    · rcases h with h | ⟨o, h⟩
      · exact .inl (up _ _ (fun vs z => nomatch z) h)
      · exact .inr ⟨o, up _ _ (fun vs z => nomatch z) h⟩
    · have nb : ∀ {u}, Fz Ge H b H' a = some u → a ≠ b := fun {u} h z => by
        subst z
        rw [Fz_D] at h
        cases h
      rcases h with h | ⟨o, h⟩
      · have := nb h
        rw [Fz_ne this] at h
        exact .inl (by rw [Fz_ne this]; exact up _ _ (fun vs z => nomatch z) h)
      · have := nb h
        rw [Fz_ne this] at h
        exact .inr ⟨o, by rw [Fz_ne this]; exact up _ _ (fun vs z => nomatch z) h⟩
theorem SatN.weak (S : SatN C K pn F G0 H0 G H σ ρ O n r R bs) (O'' : List Nat) (hO : ∀ i ∈ O'', i ∈ O) (hio : ∀ i ∈ O, i ∈ C.io → i ∈ O'') : ∃ G', Sub G G' ∧ SatN C K pn F G0 H0 G' H σ ρ O'' n r R bs := by
  obtain ⟨G', s, S'⟩ := S.reb.weak O'' hO hio
  exact ⟨G', s, S.back S' s rfl rfl fun z => S.ro (hO r z)⟩
theorem SatN.env (S : SatN C K pn F G0 H0 G H σ ρ O n r R bs) : EnvOk K pn G (r :: O) σ ρ := fun i d hi hd => by
  have h1 : i ≠ r := fun z => hi (by simp [z])
  exact S.S.env i d (fun z => hi (List.mem_cons_of_mem _ z)) (by rw [set_get_ne h1]; exact hd)
theorem SatN.set (S : SatN C K pn F G0 H0 G H σ ρ O n r R bs) {σ' : L2.St} {ρ' : DL.Env} {ts : List Nat} (env : EnvOk K pn G ((r :: O).filter (· ∉ ts)) σ' ρ') (l1 : σ'.length = σ.length) (l2 : ρ'.length = ρ.length) (same : ∀ i, i ∉ ts → σ'[i]? = σ[i]? ∧ ρ'[i]? = ρ[i]?) (hr : r ∉ ts) :
    SatN C K pn F G0 H0 G H σ' ρ' (O.filter (· ∉ ts)) n r R bs := by
  obtain ⟨dss, N, hd⟩ := S.N
  have rl : r < ρ.length := S.rl
  refine S.back (S.reb.set (σ' := σ') (ρ' := ρ'.set r none) (ts := ts) (fun i d hi hd => ?_) l1 (by simp [l2]) fun i hi => ⟨(same i hi).1, ?_⟩) (Sub.refl _) (same r hr).1 (same r hr).2 fun z => S.ro (List.mem_filter.mp z).1
  · by_cases h : i = r
    · subst h
      rw [List.getElem?_set_self (by rw [l2]; exact rl)] at hd
      cases hd
    · rw [set_get_ne h] at hd
      refine env i d (fun z => hi ?_) hd
      obtain ⟨z1, z2⟩ := List.mem_filter.mp z
      rcases List.mem_cons.mp z1 with z1 | z1
      · exact absurd z1 h
      · exact List.mem_filter.mpr ⟨z1, z2⟩
  · by_cases h : i = r
    · subst h
      rw [List.getElem?_set_self (by rw [l2]; exact rl), List.getElem?_set_self rl]
    · rw [set_get_ne h, set_get_ne h]
      exact (same i hi).2
theorem set_comm' {i : Nat} {x y : Option D} (h : i ≠ r) : (ρ.set i x).set r y = (ρ.set r y).set i x := (List.set_comm x y h)
theorem SatN.setOwn (S : SatN C K pn F G0 H0 G H σ ρ O n r R bs) {a : Addr} {o : HO} {d : D} (i : Nat) (ha : H a = some o) (hG : G a = none) (h0 : H0 a = none) (hL : a ∉ R :: bs) (hr : OwnO (decide (i ∈ C.dk)) K pn G o d) (hn : ∀ j ∈ O, ∀ b, σ[j]? = some (some (.ref b)) → b ≠ a) (hi : i < ρ.length) (hir : i ≠ r) :
    SatN C K pn F G0 H0 G H (σ.set i (some (.ref a))) (ρ.set i (some d)) (i :: O.filter (· ∉ [i])) n r R bs := by
  have S' := S.reb.setOwn i ha hG (show DL.reb H0 H (R :: bs) a = none from (if_neg hL).trans h0) hr (fun j hj b hb => by
    obtain ⟨_, _, _, e2, _⟩ := hb.ex
    exact hn j hj b e2) (by simpa using hi)
  refine S.back (by rw [set_comm' hir]; exact S') (Sub.refl _) (List.getElem?_set_ne hir) (List.getElem?_set_ne hir) fun z => ?_
  rcases List.mem_cons.mp z with z | z
  · exact hir z.symm
  · exact S.ro (List.mem_filter.mp z).1
theorem SatN.mut (S : SatN C K pn F G0 H0 G H σ ρ O n r R bs) {i : Nat} (hi : i ∈ O) {d : D} {a : Addr} {o o' : HO} (hs : σ[i]? = some (some (.ref a))) (ho : H a = some o) (hr : OwnO (decide (i ∈ C.dk)) K pn G o' d) :
    SatN C K pn F G0 H0 G (upd H a o') σ (ρ.set i (some d)) O n r R bs := by
  have hir : i ≠ r := fun z => S.ro (z ▸ hi)
  obtain ⟨A, own, _⟩ := S.reb.own
  obtain ⟨⟨d0, o0, e0, e1, e2⟩, e3, e4⟩ := own i hi
  have hA : A i = a := by
    rw [hs] at e1
    injection e1 with e1; injection e1 with e1; injection e1 with e1; exact e1.symm
  rw [hA] at e3 e4
  have hl : i < (ρ.set r none).length := (List.getElem?_eq_some_iff.mp e0).1
  have S' := S.reb.mut hi hs ho e3 e4 hr hl
  exact S.back (by rw [set_comm' hir]; exact S') (Sub.refl _) rfl (List.getElem?_set_ne hir) S.ro
/-- one of the lists within grows -/
theorem SatN.app (S : SatN C K pn F G0 H0 G H σ ρ O n r R bs) {j : Nat} {b : Addr} {ws : List V} {ds : List D} {v : V} {d : D} (hN : NestH K pn G H R bs dss) (hρ : ρ[r]? = some (some (nestD dss))) (hb : bs[j]? = some b) (hw : H b = some (.lst ws)) (hd : dss[j]? = some ds) (rv : Rep K pn G v d) :
    SatN C K pn F G0 H0 G (upd H b (.lst (ws ++ [v]))) σ (ρ.set r (some (nestD (dss.set j (ds ++ [d]))))) O n r R bs := by
  have bm : b ∈ R :: bs := List.mem_cons_of_mem _ (List.mem_of_getElem? hb)
  have bR : b ≠ R := fun z => (List.nodup_cons.mp hN.nd).1 (z ▸ List.mem_of_getElem? hb)
  obtain ⟨A, own, inj⟩ := S.S.own
  have rs : Reps K pn G ws ds := by
    obtain ⟨ws', ds', e1, e2, e3⟩ := hN.ins j b hb
    rw [hw] at e1
    rw [hd] at e2
    cases e1
    cases e2
    exact e3
  have ne : ∀ a o, G a = some o → a ≠ b := fun a o h z => by
    rw [z, hN.noG b bm] at h
    cases h
  have e0 : (ρ.set r (some (nestD (dss.set j (ds ++ [d]))))).set r none = ρ.set r none := List.set_set ..
  have pb := S.pne b bm
  refine ⟨?_, ⟨dss.set j (ds ++ [d]), ⟨?_, by simp [hN.len], fun k c hc => ?_, hN.nd, hN.noG⟩, List.getElem?_set_self S.rl⟩, S.slot, S.noH, S.dj, S.ro⟩
  · rw [e0]
    refine ⟨fun a o h => by rw [upd_ne (ne a o h)]; exact S.S.sub a o h, S.S.g0, S.S.fr, fun a o h nf np => ?_, fun p c e => ?_, S.S.p0, fun a ha => ⟨(S.S.fp a ha).1, ?_, (S.S.fp a ha).2.2⟩, ⟨A, fun i hi => ?_, inj⟩, S.S.env, S.S.len⟩
    · have : a ≠ b := fun z => by rw [z, S.noH b bm] at h; cases h
      rw [upd_ne this]
      exact S.S.ex a o h nf np
    · obtain ⟨⟨⟨x, y, h1, h2⟩, ⟨ns, h3⟩, h4⟩, h5⟩ := S.S.pst p c e
      exact ⟨⟨⟨x, y, by rw [upd_ne (Ne.symm (pb p c e).1)]; exact h1, h2⟩, ⟨ns, by rw [upd_ne (Ne.symm (pb p c e).2)]; exact h3.1, h3.2⟩, h4⟩, h5⟩
    · by_cases hab : a = b
      · exact ⟨_, by rw [hab]; exact upd_same⟩
      · obtain ⟨u, e⟩ := (S.S.fp a ha).2.1
        exact ⟨u, by rw [upd_ne hab]; exact e⟩
    · obtain ⟨⟨d', o, e1, e2, e3, e4⟩, e5, e6⟩ := own i hi
      have : A i ≠ b := fun z => S.dj i hi _ e2 (z ▸ bm)
      exact ⟨⟨d', o, e1, e2, by rw [upd_ne this]; exact e3, e4⟩, e5, e6⟩
  · rw [upd_ne (Ne.symm bR)]
    exact hN.out
  · by_cases hkj : k = j
    · subst hkj
      rw [hb] at hc
      cases hc
      have hl : k < dss.length := (List.getElem?_eq_some_iff.mp hd).1
      exact ⟨_, _, upd_same, List.getElem?_set_self hl, Reps.append rs ⟨v, [], rfl, rv, rfl⟩⟩
    · obtain ⟨ws', ds', e1, e2, e3⟩ := hN.ins k c hc
      have hcb : c ≠ b := by
        intro z
        have nd := List.pairwise_iff_getElem.mp (List.nodup_cons.mp hN.nd).2
        obtain ⟨k1, k2⟩ := List.getElem?_eq_some_iff.mp hc
        obtain ⟨j1, j2⟩ := List.getElem?_eq_some_iff.mp hb
        rcases Nat.lt_or_gt_of_ne hkj with h | h
        · exact nd k j k1 j1 h (k2.trans (z.trans j2.symm))
        · exact nd j k j1 k1 h (j2.trans (z.symm.trans k2.symm))
      exact ⟨ws', ds', by rw [upd_ne hcb]; exact e1, by rw [List.getElem?_set_ne (Ne.symm hkj)]; exact e2, e3⟩
end
end DL
set_option maxHeartbeats 4000000
/-! statements where a list of lists of one's own stands in a slot -/
namespace DL
open PySem PySem.Spec PyProof.Rows L2
structure EndsN (C : Cn) (K : PySem.W.Frag) (pn : Pn) (F : Addr → Prop) (G0 H0 G : Hp) (Ol O' : List Nat) (r : Nat) (R : Addr) (bs : List Addr) (Dd : DE) (E : Ends) : Prop where
  nx : ∀ σ H G' ρ n, Sub G G' → SatN C K pn F G0 H0 G' H σ ρ O' n r R bs → Dd.nx ρ n → E.nx σ H
  rt : ∀ v H G' σ ρ d n, Sub G G' → Sat C K pn F G0 H0 G' H σ ρ C.io n → Rep K pn G' v d → Dd.rt (ioD C.io ρ d) n → E.rt v H
  bk : ∀ σ H G' ρ n, Sub G G' → SatN C K pn F G0 H0 G' H σ ρ Ol n r R bs → Dd.bk ρ n → E.bk σ H
  ct : ∀ σ H G' ρ n, Sub G G' → SatN C K pn F G0 H0 G' H σ ρ Ol n r R bs → Dd.ct ρ n → E.ct σ H
def RunN (C : Cn) (K : PySem.W.Frag) (t : TS) (r : Nat) (Ol O O' : List Nat) (T : TDS) : Prop := ∀ (σ : L2.St) (H G G0 H0 : Hp) (pn : Pn) (F : Addr → Prop) (n : Nat) (ρ : DL.Env) (Dd : DE) (R : Addr) (bs : List Addr), SatN C K pn F G0 H0 G H σ ρ O n r R bs → T Dd ρ n → ∀ E : Ends, EndsN C K pn F G0 H0 G Ol O' r R bs Dd E → t E σ H
def N1 (C : Cn) (X : Cx) (r : Nat) (Ol O : List Nat) (st : Stmt) (O' : List Nat) (T : TDS) : Prop := ∃ t, PS X st t ∧ RunN C X.K t r Ol O O' T
def SN (C : Cn) (X : Cx) (r : Nat) (Ol O : List Nat) (st : List Stmt) (O' : List Nat) (T : TDS) : Prop := ∃ t, PSs X st t ∧ RunN C X.K t r Ol O O' T
theorem EndsN.mono {C : Cn} {K : PySem.W.Frag} {pn : Pn} {F : Addr → Prop} {G0 H0 G G' : Hp} {Ol O' : List Nat} {r : Nat} {R : Addr} {bs : List Addr} {Dd : DE} {E : Ends} (s : Sub G G') (k : EndsN C K pn F G0 H0 G Ol O' r R bs Dd E) : EndsN C K pn F G0 H0 G' Ol O' r R bs Dd E :=
  ⟨fun σ2 H2 G2 ρ2 n2 s2 => k.nx σ2 H2 G2 ρ2 n2 (s.trans s2), fun v H2 G2 σ2 ρ2 d n2 s2 => k.rt v H2 G2 σ2 ρ2 d n2 (s.trans s2), fun σ2 H2 G2 ρ2 n2 s2 => k.bk σ2 H2 G2 ρ2 n2 (s.trans s2), fun σ2 H2 G2 ρ2 n2 s2 => k.ct σ2 H2 G2 ρ2 n2 (s.trans s2)⟩
section
variable {C : Cn} {X : Cx} {r : Nat} {Ol O O' O'' : List Nat}
theorem n_nil : SN C X r Ol O [] O sNil := ⟨_, pss_nil, fun σ H G G0 H0 pn F n ρ Dd R bs S hT E k => k.nx σ H G ρ n (Sub.refl _) S hT⟩
theorem run_seqN {K : PySem.W.Frag} {t u : TS} {O1 : List Nat} {T U : TDS} (k1 : RunN C K t r Ol O O1 T) (k2 : RunN C K u r Ol O1 O' U) : RunN C K (tSeq t u) r Ol O O' (sSeq T U) := fun σ H G G0 H0 pn F n ρ Dd R bs S hT E k =>
  k1 σ H G G0 H0 pn F n ρ _ R bs S hT _ ⟨fun σ1 H1 G1 ρ1 n1 s S1 h1 => k2 σ1 H1 G1 G0 H0 pn F n1 ρ1 Dd R bs S1 h1 E (k.mono s), k.rt, k.bk, k.ct⟩
theorem n_cons {st : Stmt} {rest : List Stmt} {O1 : List Nat} {T U : TDS} (h1 : N1 C X r Ol O st O1 T) (h2 : SN C X r Ol O1 rest O' U) : SN C X r Ol O (st :: rest) O' (sSeq T U) := by
  obtain ⟨t, p, k⟩ := h1
  obtain ⟨u, p2, k2⟩ := h2
  exact ⟨_, pss_cons p p2, run_seqN k k2⟩
theorem n_one {st : Stmt} {T : TDS} (h1 : N1 C X r Ol O st O' T) : SN C X r Ol O [st] O' T := by
  obtain ⟨t, p, k⟩ := h1
  exact ⟨_, pss_one p, k⟩
theorem n_weak {st : List Stmt} {T : TDS} (h1 : SN C X r Ol O st O' T) (hO : ∀ i ∈ O'', i ∈ O') (hio : ∀ i ∈ O', i ∈ C.io → i ∈ O'' := by decide) : SN C X r Ol O st O'' T := by
  obtain ⟨t, p, k⟩ := h1
  refine ⟨t, p, fun σ H G G0 H0 pn F n ρ Dd R bs S hT E ke => k σ H G G0 H0 pn F n ρ Dd R bs S hT E ⟨fun σ1 H1 G1 ρ1 n1 s S1 h => ?_, ke.rt, ke.bk, ke.ct⟩⟩
  obtain ⟨G2, s2, S2⟩ := S1.weak O'' hO hio
  exact ke.nx σ1 H1 G2 ρ1 n1 (s.trans s2) S2 h
theorem n_if {c : Expr} {a b : List Stmt} {pos : Pos} {A : TDb} {T U : TDS} (hc : BD X c A) (ha : SN C X r Ol O a O' T) (hb : SN C X r Ol O b O' U) : N1 C X r Ol O (.If c a b pos) O' (sIf A T U) := by
  obtain ⟨t, p, k⟩ := hc
  obtain ⟨t1, p1, k1⟩ := ha
  obtain ⟨t2, p2, k2⟩ := hb
  refine ⟨_, ps_if p p1 p2, fun σ H G G0 H0 pn F n ρ Dd R bs S hT E ke => ?_⟩
  obtain ⟨Ge, s1, A1, _, st⟩ := S.stepP
  refine k σ H Ge pn n _ _ A1 hT _ fun bb H1 ⟨n1, g1, hq⟩ => ?_
  obtain ⟨Gf, s2, _, mk, _, _⟩ := st H1 n1 g1
  have S1 := mk _ sub_ext (Sub.refl _)
  have ke1 := ke.mono (s2.trans (sub_ext (G := Gf) (H := H) (H' := H1)))
  cases bb with
  | true => exact k1 σ H1 _ G0 H0 pn F n1 ρ Dd R bs S1 hq E ke1
  | false => exact k2 σ H1 _ G0 H0 pn F n1 ρ Dd R bs S1 hq E ke1
def sParP (i j : Nat) (Ta : TDs) : TDS := fun Dd ρ n => Ta ρ n fun ds n => ∃ d e, ds = [d, e] ∧ pureD d = true ∧ pureD e = true ∧ Dd.nx ((ρ.set i (some d)).set j (some e)) n
theorem n_parP {st : Stmt} {es : List Expr} {i j : Nat} {Ta : TDs} (mk : ∀ ta, PA X es ta → PS X st (tPar i j ta)) (h : AD X es Ta) (hi : r ∉ [i] := by decide) (hj : r ∉ [j] := by decide) : N1 C X r Ol O st ((O.filter (· ∉ [i])).filter (· ∉ [j])) (sParP i j Ta) := by
  obtain ⟨t, p, k⟩ := h
  refine ⟨_, mk _ p, fun σ H G G0 H0 pn F n ρ Dd R bs S hT E ke => ?_⟩
  obtain ⟨Ge, s1, A, _, st⟩ := S.stepP
  refine k σ H Ge pn n _ _ A hT _ fun vs H1 ⟨ds, n1, g1, r1, d, e, hd, p1, p2, hq⟩ => ?_
  subst hd
  obtain ⟨v, w, rfl, r2, r3⟩ := reps2 r1
  obtain ⟨Gf, s2, _, mk2, tl, _⟩ := st H1 n1 g1
  have S1 := mk2 _ sub_ext (Sub.refl _)
  refine ⟨v, w, rfl, ?_⟩
  have same : ∀ (i : Nat) {α : Type} (l : List α) (x : α) (k : Nat), k ∉ [i] → (l.set i x)[k]? = l[k]? := fun i α l x k hk => List.getElem?_set_ne fun e => hk (by simp [e])
  have S2 := S1.set (ts := [i]) (S1.env.set i (Rep.pure tl _ _ p1 r2) S1.len) (by simp) (by simp) (fun k hk => ⟨same i _ _ k hk, same i _ _ k hk⟩) hi
  have S3 := S2.set (ts := [j]) (S2.env.set j (Rep.pure tl _ _ p2 r3) S2.len) (by simp) (by simp) (fun k hk => ⟨same j _ _ k hk, same j _ _ k hk⟩) hj
  exact ke.nx _ H1 _ _ n1 (s2.trans sub_ext) S3 hq
theorem n_ownPT {st : Stmt} {i : Nat} {Te : TDs} (h : ∃ t, PS X st (tAsg t (gName i)) ∧ LR X.K t Te) (hk : i ∉ C.dk := by decide) (hir : i ≠ r := by decide) : N1 C X r Ol O st (i :: O.filter (· ∉ [i])) (sOwnP i Te) := by
  obtain ⟨t, p, k⟩ := h
  refine ⟨_, p, fun σ H G G0 H0 pn F n ρ Dd R bs S hT E ke => ?_⟩
  obtain ⟨Ge, s1, A, _, st⟩ := S.stepP
  refine k σ H Ge pn n _ _ A hT _ fun a H1 ds n1 ha L ⟨hp, hi, hq⟩ => ?_
  obtain ⟨vs, hv, rv⟩ := L.ls
  obtain ⟨Gf, s2, sfH, mk, _, tl⟩ := st H1 n1 L.go
  have S1 := mk (Fz Gf H a H1) (Fz_le sfH ha) Fz_ext_le
  have h0 : H0 a = none := S.S.fresh ha
  obtain ⟨dss, N, _⟩ := S.N
  have hL : a ∉ R :: bs := fun z => by
    obtain ⟨us, e⟩ := N.alive a z
    rw [e] at ha
    cases ha
  refine ke.nx _ H1 _ _ n1 (s2.trans (Fz_le sfH ha)) (S1.setOwn i hv Fz_D h0 hL (by rw [decide_eq_false hk]; exact .ofLst (Reps.pure (tl a ha) _ _ hp rv)) (fun j hj b hb z => ?_) hi hir) hq
  obtain ⟨B, own, _⟩ := S.S.own
  obtain ⟨es', ws', f1, f2, f3, _⟩ := (own j hj).ex
  rw [hb] at f2
  cases f2
  rw [z, ha] at f3
  cases f3
theorem n_set {st : Stmt} {e ix : Expr} {i : Nat} {Te Ti : TD} (mk : ∀ te ti, PE X e te → PE X ix ti → PS X st (tAsg te (gSub (tVar i) ti rSetL))) (h : ED X e Te) (h2 : ED X ix Ti) (hi : i ∈ O := by decide) (hk : i ∉ C.dk := by decide) (hir : i ≠ r := by decide) : N1 C X r Ol O st O (sSet i Te Ti) := by
  obtain ⟨t, p, k⟩ := h
  obtain ⟨t2, p2, k2⟩ := h2
  refine ⟨_, mk _ _ p p2, fun σ H G G0 H0 pn F n ρ Dd R bs S hT E ke => ?_⟩
  obtain ⟨Ge, s1, A, _, st⟩ := S.stepP
  refine k σ H Ge pn n _ _ A hT _ fun v H1 ⟨d, n1, g1, r1, hT2⟩ => ?_
  have A1 := A.go g1
  obtain ⟨B, own, _⟩ := S.S.own
  obtain ⟨ds0, vs0, f1, f2, f3, f4⟩ := (own i hi).lst hk
  refine ⟨_, f2, ?_⟩
  refine k2 σ H1 _ pn n1 _ _ A1 hT2 _ fun w H2 ⟨z, n2, g2, r2, hp, ds, kk, j, hz, hd, hj, hq⟩ => ?_
  subst hz
  obtain ⟨Gf, s2, _, mk2, tl, _⟩ := st H2 n2 (g1.trans g2)
  have S1 := mk2 _ sub_ext (Sub.refl _)
  obtain ⟨B1, own1, _⟩ := S1.S.own
  obtain ⟨ds1, vs1, e1, e2, e3, e4⟩ := (own1 i hi).lst hk
  rw [f2] at e2
  have hB : B i = B1 i := by
    injection e2 with e2
    injection e2 with e2
    injection e2
  rw [set_get_ne hir, hd] at e1
  cases e1
  have rv := Rep.mono (sub_ext (G := ext Ge H H1) (H := H1) (H' := H2)) _ _ r1
  rw [A.ext_ext g1 g2] at rv
  rw [hB]
  refine ⟨_, vs1, kk, j, rfl, r2, e3, by rw [Reps.length e4]; exact hj, ?_⟩
  exact ke.nx _ _ _ _ n2 (s2.trans sub_ext) (S1.mut hi (by rw [f2, hB]) e3 (by rw [decide_eq_false hk]; exact .ofLst (Reps.set (Rep.pure tl _ _ hp rv) j e4))) hq
theorem n_forP {tg iter : Expr} {body : List Stmt} {pos : Pos} {g : TG} {f : D → DL.Env → Option DL.Env} {ts : List Nat} {Tw : TDs} {Tb : TDS} (Ob : List Nat) (hp : PassesOwn (model X.prog X.w) X.A X.env X.xe) (hc : X.calm = true) (hw : WDp X tg iter Tw) (hg : PG X tg g) (tr : TgRun X.K g f ts) (hb : SN C X r O O body Ob Tb)
    (hts : ∀ i ∈ ts, i ∉ r :: O := by decide) (hOb : ∀ i ∈ O, i ∈ Ob := by decide) (hiob : ∀ i ∈ Ob, i ∈ C.io → i ∈ O := by decide) (hfs : ∀ x, foldedSetIterable iter X.env x = pure x := by intro _; rfl) : N1 C X r Ol O (.For tg iter body [] pos) O (sForP Tw f Tb) := by
  obtain ⟨wi, pi, kw⟩ := hw
  obtain ⟨tb, pb, kb⟩ := hb
  refine ⟨_, ps_for hp hc pi hg pb hfs, fun σ H G G0 H0 pn F n ρ Dd R bs S hT E ke => ?_⟩
  obtain ⟨Ge, s1, A, _, st⟩ := S.stepP
  refine kw σ H Ge pn n _ _ A hT _ fun J ds n1 H1 g1 hq w0 => ?_
  obtain ⟨Gf, s2, sfH, mk, tl, _⟩ := st H1 n1 g1
  have w := w0 _ tl
  have S1 := mk _ sub_ext (Sub.refl _)
  have filt : O.filter (· ∉ ts) = O := List.filter_eq_self.mpr fun i hi => decide_eq_true fun z => hts i z (List.mem_cons_of_mem _ hi)
  have hrt : r ∉ ts := fun z => hts r z List.mem_cons_self
  refine ⟨fun i m σ' H' => ∃ ρ' n' G', m = ds.length - i ∧ i ≤ ds.length ∧ SatN C X.K pn F G0 H0 G' H' σ' ρ' O n' r R bs ∧ Sub (ext Gf H H1) G' ∧ forD f Tb Dd (ds.drop i) ρ' n', ⟨ds.length, ρ, n1, _, by simp, Nat.zero_le _, S1, Sub.refl _, hq⟩, ?_⟩
  rintro i m σ' H' ⟨ρ', n', G', rfl, hi, S2, sG, hf⟩
  by_cases hlt : i < ds.length
  · refine .inr ⟨w.go i H' (sG.trans S2.S.sub) hlt, fun σ3 H3 => ∃ ρ3 n3 G3, SatN C X.K pn F G0 H0 G3 H3 σ3 ρ3 O n3 r R bs ∧ Sub (ext Gf H H1) G3 ∧ forD f Tb Dd (ds.drop (i + 1)) ρ3 n3, fun σ3 H3 ⟨a, b, c, x, y, z⟩ => ⟨ds.length - (i + 1), by omega, a, b, c, rfl, hlt, x, y, z⟩, fun x H3 y => ?_⟩
    obtain ⟨s3, y3⟩ := w.yld i H' x H3 (sG.trans S2.S.sub) y
    rw [show ds.drop i = ds[i] :: ds.drop (i + 1) from List.drop_eq_getElem_cons hlt] at hf
    obtain ⟨ρ4, hρ, hb4⟩ := hf
    have gx : Go pn G' H' H3 n' := Go.of_sub S2.S.pst s3
    have S3 : SatN C X.K pn F G0 H0 (ext G' H' H3) H3 σ' ρ' O n' r R bs := S2.back (S2.reb.go gx sub_ext (Sub.refl _)) sub_ext rfl rfl S2.ro
    have r3 := y3 ds[i] (List.getElem?_eq_getElem hlt) G' sG S2.S.sub
    refine tr.run σ' H3 _ pn (r :: O) x ds[i] ρ' ρ4 S3.S.sub r3 hρ S3.env S3.len _ fun σ5 env5 l1 l2 same => ?_
    have S5 := S3.set env5 l1 l2 same hrt
    rw [filt] at S5
    have sG5 : Sub (ext Gf H H1) (ext G' H' H3) := sG.trans sub_ext
    refine kb σ5 H3 _ G0 H0 pn F n' ρ4 _ R bs S5 hb4 _ ⟨fun σ6 H6 G6 ρ6 n6 s6 S6 h6 => ?_, fun v H6 G6 σ6 ρ6 d6 n6 s6 => ke.rt v H6 G6 σ6 ρ6 d6 n6 (((s2.trans sub_ext).trans sG5).trans s6), fun σ6 H6 G6 ρ6 n6 s6 S6 h6 => ?_, fun σ6 H6 G6 ρ6 n6 s6 S6 h6 => ?_⟩
    · obtain ⟨G7, s7, S7⟩ := S6.weak O hOb hiob
      exact ⟨ρ6, n6, G7, S7, (sG5.trans s6).trans s7, h6⟩
    · exact ke.nx σ6 H6 G6 ρ6 n6 (((s2.trans sub_ext).trans sG5).trans s6) S6 h6
    · exact ⟨ρ6, n6, G6, S6, sG5.trans s6, h6⟩
  · refine .inl ⟨w.stop i H' (sG.trans S2.S.sub) (by omega), ?_⟩
    rw [List.drop_eq_nil_of_le (by omega)] at hf
    exact ke.nx σ' H' G' ρ' n' ((s2.trans sub_ext).trans sG) S2 hf
end
end DL
set_option maxHeartbeats 4000000
/-! a list within grows; a def that is handed a list of lists; one is made; it is frozen -/
namespace DL
open PySem PySem.Spec PyProof.Rows L2
theorem lmap_inj : ∀ {a b : List (List D)}, a.map D.lst = b.map D.lst → a = b
  | [], [], _ => rfl
  | [], _ :: _, h => by simp at h
  | _ :: _, [], h => by simp at h
  | x :: a, y :: b, h => by
    simp only [List.map_cons, List.cons.injEq, D.lst.injEq] at h
    rw [h.1, lmap_inj h.2]
theorem nestD_inj {a b : List (List D)} (h : nestD a = nestD b) : a = b := by
  unfold nestD at h
  injection h with h
  exact lmap_inj h
section
variable {C : Cn} {K : PySem.W.Frag} {pn : Pn} {F : Addr → Prop} {G0 H0 G H : Hp} {σ : L2.St} {ρ : DL.Env} {O : List Nat} {n r : Nat} {R : Addr} {bs : List Addr} {dss : List (List D)}
theorem SatN.nest (S : SatN C K pn F G0 H0 G H σ ρ O n r R bs) (h : ρ[r]? = some (some (nestD dss))) : NestH K pn G H R bs dss := by
  obtain ⟨d2, N, e⟩ := S.N
  rw [h] at e
  injection e with e
  injection e with e
  rw [nestD_inj e]
  exact N
theorem SatN.freeze (S : SatN C K pn F G0 H0 G H σ ρ O n r R bs) (hio : ∀ i ∈ O, i ∈ C.io → i ∈ ([] : List Nat)) : ∃ G', Sub G G' ∧ Sat C K pn F G0 H0 G' H σ ρ [] n := by
  obtain ⟨G1, s1, S1⟩ := S.weak [] (fun _ h => nomatch h) hio
  obtain ⟨dss, N, hd⟩ := S1.N
  let Ge : Hp := fun a => if a ∈ R :: bs then H a else G1 a
  have gN : ∀ {a : Addr}, a ∈ R :: bs → Ge a = H a := fun {a} h => if_pos h
  have gO : ∀ {a : Addr}, a ∉ R :: bs → Ge a = G1 a := fun {a} h => if_neg h
  have s2 : Sub G1 Ge := fun a o h => by
    by_cases ha : a ∈ R :: bs
    · rw [N.noG a ha] at h; cases h
    · rw [gO ha]; exact h
  refine ⟨Ge, s1.trans s2, fun a o h => ?_, S1.S.g0.trans s2, fun a o h => ?_, S1.S.ex, fun p c e => ⟨(S1.S.pst p c e).1, ?_, ?_⟩, S1.S.p0, S1.S.fp, ⟨fun _ => 0, fun i hi => (nomatch hi), fun i hi => (nomatch hi)⟩, fun i d _ h => ?_, S.len⟩
  · by_cases ha : a ∈ R :: bs
    · rw [gN ha] at h; exact h
    · rw [gO ha] at h; exact S1.S.sub _ _ h
  · by_cases ha : a ∈ R :: bs
    · exact .inr (S.noH a ha)
    · rw [gO ha] at h; exact S1.S.fr a o h
  · rw [gO fun z => (S.pne p z p c e).1 rfl]; exact (S1.S.pst p c e).2.1
  · rw [gO fun z => (S.pne c z p c e).2 rfl]; exact (S1.S.pst p c e).2.2
  · by_cases hi : i = r
    · subst hi
      rw [hd] at h
      cases h
      exact ⟨_, S.slot, N.rep s2 fun a ha => gN ha⟩
    · obtain ⟨v, e1, e2⟩ := S1.S.env i d (fun z => nomatch z) (by rw [set_get_ne hi]; exact h)
      exact ⟨v, e1, Rep.mono s2 _ _ e2⟩
/-- behind a call that was handed the list of lists -/
theorem SatN.called (S : SatN C K pn F G0 H0 G H σ ρ O n r R bs) {G' H' : Hp} {n' : Nat} (s : Sub G G') (sH : Sub G' H') (fr : ∀ a o, G' a = some o → G a = some o ∨ H a = none) (ex : ExF (· ∈ R :: bs) pn H H') (ps : Pst pn G' H' n') (N : NestH K pn G' H' R bs dss) :
    SatN C K pn F G0 H0 G' H' σ (ρ.set r (some (nestD dss))) O n' r R bs := by
  obtain ⟨A, own, inj⟩ := S.S.own
  have e0 : (ρ.set r (some (nestD dss))).set r none = ρ.set r none := List.set_set ..
  have nin : ∀ {a : Addr} {o : HO}, H0 a = some o → a ∉ R :: bs := fun {a o} h z => by rw [S.noH a z] at h; cases h
  refine ⟨?_, ⟨dss, N, List.getElem?_set_self S.rl⟩, S.slot, S.noH, S.dj, S.ro⟩
  rw [e0]
  refine ⟨sH, S.S.g0.trans s, fun a o h => ?_, fun a o h nf np => ex a o (S.S.ex a o h nf np) (nin h) np, ps, S.S.p0, fun a ha => ⟨(S.S.fp a ha).1, ?_, (S.S.fp a ha).2.2⟩, ⟨A, fun i hi => ?_, inj⟩, fun i d hi hd => ?_, S.S.len⟩
  · rcases fr a o h with q | q
    · exact S.S.fr a o q
    · exact .inr (S.S.fresh q)
  · obtain ⟨o, e⟩ := (S.S.fp a ha).2.1
    exact ⟨o, ex a o e (fun z => S.nF a z ha) fun p c q => ((S.S.fp a ha).2.2 p c q).1⟩
  · obtain ⟨⟨d, o, e1, e2, e3, e4⟩, e5, e6⟩ := own i hi
    refine ⟨⟨d, o, e1, e2, ex _ _ e3 (S.dj i hi _ e2) fun p c q => (S.S.pne e6 p c q).1, e4.mono s⟩, ?_, e6⟩
    cases z : G' (A i) with
    | none => rfl
    | some u =>
      rcases fr _ _ z with q | q
      · rw [e5] at q; cases q
      · rw [e3] at q; cases q
  · obtain ⟨v, e1, e2⟩ := S.S.env i d hi hd
    exact ⟨v, e1, Rep.mono s _ _ e2⟩
end
section
variable {C : Cn} {X : Cx} {r : Nat} {Ol O O' O'' : List Nat}
/-- there = rows[ix]; there.append(e) -/
def sNapp (i r : Nat) (Ti Te : TD) : TDS := fun Dd ρ n => Ti ρ n fun z n => i < ρ.length ∧ ∃ dss k j ds, z = .int k ∧ ρ[r]? = some (some (nestD dss)) ∧ ixN dss.length k = some j ∧ dss[j]? = some ds ∧
  Te (ρ.set i none) n fun d n => pureD d = true ∧ ds.length < LIM ∧ Dd.nx ((ρ.set i none).set r (some (nestD (dss.set j (ds ++ [d]))))) n
theorem n_app2 {st1 st2 : Stmt} {a ix e : Expr} {i : Nat} {Ti Te : TD} {pos : Pos} (mk1 : ∀ te, PE X (.Subscript a ix pos) te → PS X st1 (tAsg te (gName i))) (ha : PE X a (tVar r)) (h1 : ED X ix Ti)
    (mk2 : ∀ te, PE X e te → PS X st2 (tDrop (tBM X.K "list" rAppend (tVar i) (tCons te tNil)))) (h2 : ED X e Te) (hs : PlainIx ix := by exact fun _ _ => rfl) (hir : r ∉ [i] := by decide) (hiO : i ∉ O := by decide) :
    SN C X r Ol O [st1, st2] O (sNapp i r Ti Te) := by
  obtain ⟨t1, p1, k1⟩ := h1
  obtain ⟨t2, p2, k2⟩ := h2
  refine ⟨_, pss_cons (mk1 _ (pe_ix ix_list ha p1 hs)) (pss_one (mk2 _ p2)), fun σ H G G0 H0 pn F n ρ Dd R bs S hT E ke => ?_⟩
  obtain ⟨Ge, s1, A, _, st⟩ := S.stepP
  refine ⟨_, S.slot, k1 σ H Ge pn n _ _ A hT _ fun y H1 ⟨z, n1, g1, r1, hil, dss, k, j, ds, hz, hρ, hj, hds, hq⟩ => ?_⟩
  subst hz
  obtain ⟨Gf, s2, _, mk, _, _⟩ := st H1 n1 g1
  have S1 := mk _ sub_ext (Sub.refl _)
  have N1 := S1.nest hρ
  have hjl : j < bs.length := by rw [N1.len]; exact (List.getElem?_eq_some_iff.mp hds).1
  have hb : bs[j]? = some bs[j] := List.getElem?_eq_getElem hjl
  refine ⟨R, bs.map .ref, k, .ref bs[j], rfl, r1, SqL.of N1.out, ?_, ?_⟩
  · unfold atI
    rw [show (bs.map V.ref).length = dss.length by rw [List.length_map, N1.len], hj]
    show (bs.map V.ref)[j]? = _
    rw [List.getElem?_map, hb]
    rfl
  have hri : i ≠ r := fun z => hir (by simp [z])
  have same : ∀ {α : Type} (l : List α) (x : α) (k : Nat), k ∉ [i] → (l.set i x)[k]? = l[k]? := fun l x k hk => List.getElem?_set_ne fun e => hk (by simp [e])
  have filt : O.filter (· ∉ [i]) = O := List.filter_eq_self.mpr fun m hm => decide_eq_true fun z => hiO (by rw [← List.mem_singleton.mp z]; exact hm)
  have S2 := S1.set (σ' := σ.set i (some (.ref bs[j]))) (ρ' := ρ.set i none) (ts := [i]) (fun m d hm hd => ?_) (by simp) (by simp) (fun k hk => ⟨same _ _ k hk, same _ _ k hk⟩) hir
  · rw [filt] at S2
    obtain ⟨ws, ds', hw, hds', _⟩ := N1.ins j _ hb
    have hil : i < σ.length := by rw [S.len]; exact hil
    · refine ⟨.ref bs[j], List.getElem?_set_self hil, .inl ⟨rfl, _, .inl (.inl hw)⟩, ?_⟩
      obtain ⟨Ge2, s3, A2, _, st2⟩ := S2.stepP
      refine k2 _ H1 Ge2 pn n1 _ _ A2 hq _ fun v H2 ⟨d, n2, g2, r2, pd, hl, hq2⟩ => ?_
      obtain ⟨Gf2, s4, _, mk2, tl, _⟩ := st2 H2 n2 g2
      have S3 := mk2 _ sub_ext (Sub.refl _)
      have hρ3 : (ρ.set i none)[r]? = some (some (nestD dss)) := (same _ _ r hir).trans hρ
      have N3 := S3.nest hρ3
      obtain ⟨ws3, ds3, hw3, hds3, rs3⟩ := N3.ins j _ hb
      rw [hds] at hds3
      cases hds3
      refine ⟨bs[j], ws3, v, rfl, rfl, hw3, lim_lt (by rw [Reps.length rs3]; omega), ?_⟩
      exact ke.nx _ _ _ _ n2 ((s2.trans sub_ext).trans (s4.trans sub_ext)) (S3.app N3 hρ3 hb hw3 hds (Rep.pure tl _ _ pd r2)) hq2
  · by_cases hmi : m = i
    · subst hmi
      by_cases hl : m < ρ.length
      · rw [List.getElem?_set_self hl] at hd
        cases hd
      · rw [List.getElem?_eq_none (by simp; omega)] at hd
        cases hd
    · rw [set_get_ne hmi] at hd
      obtain ⟨w, e1, e2⟩ := S1.env m d (fun z => hm (List.mem_filter.mpr ⟨z, by simpa using hmi⟩)) hd
      exact ⟨w, by rw [List.getElem?_set_ne (Ne.symm hmi)]; exact e1, e2⟩
end
end DL
set_option maxHeartbeats 4000000
namespace DL
open PySem PySem.Spec PyProof.Rows L2
/-- a def's promise over data, where the r-th thing handed in is a list of lists that it changes: its answer is what that holds then -/
def liftN (K : PySem.W.Frag) (np r : Nat) (T : FT) : Sp := fun vs H Q _ => vs.length = np ∧ ∃ (pn : Pn) (G : Hp) (n : Nat) (ds : List D) (q : QD) (R : Addr) (bs : List Addr) (dss : List (List D)), ds.length = np ∧ Sub G H ∧ Pst pn G H n ∧
  (∀ (i : Nat) (d : D), i ≠ r → ds[i]? = some d → ∃ v, vs[i]? = some v ∧ Rep K pn G v d) ∧ ds[r]? = some (nestD dss) ∧ vs[r]? = some (.ref R) ∧ NestH K pn G H R bs dss ∧ (∀ a ∈ R :: bs, ∀ p c, pn = some (p, c) → a ≠ p ∧ a ≠ c) ∧ T ds n q ∧
  ∀ (H' G' : Hp) (dss' : List (List D)) (n' : Nat), Sub G G' → Sub G' H' → (∀ a o, G' a = some o → G a = some o ∨ H a = none) → ExF (· ∈ R :: bs) pn H H' → Pst pn G' H' n' → NestH K pn G' H' R bs dss' → q (nestD dss') n' → Q .non H'
def fnDN (np m r : Nat) (T : TDS) : FT := fun ds n q => ds.length = np ∧ T { nx := fun ρ n => q (ioV ρ r) n, rt := fun _ _ => False, bk := fun _ _ => False, ct := fun _ _ => False } (startE m ds) n
theorem start_get {N : List Str} {vs : List V} {i : Nat} {v : V} (h : vs[i]? = some v) : (start N vs)[i]? = some (some v) := by
  unfold L2.start
  have := (List.getElem?_eq_some_iff.mp h).1
  rw [List.getElem?_append_left (by simpa using this), List.getElem?_map, h]
  rfl
theorem startE_get {m : Nat} {ds : List D} {i : Nat} {d : D} (h : ds[i]? = some d) : (startE m ds)[i]? = some (some d) := by
  unfold startE
  have := (List.getElem?_eq_some_iff.mp h).1
  rw [List.getElem?_append_left (by simpa using this), List.getElem?_map, h]
  rfl
theorem startE_inv {m : Nat} {ds : List D} {i : Nat} {d : D} (h : (startE m ds)[i]? = some (some d)) : ds[i]? = some d := by
  unfold startE at h
  by_cases hi : i < ds.length
  · rw [List.getElem?_append_left (by simpa using hi), List.getElem?_map] at h
    cases e : ds[i]? with
    | none => rw [e] at h; cases h
    | some d' => rw [e] at h; cases h; rfl
  · rw [List.getElem?_append_right (by simp; omega), List.getElem?_replicate] at h
    split at h
    · cases h
    · cases h
theorem fn_N {P : Program} {w : World} {K : PySem.W.Frag} {mg : Str → Option Value} {base : Heap} {x qual : Str} {st : Stmt} {f : Addr} {fd : FuncData} {N ps : List Str} {k : Nat} {T : TDS} (np m r : Nat) (hm : N.length = m) (hnp : ps.length = np) (hle : np ≤ m) (F : Fun K x qual st f fd) (S : FnScope N ps (defScope st)) (dk : List Nat)
    (hbody : ∀ (cdv : Value) (A : Around) (outer : List PySem.Env) (s : Shared) (H : Hp) (E : XK), Room k (A.deeper (envOfC qual (defScope st) s.heap.objs.size f cdv)) →
      ∃ O', SN ⟨dk, []⟩ (cxOf CX0 P w K mg base N qual (defScope st) f cdv A outer s H E).nox r [] [] (defBody st) O' T) : FnOk P w K mg base CX0 (k + 1) f fd ps (liftN K np r (fnDN np m r T)) := by
  refine F.ok S (fun vs H Q E h => by rw [hnp]; exact h.1) (fun cdv A outer s H vs Q E hr h => ?_)
  obtain ⟨hl, pn, G, n, ds, q, R, bs, dss, hlen, sG, hp, rds, hdr, hvr, Nn, npc, ⟨hds, hT⟩, kq⟩ := h
  obtain ⟨O', t, p, run⟩ := hbody cdv A outer s H E hr
  let H0 : Hp := fun a => if a ∈ R :: bs then none else H a
  have h0N : ∀ {a : Addr}, a ∈ R :: bs → H0 a = none := fun {a} h => if_pos h
  have h0O : ∀ {a : Addr}, a ∉ R :: bs → H0 a = H a := fun {a} h => if_neg h
  have h0H : ∀ {a : Addr} {o : HO}, H0 a = some o → a ∉ R :: bs ∧ H a = some o := fun {a o} h => by
    by_cases ha : a ∈ R :: bs
    · rw [h0N ha] at h; cases h
    · rw [h0O ha] at h; exact ⟨ha, h⟩
  have lens : (start N vs).length = ((startE m ds).set r none).length := by
    unfold L2.start startE
    simp only [List.length_set, List.length_append, List.length_map, List.length_replicate]
    omega
  have rl : r < (startE m ds).length := (List.getElem?_eq_some_iff.mp (startE_get (m := m) hdr)).1
  have S0 : SatN ⟨dk, []⟩ K pn noF G H0 G H (start N vs) (startE m ds) [] n r R bs := by
    refine ⟨⟨sG, Sub.refl _, fun a o h => .inl h, fun a o h _ _ => (h0H h).2, hp, fun p c e => ?_, fun a h => h.elim, ⟨fun _ => 0, fun i hi => (nomatch hi), fun i hi => (nomatch hi)⟩, fun i d _ h => ?_, lens⟩, ⟨dss, Nn, startE_get hdr⟩, start_get hvr, fun a ha => h0N ha, fun i hi => (nomatch hi), fun z => nomatch z⟩
    · obtain ⟨⟨⟨x, y, h1, _⟩, ⟨ns, h2, _⟩, _⟩, _⟩ := hp p c e
      exact ⟨⟨_, (h0O fun z => (npc p z p c e).1 rfl).trans h1⟩, ⟨_, (h0O fun z => (npc c z p c e).2 rfl).trans h2⟩⟩
    · by_cases hi : i = r
      · subst hi
        rw [List.getElem?_set_self rl] at h
        cases h
      · rw [set_get_ne hi] at h
        obtain ⟨v, e1, e2⟩ := rds i d hi (startE_inv h)
        exact ⟨v, start_get e1, e2⟩
  refine ⟨t, p, run (start N vs) H G G H0 pn noF n (startE m ds) _ R bs S0 hT _ ⟨fun σ1 H1 G1 ρ1 n1 s1 S1 h1 => ?_, fun v H1 G1 σ1 ρ1 d n1 s1 S1 r1 h1 => h1.elim, fun _ _ _ _ _ _ _ h => h.elim, fun _ _ _ _ _ _ _ h => h.elim⟩⟩
  obtain ⟨dss1, N1, hd1⟩ := S1.N
  refine kq H1 G1 dss1 n1 S1.S.g0 S1.S.sub (fun a o h => ?_) (fun a o h nf np => S1.S.ex a o ((h0O nf).trans h) (fun z => z) np) S1.S.pst N1 ?_
  · rcases S1.S.fr a o h with q | q
    · exact .inl q
    · by_cases ha : a ∈ R :: bs
      · rw [N1.noG a ha] at h; cases h
      · exact .inr ((h0O ha).symm.trans q)
  · have : ioV ρ1 r = nestD dss1 := by
      unfold ioV
      rw [hd1]
      rfl
    rw [← this]
    exact h1
section
variable {C : Cn} {X : Cx} {r : Nat} {Ol O O' O'' : List Nat}
/-- f(a, rows, b, c) -/
def sCallN (r : Nat) (T : FT) (Ta Tb Tc : TD) : TDS := fun Dd ρ n => Ta ρ n fun x n => Tb ρ n fun y n => Tc ρ n fun z n => (pureD x = true ∧ pureD y = true ∧ pureD z = true) ∧ ∃ dss, ρ[r]? = some (some (nestD dss)) ∧ T [x, nestD dss, y, z] n fun d n => Dd.nx (ρ.set r (some d)) n
theorem n_call {x : Str} {f : Addr} {fd : FuncData} {ps : List Str} {k : Nat} {T : FT} {p pos pos2 : Pos} {a rw_ b c : Expr} {Ta Tb Tc : TD} (G : FnOk X.prog X.w X.K X.mg X.base CX0 k f fd ps (liftN X.K 4 1 T)) (hr : Room k X.A) (hg : Gl X x) (hm : X.mg x = some (.ref f)) (hk : PySem.W.keepIn X.K (.ref f) = true) (hb : Binds X.K fd ps [])
    (ha : ED X a Ta) (hrw : PE X rw_ (tVar r)) (h2 : ED X b Tb) (h3 : ED X c Tc) (hdb : (x == ("__debug__" : Str)) = false := by decide)
    (he : starEach [a, rw_, b, c] X.env = (false, eval a X.env) :: starEach [rw_, b, c] X.env := by rfl) (he2 : starEach [rw_, b, c] X.env = (false, eval rw_ X.env) :: starEach [b, c] X.env := by rfl) (he3 : starEach [b, c] X.env = (false, eval b X.env) :: starEach [c] X.env := by rfl) (he4 : starEach [c] X.env = (false, eval c X.env) :: starEach [] X.env := by rfl)
    (hpl : (backTo pos (starEach [rw_, b, c] X.env)).any (·.1) = false := by rfl) : N1 C X r Ol O (.Expr (.Call (.Name x p) [a, rw_, b, c] [] pos) pos2) O (sCallN r T Ta Tb Tc) := by
  obtain ⟨t1, p1, k1⟩ := ha
  obtain ⟨t2, p2, k2⟩ := h2
  obtain ⟨t3, p3, k3⟩ := h3
  refine ⟨_, ps_expr (pe_call G hr hg hm hk hb .nil pass0 (pa_cons p1 (pa_cons hrw (pa_cons p2 (pa_cons p3 pa_nil he4) he3) he2) he) hdb he hpl), fun σ H G G0 H0 pn F n ρ Dd R bs S hT E ke => ?_⟩
  obtain ⟨Ge, s1, A, _, st⟩ := S.stepP
  refine k1 σ H Ge pn n _ _ A hT _ fun v0 H1 ⟨x, n1, g1, r1, hT2⟩ => ?_
  have A1 := A.go g1
  refine ⟨_, S.slot, k2 σ H1 _ pn n1 _ _ A1 hT2 _ fun v2 H2 ⟨y, n2, g2, r2, hT3⟩ => ?_⟩
  have A2 := A1.go g2
  refine k3 σ H2 _ pn n2 _ _ A2 hT3 _ fun v3 H3 ⟨z, n3, g3, r3, ⟨px, py, pz⟩, dss, hρ, hq⟩ => ?_
  have g : Go pn Ge H H3 n3 := (g1.trans g2).trans g3
  obtain ⟨Gf, s2, _, mk, tl, _⟩ := st H3 n3 g
  have S3 := mk _ sub_ext (Sub.refl _)
  have N3 := S3.nest hρ
  rw [A1.ext_ext g2 g3, A.ext_ext g1 (g2.trans g3)] at r3
  have r2 := Rep.mono (sub_ext (G := ext (ext Ge H H1) H1 H2) (H := H2) (H' := H3)) _ _ r2
  rw [A1.ext_ext g2 g3, A.ext_ext g1 (g2.trans g3)] at r2
  have r1 := Rep.mono (sub_ext (G := ext Ge H H1) (H := H1) (H' := H3)) _ _ r1
  rw [A.ext_ext g1 (g2.trans g3)] at r1
  have q1 := Rep.pure tl _ _ px r1
  have q2 := Rep.pure tl _ _ py r2
  have q3 := Rep.pure tl _ _ pz r3
  refine ⟨rfl, pn, _, n3, [x, nestD dss, y, z], _, R, bs, dss, rfl, S3.S.sub, S3.S.pst, fun i d hi hd => ?_, rfl, rfl, N3, S3.pne, hq, fun H' G' dss' n' s s' fr ex ps N' hq' => ?_⟩
  · rcases i with _ | _ | _ | _ | i
    · cases hd; exact ⟨_, rfl, q1⟩
    · exact absurd rfl hi
    · cases hd; exact ⟨_, rfl, q2⟩
    · cases hd; exact ⟨_, rfl, q3⟩
    · cases hd
  · exact ke.nx σ H' G' _ n' ((s2.trans sub_ext).trans s) (S3.called s s' fr ex ps N') hq'
/-- the list of lists is given up -/
theorem n_end {Te : TD} {e : Expr} {pos : Pos} (h : ED X e Te) (hi : C.io = [] := by rfl) : N1 C X r Ol O (.Return (some e) pos) O' (sRet Te) := by
  obtain ⟨t, p, k⟩ := (s_ret (C := C) (Ol := Ol) (O := []) (O' := []) h hi : S1 C X Ol [] (.Return (some e) pos) [] (sRet Te))
  refine ⟨t, p, fun σ H G G0 H0 pn F n ρ Dd R bs S hT E ke => ?_⟩
  obtain ⟨G', s, S'⟩ := S.freeze fun i _ h => by rw [hi] at h; exact nomatch h
  exact k σ H G' G0 H0 pn F n ρ { Dd with nx := fun _ _ => False, bk := fun _ _ => False, ct := fun _ _ => False } S' hT E ⟨fun _ _ _ _ _ _ _ h => h.elim, fun v H2 G2 σ2 ρ2 d n2 s2 => ke.rt v H2 G2 σ2 ρ2 d n2 (s.trans s2), fun _ _ _ _ _ _ _ h => h.elim, fun _ _ _ _ _ _ _ h => h.elim⟩
end
end DL
set_option maxHeartbeats 4000000
/-! sorted over tuples of ints -/
namespace DL
open PySem PySem.Spec PyProof.Rows L2
/-- the order of tuples of ints -/
def lexI : List Int → List Int → Bool
  | [], [] => false
  | [], _ :: _ => true
  | _ :: _, [] => false
  | a :: x, b :: y => if a = b then lexI x y else decide (a < b)
theorem lexI_irr : ∀ x, lexI x x = false
  | [] => rfl
  | a :: x => by unfold lexI; rw [if_pos rfl]; exact lexI_irr x
theorem lexI_asym : ∀ x y, lexI x y = true → lexI y x = false
  | [], [], h => rfl
  | [], _ :: _, h => rfl
  | _ :: _, [], h => by cases h
  | a :: x, b :: y, h => by
    unfold lexI at h ⊢
    by_cases e : a = b
    · rw [if_pos e] at h
      rw [if_pos e.symm]
      exact lexI_asym x y h
    · rw [if_neg e] at h
      rw [if_neg (Ne.symm e)]
      have := of_decide_eq_true h
      exact decide_eq_false (by omega)
theorem lexI_tr : ∀ x y z, lexI y x = false → lexI z y = false → lexI z x = false
  | [], _, [], _, _ => rfl
  | [], [], _ :: _, _, h => h
  | [], _ :: _, _ :: _, _, _ => rfl
  | _ :: _, [], [], h, _ => h
  | _ :: _, _ :: _, [], _, h => by cases h
  | _ :: _, [], _ :: _, h, _ => by cases h
  | a :: x, b :: y, c :: z, h1, h2 => by
    unfold lexI at h1 h2 ⊢
    by_cases e : b = a
    · rw [if_pos e] at h1
      by_cases e2 : c = b
      · rw [if_pos e2] at h2
        rw [if_pos (e2.trans e)]
        exact lexI_tr x y z h1 h2
      · rw [if_neg e2] at h2
        rw [if_neg (by rw [← e]; exact e2), ← e]
        exact h2
    · rw [if_neg e] at h1
      have g1 : ¬ b < a := of_decide_eq_false h1
      by_cases e2 : c = b
      · rw [if_neg (by rw [e2]; exact e), e2]
        exact h1
      · rw [if_neg e2] at h2
        have g2 : ¬ c < b := of_decide_eq_false h2
        rw [if_neg (by omega)]
        exact decide_eq_false (by omega)
theorem lexI_anti : ∀ x y, lexI x y = false → lexI y x = false → x = y
  | [], [], _, _ => rfl
  | [], _ :: _, h, _ => by cases h
  | _ :: _, [], _, h => by cases h
  | a :: x, b :: y, h1, h2 => by
    unfold lexI at h1 h2
    by_cases e : a = b
    · rw [if_pos e] at h1
      rw [if_pos e.symm] at h2
      rw [e, lexI_anti x y h1 h2]
    · rw [if_neg e] at h1
      rw [if_neg (Ne.symm e)] at h2
      have g1 := of_decide_eq_false h1
      have g2 := of_decide_eq_false h2
      exact absurd (by omega) e
theorem swo_lexI {α : Type} (k : α → List Int) : SrtO.Swo fun u v => lexI (k u) (k v) := ⟨fun x y h => lexI_asym _ _ h, fun x y z h1 h2 => lexI_tr _ _ _ h1 h2⟩
section
variable {prog : Program} {w : World} {A : Around} {E : Value → Shared → Prop} {s : Shared}
theorem kat_lexI {b : Bool} {Q : Bool → Shared → Prop} : ∀ (us vs : List Value) (ns ms : List Int) (fin : Bool) (i : Nat), IntsAre us ns → IntsAre vs ms → ((fin = true ↔ ns.length < ms.length)) → (i ≠ 0 ∨ b = true ∨ True) → Q (lexI ns ms) s →
    PySem.W.KatLex prog w A b fin Q (us.zip vs) i s := by
  intro us
  induction us with
  | nil =>
    intro vs ns ms fin i h1 h2 hf _ hq
    cases h1
    refine PySem.W.kat_nil ?_
    cases h2 with
    | nil =>
      have : fin = false := by
        cases fin with
        | false => rfl
        | true => exact absurd (hf.mp rfl) (by simp)
      rw [this]
      exact hq
    | cons c u h =>
      have : fin = true := hf.mpr (by simp)
      rw [this]
      exact hq
  | cons u us ih =>
    intro vs ns ms fin i h1 h2 hf _ hq
    cases h1 with
    | cons a t h1 =>
      cases h2 with
      | nil =>
        refine PySem.W.kat_nil ?_
        have : fin = false := by
          cases fin with
          | false => rfl
          | true => exact absurd (hf.mp rfl) (by simp)
        rw [this]
        exact hq
      | cons c t' h2 =>
        refine PySem.W.kat_cons (SeqAt.EqAt.int_int a t c t' prog w _ _ ?_)
        refine PySem.W.kat_go (fun e1 => ?_) (fun e1 => ?_)
        · have ex : a = c := by simpa using e1
          refine PySem.W.kat_yes (ih _ _ _ fin (i + 1) h1 h2 (by simpa using hf) (.inr (.inr trivial)) ?_)
          unfold lexI at hq
          rw [if_pos ex] at hq
          exact hq
        · have ex : ¬ a = c := by simpa using e1
          unfold lexI at hq
          rw [if_neg ex] at hq
          exact PySem.W.kat_no (TS.oneLt_ints _ hq)
theorem tups_cmp {vs : List Value} {k : Value → List Int} (hp : ∀ v ∈ vs, TS.TupInts s.heap v (k v)) : SrtO.Cmp prog w A s (tuples' true) (fun p => p.1 ∈ vs) (SrtO.lt2 fun v u => lexI (k v) (k u)) := by
  intro p q hm hm'
  have h1 := hp _ hm
  have h2 := hp _ hm'
  show wpAny (model prog w) A (keyLt' (tuples' true) p.1 q.1) (fun r s' => s' = s ∧ r = lexI (k p.1) (k q.1)) (fun _ _ => False) s
  generalize k p.1 = x at h1 ⊢
  generalize k q.1 = y at h2 ⊢
  obtain ⟨a, xs, e, ⟨o, ho, hc, n, hd⟩, i1⟩ := h1
  obtain ⟨a', ys, e', ⟨o', ho', hc', n', hd'⟩, i2⟩ := h2
  rw [e, e']
  refine PySem.W.kat_lt ho hd ho' hd' ?_
  refine kat_lexI _ _ x y _ 0 i1 i2 ?_ (.inr (.inr trivial)) ⟨rfl, rfl⟩
  have l1 := i1.length
  have l2 := i2.length
  rw [Array.length_toList] at l1 l2
  rw [decide_eq_true_eq, l1, l2]
theorem tup_firsts {h : Heap} : ∀ {vs : List Value}, (∀ v ∈ vs, ∃ n ns, TS.TupInts h v (n :: ns)) → ∃ fs : List Value, PySem.W.KatTups h vs fs ∧ fs.length = vs.length ∧ ∀ f ∈ fs, ∃ x t, f = Value.int x t
  | [], _ => ⟨[], PySem.W.KatTups.nil, rfl, fun _ hm => by simp at hm⟩
  | v :: vs, hp => by
    obtain ⟨fs, h1, h2, h3⟩ := tup_firsts (vs := vs) fun v' hm => hp v' (List.mem_cons_of_mem _ hm)
    obtain ⟨m, ms, a, xs, e, ⟨o, ho, hc, n, hd⟩, i⟩ := hp v List.mem_cons_self
    subst e
    obtain ⟨xl⟩ := xs
    cases i with
    | cons _ t i =>
      refine ⟨.int m t :: fs, PySem.W.KatTups.cons ho hc hd rfl h1, by rw [List.length_cons, List.length_cons, h2], fun f hm => ?_⟩
      rcases List.mem_cons.mp hm with rfl | hm
      · exact ⟨m, t, rfl⟩
      · exact h3 f hm
theorem tups_sortable {a : Addr} {vs : List Value} {k : Value → List Int} (h0 : 0 < vs.length) (hp : ∀ v ∈ vs, TS.TupInts s.heap v (k v)) (hne : ∀ v ∈ vs, k v ≠ []) (ha : ∀ o, s.heap.get? a = some o → o.cls ≠ .type "tuple") : SrtO.SortableO prog w A s a vs fun v u => lexI (k v) (k u) := by
  intro h' keep
  have hp' : ∀ v ∈ vs, TS.TupInts h' v (k v) := fun v hm => (hp v hm).keeps fun b o e c => keep b o (fun z => by subst z; exact ha o e c) e
  obtain ⟨fs, h1, h2, h3⟩ := tup_firsts (h := h') (vs := vs) fun v hm => by
    have := hp' v hm
    cases e : k v with
    | nil => exact absurd e (hne v hm)
    | cons n ns => exact ⟨n, ns, by rw [← e]; exact this⟩
  refine ⟨tuples' true, fun Q E hq => ?_, tups_cmp hp'⟩
  refine PySem.W.kat_kind (T := .type "int") h1 (by omega) (fun f hm => ?_) (by rfl) ?_
  · obtain ⟨x, t, rfl⟩ := h3 f hm
    exact PySem.W.Looks.now
  · have e : (Value.type "int" != Value.type "tuple") = true := by first | decide +kernel | rfl | decide
    rw [e]
    exact hq
end
section
variable {X : Cx}
/-- sorted(xs), xs a list or a tuple of tuples of ints that are not empty -/
def rSortV (K : PySem.W.Frag) : List V → Hp → VK → Prop := fun vs H Q => ∃ (a : Addr) (xs : List V) (k : V → List Int), vs = [V.ref a] ∧ (SqL K H a xs ∨ SqT K H a xs) ∧ (∀ x ∈ xs, (∃ t, x = V.ref t ∧ SqT K H t ((k x).map V.int)) ∧ k x ≠ []) ∧
  ∀ (ys : List V) (p : Addr), ys.Perm xs → ys.Pairwise (fun x y => lexI (k y) (k x) = false) → H p = none → Q (.ref p) (upd H p (.lst ys))
theorem cr_sortV : CallR X (.builtin "sorted") (rSortV X.K) := by
  intro pins s σ H vs us Q I r h
  obtain ⟨a, xs, k, rfl, hs, hx, q⟩ := h
  obtain ⟨u, rfl, ru⟩ := vals1 r
  obtain rfl : u = Value.ref a := ru
  have fin : ∀ (its out : List Value), Vals xs its → xs.length ≤ sizeLine → SrtO.Srtd (fun v u => lexI (k (backV v)) (k (backV u))) out → SrtO.Stb (fun v u => lexI (k (backV v)) (k (backV u))) out its →
      ∃ v H', Inv X pins σ H' { s with heap := sortedAll s.heap its out.toArray } ∧ L2.RelV v (Value.ref (s.heap.objs.size + 1)) ∧ Q v H' := fun its out rv hz h1 h2 => by
    obtain ⟨e1, e2⟩ := refs_back rv fun x m => by
      obtain ⟨⟨t, e, _⟩, _⟩ := hx x m
      exact ⟨t, e⟩
    obtain ⟨ep, he'⟩ := PyProof.Rows.sortedAll_at s.heap its out.toArray
    have h3 : ∀ u ∈ out, ∃ a, u = Value.ref a := fun u hu => e2 u (h2.perm.mem_iff.mp hu)
    have hp : (out.map backV).Perm xs := by
      rw [e1]
      exact h2.perm.map backV
    have hlen : (out.map backV).length ≤ sizeLine := by
      rw [hp.length_eq]
      exact hz
    refine ⟨.ref _, upd H (s.heap.objs.size + 1) (.lst (out.map backV)), I.laid (t' := s.toks) (fun _ _ => PyProof.Rows.sortedAll_old) (Nat.le_succ _) ⟨hlen, out, ep, vals_back h3, he'⟩, rfl, q _ _ hp ?_ (I.hok.fresh (Nat.le_succ _))⟩
    exact List.pairwise_map.mpr h1
  have raw : ∀ (its : List Value), Vals xs its → (∀ v ∈ its, TS.TupInts s.heap v (k (backV v))) ∧ ∀ v ∈ its, k (backV v) ≠ [] := fun its rv => by
    obtain ⟨e1, e2⟩ := refs_back rv fun x m => by
      obtain ⟨⟨t, e, _⟩, _⟩ := hx x m
      exact ⟨t, e⟩
    refine ⟨fun v hv => ?_, fun v hv => ?_⟩
    · obtain ⟨t, rfl⟩ := e2 v hv
      have hm : V.ref t ∈ xs := by rw [e1]; exact List.mem_map.mpr ⟨_, hv, rfl⟩
      obtain ⟨⟨t', e, ht⟩, _⟩ := hx _ hm
      cases e
      obtain ⟨its2, rv2, hT, _⟩ := I.tuple ht
      have i2 : IntsAre its2.toArray.toList (k (V.ref t)) := by simpa using rv2.ints
      exact ⟨t, its2.toArray, rfl, hT, i2⟩
    · obtain ⟨t, rfl⟩ := e2 v hv
      have hm : V.ref t ∈ xs := by rw [e1]; exact List.mem_map.mpr ⟨_, hv, rfl⟩
      exact (hx _ hm).2
  have sble : ∀ (its : List Value), Vals xs its → 2 ≤ its.length → ∀ (h₁ : Heap) (a : Addr), h₁.get? a = some (seqObj "list" its.toArray 0) → (∀ b o, s.heap.get? b = some o → b ≠ a ∧ h₁.get? b = some o) → SrtO.SortableO X.prog X.w X.A.in1.in1 { s with heap := h₁ } a its fun v u => lexI (k (backV v)) (k (backV u)) := fun its rv h2 h₁ a ha kk => by
    obtain ⟨f1, f2⟩ := raw its rv
    refine tups_sortable (s := { s with heap := h₁ }) (by omega) (fun v hm => (f1 v hm).keeps fun b o e _ => (kk b o e).2) f2 fun o e => ?_
    have e' : some o = some (seqObj "list" its.toArray 0) := e.symm.trans ha
    cases e'
    intro c
    exact absurd (Value.type.inj c) (by decide)
  rcases hs with hs | hs
  · obtain ⟨its, rv, hl, hz⟩ := I.list hs
    exact SrtO.sorted_ord (swo_lexI fun v => k (backV v)) hl.isList (by rw [← rv.length]; exact hz) (sble its rv) fun out h1 h2 => fin its out rv hz h1 h2
  · obtain ⟨its, rv, hl, hz⟩ := I.tuple hs
    exact sorted_tup (swo_lexI fun v => k (backV v)) hl (by rw [← rv.length]; exact hz) (sble its rv) fun out h1 h2 => fin its out rv hz h1 h2
end
end DL
namespace DL
open PySem PySem.Spec PyProof.Rows L2
/-! ### over data -/
def rowIn (a : List Int) : List (List Int) → List (List Int)
  | [] => [a]
  | b :: l => if lexI b a = true then b :: rowIn a l else a :: b :: l
def sortR : List (List Int) → List (List Int)
  | [] => []
  | a :: l => rowIn a (sortR l)
theorem rowIn_perm (a : List Int) : ∀ l, (rowIn a l).Perm (a :: l)
  | [] => List.Perm.refl _
  | b :: l => by
    unfold rowIn
    split
    · exact ((rowIn_perm a l).cons b).trans (List.Perm.swap a b l)
    · exact List.Perm.refl _
theorem sortR_perm : ∀ l, (sortR l).Perm l
  | [] => List.Perm.refl _
  | a :: l => (rowIn_perm a (sortR l)).trans ((sortR_perm l).cons a)
def RowsUp (l : List (List Int)) : Prop := l.Pairwise fun x y => lexI y x = false
theorem rowIn_up (a : List Int) : ∀ l, RowsUp l → RowsUp (rowIn a l)
  | [], _ => List.pairwise_singleton ..
  | b :: l, h => by
    obtain ⟨h1, h2⟩ := List.pairwise_cons.mp h
    unfold rowIn
    split
    · rename_i c
      refine List.pairwise_cons.mpr ⟨fun y hy => ?_, rowIn_up a l h2⟩
      rcases List.mem_cons.mp ((rowIn_perm a l).mem_iff.mp hy) with e | e
      · rw [e]; exact lexI_asym _ _ c
      · exact h1 y e
    · rename_i c
      have c : lexI b a = false := by simpa using c
      refine List.pairwise_cons.mpr ⟨fun y hy => ?_, h⟩
      rcases List.mem_cons.mp hy with e | e
      · rw [e]; exact c
      · exact lexI_tr _ _ _ c (h1 y e)
theorem sortR_up : ∀ l, RowsUp (sortR l)
  | [] => List.Pairwise.nil
  | a :: l => rowIn_up a _ (sortR_up l)
theorem rows_uniq : ∀ {l m : List (List Int)}, l.Perm m → RowsUp l → RowsUp m → l = m
  | [], m, p, _, _ => (List.Perm.eq_nil p.symm).symm
  | x :: l, [], p, _, _ => absurd p.length_eq (by simp)
  | x :: l, y :: m, p, h1, h2 => by
    obtain ⟨a1, a2⟩ := List.pairwise_cons.mp h1
    obtain ⟨b1, b2⟩ := List.pairwise_cons.mp h2
    have e : x = y := by
      refine lexI_anti x y ?_ ?_
      · rcases List.mem_cons.mp (p.mem_iff.mp List.mem_cons_self) with e | e
        · rw [e]; exact lexI_irr y
        · exact b1 x e
      · rcases List.mem_cons.mp (p.mem_iff.mpr List.mem_cons_self) with e | e
        · rw [e]; exact lexI_irr x
        · exact a1 y e
    subst e
    rw [rows_uniq p.cons_inv a2 b2]
/-- a tuple of ints as data -/
def rowD (ns : List Int) : D := .tup (ns.map D.int)
/-- tuples of ints that are not empty -/
def rowsOf : List D → Option (List (List Int))
  | [] => some []
  | .tup ds :: r => (intsOf ds).bind fun ns => if ns = [] then none else (rowsOf r).map (ns :: ·)
  | _ :: _ => none
theorem rowsOf_eq : ∀ {ds : List D} {rs : List (List Int)}, rowsOf ds = some rs → ds = rs.map rowD ∧ ∀ r ∈ rs, r ≠ []
  | [], rs, h => by cases h; exact ⟨rfl, fun r hr => nomatch hr⟩
  | d :: ds, rs, h => by
    cases d <;> simp only [rowsOf, reduceCtorEq] at h
    rename_i xs
    obtain ⟨ns, h1, h2⟩ := Option.bind_eq_some_iff.mp h
    split at h2
    · cases h2
    · rename_i hne
      obtain ⟨r2, h3, rfl⟩ := Option.map_eq_some_iff.mp h2
      obtain ⟨e1, e2⟩ := rowsOf_eq h3
      refine ⟨by rw [intsOf_eq h1, e1]; rfl, fun r hr => ?_⟩
      rcases List.mem_cons.mp hr with e | hr
      · rw [e]; exact hne
      · exact e2 r hr
def sortVD : List D → Option D
  | [.lst ds] => (rowsOf ds).map fun rs => .lst ((sortR rs).map rowD)
  | [.tup ds] => (rowsOf ds).map fun rs => .lst ((sortR rs).map rowD)
  | _ => none
end DL
set_option maxHeartbeats 4000000
namespace DL
open PySem PySem.Spec PyProof.Rows L2
section
variable {X : Cx}
def rSortW (K : PySem.W.Frag) : List V → Hp → VK → Prop := fun vs H Q => ∃ (a : Addr) (xs : List V) (rs : List (List Int)), vs = [V.ref a] ∧ (SqL K H a xs ∨ SqT K H a xs) ∧ xs.length = rs.length ∧ (∀ (i : Nat) (x : V) (r : List Int), xs[i]? = some x → rs[i]? = some r → (∃ t, x = V.ref t ∧ SqT K H t (r.map V.int)) ∧ r ≠ []) ∧
  ∀ (ys : List V) (rs' : List (List Int)) (p : Addr), rs'.Perm rs → RowsUp rs' → ys.length = rs'.length → (∀ (j : Nat) (y : V) (r : List Int), ys[j]? = some y → rs'[j]? = some r → ∃ i : Nat, xs[i]? = some y ∧ rs[i]? = some r) → H p = none → Q (.ref p) (upd H p (.lst ys))
def keyW (h : Heap) : V → List Int
  | .ref t => TS.intsOf h (.ref t)
  | _ => []
theorem cr_sortW : CallR X (.builtin "sorted") (rSortW X.K) := by
  intro pins s σ H vs us Q I r h
  obtain ⟨a, xs, rs, e, hs, hl, hx, q⟩ := h
  have hk : ∀ (i : Nat) (x : V) (r : List Int), xs[i]? = some x → rs[i]? = some r → keyW s.heap x = r := fun i x r h1 h2 => by
    obtain ⟨⟨t, rfl, ht⟩, _⟩ := hx i x r h1 h2
    obtain ⟨its2, rv2, hT, _⟩ := I.tuple ht
    have i2 : IntsAre its2.toArray.toList r := by simpa using rv2.ints
    exact (show TS.TupInts s.heap (.ref t) r from ⟨t, its2.toArray, rfl, hT, i2⟩).ints
  have hm : xs.map (keyW s.heap) = rs := by
    apply List.ext_getElem?
    intro i
    rw [List.getElem?_map]
    cases h1 : xs[i]? with
    | none =>
      have := List.getElem?_eq_none_iff.mp h1
      exact (List.getElem?_eq_none (by omega)).symm
    | some x =>
      have hi := (List.getElem?_eq_some_iff.mp h1).1
      have h2 : rs[i]? = some rs[i] := List.getElem?_eq_getElem (by omega)
      rw [h2, Option.map_some, hk i x _ h1 h2]
  refine cr_sortV pins s σ H vs us Q I r ⟨a, xs, keyW s.heap, e, hs, fun x hxm => ?_, fun ys p hp hup hn => q ys (ys.map (keyW s.heap)) p (by rw [← hm]; exact hp.map _) (List.pairwise_map.mpr hup) (by simp) (fun j y r h1 h2 => ?_) hn⟩
  · obtain ⟨i, hi, rfl⟩ := List.getElem_of_mem hxm
    have h1 : xs[i]? = some xs[i] := List.getElem?_eq_getElem hi
    have h2 : rs[i]? = some rs[i] := List.getElem?_eq_getElem (by omega)
    rw [hk i _ _ h1 h2]
    exact hx i _ _ h1 h2
  · rw [List.getElem?_map, h1] at h2
    cases h2
    obtain ⟨i, hi, e⟩ := List.getElem_of_mem (hp.mem_iff.mp (List.mem_of_getElem? h1))
    have h3 : xs[i]? = some y := by rw [List.getElem?_eq_getElem hi, e]
    refine ⟨i, h3, ?_⟩
    have h2 : rs[i]? = some rs[i] := List.getElem?_eq_getElem (by omega)
    rw [h2, hk i _ _ h3 h2]
theorem rows_rep {K : PySem.W.Frag} {pn : Pn} {G : Hp} {vs : List V} {rs : List (List Int)} (h : Reps K pn G vs (rs.map rowD)) {i : Nat} {v : V} {r : List Int} (h1 : vs[i]? = some v) (h2 : rs[i]? = some r) : Rep K pn G v (rowD r) := by
  obtain ⟨d, e1, e2⟩ := Reps.get' h h1
  rw [List.getElem?_map, h2] at e1
  cases e1
  exact e2
theorem oc_sortW : OpC X (rSortW X.K) sortVD := fun G H pn n xs ds z s p r hz Q k => by
  have fin : ∀ (a : Addr) (vs : List V) (es : List D), xs = [.ref a] → (SqL X.K H a vs ∨ SqT X.K H a vs) → Reps X.K pn G vs es → (rowsOf es).map (fun rs => D.lst ((sortR rs).map rowD)) = some z → rSortW X.K xs H Q := fun a vs es e hs rv hz => by
    obtain ⟨rs, hr, rfl⟩ := Option.map_eq_some_iff.mp hz
    obtain ⟨rfl, hne⟩ := rowsOf_eq hr
    have hl := Reps.length rv
    rw [List.length_map] at hl
    refine ⟨a, vs, rs, e, hs, hl, fun i x r h1 h2 => ⟨?_, hne r (List.mem_of_getElem? h2)⟩, fun ys rs' q hp hup hlen hj hn => ?_⟩
    · obtain ⟨t, ws, rfl, h3, h4⟩ := rows_rep rv h1 h2
      rw [Reps.ints.mp h4] at h3
      exact ⟨t, rfl, s.sqT h3⟩
    · have e1 : rs' = sortR rs := rows_uniq (hp.trans (sortR_perm rs).symm) hup (sortR_up rs)
      subst e1
      have g : Go pn G H (upd H q (.lst ys)) n := Go.new p hn
      refine k _ _ g ⟨q, ys, rfl, ?_, reps_of_get (by rw [hlen, List.length_map]) fun j d v hd hv => ?_⟩
      · rw [ext_new s hn]
        exact upd_same
      · rw [List.getElem?_map] at hd
        obtain ⟨r', h5, rfl⟩ := Option.map_eq_some_iff.mp hd
        obtain ⟨i, h6, h7⟩ := hj j v r' hv h5
        exact Rep.mono sub_ext _ _ (rows_rep rv h6 h7)
  rcases ds with _ | ⟨d, _ | ⟨e, ds⟩⟩
  · cases hz
  · obtain ⟨v, rfl, h1⟩ := reps1 r
    cases d <;> simp only [sortVD, reduceCtorEq] at hz
    · obtain ⟨a, vs, rfl, h2, h3⟩ := h1
      exact fin a vs _ rfl (.inr (s.sqT h2)) h3 hz
    · obtain ⟨a, vs, rfl, h2, h3⟩ := h1
      exact fin a vs _ rfl (.inl (SqL.of (s _ _ h2))) h3 hz
  · cases d <;> cases hz
/-- of ints or of tuples of ints -/
def sortedRD (ds : List D) : Option D := (sortedAD ds).or (sortVD ds)
theorem OpC.or {r r' : List V → Hp → VK → Prop} {f f' : List D → Option D} (h : OpC X r f) (h' : OpC X r' f') : OpC X (fun xs H Q => r xs H Q ∨ r' xs H Q) (fun ds => (f ds).or (f' ds)) := fun G H pn n xs ds z s p rr hz Q k => by
  cases e : f ds with
  | some w =>
    have hz : (f ds).or (f' ds) = some z := hz
    rw [e, Option.some_or] at hz
    cases hz
    exact .inl (h G H pn n xs ds _ s p rr e Q k)
  | none =>
    have hz : (f ds).or (f' ds) = some z := hz
    rw [e, Option.none_or] at hz
    exact .inr (h' G H pn n xs ds _ s p rr hz Q k)
theorem ed_sortedR {e : Expr} {p pos : Pos} {T : TDs} (B : NoB X.mg) (hg : Gl X "sorted") (h : AD X [e] T) (he : starEach [e] X.env = (false, eval e X.env) :: starEach [] X.env := by rfl) : ED X (.Call (.Name "sorted" p) [e] [] pos) (tCallB sortedRD T) :=
  opc (fun _ pa => pe_callB ((cr_sortedI.or cr_sortedT).or cr_sortW) hg (B _ (by decide)) (by decide +kernel) pa (he := he)) (oc_sortedA.or oc_sortW) h
/-! ### max of one list -/
def topI : Int → List Int → Int
  | k, [] => k
  | k, m :: ms => topI (if m > k then m else k) ms
theorem topI_mem : ∀ (ms : List Int) (k : Int), topI k ms ∈ k :: ms
  | [], k => by simp [topI]
  | m :: ms, k => by
    unfold topI
    have := topI_mem ms (if m > k then m else k)
    split at this <;> rename_i c
    · rw [if_pos c]
      exact List.mem_cons_of_mem _ this
    · rw [if_neg c]
      rcases List.mem_cons.mp this with e | e
      · rw [e]; exact List.mem_cons_self
      · exact List.mem_cons_of_mem _ (List.mem_cons_of_mem _ e)
theorem topI_ge : ∀ (ms : List Int) (k : Int), k ≤ topI k ms ∧ ∀ m ∈ ms, m ≤ topI k ms
  | [], k => ⟨Int.le_refl _, fun m hm => nomatch hm⟩
  | m :: ms, k => by
    unfold topI
    obtain ⟨h1, h2⟩ := topI_ge ms (if m > k then m else k)
    have h3 : k ≤ (if m > k then m else k) ∧ m ≤ (if m > k then m else k) := by
      split <;> omega
    refine ⟨by omega, fun x hx => ?_⟩
    rcases List.mem_cons.mp hx with e | e
    · rw [e]; omega
    · exact h2 x e
def max1D : List D → Option D
  | [.lst ds] => match intsOf ds with
    | some (k :: ks) => some (.int (topI k ks))
    | _ => none
  | _ => none
theorem oc_max1 : OpC X (rMax X.K) max1D := .val fun G H pn xs ds z s r hz => by
  rcases ds with _ | ⟨d, _ | ⟨e, ds⟩⟩
  · cases hz
  · obtain ⟨v, rfl, h1⟩ := reps1 r
    cases d <;> simp only [max1D, reduceCtorEq] at hz
    rename_i es
    obtain ⟨a, vs, rfl, h2, h3⟩ := h1
    cases hb : intsOf es with
    | none => rw [hb] at hz; cases hz
    | some ns =>
      rw [hb] at hz
      cases ns with
      | nil => cases hz
      | cons k ks =>
        cases hz
        rw [intsOf_eq hb] at h3
        rw [Reps.ints.mp h3] at h2
        refine ⟨.int (topI k ks), rfl, fun Q q => ⟨a, k :: ks, rfl, SqL.of (s _ _ h2), by simp, fun m hm hmax => ?_⟩⟩
        have e : m = topI k ks := by
          have g1 := hmax _ (topI_mem ks k)
          obtain ⟨g2, g3⟩ := topI_ge ks k
          have g4 : m ≤ topI k ks := by
            rcases List.mem_cons.mp hm with e | e
            · rw [e]; exact g2
            · exact g3 m e
          omega
        rw [e]
        exact q
  · cases d <;> cases hz
theorem ed_max1 {e : Expr} {p pos : Pos} {T : TDs} (B : NoB X.mg) (hc : X.calm = true) (hg : Gl X "max") (h : AD X [e] T) (he : starEach [e] X.env = (false, eval e X.env) :: starEach [] X.env := by rfl) : ED X (.Call (.Name "max" p) [e] [] pos) (tCallB max1D T) :=
  opc (fun _ pa => pe_callB (cr_max hc) hg (B _ (by decide)) (by decide +kernel) pa (he := he)) oc_max1 h
/-! ### two tuples walked side by side, under a lock -/
def wZipP (Ta : TDs) : TDs := fun ρ n q => Ta ρ n fun as n => ∃ ds es, as = [.tup ds, .tup es] ∧ pureDs ds = true ∧ pureDs es = true ∧ q (zipD ds es) n
theorem wdp_zip {a b : Expr} {Ta : TDs} {p pos tpos : Pos} {elts : List Expr} {kk : Nat} (B : NoB X.mg) (hg : Gl X "zip") (ha : AD X [a, b] Ta) (hs : starEach [a, b] X.env = (false, eval a X.env) :: starEach [b] X.env := by rfl) (hpl : (backTo pos (starEach [b] X.env)).any (·.1) = false := by rfl) : WDp X (.Tuple elts kk tpos) (.Call (.Name "zip" p) [a, b] [] pos) (wZipP Ta) := by
  obtain ⟨t, pa, k⟩ := ha
  refine ⟨_, RZ.pi_zipA hg (B _ (by decide)) pa hs hpl, fun σ H G pn n ρ q A hT R kr => ?_⟩
  refine k σ H G pn n ρ _ A hT _ fun vs H1 ⟨as, n1, g1, r1, ds, es, hd, hp1, hp2, hq⟩ => ?_
  have A1 := A.go g1
  subst hd
  obtain ⟨v, w, rfl, h1, h2⟩ := reps2 r1
  obtain ⟨a, xs, rfl, h3, h4⟩ := h1
  obtain ⟨b, ys, rfl, h5, h6⟩ := h2
  exact ⟨a, b, xs, ys, rfl, .inr ⟨A1.sub.sqT h3, A1.sub.sqT h5, kr _ _ n1 H1 g1 hq fun Gf tl => walks_zipT (tl.sqT h3) (tl.sqT h5) (Reps.pure tl _ _ hp1 h4) (Reps.pure tl _ _ hp2 h6)⟩⟩
end
end DL
set_option maxHeartbeats 4000000
/-! rows = [[] for x in xs] -/
namespace DL
open PySem PySem.Spec PyProof.Rows L2
section
variable {C : Cn} {X : Cx} {r : Nat} {Ol O O' O'' : List Nat}
/-- while the list of lists is made: D the list, bs those within -/
structure Mk (H1 Hh : Hp) (Dd : Addr) (bs : List Addr) : Prop where
  old : Sub H1 Hh
  out : Hh Dd = some (.lst (bs.map .ref))
  ins : ∀ b ∈ bs, Hh b = some (.lst [])
  fr : ∀ b ∈ bs, H1 b = none
  nd : (Dd :: bs).Nodup
def sNest (r : Nat) (Tw : TDs) : TDS := fun Dd ρ n => Tw ρ n fun ds n => r < ρ.length ∧ ds.length ≤ 1000 ∧ Dd.nx (ρ.set r (some (nestD (ds.map fun _ => [])))) n
theorem s_nest {st : Stmt} {rest : List Stmt} {wi : TI} {kx : Nat} {vs : List Nat} {Tw : TDs} {U : TDS} (h : PS X st (tAsg (tLc wi (gName kx) tYes (tLst tNil) vs) (gName r))) (hk : kx ∈ vs)
    (kw : ∀ (σ : L2.St) (H G : Hp) (pn : Pn) (n : Nat) (ρ : DL.Env) (q : List D → Nat → Prop), At X.K pn G H σ ρ n → Tw ρ n q → ∀ R : It → Hp → Prop, (∀ J ds n' H', Go pn G H H' n' → q ds n' → Walks X.K pn J (ext G H H') ds → R J H') → wi σ H R)
    (hrest : SN C X r [] [] rest O' U) (hio : ∀ i ∈ O', i ∈ C.io → i ∈ ([] : List Nat) := by decide) : SD C X [] [] (st :: rest) [] (sSeq (sNest r Tw) U) := by
  obtain ⟨u, p2, k2⟩ := hrest
  refine ⟨_, pss_cons h p2, fun σ H G G0 H0 pn F n ρ Dd S hT E ke => ?_⟩
  obtain ⟨Ge, s1, _, A, st⟩ := S.step [] (fun _ h => nomatch h) (fun _ h => nomatch h)
  rw [hide_nil] at A
  refine kw σ H Ge pn n ρ _ A hT _ fun J ds n1 H1 g1 ⟨hrl, hds, hq⟩ w => ?_
  have S1 := st H1 _ n1 g1 sub_ext (Sub.refl _)
  have gH : Sub (ext Ge H H1) H1 := S1.sub
  intro Da hD
  refine ⟨fun i m Hh => m = ds.length - i ∧ i ≤ ds.length ∧ ∃ bs, Mk H1 Hh Da bs ∧ bs.length = i, ⟨ds.length, by simp, Nat.zero_le _, [], ⟨fun a o e => by rw [upd_ne (ne_of_none e hD)]; exact e, upd_same, fun b hb => (nomatch hb), fun b hb => (nomatch hb), by simp⟩, rfl⟩, ?_⟩
  rintro i m Hh ⟨rfl, hi, bs, M, hl⟩
  by_cases hlt : i < ds.length
  · refine .inr ⟨w.go i Hh (gH.trans M.old) hlt, fun H' => ∃ bs, Mk H1 H' Da bs ∧ bs.length = i + 1, fun H' ⟨bs', M', hl'⟩ => ⟨ds.length - (i + 1), by omega, rfl, hlt, bs', M', hl'⟩, fun x H2 y => ?_⟩
    obtain ⟨s2, _⟩ := w.yld i Hh x H2 (gH.trans M.old) y
    refine ⟨wipe_same (ts := [kx]) (by simp) (fun j hj => List.getElem?_set_ne fun e => hj (by simp [e])) (fun j hj => by rw [List.mem_singleton.mp hj]; exact hk), ?_⟩
    change _ ∧ _
    refine ⟨Nat.zero_le _, fun p hp => ?_⟩
    have hpo : ∀ {a : Addr} {o : HO}, H2 a = some o → a ≠ p := fun {a o} e z => by rw [z, hp] at e; cases e
    have pD : Da ≠ p := hpo (s2 _ _ M.out)
    refine ⟨bs.map .ref, by rw [upd_ne pD]; exact s2 _ _ M.out, ?_, bs ++ [p], ⟨fun a o e => ?_, ?_, fun b hb => ?_, fun b hb => ?_, ?_⟩, by simp [hl]⟩
    · rw [List.length_map, sizeLine_eq]
      omega
    · have e2 := s2 _ _ (M.old _ _ e)
      have nD : a ≠ Da := fun z => by rw [z, hD] at e; cases e
      rw [upd_ne nD, upd_ne (hpo e2)]
      exact e2
    · rw [upd_same, List.map_append]
      rfl
    · rcases List.mem_append.mp hb with hb | hb
      · have nD : b ≠ Da := fun z => (List.nodup_cons.mp M.nd).1 (z ▸ hb)
        have e2 := s2 _ _ (M.ins b hb)
        rw [upd_ne nD, upd_ne (hpo e2)]
        exact e2
      · rw [List.mem_singleton.mp hb, upd_ne (Ne.symm pD)]
        exact upd_same
    · rcases List.mem_append.mp hb with hb | hb
      · exact M.fr b hb
      · rw [List.mem_singleton.mp hb]
        cases z : H1 p with
        | none => rfl
        | some o => exact absurd rfl (hpo (s2 _ _ (M.old _ _ z)))
    · have n1 := List.nodup_cons.mp M.nd
      refine List.nodup_cons.mpr ⟨fun z => ?_, List.nodup_append.mpr ⟨n1.2, by simp, fun a ha b hb => ?_⟩⟩
      · rcases List.mem_append.mp z with z | z
        · exact n1.1 z
        · exact pD (List.mem_singleton.mp z)
      · rw [List.mem_singleton.mp hb]
        exact hpo (s2 _ _ (M.ins a ha))
  · refine .inl ⟨w.stop i Hh (gH.trans M.old) (by omega), ?_⟩
    have S2 : Sat C X.K pn F G0 H0 (ext Ge H H1) Hh σ ρ [] n1 := S1.go (Go.of_sub S1.pst M.old) (Sub.refl _) sub_ext
    have fresh : ∀ a ∈ Da :: bs, H1 a = none := fun a ha => by
      rcases List.mem_cons.mp ha with e | ha
      · rw [e]; exact hD
      · exact M.fr a ha
    have hbl : bs.length = ds.length := by omega
    have S3 : SatN C X.K pn F G0 H0 (ext Ge H H1) Hh (σ.set r (some (.ref Da))) (ρ.set r (some (nestD (ds.map fun _ => [])))) [] n1 r Da bs := by
      refine ⟨?_, ⟨ds.map fun _ => [], ⟨M.out, by simp [hbl], fun j b hb => ?_, M.nd, fun a ha => ?_⟩, List.getElem?_set_self hrl⟩, List.getElem?_set_self (by rw [S2.len]; exact hrl), fun a ha => S1.fresh (fresh a ha), fun i hi => (nomatch hi), fun z => nomatch z⟩
      · rw [List.set_set]
        refine S2.set (ts := [r]) (fun i d hi hd => ?_) (by simp) (by simp) fun i hi => ?_
        · by_cases h : i = r
          · subst h
            rw [List.getElem?_set_self hrl] at hd
            cases hd
          · rw [set_get_ne h] at hd
            obtain ⟨v, e1, e2⟩ := S2.env i d (fun z => nomatch z) hd
            exact ⟨v, by rw [List.getElem?_set_ne (Ne.symm h)]; exact e1, e2⟩
        · have h : r ≠ i := fun e => hi (by simp [e])
          exact ⟨List.getElem?_set_ne h, List.getElem?_set_ne h⟩
      · have hj : j < ds.length := by
          have := (List.getElem?_eq_some_iff.mp hb).1
          omega
        refine ⟨[], [], M.ins b (List.mem_of_getElem? hb), ?_, rfl⟩
        rw [List.getElem?_map, List.getElem?_eq_getElem hj]
        rfl
      · cases z : ext Ge H H1 a with
        | none => rfl
        | some o =>
          have := gH _ _ z
          rw [fresh a ha] at this
          cases this
    refine k2 _ Hh _ G0 H0 pn F n1 _ Dd Da bs S3 hq E ⟨fun σ4 H4 G4 ρ4 n4 s4 S4 h4 => ?_, fun v H4 G4 σ4 ρ4 d4 n4 s4 => ke.rt v H4 G4 σ4 ρ4 d4 n4 ((s1.trans sub_ext).trans s4), fun σ4 H4 G4 ρ4 n4 s4 S4 h4 => ?_, fun σ4 H4 G4 ρ4 n4 s4 S4 h4 => ?_⟩
    · obtain ⟨G5, s5, S5⟩ := S4.freeze hio
      exact ke.nx σ4 H4 G5 ρ4 n4 (((s1.trans sub_ext).trans s4).trans s5) S5 h4
    · obtain ⟨G5, s5, S5⟩ := S4.freeze fun _ h => nomatch h
      exact ke.bk σ4 H4 G5 ρ4 n4 (((s1.trans sub_ext).trans s4).trans s5) S5 h4
    · obtain ⟨G5, s5, S5⟩ := S4.freeze fun _ h => nomatch h
      exact ke.ct σ4 H4 G5 ρ4 n4 (((s1.trans sub_ext).trans s4).trans s5) S5 h4
end
end DL
set_option maxHeartbeats 4000000
namespace DL
open PySem PySem.Spec PyProof.Rows L2
section
variable {C : Cn} {X : Cx} {r : Nat} {Ol O O' O'' : List Nat}
theorem n_asgP {st : Stmt} {e : Expr} {g : TG} {f : D → DL.Env → Option DL.Env} {ts : List Nat} {Te : TD} (mk : ∀ te, PE X e te → PS X st (tAsg te g)) (h : ED X e Te) (tr : TgRun X.K g f ts) (hr : r ∉ ts := by decide) : N1 C X r Ol O st (O.filter (· ∉ ts)) (sAsgP f Te) := by
  obtain ⟨t, p, k⟩ := h
  refine ⟨_, mk _ p, fun σ H G G0 H0 pn F n ρ Dd R bs S hT E ke => ?_⟩
  obtain ⟨Ge, s1, A, _, st⟩ := S.stepP
  refine k σ H Ge pn n _ _ A hT _ fun v H1 ⟨d, n1, g1, r1, hp, ρ', hf, hq⟩ => ?_
  obtain ⟨Gf, s2, _, mk2, tl, _⟩ := st H1 n1 g1
  have S1 := mk2 _ sub_ext (Sub.refl _)
  refine tr.run σ H1 _ pn (r :: O) v d ρ ρ' S1.S.sub (Rep.pure tl d v hp r1) hf S1.env S1.len _ fun σ' env' l1 l2 same => ?_
  exact ke.nx σ' H1 _ ρ' n1 (s2.trans sub_ext) (S1.set env' l1 l2 same hr) hq
theorem s_nestW {st : Stmt} {rest : List Stmt} {tg iter : Expr} {kx : Nat} {vs : List Nat} {Tw : TDs} {U : TDS} (mk : ∀ wi, PI X tg iter wi → PS X st (tAsg (tLc wi (gName kx) tYes (tLst tNil) vs) (gName r))) (hw : WD X tg iter Tw)
    (hrest : SN C X r [] [] rest O' U) (hk : kx ∈ vs := by decide) (hio : ∀ i ∈ O', i ∈ C.io → i ∈ ([] : List Nat) := by decide) : SD C X [] [] (st :: rest) [] (sSeq (sNest r Tw) U) := by
  obtain ⟨wi, pi, kw⟩ := hw
  exact s_nest (mk _ pi) hk kw hrest hio
end
end DL
set_option maxHeartbeats 4000000
/-! len(set(xs)), xs a list of tuples of ints -/
namespace DL
open PySem PySem.Spec PyProof.Rows L2
def distR : List (List Int) → Nat
  | [] => 0
  | x :: xs => if x ∈ xs then distR xs else distR xs + 1
theorem distR_of : ∀ (ns l : List (List Int)), l.Nodup → (∀ k, k ∈ l ↔ k ∈ ns) → l.length = distR ns
  | [], l, _, h => by
    cases l with
    | nil => rfl
    | cons x r => exact absurd ((h x).mp List.mem_cons_self) (by simp)
  | x :: xs, l, nd, h => by
    unfold distR
    by_cases hx : x ∈ xs
    · rw [if_pos hx]
      refine distR_of xs l nd fun k => (h k).trans ⟨fun z => ?_, fun z => List.mem_cons_of_mem _ z⟩
      rcases List.mem_cons.mp z with e | z
      · rw [e]; exact hx
      · exact z
    · rw [if_neg hx]
      have hm : x ∈ l := (h x).mpr List.mem_cons_self
      have h1 := distR_of xs (l.erase x) (nd.erase x) fun k => by
        rw [nd.mem_erase_iff, h k, List.mem_cons]
        exact ⟨fun ⟨a, b⟩ => b.resolve_left a, fun z => ⟨fun e => hx (e ▸ z), .inr z⟩⟩
      rw [List.length_erase_of_mem hm] at h1
      have : 0 < l.length := List.length_pos_of_mem hm
      omega
theorem rows_keys {K : PySem.W.Frag} {pn : Pn} {G : Hp} : ∀ {rs : List (List Int)} {ws : List V}, Reps K pn G ws (rs.map rowD) → ∃ ks : List (Addr × List Int), ws = ks.map (fun p => V.ref p.1) ∧ ks.map (·.2) = rs ∧ ∀ p ∈ ks, SqT K G p.1 (p.2.map V.int)
  | [], ws, h => ⟨[], h, rfl, fun p hp => nomatch hp⟩
  | r :: rs, ws, h => by
    obtain ⟨v, vs, rfl, ⟨t, us, rfl, h1, h2⟩, h3⟩ := h
    obtain ⟨ks, rfl, e2, e3⟩ := rows_keys h3
    rw [Reps.ints.mp h2] at h1
    refine ⟨(t, r) :: ks, rfl, by rw [List.map_cons, e2], fun p hp => ?_⟩
    rcases List.mem_cons.mp hp with e | hp
    · rw [e]; exact h1
    · exact e3 p hp
def tLenSetR (K : PySem.W.Frag) (ta : TE) : TE := fun σ H Q => ta σ H fun x H1 => ∃ (l : Addr) (ks : List (Addr × List Int)), x = .ref l ∧ SqL K H1 l (ks.map fun p => V.ref p.1) ∧ (∀ p ∈ ks, SqT K H1 p.1 (p.2.map V.int)) ∧ ks.length < 64 ∧ Q (.int (distR (ks.map (·.2)) : Nat)) H1
theorem pe_lenSetR {X : Cx} {a : Expr} {ta : TE} {p p2 q pos : Pos} (hu : X.A.units + 64 < cLine) (hg : Gl X "len") (hm : X.mg "len" = none) (hg2 : Gl X "set") (hm2 : X.mg "set" = none) (ha : PE X a ta) (hc : X.calm = true)
    (na : starEach [a] X.env = (false, eval a X.env) :: starEach [] X.env := by rfl) (nb : starEach [.Call (.Name "set" p2) [a] [] q] X.env = (false, eval (.Call (.Name "set" p2) [a] [] q) X.env) :: starEach [] X.env := by rfl) : PE X (.Call (.Name "len" p) [.Call (.Name "set" p2) [a] [] q] [] pos) (tLenSetR X.K ta) := by
  refine ⟨fun pins s σ H Q I h => Call_ (ld_blt I hg hm boot_len ?_)⟩
  refine PyProof.Rows.callWith_builtin1 (PyProof.Rows.args_cons ?_ nb) nb rfl
  refine Call_ (ld_blt I hg2 hm2 boot_set (PyProof.Rows.callWith_type1 (PyProof.Rows.args_cons (thn (ha.run pins s σ H _ I h) fun v s1 ⟨x, H1, I1, r1, q1⟩ => PyProof.Rows.args_nil ?_) na) na rfl))
  obtain ⟨l, ks, rfl, hq, hk, h64, q1⟩ := q1
  obtain rfl : v = Value.ref l := r1
  obtain ⟨its, r, pl, hz⟩ := I1.list hq
  refine call_set_tups (P := X.prog) (w := X.w) ks (I1.ok.hd hc) pl.isList (by simpa using refs_of_vals r) (fun p hp => I1.isT (hk p hp)) h64 (by omega) fun h' tk L es ep t R g k => ?_
  refine PyProof.Rows.args_nil ?_
  obtain ⟨o, ho, hex, hd⟩ := R.ob
  have I2 : Inv X pins σ H1 { s1 with heap := h', toks := tk } := I1.kept k
  have hn : es.size = distR (ks.map (·.2)) := by
    have h1 : es.size = L.length := by
      have e := congrArg List.length R.rows
      unfold L2.rowsOf at e
      rw [Array.length_toList, List.length_map] at e
      exact e
    have h2 := distR_of (ks.map (·.2)) (L.map (·.2)) R.nd fun k => ⟨fun hk' => ?_, fun hk' => ?_⟩
    · rw [List.length_map] at h2
      exact h1.trans h2
    · obtain ⟨z, hz, rfl⟩ := List.mem_map.mp hk'
      exact List.mem_map.mpr ⟨z, List.mem_of_mem_take (g.sub z hz), rfl⟩
    · obtain ⟨z, hz, rfl⟩ := List.mem_map.mp hk'
      exact g.all z (by rw [List.take_length]; exact hz)
  have hfew := R.few
  have hsz : es.size = L.length := by
    have e := congrArg List.length R.rows
    unfold L2.rowsOf at e
    rw [Array.length_toList, List.length_map] at e
    exact e
  exact call_len_set ho hex hd (SetTR.fits (s := { s1 with heap := h', toks := tk }) R) (by omega) ⟨.int (distR (ks.map (·.2)) : Nat), H1, I2.tok _, ⟨_, by rw [hn]⟩, q1⟩
def lensetRD : D → Option D
  | .lst ds => (rowsOf ds).bind fun rs => if rs.length < 64 then some (.int (distR rs : Nat)) else none
  | _ => none
section
variable {X : Cx}
theorem ed_lensetR {a : Expr} {Ta : TD} {p p2 q pos : Pos} (B : NoB X.mg) (hu : X.A.units + 64 < cLine) (hc : X.calm = true) (hg : Gl X "len") (hg2 : Gl X "set") (h : ED X a Ta) (na : starEach [a] X.env = (false, eval a X.env) :: starEach [] X.env := by rfl)
    (nb : starEach [.Call (.Name "set" p2) [a] [] q] X.env = (false, eval (.Call (.Name "set" p2) [a] [] q) X.env) :: starEach [] X.env := by rfl) : ED X (.Call (.Name "len" p) [.Call (.Name "set" p2) [a] [] q] [] pos) (tOp1D lensetRD Ta) := by
  obtain ⟨t, pa, k⟩ := h
  refine ⟨_, pe_lenSetR hu hg (B _ (by decide)) hg2 (B _ (by decide)) pa hc na nb, fun σ H G pn n ρ q A hT Q kq => ?_⟩
  refine k σ H G pn n ρ _ A hT _ fun v H1 ⟨d, n1, g1, r1, z, hz, hq⟩ => ?_
  have A1 := A.go g1
  cases d <;> simp only [lensetRD, reduceCtorEq] at hz
  obtain ⟨rs, hrs, h2⟩ := Option.bind_eq_some_iff.mp hz
  split at h2
  · rename_i hlim
    cases h2
    obtain ⟨a, vs, rfl, h3, h4⟩ := r1
    rw [(rowsOf_eq hrs).1] at h4
    obtain ⟨ks, rfl, rfl, e3⟩ := rows_keys h4
    refine ⟨a, ks, rfl, SqL.of (A1.sub _ _ h3), fun p hp => A1.sub.sqT (e3 p hp), by simpa using hlim, kq _ H1 ⟨_, n1, g1, ?_, hq⟩⟩
    exact (rfl : V.int _ = V.int _)
  · cases h2
end
end DL
set_option maxHeartbeats 4000000
/-! stars in displays; x is True -/
namespace DL
open PySem PySem.Spec PyProof.Rows L2
section
variable {X : Cx}
def aStar (Ta : TD) (Tr : TDs) : TDs := fun ρ n q => Ta ρ n fun d n => ∃ ds, (d = .lst ds ∨ d = .tup ds) ∧ Tr ρ n fun xs n => q (ds ++ xs) n
theorem ad_star {e : Expr} {p : Pos} {es : List Expr} {Ta : TD} {Tr : TDs} (h : ED X e Ta) (hr : AD X es Tr) (hs : starEach (.Starred e p :: es) X.env = (true, eval e X.env) :: starEach es X.env := by rfl) : AD X (.Starred e p :: es) (aStar Ta Tr) := by
  obtain ⟨t, pe, k⟩ := h
  obtain ⟨t2, p2, k2⟩ := hr
  refine ⟨_, StX.pa_star pe p2 hs, fun σ H G pn n ρ q A hT Q kq => ?_⟩
  refine k σ H G pn n ρ _ A hT _ fun v H1 ⟨d, n1, g1, r1, ds, hd, hq⟩ => ?_
  have A1 := A.go g1
  have fin : ∀ (a : Addr) (vs : List V), v = .ref a → (SqT X.K H1 a vs ∨ SqL X.K H1 a vs) → Reps X.K pn (ext G H H1) vs ds → ∃ p xs, v = V.ref p ∧ (SqT X.K H1 p xs ∨ SqL X.K H1 p xs) ∧ t2 σ H1 fun ys H2 => Q (xs ++ ys) H2 := fun a vs e hs rv => by
    refine ⟨a, vs, e, hs, k2 σ H1 _ pn n1 ρ _ A1 hq _ fun ws H2 ⟨es', n2, g2, r2, hq2⟩ => kq _ H2 ⟨ds ++ es', n2, g1.trans g2, ?_, hq2⟩⟩
    have rv := Reps.mono (sub_ext (G := ext G H H1) (H := H1) (H' := H2)) _ _ rv
    rw [A.ext_ext g1 g2] at r2 rv
    exact Reps.append rv r2
  rcases hd with rfl | rfl
  · obtain ⟨a, vs, e, h1, h2⟩ := r1
    exact fin a vs e (.inr (SqL.of (A1.sub _ _ h1))) h2
  · obtain ⟨a, vs, e, h1, h2⟩ := r1
    exact fin a vs e (.inl (A1.sub.sqT h1)) h2
theorem op_isB : OpR X (compareOp .Is) (fun x y H Q => ∃ a b, x = .bl a ∧ y = .bl b ∧ Q (.bl (decide (a = b))) H) := by
  intro pins s σ H x y v u Q I rx ry h
  obtain ⟨a, b, rfl, rfl, q⟩ := h
  cases (show v = Value.bool a from rx)
  cases (show u = Value.bool b from ry)
  exact wpAny_is_plain rfl (fin_bl I q (by cases a <;> cases b <;> rfl))
theorem op_isNotB : OpR X (compareOp .IsNot) (fun x y H Q => ∃ a b, x = .bl a ∧ y = .bl b ∧ Q (.bl (!decide (a = b))) H) := by
  intro pins s σ H x y v u Q I rx ry h
  obtain ⟨a, b, rfl, rfl, q⟩ := h
  cases (show v = Value.bool a from rx)
  cases (show u = Value.bool b from ry)
  exact wpAny_isNot_plain rfl (fin_bl I q (by cases a <;> cases b <;> rfl))
def isBD : D → D → Option D
  | .bl a, .bl b => some (.bl (decide (a = b)))
  | _, _ => none
def notBD : D → D → Option D
  | .bl a, .bl b => some (.bl (!decide (a = b)))
  | _, _ => none
theorem o2_isB : Op2 X (fun x y H Q => ∃ a b, x = .bl a ∧ y = .bl b ∧ Q (.bl (decide (a = b))) H) isBD := .val fun G H pn x y d e z s r1 r2 hz => by
  cases d <;> cases e <;> simp only [isBD, Option.some.injEq, reduceCtorEq] at hz
  subst hz
  exact ⟨_, rfl, fun Q q => ⟨_, _, r1, r2, q⟩⟩
theorem o2_isNotB : Op2 X (fun x y H Q => ∃ a b, x = .bl a ∧ y = .bl b ∧ Q (.bl (!decide (a = b))) H) notBD := .val fun G H pn x y d e z s r1 r2 hz => by
  cases d <;> cases e <;> simp only [notBD, Option.some.injEq, reduceCtorEq] at hz
  subst hz
  exact ⟨_, rfl, fun Q q => ⟨_, _, r1, r2, q⟩⟩
end
end DL
set_option maxHeartbeats 4000000
namespace K10
open PySem PySem.Spec PyProof.Rows L2 DL
def topS (i : Nat) : Stmt := PySem.Challenge.pw_watchzones_k10_queries_recognized.main.body.getD i (.Pass ⟨0, 0, 0, 0⟩)
section
variable {P : Program} {w : World} {K : PySem.W.Frag} {mg : Str → Option Value} {base : Heap}

abbrev s_is_integer : Stmt := topS 2
theorem sc_is_integer : FnScope ["value"] ["value"] (defScope s_is_integer) := ⟨rfl, rfl, rfl, by decide +kernel, rfl, by decide +kernel, by decide +kernel⟩
def T_is_integer : FT := fnD 1 1 (sRet (tAndD (tIsi "int" (tVarD 0)) (tNotD (tIsi "bool" (tVarD 0)))))
theorem ok_is_integer (B : NoB mg) {f_is_integer : Addr} {fd_is_integer : FuncData} (E_is_integer : Ent K mg "is_integer" s_is_integer ["value"] f_is_integer fd_is_integer) : FnOk P w K mg base CX0 1 f_is_integer fd_is_integer ["value"] (lift K 1 T_is_integer) := by
  refine fn_D 1 1 rfl rfl (by decide) E_is_integer.F sc_is_integer [] fun cdv A outer s H E hr => ⟨[], ?_⟩
  have nd := sc_is_integer.nd
  exact (s_one (s_ret (ed_and (ed_isi (T := "int") B (by decide +kernel) (by rfl) (by rfl) (by decide) (by decide +kernel) (ed_var (pv 0))) (ed_one (ed_not (ed_isi (T := "bool") B (by decide +kernel) (by rfl) (by rfl) (by decide) (by decide +kernel) (ed_var (pv 0))))))))

abbrev s_lies_between : Stmt := topS 3
theorem sc_lies_between : FnScope ["value", "low", "high"] ["value", "low", "high"] (defScope s_lies_between) := ⟨rfl, rfl, rfl, by decide +kernel, rfl, by decide +kernel, by decide +kernel⟩
def T_lies_between : FT := fnD 3 3 (sRet (tAndD (tCallD T_is_integer (aCons (tVarD 0) aNil)) (tChainD leD leD (tVarD 1) (tVarD 0) (tVarD 2))))
theorem ok_lies_between (B : NoB mg) {f_is_integer : Addr} {fd_is_integer : FuncData} (E_is_integer : Ent K mg "is_integer" s_is_integer ["value"] f_is_integer fd_is_integer) (G_is_integer : FnOk P w K mg base CX0 1 f_is_integer fd_is_integer ["value"] (lift K 1 T_is_integer)) {f_lies_between : Addr} {fd_lies_between : FuncData} (E_lies_between : Ent K mg "lies_between" s_lies_between ["value", "low", "high"] f_lies_between fd_lies_between) : FnOk P w K mg base CX0 2 f_lies_between fd_lies_between ["value", "low", "high"] (lift K 3 T_lies_between) := by
  refine fn_D 3 3 rfl rfl (by decide) E_lies_between.F sc_lies_between [] fun cdv A outer s H E hr => ⟨[], ?_⟩
  have nd := sc_lies_between.nd
  exact (s_one (s_ret (ed_and (ed_call G_is_integer (by first | exact hr | exact hr.mono (by decide) | exact hr.mono (by omega)) (by rfl) E_is_integer.g E_is_integer.F.kp E_is_integer.b (ad_cons (ed_var (pv 0)) ad_nil) (fun _ _ _ h => h.1)) (ed_one (ed_chain op_le op_le o2_cmpI o2_cmpI (ed_var (pv 1)) (ed_var (pv 0)) (ed_var (pv 2)))))))

abbrev s_is_tuple_of : Stmt := topS 4
theorem sc_is_tuple_of : FnScope ["value", "many"] ["value", "many"] (defScope s_is_tuple_of) := ⟨rfl, rfl, rfl, by decide +kernel, rfl, by decide +kernel, by decide +kernel⟩
def T_is_tuple_of : FT := fnD 2 2 (sRet (tAndD (tIsi "tuple" (tVarD 0)) (tOpD eqD (tCallB lenD (aCons (tVarD 0) aNil)) (tVarD 1))))
theorem ok_is_tuple_of (B : NoB mg) {f_is_tuple_of : Addr} {fd_is_tuple_of : FuncData} (E_is_tuple_of : Ent K mg "is_tuple_of" s_is_tuple_of ["value", "many"] f_is_tuple_of fd_is_tuple_of) : FnOk P w K mg base CX0 1 f_is_tuple_of fd_is_tuple_of ["value", "many"] (lift K 2 T_is_tuple_of) := by
  refine fn_D 2 2 rfl rfl (by decide) E_is_tuple_of.F sc_is_tuple_of [] fun cdv A outer s H E hr => ⟨[], ?_⟩
  have nd := sc_is_tuple_of.nd
  exact (s_one (s_ret (ed_and (ed_isi (T := "tuple") B (by decide +kernel) (by rfl) (by rfl) (by decide) (by decide +kernel) (ed_var (pv 0))) (ed_one (ed_cmp ((op_eqD hr.units).or op_eq) (nomark _) o2_eq (ed_len B (by rfl) (ad_cons (ed_var (pv 0)) ad_nil)) (ed_var (pv 1)))))))

abbrev s__is_side : Stmt := topS 6
theorem sc__is_side : FnScope ["value", "names"] ["value", "names"] (defScope s__is_side) := ⟨rfl, rfl, rfl, by decide +kernel, rfl, by decide +kernel, by decide +kernel⟩
def T__is_side : FT := fnD 2 2 (sRet (tOrD (tOpD isD (tVarD 0) (tCD .non)) (tAndD (tNotD (tIsi "bool" (tVarD 0))) (tOpD (inAD false) (tVarD 0) (tVarD 1)))))
theorem ok__is_side (B : NoB mg) {f__is_side : Addr} {fd__is_side : FuncData} (E__is_side : Ent K mg "_is_side" s__is_side ["value", "names"] f__is_side fd__is_side) : FnOk P w K mg base CX0 1 f__is_side fd__is_side ["value", "names"] (lift K 2 T__is_side) := by
  refine fn_D 2 2 rfl rfl (by decide) E__is_side.F sc__is_side [] fun cdv A outer s H E hr => ⟨[], ?_⟩
  have nd := sc__is_side.nd
  exact (s_one (s_ret (ed_or (ed_cmp op_isN (nomark _) o2_is (ed_var (pv 0)) ed_non) (ed_one (ed_and (ed_not (ed_isi (T := "bool") B (by decide +kernel) (by rfl) (by rfl) (by decide) (by decide +kernel) (ed_var (pv 0)))) (ed_one (ed_cmp (op_in_seq.or (op_inG hr.units)) (by rfl) (o2_in.or o2_inG) (ed_var (pv 0)) (ed_var (pv 1)))))))))

abbrev s_is_constraint : Stmt := topS 5
theorem sc_is_constraint : FnScope ["value", "names", "x", "y", "c"] ["value", "names"] (defScope s_is_constraint) := ⟨rfl, rfl, rfl, by decide +kernel, rfl, by decide +kernel, by decide +kernel⟩
def T_is_constraint : FT := fnD 2 5 (sSeq (sIf (bNot (bVal (tCallD T_is_tuple_of (aCons (tVarD 0) (aCons (tCD (.int 3)) aNil))))) (sRet (tCD (.bl false))) sNil) (sSeq (sAsg [] (fTup 3 (fsCons (fName 2) (fsCons (fName 3) (fsCons (fName 4) fsNil)))) (tVarD 0)) (sSeq (sIf (bOr (bNot (bVal (tCallD T__is_side (aCons (tVarD 2) (aCons (tVarD 1) aNil))))) (bOr (bNot (bVal (tCallD T__is_side (aCons (tVarD 3) (aCons (tVarD 1) aNil))))) (bCmp eqD (tVarD 2) (tVarD 3)))) (sRet (tCD (.bl false))) sNil) (sRet (tCallD T_lies_between (aCons (tVarD 4) (aCons (tOp1D negD (tCD (.int 4000000))) (aCons (tCD (.int 4000000)) aNil))))))))
theorem ok_is_constraint (B : NoB mg) {f__is_side : Addr} {fd__is_side : FuncData} (E__is_side : Ent K mg "_is_side" s__is_side ["value", "names"] f__is_side fd__is_side) (G__is_side : FnOk P w K mg base CX0 1 f__is_side fd__is_side ["value", "names"] (lift K 2 T__is_side)) {f_is_tuple_of : Addr} {fd_is_tuple_of : FuncData} (E_is_tuple_of : Ent K mg "is_tuple_of" s_is_tuple_of ["value", "many"] f_is_tuple_of fd_is_tuple_of) (G_is_tuple_of : FnOk P w K mg base CX0 1 f_is_tuple_of fd_is_tuple_of ["value", "many"] (lift K 2 T_is_tuple_of)) {f_lies_between : Addr} {fd_lies_between : FuncData} (E_lies_between : Ent K mg "lies_between" s_lies_between ["value", "low", "high"] f_lies_between fd_lies_between) (G_lies_between : FnOk P w K mg base CX0 2 f_lies_between fd_lies_between ["value", "low", "high"] (lift K 3 T_lies_between)) {tk_GREATEST_DIFFERENCE : Tok} (c_GREATEST_DIFFERENCE : mg "GREATEST_DIFFERENCE" = some (.int 4000000 tk_GREATEST_DIFFERENCE)) {f_is_constraint : Addr} {fd_is_constraint : FuncData} (E_is_constraint : Ent K mg "is_constraint" s_is_constraint ["value", "names"] f_is_constraint fd_is_constraint) : FnOk P w K mg base CX0 3 f_is_constraint fd_is_constraint ["value", "names"] (lift K 2 T_is_constraint) := by
  refine fn_D 2 5 rfl rfl (by decide) E_is_constraint.F sc_is_constraint [] fun cdv A outer s H E hr => ⟨[], ?_⟩
  have nd := sc_is_constraint.nd
  exact (s_cons (s_if (bd_not (bd_valT (ed_call G_is_tuple_of (by first | exact hr | exact hr.mono (by decide) | exact hr.mono (by omega)) (by rfl) E_is_tuple_of.g E_is_tuple_of.F.kp E_is_tuple_of.b (ad_cons (ed_var (pv 0)) (ad_cons ed_int ad_nil)) (fun _ _ _ h => h.1)))) (s_one (s_ret ed_bl)) s_nil) (s_cons (s_asg [] (fun _ h => ps_asg h (pg_tup (by rfl) (pgs_cons (pg_name (i := 2) nd rfl (by first | exact .inl rfl | exact .inr rfl)) (pgs_cons (pg_name (i := 3) nd rfl (by first | exact .inl rfl | exact .inr rfl)) (pgs_cons (pg_name (i := 4) nd rfl (by first | exact .inl rfl | exact .inr rfl)) pgs_nil))))) (ed_var (pv 0)) (tr_tup 3 (trs_cons (tr_name 2) (trs_cons (tr_name 3) (trs_cons (tr_name 4) trs_nil))))) (s_cons (s_if (bd_w (wb_or (bd_not (bd_valT (ed_call G__is_side (by first | exact hr | exact hr.mono (by decide) | exact hr.mono (by omega)) (by rfl) E__is_side.g E__is_side.F.kp E__is_side.b (ad_cons (ed_var (pv 2)) (ad_cons (ed_var (pv 1)) ad_nil)) (fun _ _ _ h => h.1)))) (wb_or (bd_not (bd_valT (ed_call G__is_side (by first | exact hr | exact hr.mono (by decide) | exact hr.mono (by omega)) (by rfl) E__is_side.g E__is_side.F.kp E__is_side.b (ad_cons (ed_var (pv 3)) (ad_cons (ed_var (pv 1)) ad_nil)) (fun _ _ _ h => h.1)))) (wb_or1 (bd_cmpT ((op_eqD hr.units).or op_eq) (nomark _) o2_eq (ed_var (pv 2)) (ed_var (pv 3))))))) (s_one (s_ret ed_bl)) s_nil) (s_one (s_ret (ed_call G_lies_between (by first | exact hr | exact hr.mono (by decide) | exact hr.mono (by omega)) (by rfl) E_lies_between.g E_lies_between.F.kp E_lies_between.b (ad_cons (ed_var (pv 4)) (ad_cons (ed_neg (ed_c (pe_glob (v := .int 4000000) (by rfl) c_GREATEST_DIFFERENCE ⟨_, rfl⟩) fun _ _ => rfl)) (ad_cons (ed_c (pe_glob (v := .int 4000000) (by rfl) c_GREATEST_DIFFERENCE ⟨_, rfl⟩) fun _ _ => rfl) ad_nil))) (fun _ _ _ h => h.1)))))))

abbrev s__is_variable : Stmt := topS 12
theorem sc__is_variable : FnScope ["value"] ["value"] (defScope s__is_variable) := ⟨rfl, rfl, rfl, by decide +kernel, rfl, by decide +kernel, by decide +kernel⟩
def T__is_variable : FT := fnD 1 1 (sRet (tCallD T_lies_between (aCons (tVarD 0) (aCons (tCD (.int 0)) (aCons (tCD (.int 15)) aNil)))))
theorem ok__is_variable (B : NoB mg) {f_lies_between : Addr} {fd_lies_between : FuncData} (E_lies_between : Ent K mg "lies_between" s_lies_between ["value", "low", "high"] f_lies_between fd_lies_between) (G_lies_between : FnOk P w K mg base CX0 2 f_lies_between fd_lies_between ["value", "low", "high"] (lift K 3 T_lies_between)) {tk_GREATEST_VARIABLE : Tok} (c_GREATEST_VARIABLE : mg "GREATEST_VARIABLE" = some (.int 15 tk_GREATEST_VARIABLE)) {f__is_variable : Addr} {fd__is_variable : FuncData} (E__is_variable : Ent K mg "_is_variable" s__is_variable ["value"] f__is_variable fd__is_variable) : FnOk P w K mg base CX0 3 f__is_variable fd__is_variable ["value"] (lift K 1 T__is_variable) := by
  refine fn_D 1 1 rfl rfl (by decide) E__is_variable.F sc__is_variable [] fun cdv A outer s H E hr => ⟨[], ?_⟩
  have nd := sc__is_variable.nd
  exact (s_one (s_ret (ed_call G_lies_between (by first | exact hr | exact hr.mono (by decide) | exact hr.mono (by omega)) (by rfl) E_lies_between.g E_lies_between.F.kp E_lies_between.b (ad_cons (ed_var (pv 0)) (ad_cons ed_int (ad_cons (ed_c (pe_glob (v := .int 15) (by rfl) c_GREATEST_VARIABLE ⟨_, rfl⟩) fun _ _ => rfl) ad_nil))) (fun _ _ _ h => h.1))))

abbrev s__is_part : Stmt := topS 11
theorem sc__is_part : FnScope ["scheme", "value", "table", "variables", "variable"] ["scheme", "value"] (defScope s__is_part) := ⟨rfl, rfl, rfl, by decide +kernel, rfl, by decide +kernel, by decide +kernel⟩
def T__is_part : FT := fnD 2 5 (sSeq (sIf (bNot (bVal (tCallD T_is_tuple_of (aCons (tVarD 1) (aCons (tCD (.int 2)) aNil))))) (sRet (tCD (.bl false))) sNil) (sSeq (sAsg [] (fTup 2 (fsCons (fName 2) (fsCons (fName 3) fsNil))) (tVarD 1)) (sSeq (sIf (bOr (bNot (bVal (tCallD T_lies_between (aCons (tVarD 2) (aCons (tCD (.int 0)) (aCons (tOpD subD (tCallB lenD (aCons (tVarD 0) aNil)) (tCD (.int 1))) aNil)))))) (bNot (bVal (tCallD T_is_tuple_of (aCons (tVarD 3) (aCons (tCallB lenD (aCons (tOpD ixD (tOpD ixD (tVarD 0) (tVarD 2)) (tCD (.int 0))) aNil)) aNil)))))) (sRet (tCD (.bl false))) sNil) (sRet (tCallB allD (aCons (tComp (wAny (tVarD 3)) (fName 4) bYes (tCallD T__is_variable (aCons (tVarD 4) aNil)) [4]) aNil))))))
theorem ok__is_part (B : NoB mg) {f__is_variable : Addr} {fd__is_variable : FuncData} (E__is_variable : Ent K mg "_is_variable" s__is_variable ["value"] f__is_variable fd__is_variable) (G__is_variable : FnOk P w K mg base CX0 3 f__is_variable fd__is_variable ["value"] (lift K 1 T__is_variable)) {f_is_tuple_of : Addr} {fd_is_tuple_of : FuncData} (E_is_tuple_of : Ent K mg "is_tuple_of" s_is_tuple_of ["value", "many"] f_is_tuple_of fd_is_tuple_of) (G_is_tuple_of : FnOk P w K mg base CX0 1 f_is_tuple_of fd_is_tuple_of ["value", "many"] (lift K 2 T_is_tuple_of)) {f_lies_between : Addr} {fd_lies_between : FuncData} (E_lies_between : Ent K mg "lies_between" s_lies_between ["value", "low", "high"] f_lies_between fd_lies_between) (G_lies_between : FnOk P w K mg base CX0 2 f_lies_between fd_lies_between ["value", "low", "high"] (lift K 3 T_lies_between)) {f__is_part : Addr} {fd__is_part : FuncData} (E__is_part : Ent K mg "_is_part" s__is_part ["scheme", "value"] f__is_part fd__is_part) : FnOk P w K mg base CX0 4 f__is_part fd__is_part ["scheme", "value"] (lift K 2 T__is_part) := by
  refine fn_D 2 5 rfl rfl (by decide) E__is_part.F sc__is_part [] fun cdv A outer s H E hr => ⟨[], ?_⟩
  have nd := sc__is_part.nd
  exact (s_cons (s_if (bd_not (bd_valT (ed_call G_is_tuple_of (by first | exact hr | exact hr.mono (by decide) | exact hr.mono (by omega)) (by rfl) E_is_tuple_of.g E_is_tuple_of.F.kp E_is_tuple_of.b (ad_cons (ed_var (pv 1)) (ad_cons ed_int ad_nil)) (fun _ _ _ h => h.1)))) (s_one (s_ret ed_bl)) s_nil) (s_cons (s_asg [] (fun _ h => ps_asg h (pg_tup (by rfl) (pgs_cons (pg_name (i := 2) nd rfl (by first | exact .inl rfl | exact .inr rfl)) (pgs_cons (pg_name (i := 3) nd rfl (by first | exact .inl rfl | exact .inr rfl)) pgs_nil)))) (ed_var (pv 1)) (tr_tup 2 (trs_cons (tr_name 2) (trs_cons (tr_name 3) trs_nil)))) (s_cons (s_if (bd_w (wb_or (bd_not (bd_valT (ed_call G_lies_between (by first | exact hr | exact hr.mono (by decide) | exact hr.mono (by omega)) (by rfl) E_lies_between.g E_lies_between.F.kp E_lies_between.b (ad_cons (ed_var (pv 2)) (ad_cons ed_int (ad_cons (ed_sub (ed_len B (by rfl) (ad_cons (ed_var (pv 0)) ad_nil)) ed_int) ad_nil))) (fun _ _ _ h => h.1)))) (wb_or1 (bd_not (bd_valT (ed_call G_is_tuple_of (by first | exact hr | exact hr.mono (by decide) | exact hr.mono (by omega)) (by rfl) E_is_tuple_of.g E_is_tuple_of.F.kp E_is_tuple_of.b (ad_cons (ed_var (pv 3)) (ad_cons (ed_len B (by rfl) (ad_cons (ed_ix (ed_ix (ed_var (pv 0)) (ed_var (pv 2))) ed_int) ad_nil)) ad_nil)) (fun _ _ _ h => h.1))))))) (s_one (s_ret ed_bl)) s_nil) (s_one (s_ret (ed_all B (by rfl) (by rfl) (ad_cons (ed_lc (own := [("variable", 4)]) (by rfl) nd (wd_seq (ed_var (pv 3))) (blkOk_by (N := ["scheme", "value", "table", "variables", "variable"]) (sc := defScope s__is_part) (by decide +kernel)) (tr_name 4) (fun _ _ _ _ _ => (pg_name (i := 4) nd rfl (by first | exact .inl rfl | exact .inr rfl))) (fun _ _ _ _ _ => ts_nil) (fun _ _ _ _ _ => (ed_call G__is_variable (by first | exact hr | exact hr.mono (by decide) | exact hr.mono (by omega)) (by rfl) E__is_variable.g E__is_variable.F.kp E__is_variable.b (ad_cons (ed_var (pv 4)) ad_nil) (fun _ _ _ h => h.1)))) ad_nil)))))))

abbrev s_is_query : Stmt := topS 10
theorem sc_is_query : FnScope ["scheme", "value", "parts", "constraints", "output", "names", "part", "_", "variables", "variable", "constraint"] ["scheme", "value"] (defScope s_is_query) := ⟨rfl, rfl, rfl, by decide +kernel, rfl, by decide +kernel, by decide +kernel⟩
def T_is_query : FT := fnD 2 11 (sSeq (sIf (bNot (bVal (tCallD T_is_tuple_of (aCons (tVarD 1) (aCons (tCD (.int 3)) aNil))))) (sRet (tCD (.bl false))) sNil) (sSeq (sAsg [] (fTup 3 (fsCons (fName 2) (fsCons (fName 3) (fsCons (fName 4) fsNil)))) (tVarD 1)) (sSeq (sIf (bOr (bNot (bVal (tIsi "tuple" (tVarD 2)))) (bNot (bChain leD leD (tCD (.int 1)) (tCallB lenD (aCons (tVarD 2) aNil)) (tCD (.int 4))))) (sRet (tCD (.bl false))) sNil) (sSeq (sIf (bNot (bVal (tCallB allD (aCons (tComp (wAny (tVarD 2)) (fName 6) bYes (tCallD T__is_part (aCons (tVarD 0) (aCons (tVarD 6) aNil))) [6]) aNil)))) (sRet (tCD (.bl false))) sNil) (sSeq (sAsg [] (fName 5) (tL (tComp2L (wAny (tVarD 2)) (fTup 2 (fsCons (fName 7) (fsCons (fName 8) fsNil))) bYes (wAny (tVarD 8)) (fName 9) bYes (tVarD 9) [7, 8, 9] [9]))) (sSeq (sIf (bOr (bNot (bVal (tIsi "tuple" (tVarD 3)))) (bCmp gtD (tCallB lenD (aCons (tVarD 3) aNil)) (tCD (.int 8)))) (sRet (tCD (.bl false))) sNil) (sSeq (sIf (bNot (bVal (tCallB allD (aCons (tComp (wAny (tVarD 3)) (fName 10) bYes (tCallD T_is_constraint (aCons (tVarD 10) (aCons (tVarD 5) aNil))) [10]) aNil)))) (sRet (tCD (.bl false))) sNil) (sSeq (sIf (bOr (bNot (bVal (tIsi "tuple" (tVarD 4)))) (bCmp gtD (tCallB lenD (aCons (tVarD 4) aNil)) (tCD (.int 8)))) (sRet (tCD (.bl false))) sNil) (sRet (tCallB allD (aCons (tComp (wAny (tVarD 4)) (fName 9) bYes (tAndD (tCallD T__is_variable (aCons (tVarD 9) aNil)) (tOpD (inAD false) (tVarD 9) (tVarD 5))) [9]) aNil)))))))))))
theorem ok_is_query (B : NoB mg) {f__is_part : Addr} {fd__is_part : FuncData} (E__is_part : Ent K mg "_is_part" s__is_part ["scheme", "value"] f__is_part fd__is_part) (G__is_part : FnOk P w K mg base CX0 4 f__is_part fd__is_part ["scheme", "value"] (lift K 2 T__is_part)) {f__is_variable : Addr} {fd__is_variable : FuncData} (E__is_variable : Ent K mg "_is_variable" s__is_variable ["value"] f__is_variable fd__is_variable) (G__is_variable : FnOk P w K mg base CX0 3 f__is_variable fd__is_variable ["value"] (lift K 1 T__is_variable)) {f_is_constraint : Addr} {fd_is_constraint : FuncData} (E_is_constraint : Ent K mg "is_constraint" s_is_constraint ["value", "names"] f_is_constraint fd_is_constraint) (G_is_constraint : FnOk P w K mg base CX0 3 f_is_constraint fd_is_constraint ["value", "names"] (lift K 2 T_is_constraint)) {f_is_tuple_of : Addr} {fd_is_tuple_of : FuncData} (E_is_tuple_of : Ent K mg "is_tuple_of" s_is_tuple_of ["value", "many"] f_is_tuple_of fd_is_tuple_of) (G_is_tuple_of : FnOk P w K mg base CX0 1 f_is_tuple_of fd_is_tuple_of ["value", "many"] (lift K 2 T_is_tuple_of)) {tk_MOST_PARTS : Tok} (c_MOST_PARTS : mg "MOST_PARTS" = some (.int 4 tk_MOST_PARTS)) {f_is_query : Addr} {fd_is_query : FuncData} (E_is_query : Ent K mg "is_query" s_is_query ["scheme", "value"] f_is_query fd_is_query) : FnOk P w K mg base CX0 5 f_is_query fd_is_query ["scheme", "value"] (lift K 2 T_is_query) := by
  refine fn_D 2 11 rfl rfl (by decide) E_is_query.F sc_is_query [] fun cdv A outer s H E hr => ⟨[], ?_⟩
  have nd := sc_is_query.nd
  exact (s_cons (s_if (bd_not (bd_valT (ed_call G_is_tuple_of (by first | exact hr | exact hr.mono (by decide) | exact hr.mono (by omega)) (by rfl) E_is_tuple_of.g E_is_tuple_of.F.kp E_is_tuple_of.b (ad_cons (ed_var (pv 1)) (ad_cons ed_int ad_nil)) (fun _ _ _ h => h.1)))) (s_one (s_ret ed_bl)) s_nil) (s_cons (s_asg [] (fun _ h => ps_asg h (pg_tup (by rfl) (pgs_cons (pg_name (i := 2) nd rfl (by first | exact .inl rfl | exact .inr rfl)) (pgs_cons (pg_name (i := 3) nd rfl (by first | exact .inl rfl | exact .inr rfl)) (pgs_cons (pg_name (i := 4) nd rfl (by first | exact .inl rfl | exact .inr rfl)) pgs_nil))))) (ed_var (pv 1)) (tr_tup 3 (trs_cons (tr_name 2) (trs_cons (tr_name 3) (trs_cons (tr_name 4) trs_nil))))) (s_cons (s_if (bd_w (wb_or (bd_not (bd_valT (ed_isi (T := "tuple") B (by decide +kernel) (by rfl) (by rfl) (by decide) (by decide +kernel) (ed_var (pv 2))))) (wb_or1 (bd_not (bd_chain op_le op_le o2_cmpI o2_cmpI ed_int (ed_len B (by rfl) (ad_cons (ed_var (pv 2)) ad_nil)) (ed_c (pe_glob (v := .int 4) (by rfl) c_MOST_PARTS ⟨_, rfl⟩) fun _ _ => rfl)))))) (s_one (s_ret ed_bl)) s_nil) (s_cons (s_if (bd_not (bd_valT (ed_all B (by rfl) (by rfl) (ad_cons (ed_lc (own := [("part", 6)]) (by rfl) nd (wd_seq (ed_var (pv 2))) (blkOk_by (N := ["scheme", "value", "parts", "constraints", "output", "names", "part", "_", "variables", "variable", "constraint"]) (sc := defScope s_is_query) (by decide +kernel)) (tr_name 6) (fun _ _ _ _ _ => (pg_name (i := 6) nd rfl (by first | exact .inl rfl | exact .inr rfl))) (fun _ _ _ _ _ => ts_nil) (fun _ _ _ _ _ => (ed_call G__is_part (by first | exact hr | exact hr.mono (by decide) | exact hr.mono (by omega)) (by rfl) E__is_part.g E__is_part.F.kp E__is_part.b (ad_cons (ed_var (pv 0)) (ad_cons (ed_var (pv 6)) ad_nil)) (fun _ _ _ h => h.1)))) ad_nil)))) (s_one (s_ret ed_bl)) s_nil) (s_cons (s_asg [] (fun _ h => ps_set (i := 5) nd rfl (by first | exact .inl rfl | exact .inr rfl) h) (LD.ed (ld_lc2 (own := [("_", 7), ("variables", 8), ("variable", 9)]) (by rfl) nd [9] (wd_seq (ed_var (pv 2))) (blkOk_by (N := ["scheme", "value", "parts", "constraints", "output", "names", "part", "_", "variables", "variable", "constraint"]) (sc := defScope s_is_query) (by decide +kernel)) (tr_tup 2 (trs_cons (tr_name 7) (trs_cons (tr_name 8) trs_nil))) (tr_name 9) (fun _ _ _ _ _ => (pg_tup (by rfl) (pgs_cons (pg_name (i := 7) nd rfl (by first | exact .inl rfl | exact .inr rfl)) (pgs_cons (pg_name (i := 8) nd rfl (by first | exact .inl rfl | exact .inr rfl)) pgs_nil)))) (fun _ _ _ _ _ => ts_nil) (fun _ _ _ _ _ => (wd_seq (ed_var (pv 8)))) (fun _ _ _ _ _ => (pg_name (i := 9) nd rfl (by first | exact .inl rfl | exact .inr rfl))) (fun _ _ _ _ _ => ts_nil) (fun _ _ _ _ _ => (ed_var (pv 9))))) (tr_name 5)) (s_cons (s_if (bd_w (wb_or (bd_not (bd_valT (ed_isi (T := "tuple") B (by decide +kernel) (by rfl) (by rfl) (by decide) (by decide +kernel) (ed_var (pv 3))))) (wb_or1 (bd_cmpT op_gt (nomark _) o2_cmpI (ed_len B (by rfl) (ad_cons (ed_var (pv 3)) ad_nil)) ed_int)))) (s_one (s_ret ed_bl)) s_nil) (s_cons (s_if (bd_not (bd_valT (ed_all B (by rfl) (by rfl) (ad_cons (ed_lc (own := [("constraint", 10)]) (by rfl) nd (wd_seq (ed_var (pv 3))) (blkOk_by (N := ["scheme", "value", "parts", "constraints", "output", "names", "part", "_", "variables", "variable", "constraint"]) (sc := defScope s_is_query) (by decide +kernel)) (tr_name 10) (fun _ _ _ _ _ => (pg_name (i := 10) nd rfl (by first | exact .inl rfl | exact .inr rfl))) (fun _ _ _ _ _ => ts_nil) (fun _ _ _ _ _ => (ed_call G_is_constraint (by first | exact hr | exact hr.mono (by decide) | exact hr.mono (by omega)) (by rfl) E_is_constraint.g E_is_constraint.F.kp E_is_constraint.b (ad_cons (ed_var (pv 10)) (ad_cons (ed_var (pv 5)) ad_nil)) (fun _ _ _ h => h.1)))) ad_nil)))) (s_one (s_ret ed_bl)) s_nil) (s_cons (s_if (bd_w (wb_or (bd_not (bd_valT (ed_isi (T := "tuple") B (by decide +kernel) (by rfl) (by rfl) (by decide) (by decide +kernel) (ed_var (pv 4))))) (wb_or1 (bd_cmpT op_gt (nomark _) o2_cmpI (ed_len B (by rfl) (ad_cons (ed_var (pv 4)) ad_nil)) ed_int)))) (s_one (s_ret ed_bl)) s_nil) (s_one (s_ret (ed_all B (by rfl) (by rfl) (ad_cons (ed_lc (own := [("variable", 9)]) (by rfl) nd (wd_seq (ed_var (pv 4))) (blkOk_by (N := ["scheme", "value", "parts", "constraints", "output", "names", "part", "_", "variables", "variable", "constraint"]) (sc := defScope s_is_query) (by decide +kernel)) (tr_name 9) (fun _ _ _ _ _ => (pg_name (i := 9) nd rfl (by first | exact .inl rfl | exact .inr rfl))) (fun _ _ _ _ _ => ts_nil) (fun _ _ _ _ _ => (ed_and (ed_call G__is_variable (by first | exact hr | exact hr.mono (by decide) | exact hr.mono (by omega)) (by rfl) E__is_variable.g E__is_variable.F.kp E__is_variable.b (ad_cons (ed_var (pv 9)) ad_nil) (fun _ _ _ h => h.1)) (ed_one (ed_cmp (op_in_seq.or (op_inG hr.units)) (by rfl) (o2_in.or o2_inG) (ed_var (pv 9)) (ed_var (pv 5))))))) ad_nil))))))))))))

abbrev s__law_open : Stmt := topS 14
theorem sc__law_open : FnScope ["script", "cells", "k", "cell"] ["script"] (defScope s__law_open) := ⟨rfl, rfl, rfl, by decide +kernel, rfl, by decide +kernel, by decide +kernel⟩
def T__law_open : FT := fnD 1 4 (sSeq (sOwn [] 1 (ldList (aCons (tSlD (tVarD 0) oNone (oSome (tCD (.int 12)))) aNil))) (sSeq (sFor [1] (wEnum (aCons (tSlD (tVarD 0) (oSome (tCD (.int 12))) (oSome (tCD (.int 63)))) aNil)) (fTup 2 (fsCons (fName 2) (fsCons (fName 3) fsNil))) (sSet 1 (tOpD addD (tOpD ixD (tVarD 1) (tOpD modD (tCallB intD (aCons (tVarD 2) aNil)) (tCD (.int 12)))) (tVarD 3)) (tOpD modD (tCallB intD (aCons (tVarD 2) aNil)) (tCD (.int 12))))) (sRet (tLstD (aCons (tVarD 1) (aCons (tCD (.int 0)) (aCons (tCD (.int 0)) aNil)))))))
theorem ok__law_open (B : NoB mg) {f__law_open : Addr} {fd__law_open : FuncData} (E__law_open : Ent K mg "_law_open" s__law_open ["script"] f__law_open fd__law_open) : FnOk P w K mg base CX0 1 f__law_open fd__law_open ["script"] (lift K 1 T__law_open) := by
  refine fn_D 1 4 rfl rfl (by decide) E__law_open.F sc__law_open [] fun cdv A outer s H E hr => ⟨[], ?_⟩
  have nd := sc__law_open.nd
  exact (s_cons (s_own [] (fun _ h => ps_set (i := 1) nd rfl (by first | exact .inl rfl | exact .inr rfl) h) (ld_list B (by rfl) (ad_cons (ed_slice (ed_var (pv 0)) od_none (od_some ed_int)) ad_nil))) (s_cons (s_for [1] [1] PassesOwn.never (by rfl) (wd_enum B (by rfl) (ad_cons (ed_slice (ed_var (pv 0)) (od_some ed_int) (od_some ed_int)) ad_nil)) (pg_tup (by rfl) (pgs_cons (pg_name (i := 2) nd rfl (by first | exact .inl rfl | exact .inr rfl)) (pgs_cons (pg_name (i := 3) nd rfl (by first | exact .inl rfl | exact .inr rfl)) pgs_nil))) (tr_tup 2 (trs_cons (tr_name 2) (trs_cons (tr_name 3) trs_nil))) (s_one (s_set (fun _ _ h h2 => ps_asg h (pg_sub (pv 1) h2 set_list)) (ed_add (ed_ix (ed_var (pv 1)) (ed_mod (ed_intC B (by rfl) (ad_cons (ed_var (pv 2)) ad_nil)) ed_int)) (ed_var (pv 3))) (ed_mod (ed_intC B (by rfl) (ad_cons (ed_var (pv 2)) ad_nil)) ed_int)))) (s_one (s_ret (ed_lstT (ad_cons (ed_var (pv 1)) (ad_cons ed_int (ad_cons ed_int ad_nil))))))))

abbrev s__law_spread : Stmt := topS 15
theorem sc__law_spread : FnScope ["cell", "at", "primes", "one", "two", "three"] ["cell", "at"] (defScope s__law_spread) := ⟨rfl, rfl, rfl, by decide +kernel, rfl, by decide +kernel, by decide +kernel⟩
def T__law_spread : FT := fnD 2 6 (sSeq (sIf (bCmp geD (tVarD 0) (tOpD powD (tCD (.int 10)) (tCD (.int 18)))) (sRet (tVarD 0)) sNil) (sSeq (sAsg [] (fName 2) (tLstD (aCons (tCD (.int 2147483629)) (aCons (tCD (.int 2147483587)) (aCons (tCD (.int 2147483579)) (aCons (tCD (.int 2147483563)) (aCons (tCD (.int 2147483549)) (aCons (tCD (.int 2147483543)) (aCons (tCD (.int 2147483497)) (aCons (tCD (.int 2147483489)) aNil)))))))))) (sSeq (sAsg [] (fName 2) (tOpD addD (tVarD 2) (tLstD (aCons (tCD (.int 2147483477)) (aCons (tCD (.int 2147483423)) (aCons (tCD (.int 2147483399)) (aCons (tCD (.int 2147483353)) (aCons (tCD (.int 2147483323)) aNil)))))))) (sSeq (sAsg [] (fName 3) (tOpD addD (tOpD addD (tOpD mulD (tOpD modD (tCallB intD (aCons (tVarD 0) aNil)) (tCD (.int 1000000007))) (tOpD addD (tOpD mulD (tCD (.int 2)) (tVarD 1)) (tCD (.int 69069)))) (tOpD mulD (tVarD 1) (tCD (.int 40503)))) (tCD (.int 977)))) (sSeq (sAsg [] (fName 3) (tOpD modD (tCallB intD (aCons (tOpD powD (tVarD 3) (tCD (.int 3))) aNil)) (tOpD ixD (tVarD 2) (tOpD modD (tCallB intD (aCons (tVarD 1) aNil)) (tCD (.int 13)))))) (sSeq (sAsg [] (fName 4) (tOpD modD (tCallB intD (aCons (tOpD powD (tOpD addD (tOpD addD (tOpD mulD (tVarD 3) (tOpD addD (tVarD 1) (tCD (.int 3)))) (tOpD modD (tCallB intD (aCons (tVarD 0) aNil)) (tCD (.int 65537)))) (tCD (.int 5))) (tCD (.int 5))) aNil)) (tOpD ixD (tVarD 2) (tOpD modD (tCallB intD (aCons (tOpD addD (tVarD 1) (tCD (.int 5))) aNil)) (tCD (.int 13)))))) (sSeq (sAsg [] (fName 5) (tOpD modD (tCallB intD (aCons (tOpD powD (tOpD addD (tOpD addD (tVarD 4) (tOpD modD (tCallB intD (aCons (tVarD 3) aNil)) (tCD (.int 1009)))) (tVarD 1)) (tCD (.int 3))) aNil)) (tOpD ixD (tVarD 2) (tOpD modD (tCallB intD (aCons (tOpD addD (tVarD 1) (tCD (.int 7))) aNil)) (tCD (.int 13)))))) (sRet (tOpD addD (tOpD mulD (tOpD addD (tOpD mulD (tVarD 3) (tCD (.int 2147483647))) (tVarD 4)) (tCD (.int 2147483647))) (tVarD 5))))))))))
theorem ok__law_spread (B : NoB mg) {f__law_spread : Addr} {fd__law_spread : FuncData} (E__law_spread : Ent K mg "_law_spread" s__law_spread ["cell", "at"] f__law_spread fd__law_spread) : FnOk P w K mg base CX0 1 f__law_spread fd__law_spread ["cell", "at"] (lift K 2 T__law_spread) := by
  refine fn_D 2 6 rfl rfl (by decide) E__law_spread.F sc__law_spread [] fun cdv A outer s H E hr => ⟨[], ?_⟩
  have nd := sc__law_spread.nd
  exact (s_cons (s_if (bd_cmpT op_ge (nomark _) o2_cmpI (ed_var (pv 0)) (ed_pow ed_int ed_int)) (s_one (s_ret (ed_var (pv 0)))) s_nil) (s_cons (s_asg [] (fun _ h => ps_set (i := 2) nd rfl (by first | exact .inl rfl | exact .inr rfl) h) (ed_lstT (ad_cons ed_int (ad_cons ed_int (ad_cons ed_int (ad_cons ed_int (ad_cons ed_int (ad_cons ed_int (ad_cons ed_int (ad_cons ed_int ad_nil))))))))) (tr_name 2)) (s_cons (s_asg [] (fun _ h => ps_set (i := 2) nd rfl (by first | exact .inl rfl | exact .inr rfl) h) (ed_add (ed_var (pv 2)) (ed_lstT (ad_cons ed_int (ad_cons ed_int (ad_cons ed_int (ad_cons ed_int (ad_cons ed_int ad_nil))))))) (tr_name 2)) (s_cons (s_asg [] (fun _ h => ps_set (i := 3) nd rfl (by first | exact .inl rfl | exact .inr rfl) h) (ed_add (ed_add (ed_mul (ed_mod (ed_intC B (by rfl) (ad_cons (ed_var (pv 0)) ad_nil)) ed_int) (ed_add (ed_mul ed_int (ed_var (pv 1))) ed_int)) (ed_mul (ed_var (pv 1)) ed_int)) ed_int) (tr_name 3)) (s_cons (s_asg [] (fun _ h => ps_set (i := 3) nd rfl (by first | exact .inl rfl | exact .inr rfl) h) (ed_mod (ed_intC B (by rfl) (ad_cons (ed_pow (ed_var (pv 3)) ed_int) ad_nil)) (ed_ix (ed_var (pv 2)) (ed_mod (ed_intC B (by rfl) (ad_cons (ed_var (pv 1)) ad_nil)) ed_int))) (tr_name 3)) (s_cons (s_asg [] (fun _ h => ps_set (i := 4) nd rfl (by first | exact .inl rfl | exact .inr rfl) h) (ed_mod (ed_intC B (by rfl) (ad_cons (ed_pow (ed_add (ed_add (ed_mul (ed_var (pv 3)) (ed_add (ed_var (pv 1)) ed_int)) (ed_mod (ed_intC B (by rfl) (ad_cons (ed_var (pv 0)) ad_nil)) ed_int)) ed_int) ed_int) ad_nil)) (ed_ix (ed_var (pv 2)) (ed_mod (ed_intC B (by rfl) (ad_cons (ed_add (ed_var (pv 1)) ed_int) ad_nil)) ed_int))) (tr_name 4)) (s_cons (s_asg [] (fun _ h => ps_set (i := 5) nd rfl (by first | exact .inl rfl | exact .inr rfl) h) (ed_mod (ed_intC B (by rfl) (ad_cons (ed_pow (ed_add (ed_add (ed_var (pv 4)) (ed_mod (ed_intC B (by rfl) (ad_cons (ed_var (pv 3)) ad_nil)) ed_int)) (ed_var (pv 1))) ed_int) ad_nil)) (ed_ix (ed_var (pv 2)) (ed_mod (ed_intC B (by rfl) (ad_cons (ed_add (ed_var (pv 1)) ed_int) ad_nil)) ed_int))) (tr_name 5)) (s_one (s_ret (ed_add (ed_mul (ed_add (ed_mul (ed_var (pv 3)) ed_int) (ed_var (pv 4))) ed_int) (ed_var (pv 5))))))))))))

abbrev s__law_take : Stmt := topS 16
theorem sc__law_take : FnScope ["pen", "amount", "at", "cell", "found"] ["pen", "amount"] (defScope s__law_take) := ⟨rfl, rfl, rfl, by decide +kernel, rfl, by decide +kernel, by decide +kernel⟩
abbrev T__law_take : FT := takeD
theorem ok__law_take (B : NoB mg) {T_s : FT} (hT : SpreadOk T_s) {ks : Nat} {f_s : Addr} {fd_s : FuncData} (E_s : Ent K mg "_law_spread" s__law_spread ["cell", "at"] f_s fd_s) (G_s : FnOk P w K mg base CX0 ks f_s fd_s ["cell", "at"] (lift K 2 T_s)) {f : Addr} {fd : FuncData} (F : Fun K "_law_take" "_law_take" s__law_take f fd) : FnOk P w K mg base CX0 (ks + 1) f fd ["pen", "amount"] (lift K 2 takeD) := by
  refine F.ok sc__law_take (fun vs H Q E h => h.1) (fun cdv A outer s H vs Q E hr h => ?_)
  obtain ⟨hl, pn, G, n, ds, q, sG, hp, r, ⟨m, rfl, hm0, hm1, hn, hq⟩, kq⟩ := h
  obtain ⟨v, w', rfl, rv, rw'⟩ := reps2 r
  obtain ⟨p, c, hpn, rfl⟩ := rv
  obtain rfl : w' = .int m := rw'
  obtain ⟨⟨⟨at0, rest0, hpl, ha0, ha1⟩, ⟨ns, hcl, hns⟩, hpc⟩, gp, gc⟩ := hp p c hpn
  have nd := sc__law_take.nd
  refine ⟨_, pss_cons (ps_if (pt_cmpR op_lt (pe_ix ix_list (pv 0) pe_int (fun _ _ => rfl)) (pv 1) (nomark _))
      (pss_cons (ps_set (i := 2) nd rfl (.inl rfl) (pe_ix ix_list (pv 0) pe_int (fun _ _ => rfl)))
      (pss_cons (ps_set (i := 3) nd rfl (.inl rfl) pe_int)
      (pss_cons (ps_if (pt_cmpR op_lt (pv 2) (pe_callB call_len_seq (by rfl) (B _ (by decide)) PySem.boot_len (pa_cons (pe_ix ix_list (pv 0) pe_int (fun _ _ => rfl)) pa_nil)) (nomark _))
          (pss_one (ps_set (i := 3) nd rfl (.inl rfl) (pe_ix ix_list (pe_ix ix_list (pv 0) pe_int (fun _ _ => rfl)) (pv 2) (fun _ _ => rfl))))
          (pss_one (ps_if (pt_cmpR op_gt (pe_callB call_len_seq (by rfl) (B _ (by decide)) PySem.boot_len (pa_cons (pe_ix ix_list (pv 0) pe_int (fun _ _ => rfl)) pa_nil)) pe_int (nomark _))
            (pss_one (ps_set (i := 3) nd rfl (.inl rfl) (pe_op op_modN (pe_callTy call_int1 (by rfl) (B _ (by decide)) (by decide +kernel) (pa_cons (pe_ix ix_list (pe_ix ix_list (pv 0) pe_int (fun _ _ => rfl)) (pe_op op_modN (pe_callTy call_int1 (by rfl) (B _ (by decide)) (by decide +kernel) (pa_cons (pe_op op_add (pe_op op_mul (pv 2) pe_int) pe_int) pa_nil)) (pe_callB call_len_seq (by rfl) (B _ (by decide)) PySem.boot_len (pa_cons (pe_ix ix_list (pv 0) pe_int (fun _ _ => rfl)) pa_nil))) (fun _ _ => rfl)) pa_nil)) (pe_op op_add (pe_op op_pow pe_int pe_int) (pv 2))))) pss_nil)))
      (pss_cons (ps_asg (pe_op op_add (pv 2) pe_int) (pg_sub (pv 0) pe_int set_list))
      (pss_one (ps_asg (pe_call G_s hr (by rfl) E_s.g E_s.F.kp E_s.b .nil pass0 (pa_cons (pv 3) (pa_cons (pv 2) pa_nil))) (pg_sub (pv 0) pe_int set_list)))))))
      pss_nil)
    (pss_cons (ps_set (i := 4) nd rfl (.inl rfl) (pe_op op_modN (pe_callTy call_int1 (by rfl) (B _ (by decide)) (by decide +kernel) (pa_cons (pe_ix ix_list (pv 0) pe_int (fun _ _ => rfl)) pa_nil)) (pv 1)))
    (pss_cons (ps_asg (pe_op op_fdiv (pe_ix ix_list (pv 0) pe_int (fun _ _ => rfl)) (pv 1)) (pg_sub (pv 0) pe_int set_list))
    (pss_one (ps_ret (pv 4))))), ?_⟩
  have last : ∀ (H' : Hp) (a' r' : Int), Ex pn H H' → H' p = some (.lst [.ref c, .int a', .int r']) → H' c = some (.lst (ns.map .int)) → 0 ≤ a' → a' ≤ ((n + 1 : Nat) : Int) → Q (.int (r'.fmod m)) (upd H' p (.lst [.ref c, .int a', .int (r' / m)])) := fun H' a' r' ex h1 h2 h3 h4 => by
    refine kq _ _ ⟨.int (r'.fmod m), n + 1, ⟨fun b o hb np => ?_, fun p' c' e => ?_⟩, rfl, hq _ (Int.fmod_nonneg_of_pos _ hm0) (Int.fmod_lt_of_pos _ hm0)⟩
    · rw [upd_ne (np p c hpn)]
      exact ex b o hb np
    · rw [hpn] at e
      cases e
      exact ⟨⟨a', r' / m, upd_same, h3, h4⟩, ⟨ns, by rw [upd_ne (Ne.symm hpc)]; exact h2, hns⟩, hpc⟩
  refine ⟨.ref p, rfl, p, _, 2, .int rest0, rfl, rfl, SqL.of hpl, rfl, .int m, rfl, rest0, m, rfl, rfl, _, rfl, ite2 (fun _ => ?_) (fun _ => ?_)⟩
  · refine ⟨.ref p, rfl, p, _, 1, .int at0, rfl, rfl, SqL.of hpl, rfl, ?_⟩
    refine ⟨.int at0, rfl, .ref p, rfl, p, _, 0, .ref c, rfl, rfl, SqL.of hpl, rfl, c, _, rfl, .inl (SqL.of hcl), at0, _, rfl, rfl, _, rfl, ite2 (fun hlt => ?_) (fun hge => ?_)⟩
    · have hlt : at0 < ((ns.map V.int).length : Int) := of_decide_eq_true hlt
      rw [List.length_map] at hlt
      have hi : at0.toNat < ns.length := by omega
      have hat : atI (ns.map V.int) at0 = some (.int ns[at0.toNat]) := by
        have h0 : (ns.map V.int)[at0.toNat]? = some (.int ns[at0.toNat]) := by rw [List.getElem?_map, List.getElem?_eq_getElem hi]; rfl
        have := atI_nat h0
        rw [show ((at0.toNat : Nat) : Int) = at0 by omega] at this
        exact this
      refine ⟨.ref p, rfl, p, _, 0, .ref c, rfl, rfl, SqL.of hpl, rfl, .int at0, rfl, c, _, at0, _, rfl, rfl, SqL.of hcl, hat, ?_⟩
      refine ⟨.int at0, rfl, at0, 1, rfl, rfl, .ref p, rfl, p, _, 1, 1, rfl, rfl, hpl, rfl, ?_⟩
      refine ⟨.int (ns[at0.toNat]), rfl, .int at0, rfl, rfl, none, fun _ => none, 0, [.int (ns[at0.toNat]), .int at0], fun d _ => ∃ i : Int, d = .int i, fun a o h => (by cases h), fun p c e => (by cases e), ⟨_, _, rfl, rfl, _, _, rfl, rfl, rfl⟩, hT _ _ _ _ ha0 (by omega) (fun i => ⟨i, rfl⟩), ?_⟩
      rintro v H2 ⟨d, n2, g2, r2, i, rfl⟩
      obtain rfl : v = .int i := r2
      have hP1 : (upd H p (.lst [.ref c, .int (at0 + 1), .int rest0])) p = some (.lst [.ref c, .int (at0 + 1), .int rest0]) := upd_same
      have hP2 := g2.ex _ _ hP1 (fun _ _ e => by cases e)
      have hC2 := g2.ex c _ (show (upd H p (.lst [.ref c, .int (at0 + 1), .int rest0])) c = some (.lst (ns.map .int)) by rw [upd_ne (Ne.symm hpc)]; exact hcl) (fun _ _ e => by cases e)
      refine ⟨.ref p, rfl, p, _, 2, 2, rfl, rfl, hP2, rfl, ?_⟩
      have hP3 : (upd H2 p (.lst [.ref c, .int (at0 + 1), .int i])) p = some (.lst [.ref c, .int (at0 + 1), .int i]) := upd_same
      have hC3 : (upd H2 p (.lst [.ref c, .int (at0 + 1), .int i])) c = some (.lst (ns.map .int)) := by rw [upd_ne (Ne.symm hpc)]; exact hC2
      have hE3 : Ex pn H (upd H2 p (.lst [.ref c, .int (at0 + 1), .int i])) := fun b o hb np => by
        have nb := np p c hpn
        rw [upd_ne nb]
        exact g2.ex b o (by rw [upd_ne nb]; exact hb) (fun _ _ e => by cases e)
      refine ⟨.ref p, rfl, p, _, 2, .int (i), rfl, rfl, SqL.of hP3, rfl, .inl ⟨_, rfl, .int m, rfl, _, m, rfl, rfl, by omega, ?_⟩⟩
      refine ⟨.ref p, rfl, p, _, 2, .int (i), rfl, rfl, SqL.of hP3, rfl, .int m, rfl, _, m, rfl, rfl, ⟨hm0, hm1⟩, .ref p, rfl, p, _, 2, 2, rfl, rfl, hP3, rfl, ?_⟩
      exact ⟨_, rfl, last _ (at0 + 1) (i) hE3 hP3 hC3 (by omega) (by omega)⟩
    · refine ⟨.ref p, rfl, p, _, 0, .ref c, rfl, rfl, SqL.of hpl, rfl, c, _, rfl, .inl (SqL.of hcl), _, 0, rfl, rfl, _, rfl, ite2 (fun hlt => ?_) (fun hge2 => ?_)⟩
      · have hlt : 0 < ((ns.map V.int).length : Int) := of_decide_eq_true hlt
        rw [List.length_map] at hlt
        have hz : (at0 * 5 + 3).fmod (ns.length : Int) = (at0 * 5 + 3) % (ns.length : Int) := Int.fmod_eq_emod_of_nonneg _ (by omega)
        have h1 : 0 ≤ (at0 * 5 + 3).fmod (ns.length : Int) := Int.fmod_nonneg_of_pos _ hlt
        have h2 : (at0 * 5 + 3).fmod (ns.length : Int) < ns.length := Int.fmod_lt_of_pos _ hlt
        have hi : ((at0 * 5 + 3).fmod (ns.length : Int)).toNat < ns.length := by omega
        have hat : atI (ns.map V.int) ((at0 * 5 + 3).fmod (ns.length : Int)) = some (.int ns[((at0 * 5 + 3).fmod (ns.length : Int)).toNat]) := by
          have h0 : (ns.map V.int)[((at0 * 5 + 3).fmod (ns.length : Int)).toNat]? = some (.int ns[((at0 * 5 + 3).fmod (ns.length : Int)).toNat]) := by rw [List.getElem?_map, List.getElem?_eq_getElem hi]; rfl
          have := atI_nat h0
          rw [show ((((at0 * 5 + 3).fmod (ns.length : Int)).toNat : Nat) : Int) = (at0 * 5 + 3).fmod (ns.length : Int) by omega] at this
          exact this
        have h17 : (10 : Int) ^ (17 : Int).toNat + at0 ≠ 0 := by
          have : (10 : Int) ^ (17 : Int).toNat = 100000000000000000 := by decide
          omega
        refine ⟨.ref p, rfl, p, _, 0, .ref c, rfl, rfl, SqL.of hpl, rfl, .int at0, rfl, at0, 5, rfl, rfl, .inl ⟨by omega, by omega⟩, _, 3, rfl, rfl, .inl ⟨_, rfl, .ref p, rfl, p, _, 0, .ref c, rfl, rfl, SqL.of hpl, rfl, c, _, rfl, .inl (SqL.of hcl), _, _, rfl, rfl, (by rw [List.length_map]; omega), c, _, _, _, rfl, rfl, SqL.of hcl, (by rw [List.length_map]; exact hat), .inl ⟨_, rfl, 10, 17, rfl, rfl, ⟨by decide, by decide, by decide⟩, .int at0, rfl, _, at0, rfl, rfl, _, _, rfl, rfl, h17, ?_⟩⟩⟩
        refine ⟨.int at0, rfl, at0, 1, rfl, rfl, .ref p, rfl, p, _, 1, 1, rfl, rfl, hpl, rfl, ?_⟩
        refine ⟨.int ((ns[((at0 * 5 + 3).fmod (ns.length : Int)).toNat]).fmod (10 ^ (17 : Int).toNat + at0)), rfl, .int at0, rfl, rfl, none, fun _ => none, 0, [.int ((ns[((at0 * 5 + 3).fmod (ns.length : Int)).toNat]).fmod (10 ^ (17 : Int).toNat + at0)), .int at0], fun d _ => ∃ i : Int, d = .int i, fun a o h => (by cases h), fun p c e => (by cases e), ⟨_, _, rfl, rfl, _, _, rfl, rfl, rfl⟩, hT _ _ _ _ ha0 (by omega) (fun i => ⟨i, rfl⟩), ?_⟩
        rintro v H2 ⟨d, n2, g2, r2, i, rfl⟩
        obtain rfl : v = .int i := r2
        have hP1 : (upd H p (.lst [.ref c, .int (at0 + 1), .int rest0])) p = some (.lst [.ref c, .int (at0 + 1), .int rest0]) := upd_same
        have hP2 := g2.ex _ _ hP1 (fun _ _ e => by cases e)
        have hC2 := g2.ex c _ (show (upd H p (.lst [.ref c, .int (at0 + 1), .int rest0])) c = some (.lst (ns.map .int)) by rw [upd_ne (Ne.symm hpc)]; exact hcl) (fun _ _ e => by cases e)
        refine ⟨.ref p, rfl, p, _, 2, 2, rfl, rfl, hP2, rfl, ?_⟩
        have hP3 : (upd H2 p (.lst [.ref c, .int (at0 + 1), .int i])) p = some (.lst [.ref c, .int (at0 + 1), .int i]) := upd_same
        have hC3 : (upd H2 p (.lst [.ref c, .int (at0 + 1), .int i])) c = some (.lst (ns.map .int)) := by rw [upd_ne (Ne.symm hpc)]; exact hC2
        have hE3 : Ex pn H (upd H2 p (.lst [.ref c, .int (at0 + 1), .int i])) := fun b o hb np => by
          have nb := np p c hpn
          rw [upd_ne nb]
          exact g2.ex b o (by rw [upd_ne nb]; exact hb) (fun _ _ e => by cases e)
        refine ⟨.ref p, rfl, p, _, 2, .int (i), rfl, rfl, SqL.of hP3, rfl, .inl ⟨_, rfl, .int m, rfl, _, m, rfl, rfl, by omega, ?_⟩⟩
        refine ⟨.ref p, rfl, p, _, 2, .int (i), rfl, rfl, SqL.of hP3, rfl, .int m, rfl, _, m, rfl, rfl, ⟨hm0, hm1⟩, .ref p, rfl, p, _, 2, 2, rfl, rfl, hP3, rfl, ?_⟩
        exact ⟨_, rfl, last _ (at0 + 1) (i) hE3 hP3 hC3 (by omega) (by omega)⟩
      ·
        refine ⟨.int at0, rfl, at0, 1, rfl, rfl, .ref p, rfl, p, _, 1, 1, rfl, rfl, hpl, rfl, ?_⟩
        refine ⟨.int (0), rfl, .int at0, rfl, rfl, none, fun _ => none, 0, [.int (0), .int at0], fun d _ => ∃ i : Int, d = .int i, fun a o h => (by cases h), fun p c e => (by cases e), ⟨_, _, rfl, rfl, _, _, rfl, rfl, rfl⟩, hT _ _ _ _ ha0 (by omega) (fun i => ⟨i, rfl⟩), ?_⟩
        rintro v H2 ⟨d, n2, g2, r2, i, rfl⟩
        obtain rfl : v = .int i := r2
        have hP1 : (upd H p (.lst [.ref c, .int (at0 + 1), .int rest0])) p = some (.lst [.ref c, .int (at0 + 1), .int rest0]) := upd_same
        have hP2 := g2.ex _ _ hP1 (fun _ _ e => by cases e)
        have hC2 := g2.ex c _ (show (upd H p (.lst [.ref c, .int (at0 + 1), .int rest0])) c = some (.lst (ns.map .int)) by rw [upd_ne (Ne.symm hpc)]; exact hcl) (fun _ _ e => by cases e)
        refine ⟨.ref p, rfl, p, _, 2, 2, rfl, rfl, hP2, rfl, ?_⟩
        have hP3 : (upd H2 p (.lst [.ref c, .int (at0 + 1), .int i])) p = some (.lst [.ref c, .int (at0 + 1), .int i]) := upd_same
        have hC3 : (upd H2 p (.lst [.ref c, .int (at0 + 1), .int i])) c = some (.lst (ns.map .int)) := by rw [upd_ne (Ne.symm hpc)]; exact hC2
        have hE3 : Ex pn H (upd H2 p (.lst [.ref c, .int (at0 + 1), .int i])) := fun b o hb np => by
          have nb := np p c hpn
          rw [upd_ne nb]
          exact g2.ex b o (by rw [upd_ne nb]; exact hb) (fun _ _ e => by cases e)
        refine ⟨.ref p, rfl, p, _, 2, .int (i), rfl, rfl, SqL.of hP3, rfl, .inl ⟨_, rfl, .int m, rfl, _, m, rfl, rfl, by omega, ?_⟩⟩
        refine ⟨.ref p, rfl, p, _, 2, .int (i), rfl, rfl, SqL.of hP3, rfl, .int m, rfl, _, m, rfl, rfl, ⟨hm0, hm1⟩, .ref p, rfl, p, _, 2, 2, rfl, rfl, hP3, rfl, ?_⟩
        exact ⟨_, rfl, last _ (at0 + 1) (i) hE3 hP3 hC3 (by omega) (by omega)⟩
  ·
    refine ⟨.ref p, rfl, p, _, 2, .int (rest0), rfl, rfl, SqL.of hpl, rfl, .inl ⟨_, rfl, .int m, rfl, _, m, rfl, rfl, by omega, ?_⟩⟩
    refine ⟨.ref p, rfl, p, _, 2, .int (rest0), rfl, rfl, SqL.of hpl, rfl, .int m, rfl, _, m, rfl, rfl, ⟨hm0, hm1⟩, .ref p, rfl, p, _, 2, 2, rfl, rfl, hpl, rfl, ?_⟩
    exact ⟨_, rfl, last _ at0 (rest0) (Ex.refl pn H) hpl hcl ha0 (by omega)⟩


abbrev s__law_same : Stmt := topS 17
theorem sc__law_same : FnScope ["found", "due", "one", "other"] ["found", "due"] (defScope s__law_same) := ⟨rfl, rfl, rfl, by decide +kernel, rfl, by decide +kernel, by decide +kernel⟩
def T__law_same : Nat → FT
  | 0 => fun _ _ _ => False
  | m + 1 => fnD 2 4 (sSeq (sIf (bOr (bCmp isD (tVarD 1) (tCD .non)) (bCmp isD (tVarD 0) (tCD .non))) (sRet (tAndD (tOpD isD (tVarD 1) (tCD .non)) (tOpD isD (tVarD 0) (tCD .non)))) sNil) (sSeq (sIf (bOr (bVal (tIsi "bool" (tVarD 1))) (bVal (tIsi "bool" (tVarD 0)))) (sRet (tAndD (tIsi "bool" (tVarD 1)) (tAndD (tIsi "bool" (tVarD 0)) (tOpD eqD (tVarD 0) (tVarD 1))))) sNil) (sSeq (sIf (bVal (tIsiIS (tVarD 1))) (sSeq (sIf (bCmp neD (tIsi "int" (tVarD 0)) (tIsi "int" (tVarD 1))) (sRet (tCD (.bl false))) sNil) (sRet (tAndD (tIsiIS (tVarD 0)) (tOpD eqD (tVarD 0) (tVarD 1))))) sNil) (sSeq (sIf (bOr (bCmp neD (tIsi "tuple" (tVarD 1)) (tIsi "tuple" (tVarD 0))) (bCmp neD (tIsi "list" (tVarD 1)) (tIsi "list" (tVarD 0)))) (sRet (tCD (.bl false))) sNil) (sSeq (sIf (bCmp neD (tCallB lenD (aCons (tVarD 0) aNil)) (tCallB lenD (aCons (tVarD 1) aNil))) (sRet (tCD (.bl false))) sNil) (sRet (tOpD (inD true) (tCD (.bl false)) (tComp (wZip (aCons (tVarD 0) (aCons (tVarD 1) aNil))) (fTup 2 (fsCons (fName 2) (fsCons (fName 3) fsNil))) bYes (tCallD (T__law_same m) (aCons (tVarD 2) (aCons (tVarD 3) aNil))) [2, 3]))))))))
theorem T__law_same_len : ∀ (m : Nat) (ds : List D) (n : Nat) (q : QD), T__law_same m ds n q → ds.length = 2
  | 0, _, _, _, h => h.elim
  | _ + 1, _, _, _, h => h.1
theorem ok__law_same (B : NoB mg) {f__law_same : Addr} {fd__law_same : FuncData} (E__law_same : Ent K mg "_law_same" s__law_same ["found", "due"] f__law_same fd__law_same) (m : Nat) : FnOk P w K mg base CX0 (0 + m) f__law_same fd__law_same ["found", "due"] (lift K 2 (T__law_same m)) := by
  induction m with
  | zero => exact fn_none
  | succ m G__law_same =>
    refine fn_D (k := 0 + m) 2 4 rfl rfl (by decide) E__law_same.F sc__law_same [] fun cdv A outer s H E hr => ⟨[], ?_⟩
    have nd := sc__law_same.nd
    exact (s_cons (s_if (bd_w (wb_or (bd_cmpT op_isN (nomark _) o2_is (ed_var (pv 1)) ed_non) (wb_or1 (bd_cmpT op_isN (nomark _) o2_is (ed_var (pv 0)) ed_non)))) (s_one (s_ret (ed_and (ed_cmp op_isN (nomark _) o2_is (ed_var (pv 1)) ed_non) (ed_one (ed_cmp op_isN (nomark _) o2_is (ed_var (pv 0)) ed_non))))) s_nil) (s_cons (s_if (bd_w (wb_or (bd_valT (ed_isi (T := "bool") B (by decide +kernel) (by rfl) (by rfl) (by decide) (by decide +kernel) (ed_var (pv 1)))) (wb_or1 (bd_valT (ed_isi (T := "bool") B (by decide +kernel) (by rfl) (by rfl) (by decide) (by decide +kernel) (ed_var (pv 0))))))) (s_one (s_ret (ed_and (ed_isi (T := "bool") B (by decide +kernel) (by rfl) (by rfl) (by decide) (by decide +kernel) (ed_var (pv 1))) (ed_and (ed_isi (T := "bool") B (by decide +kernel) (by rfl) (by rfl) (by decide) (by decide +kernel) (ed_var (pv 0))) (ed_one (ed_cmp ((op_eqD hr.units).or op_eq) (nomark _) o2_eq (ed_var (pv 0)) (ed_var (pv 1)))))))) s_nil) (s_cons (s_if (bd_valT (ed_isiIS B (by rfl) (by rfl) (by rfl) (ed_var (pv 1)))) (s_cons (s_if (bd_cmpT ((op_neD hr.units).or op_ne) (nomark _) o2_ne (ed_isi (T := "int") B (by decide +kernel) (by rfl) (by rfl) (by decide) (by decide +kernel) (ed_var (pv 0))) (ed_isi (T := "int") B (by decide +kernel) (by rfl) (by rfl) (by decide) (by decide +kernel) (ed_var (pv 1)))) (s_one (s_ret ed_bl)) s_nil) (s_one (s_ret (ed_and (ed_isiIS B (by rfl) (by rfl) (by rfl) (ed_var (pv 0))) (ed_one (ed_cmp ((op_eqD hr.units).or op_eq) (nomark _) o2_eq (ed_var (pv 0)) (ed_var (pv 1)))))))) s_nil) (s_cons (s_if (bd_w (wb_or (bd_cmpT ((op_neD hr.units).or op_ne) (nomark _) o2_ne (ed_isi (T := "tuple") B (by decide +kernel) (by rfl) (by rfl) (by decide) (by decide +kernel) (ed_var (pv 1))) (ed_isi (T := "tuple") B (by decide +kernel) (by rfl) (by rfl) (by decide) (by decide +kernel) (ed_var (pv 0)))) (wb_or1 (bd_cmpT ((op_neD hr.units).or op_ne) (nomark _) o2_ne (ed_isi (T := "list") B (by decide +kernel) (by rfl) (by rfl) (by decide) (by decide +kernel) (ed_var (pv 1))) (ed_isi (T := "list") B (by decide +kernel) (by rfl) (by rfl) (by decide) (by decide +kernel) (ed_var (pv 0))))))) (s_one (s_ret ed_bl)) s_nil) (s_cons (s_if (bd_cmpT ((op_neD hr.units).or op_ne) (nomark _) o2_ne (ed_len B (by rfl) (ad_cons (ed_var (pv 0)) ad_nil)) (ed_len B (by rfl) (ad_cons (ed_var (pv 1)) ad_nil))) (s_one (s_ret ed_bl)) s_nil) (s_one (s_ret (ed_cmp op_notIn_seq (by rfl) o2_in ed_bl (ed_lc (own := [("one", 2), ("other", 3)]) (by rfl) nd (wd_zip B (by rfl) (ad_cons (ed_var (pv 0)) (ad_cons (ed_var (pv 1)) ad_nil))) (blkOk_by (N := ["found", "due", "one", "other"]) (sc := defScope s__law_same) (by decide +kernel)) (tr_tup 2 (trs_cons (tr_name 2) (trs_cons (tr_name 3) trs_nil))) (fun _ _ _ _ _ => (pg_tup (by rfl) (pgs_cons (pg_name (i := 2) nd rfl (by first | exact .inl rfl | exact .inr rfl)) (pgs_cons (pg_name (i := 3) nd rfl (by first | exact .inl rfl | exact .inr rfl)) pgs_nil)))) (fun _ _ _ _ _ => ts_nil) (fun _ _ _ _ _ => (ed_call G__law_same (by first | exact hr | exact hr.mono (by decide) | exact hr.mono (by omega)) (by rfl) E__law_same.g E__law_same.F.kp E__law_same.b (ad_cons (ed_var (pv 2)) (ad_cons (ed_var (pv 3)) ad_nil)) (T__law_same_len m))))))))))))

abbrev s__law_one_of : Stmt := topS 18
theorem sc__law_one_of : FnScope ["pen", "some"] ["pen", "some"] (defScope s__law_one_of) := ⟨rfl, rfl, rfl, by decide +kernel, rfl, by decide +kernel, by decide +kernel⟩
def T__law_one_of : FT := fnD 2 2 (sRet (tOpD ixD (tVarD 1) (tCallD takeD (aCons (tVarD 0) (aCons (tCallB lenD (aCons (tVarD 1) aNil)) aNil)))))
theorem ok__law_one_of (B : NoB mg) {f__law_take : Addr} {fd__law_take : FuncData} (E__law_take : Ent K mg "_law_take" s__law_take ["pen", "amount"] f__law_take fd__law_take) (G__law_take : FnOk P w K mg base CX0 2 f__law_take fd__law_take ["pen", "amount"] (lift K 2 takeD)) {f__law_one_of : Addr} {fd__law_one_of : FuncData} (E__law_one_of : Ent K mg "_law_one_of" s__law_one_of ["pen", "some"] f__law_one_of fd__law_one_of) : FnOk P w K mg base CX0 3 f__law_one_of fd__law_one_of ["pen", "some"] (lift K 2 T__law_one_of) := by
  refine fn_D 2 2 rfl rfl (by decide) E__law_one_of.F sc__law_one_of [] fun cdv A outer s H E hr => ⟨[], ?_⟩
  have nd := sc__law_one_of.nd
  exact (s_one (s_ret (ed_ix (ed_var (pv 1)) (ed_call G__law_take (by first | exact hr | exact hr.mono (by decide) | exact hr.mono (by omega)) (by rfl) E__law_take.g E__law_take.F.kp E__law_take.b (ad_cons (ed_var (pv 0)) (ad_cons (ed_len B (by rfl) (ad_cons (ed_var (pv 1)) ad_nil)) ad_nil)) (takeD_len)))))

abbrev s__law_between : Stmt := topS 19
theorem sc__law_between : FnScope ["value", "low", "high"] ["value", "low", "high"] (defScope s__law_between) := ⟨rfl, rfl, rfl, by decide +kernel, rfl, by decide +kernel, by decide +kernel⟩
def T__law_between : FT := fnD 3 3 (sRet (tAndD (tIsi "int" (tVarD 0)) (tAndD (tNotD (tIsi "bool" (tVarD 0))) (tChainD leD leD (tVarD 1) (tVarD 0) (tVarD 2)))))
theorem ok__law_between (B : NoB mg) {f__law_between : Addr} {fd__law_between : FuncData} (E__law_between : Ent K mg "_law_between" s__law_between ["value", "low", "high"] f__law_between fd__law_between) : FnOk P w K mg base CX0 1 f__law_between fd__law_between ["value", "low", "high"] (lift K 3 T__law_between) := by
  refine fn_D 3 3 rfl rfl (by decide) E__law_between.F sc__law_between [] fun cdv A outer s H E hr => ⟨[], ?_⟩
  have nd := sc__law_between.nd
  exact (s_one (s_ret (ed_and (ed_isi (T := "int") B (by decide +kernel) (by rfl) (by rfl) (by decide) (by decide +kernel) (ed_var (pv 0))) (ed_and (ed_not (ed_isi (T := "bool") B (by decide +kernel) (by rfl) (by rfl) (by decide) (by decide +kernel) (ed_var (pv 0)))) (ed_one (ed_chain op_le op_le o2_cmpI o2_cmpI (ed_var (pv 1)) (ed_var (pv 0)) (ed_var (pv 2))))))))

abbrev s__law_draw_bounds : Stmt := topS 20
theorem sc__law_draw_bounds : FnScope ["pen", "low", "high"] ["pen"] (defScope s__law_draw_bounds) := ⟨rfl, rfl, rfl, by decide +kernel, rfl, by decide +kernel, by decide +kernel⟩
def T__law_draw_bounds : FT := fnD 1 3 (sSeq (sAsg [] (fName 1) (tCallD T__law_one_of (aCons (tVarD 0) (aCons (tLstD (aCons (tCD (.int 0)) (aCons (tCD (.int 0)) (aCons (tCD (.int 0)) (aCons (tOp1D negD (tCD (.int 1))) (aCons (tOpD subD (tCallD takeD (aCons (tVarD 0) (aCons (tCD (.int 9)) aNil))) (tCD (.int 4))) (aCons (tOp1D negD (tCD (.int 1000000))) aNil))))))) aNil)))) (sSeq (sAsg [] (fName 2) (tOpD addD (tVarD 1) (tCallD T__law_one_of (aCons (tVarD 0) (aCons (tLstD (aCons (tCD (.int 0)) (aCons (tCD (.int 1)) (aCons (tCD (.int 2)) (aCons (tCD (.int 3)) (aCons (tCD (.int 4)) (aCons (tCD (.int 9)) aNil))))))) aNil))))) (sRet (tIfD (bCmp eqD (tCallD takeD (aCons (tVarD 0) (aCons (tCD (.int 9)) aNil))) (tCD (.int 0))) (tTupD (aCons (tVarD 1) (aCons (tCD (.int 1000000)) aNil))) (tTupD (aCons (tVarD 1) (aCons (tVarD 2) aNil)))))))
theorem ok__law_draw_bounds (B : NoB mg) {f__law_one_of : Addr} {fd__law_one_of : FuncData} (E__law_one_of : Ent K mg "_law_one_of" s__law_one_of ["pen", "some"] f__law_one_of fd__law_one_of) (G__law_one_of : FnOk P w K mg base CX0 3 f__law_one_of fd__law_one_of ["pen", "some"] (lift K 2 T__law_one_of)) {f__law_take : Addr} {fd__law_take : FuncData} (E__law_take : Ent K mg "_law_take" s__law_take ["pen", "amount"] f__law_take fd__law_take) (G__law_take : FnOk P w K mg base CX0 2 f__law_take fd__law_take ["pen", "amount"] (lift K 2 takeD)) {f__law_draw_bounds : Addr} {fd__law_draw_bounds : FuncData} (E__law_draw_bounds : Ent K mg "_law_draw_bounds" s__law_draw_bounds ["pen"] f__law_draw_bounds fd__law_draw_bounds) : FnOk P w K mg base CX0 4 f__law_draw_bounds fd__law_draw_bounds ["pen"] (lift K 1 T__law_draw_bounds) := by
  refine fn_D 1 3 rfl rfl (by decide) E__law_draw_bounds.F sc__law_draw_bounds [] fun cdv A outer s H E hr => ⟨[], ?_⟩
  have nd := sc__law_draw_bounds.nd
  exact (s_cons (s_asg [] (fun _ h => ps_set (i := 1) nd rfl (by first | exact .inl rfl | exact .inr rfl) h) (ed_call G__law_one_of (by first | exact hr | exact hr.mono (by decide) | exact hr.mono (by omega)) (by rfl) E__law_one_of.g E__law_one_of.F.kp E__law_one_of.b (ad_cons (ed_var (pv 0)) (ad_cons (ed_lstT (ad_cons ed_int (ad_cons ed_int (ad_cons ed_int (ad_cons (ed_neg ed_int) (ad_cons (ed_sub (ed_call G__law_take (by first | exact hr | exact hr.mono (by decide) | exact hr.mono (by omega)) (by rfl) E__law_take.g E__law_take.F.kp E__law_take.b (ad_cons (ed_var (pv 0)) (ad_cons ed_int ad_nil)) (takeD_len)) ed_int) (ad_cons (ed_neg ed_int) ad_nil))))))) ad_nil)) (fun _ _ _ h => h.1)) (tr_name 1)) (s_cons (s_asg [] (fun _ h => ps_set (i := 2) nd rfl (by first | exact .inl rfl | exact .inr rfl) h) (ed_add (ed_var (pv 1)) (ed_call G__law_one_of (by first | exact hr | exact hr.mono (by decide) | exact hr.mono (by omega)) (by rfl) E__law_one_of.g E__law_one_of.F.kp E__law_one_of.b (ad_cons (ed_var (pv 0)) (ad_cons (ed_lstT (ad_cons ed_int (ad_cons ed_int (ad_cons ed_int (ad_cons ed_int (ad_cons ed_int (ad_cons ed_int ad_nil))))))) ad_nil)) (fun _ _ _ h => h.1))) (tr_name 2)) (s_one (s_ret (ed_if (bd_cmpT ((op_eqD hr.units).or op_eq) (nomark _) o2_eq (ed_call G__law_take (by first | exact hr | exact hr.mono (by decide) | exact hr.mono (by omega)) (by rfl) E__law_take.g E__law_take.F.kp E__law_take.b (ad_cons (ed_var (pv 0)) (ad_cons ed_int ad_nil)) (takeD_len)) ed_int) (ed_tupT (ad_cons (ed_var (pv 1)) (ad_cons ed_int ad_nil))) (ed_tupT (ad_cons (ed_var (pv 1)) (ad_cons (ed_var (pv 2)) ad_nil))))))))

abbrev s__law_draw_key : Stmt := topS 21
theorem sc__law_draw_key : FnScope ["pen", "many", "one", "two"] ["pen", "many"] (defScope s__law_draw_key) := ⟨rfl, rfl, rfl, by decide +kernel, rfl, by decide +kernel, by decide +kernel⟩
def T__law_draw_key : FT := fnD 2 4 (sSeq (sPar [] 2 3 (aCons (tCallD takeD (aCons (tVarD 0) (aCons (tVarD 1) aNil))) (aCons (tCallD takeD (aCons (tVarD 0) (aCons (tVarD 1) aNil))) aNil))) (sRet (tIfD (bOr (bCmp eqD (tVarD 2) (tVarD 3)) (bCmp eqD (tCallD takeD (aCons (tVarD 0) (aCons (tCD (.int 2)) aNil))) (tCD (.int 0)))) (tTupD (aCons (tVarD 2) aNil)) (tTupD (aCons (tCallB min2D (aCons (tVarD 2) (aCons (tVarD 3) aNil))) (aCons (tCallB max2D (aCons (tVarD 2) (aCons (tVarD 3) aNil))) aNil))))))
theorem ok__law_draw_key (B : NoB mg) {f__law_take : Addr} {fd__law_take : FuncData} (E__law_take : Ent K mg "_law_take" s__law_take ["pen", "amount"] f__law_take fd__law_take) (G__law_take : FnOk P w K mg base CX0 2 f__law_take fd__law_take ["pen", "amount"] (lift K 2 takeD)) {f__law_draw_key : Addr} {fd__law_draw_key : FuncData} (E__law_draw_key : Ent K mg "_law_draw_key" s__law_draw_key ["pen", "many"] f__law_draw_key fd__law_draw_key) : FnOk P w K mg base CX0 3 f__law_draw_key fd__law_draw_key ["pen", "many"] (lift K 2 T__law_draw_key) := by
  refine fn_D 2 4 rfl rfl (by decide) E__law_draw_key.F sc__law_draw_key [] fun cdv A outer s H E hr => ⟨[], ?_⟩
  have nd := sc__law_draw_key.nd
  exact (s_cons (s_par [] (fun _ h => ps_par (i := 2) (j := 3) (by rfl) nd rfl rfl (by decide) rfl rfl h (by rfl)) (ad_cons (ed_call G__law_take (by first | exact hr | exact hr.mono (by decide) | exact hr.mono (by omega)) (by rfl) E__law_take.g E__law_take.F.kp E__law_take.b (ad_cons (ed_var (pv 0)) (ad_cons (ed_var (pv 1)) ad_nil)) (takeD_len)) (ad_cons (ed_call G__law_take (by first | exact hr | exact hr.mono (by decide) | exact hr.mono (by omega)) (by rfl) E__law_take.g E__law_take.F.kp E__law_take.b (ad_cons (ed_var (pv 0)) (ad_cons (ed_var (pv 1)) ad_nil)) (takeD_len)) ad_nil))) (s_one (s_ret (ed_if (bd_w (wb_or (bd_cmpT ((op_eqD hr.units).or op_eq) (nomark _) o2_eq (ed_var (pv 2)) (ed_var (pv 3))) (wb_or1 (bd_cmpT ((op_eqD hr.units).or op_eq) (nomark _) o2_eq (ed_call G__law_take (by first | exact hr | exact hr.mono (by decide) | exact hr.mono (by omega)) (by rfl) E__law_take.g E__law_take.F.kp E__law_take.b (ad_cons (ed_var (pv 0)) (ad_cons ed_int ad_nil)) (takeD_len)) ed_int)))) (ed_tupT (ad_cons (ed_var (pv 2)) ad_nil)) (ed_tupT (ad_cons (ed_min2 B (by rfl) (by rfl) (ad_cons (ed_var (pv 2)) (ad_cons (ed_var (pv 3)) ad_nil))) (ad_cons (ed_max2 B (by rfl) (by rfl) (ad_cons (ed_var (pv 2)) (ad_cons (ed_var (pv 3)) ad_nil))) ad_nil)))))))

abbrev s__law_draw_reference : Stmt := topS 22
theorem sc__law_draw_reference : FnScope ["pen", "tables", "bounds", "some", "number", "columns", "rest", "own", "low", "high", "fit", "table", "column"] ["pen", "tables", "bounds"] (defScope s__law_draw_reference) := ⟨rfl, rfl, rfl, by decide +kernel, rfl, by decide +kernel, by decide +kernel⟩
def T__law_draw_reference : FT := fnD 3 13 (sSeq (sAsg [] (fName 3) (tL (tCompL (wEnum (aCons (tVarD 1) aNil)) (fTup 2 (fsCons (fName 4) (fsCons (fName 11) fsNil))) (bCmp eqD (tOpD ixD (tVarD 11) (tCD (.int 2))) (tTupD aNil)) (tVarD 4) [4, 11]))) (sSeq (sAsg [] (fName 4) (tIfD (bCmp neD (tVarD 3) (tLstD aNil)) (tCallD T__law_one_of (aCons (tVarD 0) (aCons (tVarD 3) aNil))) (tCD .non))) (sSeq (sIf (bOr (bCmp isD (tVarD 4) (tCD .non)) (bCmp ltD (tCallB lenD (aCons (tVarD 2) aNil)) (tCallB lenD (aCons (tOpD ixD (tOpD ixD (tVarD 1) (tVarD 4)) (tCD (.int 1))) aNil)))) (sRet (tCD .non)) sNil) (sSeq (sPar2 [] 5 6 (lLstD aNil) (lList_range1 (aCons (tCallB lenD (aCons (tVarD 2) aNil)) aNil))) (sSeq (sFor [6, 5] (wAny (tOpD ixD (tOpD ixD (tVarD 1) (tVarD 4)) (tCD (.int 1)))) (fName 7) (sSeq (sAsg [6, 5] (fTup 2 (fsCons (fName 8) (fsCons (fName 9) fsNil))) (tOpD ixD (tOpD ixD (tOpD ixD (tVarD 1) (tVarD 4)) (tCD (.int 0))) (tVarD 7))) (sSeq (sOwnP 10 (tCompL (wAny (tVarD 6)) (fName 12) (bAnd (bCmp leD (tVarD 8) (tOpD ixD (tOpD ixD (tVarD 2) (tVarD 12)) (tCD (.int 0)))) (bCmp leD (tOpD ixD (tOpD ixD (tVarD 2) (tVarD 12)) (tCD (.int 1))) (tVarD 9))) (tVarD 12) [12])) (sSeq (sIf (bCmp eqD (tVarD 10) (tLstD aNil)) (sRet (tCD .non)) sNil) (sSeq (sAppP 5 (tCallD T__law_one_of (aCons (tVarD 0) (aCons (tVarD 10) aNil)))) (sRem 6 (tOpD ixD (tVarD 5) (tOp1D negD (tCD (.int 1)))))))))) (sRet (tTupD (aCons (tCallB tupleD (aCons (tVarD 5) aNil)) (aCons (tVarD 4) aNil)))))))))
theorem ok__law_draw_reference (B : NoB mg) {f__law_one_of : Addr} {fd__law_one_of : FuncData} (E__law_one_of : Ent K mg "_law_one_of" s__law_one_of ["pen", "some"] f__law_one_of fd__law_one_of) (G__law_one_of : FnOk P w K mg base CX0 3 f__law_one_of fd__law_one_of ["pen", "some"] (lift K 2 T__law_one_of)) {f__law_draw_reference : Addr} {fd__law_draw_reference : FuncData} (E__law_draw_reference : Ent K mg "_law_draw_reference" s__law_draw_reference ["pen", "tables", "bounds"] f__law_draw_reference fd__law_draw_reference) : FnOk P w K mg base CX0 4 f__law_draw_reference fd__law_draw_reference ["pen", "tables", "bounds"] (lift K 3 T__law_draw_reference) := by
  refine fn_D 3 13 rfl rfl (by decide) E__law_draw_reference.F sc__law_draw_reference [] fun cdv A outer s H E hr => ⟨[], ?_⟩
  have nd := sc__law_draw_reference.nd
  exact (s_cons (s_asgT [] (ps_lcSet (i := 3) (by rfl) nd rfl rfl (sw_true rfl rfl rfl (by decide +kernel)) (own := [("number", 4), ("table", 11)]) (wd_enum B (by rfl) (ad_cons (ed_var (pv 1)) ad_nil)) (blkOk_by (N := ["pen", "tables", "bounds", "some", "number", "columns", "rest", "own", "low", "high", "fit", "table", "column"]) (sc := defScope s__law_draw_reference) (by decide +kernel)) (tr_tup 2 (trs_cons (tr_name 4) (trs_cons (tr_name 11) trs_nil))) (fun _ _ _ _ _ => (pg_tup (by rfl) (pgs_cons (pg_name (i := 4) nd rfl (by first | exact .inl rfl | exact .inr rfl)) (pgs_cons (pg_name (i := 11) nd rfl (by first | exact .inl rfl | exact .inr rfl)) pgs_nil)))) (fun _ _ _ _ _ => (ts_one (bd_cmpT ((op_eqD hr.units).or op_eq) (nomark _) o2_eq (ed_ix (ed_var (pv 11)) ed_int) (ed_tupT ad_nil)))) (fun _ _ _ _ _ => (ed_var (pv 4))))) (s_cons (s_asg [] (fun _ h => ps_set (i := 4) nd rfl (by first | exact .inl rfl | exact .inr rfl) h) (ed_if (bd_cmpT ((op_neD hr.units).or op_ne) (nomark _) o2_ne (ed_var (pv 3)) (ed_lstT ad_nil)) (ed_call G__law_one_of (by first | exact hr | exact hr.mono (by decide) | exact hr.mono (by omega)) (by rfl) E__law_one_of.g E__law_one_of.F.kp E__law_one_of.b (ad_cons (ed_var (pv 0)) (ad_cons (ed_var (pv 3)) ad_nil)) (fun _ _ _ h => h.1)) ed_non) (tr_name 4)) (s_cons (s_if (bd_w (wb_or (bd_cmpT op_isN (nomark _) o2_is (ed_var (pv 4)) ed_non) (wb_or1 (bd_cmpT op_lt (nomark _) o2_cmpI (ed_len B (by rfl) (ad_cons (ed_var (pv 2)) ad_nil)) (ed_len B (by rfl) (ad_cons (ed_ix (ed_ix (ed_var (pv 1)) (ed_var (pv 4))) ed_int) ad_nil)))))) (s_one (s_ret ed_non)) s_nil) (s_cons (s_par2 [] (fun _ h => ps_par (i := 5) (j := 6) (by rfl) nd rfl rfl (by decide) rfl rfl h (by rfl)) (ld_lstT ad_nil) (ld_list_range1 B (by rfl) (by rfl) (by rfl) (ed_len B (by rfl) (ad_cons (ed_var (pv 2)) ad_nil)))) (s_cons (s_for [6, 5] [10, 6, 5] PassesOwn.never (by rfl) (wd_seq (ed_ix (ed_ix (ed_var (pv 1)) (ed_var (pv 4))) ed_int)) (pg_name (i := 7) nd rfl (by first | exact .inl rfl | exact .inr rfl)) (tr_name 7) (s_cons (s_asg [6, 5] (fun _ h => ps_asg h (pg_tup (by rfl) (pgs_cons (pg_name (i := 8) nd rfl (by first | exact .inl rfl | exact .inr rfl)) (pgs_cons (pg_name (i := 9) nd rfl (by first | exact .inl rfl | exact .inr rfl)) pgs_nil)))) (ed_ix (ed_ix (ed_ix (ed_var (pv 1)) (ed_var (pv 4))) ed_int) (ed_var (pv 7))) (tr_tup 2 (trs_cons (tr_name 8) (trs_cons (tr_name 9) trs_nil)))) (s_cons (s_ownPT (ps_lcSet (i := 10) (by rfl) nd rfl rfl (sw_true rfl rfl rfl (by decide +kernel)) (own := [("column", 12)]) (wd_seq (ed_var (pv 6))) (blkOk_by (N := ["pen", "tables", "bounds", "some", "number", "columns", "rest", "own", "low", "high", "fit", "table", "column"]) (sc := defScope s__law_draw_reference) (by decide +kernel)) (tr_name 12) (fun _ _ _ _ _ => (pg_name (i := 12) nd rfl (by first | exact .inl rfl | exact .inr rfl))) (fun _ _ _ _ _ => (ts_one (bd_w (wb_and (bd_cmpT op_le (nomark _) o2_cmpI (ed_var (pv 8)) (ed_ix (ed_ix (ed_var (pv 2)) (ed_var (pv 12))) ed_int)) (wb_and1 (bd_cmpT op_le (nomark _) o2_cmpI (ed_ix (ed_ix (ed_var (pv 2)) (ed_var (pv 12))) ed_int) (ed_var (pv 9)))))))) (fun _ _ _ _ _ => (ed_var (pv 12))))) (s_cons (s_if (bd_cmpT ((op_eqD hr.units).or op_eq) (nomark _) o2_eq (ed_var (pv 10)) (ed_lstT ad_nil)) (s_one (s_ret ed_non)) s_nil) (s_cons (s_appP (fun _ h => ps_expr (pe_bm PySem.F.plainAttrs_list PySem.F.slot_list_append PySem.F.type_list_append mt_append (pv 5) (pa_cons h pa_nil))) (ed_call G__law_one_of (by first | exact hr | exact hr.mono (by decide) | exact hr.mono (by omega)) (by rfl) E__law_one_of.g E__law_one_of.F.kp E__law_one_of.b (ad_cons (ed_var (pv 0)) (ad_cons (ed_var (pv 10)) ad_nil)) (fun _ _ _ h => h.1))) (s_one (s_rem (fun _ h => ps_expr (pe_bm PySem.F.plainAttrs_list PySem.F.slot_list_remove PySem.F.type_list_remove mt_remove (pv 6) (pa_cons h pa_nil))) (ed_ix (ed_var (pv 5)) (ed_neg ed_int))))))))) (s_one (s_ret (ed_tupT (ad_cons (ed_tuple B (by rfl) (ad_cons (ed_var (pv 5)) ad_nil)) (ad_cons (ed_var (pv 4)) ad_nil))))))))))

abbrev s__law_draw_table : Stmt := topS 23
theorem sc__law_draw_table : FnScope ["pen", "tables", "columns", "bounds", "some", "other", "far", "k", "own", "references", "key", "number", "table", "again", "one"] ["pen", "tables", "columns"] (defScope s__law_draw_table) := ⟨rfl, rfl, rfl, by decide +kernel, rfl, by decide +kernel, by decide +kernel⟩
def T__law_draw_table : FT := fnD 3 15 (sSeq (sOwn [] 3 (tCompL (wRng1 (aCons (tOpD addD (tCD (.int 1)) (tCallD takeD (aCons (tVarD 0) (aCons (tVarD 2) aNil)))) aNil)) (fName 7) bYes (tCallD T__law_draw_bounds (aCons (tVarD 0) aNil)) [7])) (sSeq (sAsg [3] (fName 4) (tL (tCompL (wEnum (aCons (tVarD 1) aNil)) (fTup 2 (fsCons (fName 11) (fsCons (fName 12) fsNil))) (bCmp eqD (tOpD ixD (tVarD 12) (tCD (.int 2))) (tTupD aNil)) (tVarD 11) [11, 12]))) (sSeq (sIf (bAnd (bCmp neD (tVarD 4) (tLstD aNil)) (bCmp gtD (tCallD takeD (aCons (tVarD 0) (aCons (tCD (.int 4)) aNil))) (tCD (.int 0)))) (sSeq (sAsg [3] (fName 5) (tOpD ixD (tVarD 1) (tCallD T__law_one_of (aCons (tVarD 0) (aCons (tVarD 4) aNil))))) (sSeq (sAsgP (fName 6) (tCallB intD (aCons (tOpD gtD (tCallB lenD (aCons (tVarD 3) aNil)) (tCallB lenD (aCons (tOpD ixD (tVarD 5) (tCD (.int 1))) aNil))) aNil))) (sForP (wEnumP (aCons (tSlD (tOpD ixD (tVarD 5) (tCD (.int 1))) oNone (oSome (tCallB lenD (aCons (tVarD 3) aNil)))) aNil)) (fTup 2 (fsCons (fName 7) (fsCons (fName 8) fsNil))) (sSet 3 (tOpD ixD (tOpD ixD (tVarD 5) (tCD (.int 0))) (tVarD 8)) (tOpD addD (tVarD 7) (tVarD 6)))))) sNil) (sSeq (sOwnP 9 (tCompL (wRng1 (aCons (tCallD takeD (aCons (tVarD 0) (aCons (tCD (.int 3)) aNil))) aNil)) (fName 13) bYes (tCallD T__law_draw_reference (aCons (tVarD 0) (aCons (tVarD 1) (aCons (tVarD 3) aNil)))) [13])) (sSeq (sAsg [9] (fName 10) (tCallD T__law_draw_key (aCons (tVarD 0) (aCons (tCallB lenD (aCons (tVarD 3) aNil)) aNil)))) (sRet (tTupD (aCons (tCallB tupleD (aCons (tVarD 3) aNil)) (aCons (tVarD 10) (aCons (tCallB tupleD (aCons (tComp (wAny (tVarD 9)) (fName 14) (bCmp notD (tVarD 14) (tCD .non)) (tVarD 14) [14]) aNil)) aNil))))))))))
theorem ok__law_draw_table (B : NoB mg) {f__law_draw_bounds : Addr} {fd__law_draw_bounds : FuncData} (E__law_draw_bounds : Ent K mg "_law_draw_bounds" s__law_draw_bounds ["pen"] f__law_draw_bounds fd__law_draw_bounds) (G__law_draw_bounds : FnOk P w K mg base CX0 4 f__law_draw_bounds fd__law_draw_bounds ["pen"] (lift K 1 T__law_draw_bounds)) {f__law_draw_key : Addr} {fd__law_draw_key : FuncData} (E__law_draw_key : Ent K mg "_law_draw_key" s__law_draw_key ["pen", "many"] f__law_draw_key fd__law_draw_key) (G__law_draw_key : FnOk P w K mg base CX0 3 f__law_draw_key fd__law_draw_key ["pen", "many"] (lift K 2 T__law_draw_key)) {f__law_draw_reference : Addr} {fd__law_draw_reference : FuncData} (E__law_draw_reference : Ent K mg "_law_draw_reference" s__law_draw_reference ["pen", "tables", "bounds"] f__law_draw_reference fd__law_draw_reference) (G__law_draw_reference : FnOk P w K mg base CX0 4 f__law_draw_reference fd__law_draw_reference ["pen", "tables", "bounds"] (lift K 3 T__law_draw_reference)) {f__law_one_of : Addr} {fd__law_one_of : FuncData} (E__law_one_of : Ent K mg "_law_one_of" s__law_one_of ["pen", "some"] f__law_one_of fd__law_one_of) (G__law_one_of : FnOk P w K mg base CX0 3 f__law_one_of fd__law_one_of ["pen", "some"] (lift K 2 T__law_one_of)) {f__law_take : Addr} {fd__law_take : FuncData} (E__law_take : Ent K mg "_law_take" s__law_take ["pen", "amount"] f__law_take fd__law_take) (G__law_take : FnOk P w K mg base CX0 2 f__law_take fd__law_take ["pen", "amount"] (lift K 2 takeD)) {f__law_draw_table : Addr} {fd__law_draw_table : FuncData} (E__law_draw_table : Ent K mg "_law_draw_table" s__law_draw_table ["pen", "tables", "columns"] f__law_draw_table fd__law_draw_table) : FnOk P w K mg base CX0 5 f__law_draw_table fd__law_draw_table ["pen", "tables", "columns"] (lift K 3 T__law_draw_table) := by
  refine fn_D 3 15 rfl rfl (by decide) E__law_draw_table.F sc__law_draw_table [] fun cdv A outer s H E hr => ⟨[], ?_⟩
  have nd := sc__law_draw_table.nd
  exact (s_cons (s_own [] (fun _ h => ps_set (i := 3) nd rfl (by first | exact .inl rfl | exact .inr rfl) h) (ld_lc (own := [("k", 7)]) (by rfl) nd (wd_rng1 B (by rfl) (ad_cons (ed_add ed_int (ed_call G__law_take (by first | exact hr | exact hr.mono (by decide) | exact hr.mono (by omega)) (by rfl) E__law_take.g E__law_take.F.kp E__law_take.b (ad_cons (ed_var (pv 0)) (ad_cons (ed_var (pv 2)) ad_nil)) (takeD_len))) ad_nil)) (blkOk_by (N := ["pen", "tables", "columns", "bounds", "some", "other", "far", "k", "own", "references", "key", "number", "table", "again", "one"]) (sc := defScope s__law_draw_table) (by decide +kernel)) (tr_name 7) (fun _ _ _ _ _ => (pg_name (i := 7) nd rfl (by first | exact .inl rfl | exact .inr rfl))) (fun _ _ _ _ _ => ts_nil) (fun _ _ _ _ _ => (ed_call G__law_draw_bounds (by first | exact hr | exact hr.mono (by decide) | exact hr.mono (by omega)) (by rfl) E__law_draw_bounds.g E__law_draw_bounds.F.kp E__law_draw_bounds.b (ad_cons (ed_var (pv 0)) ad_nil) (fun _ _ _ h => h.1))))) (s_cons (s_asgT [3] (ps_lcSet (i := 4) (by rfl) nd rfl rfl (sw_true rfl rfl rfl (by decide +kernel)) (own := [("number", 11), ("table", 12)]) (wd_enum B (by rfl) (ad_cons (ed_var (pv 1)) ad_nil)) (blkOk_by (N := ["pen", "tables", "columns", "bounds", "some", "other", "far", "k", "own", "references", "key", "number", "table", "again", "one"]) (sc := defScope s__law_draw_table) (by decide +kernel)) (tr_tup 2 (trs_cons (tr_name 11) (trs_cons (tr_name 12) trs_nil))) (fun _ _ _ _ _ => (pg_tup (by rfl) (pgs_cons (pg_name (i := 11) nd rfl (by first | exact .inl rfl | exact .inr rfl)) (pgs_cons (pg_name (i := 12) nd rfl (by first | exact .inl rfl | exact .inr rfl)) pgs_nil)))) (fun _ _ _ _ _ => (ts_one (bd_cmpT ((op_eqD hr.units).or op_eq) (nomark _) o2_eq (ed_ix (ed_var (pv 12)) ed_int) (ed_tupT ad_nil)))) (fun _ _ _ _ _ => (ed_var (pv 11))))) (s_cons (s_if (bd_w (wb_and (bd_cmpT ((op_neD hr.units).or op_ne) (nomark _) o2_ne (ed_var (pv 4)) (ed_lstT ad_nil)) (wb_and1 (bd_cmpT op_gt (nomark _) o2_cmpI (ed_call G__law_take (by first | exact hr | exact hr.mono (by decide) | exact hr.mono (by omega)) (by rfl) E__law_take.g E__law_take.F.kp E__law_take.b (ad_cons (ed_var (pv 0)) (ad_cons ed_int ad_nil)) (takeD_len)) ed_int)))) (s_cons (s_asg [3] (fun _ h => ps_set (i := 5) nd rfl (by first | exact .inl rfl | exact .inr rfl) h) (ed_ix (ed_var (pv 1)) (ed_call G__law_one_of (by first | exact hr | exact hr.mono (by decide) | exact hr.mono (by omega)) (by rfl) E__law_one_of.g E__law_one_of.F.kp E__law_one_of.b (ad_cons (ed_var (pv 0)) (ad_cons (ed_var (pv 4)) ad_nil)) (fun _ _ _ h => h.1))) (tr_name 5)) (s_cons (s_asgP (fun _ h => ps_set (i := 6) nd rfl (by first | exact .inl rfl | exact .inr rfl) h) (ed_intC B (by rfl) (ad_cons (ed_cmp op_gt (nomark _) o2_cmpI (ed_len B (by rfl) (ad_cons (ed_var (pv 3)) ad_nil)) (ed_len B (by rfl) (ad_cons (ed_ix (ed_var (pv 5)) ed_int) ad_nil))) ad_nil)) (tr_name 6)) (s_one (s_forP [3] PassesOwn.never (by rfl) (wdp_enum B (by rfl) (ad_cons (ed_slice (ed_ix (ed_var (pv 5)) ed_int) od_none (od_some (ed_len B (by rfl) (ad_cons (ed_var (pv 3)) ad_nil)))) ad_nil)) (pg_tup (by rfl) (pgs_cons (pg_name (i := 7) nd rfl (by first | exact .inl rfl | exact .inr rfl)) (pgs_cons (pg_name (i := 8) nd rfl (by first | exact .inl rfl | exact .inr rfl)) pgs_nil))) (tr_tup 2 (trs_cons (tr_name 7) (trs_cons (tr_name 8) trs_nil))) (s_one (s_set (fun _ _ h h2 => ps_asg h (pg_sub (pv 3) h2 set_list)) (ed_ix (ed_ix (ed_var (pv 5)) ed_int) (ed_var (pv 8))) (ed_add (ed_var (pv 7)) (ed_var (pv 6))))))))) s_nil) (s_cons (s_ownPT (ps_lcSet (i := 9) (by rfl) nd rfl rfl (sw_true rfl rfl rfl (by decide +kernel)) (own := [("again", 13)]) (wd_rng1 B (by rfl) (ad_cons (ed_call G__law_take (by first | exact hr | exact hr.mono (by decide) | exact hr.mono (by omega)) (by rfl) E__law_take.g E__law_take.F.kp E__law_take.b (ad_cons (ed_var (pv 0)) (ad_cons ed_int ad_nil)) (takeD_len)) ad_nil)) (blkOk_by (N := ["pen", "tables", "columns", "bounds", "some", "other", "far", "k", "own", "references", "key", "number", "table", "again", "one"]) (sc := defScope s__law_draw_table) (by decide +kernel)) (tr_name 13) (fun _ _ _ _ _ => (pg_name (i := 13) nd rfl (by first | exact .inl rfl | exact .inr rfl))) (fun _ _ _ _ _ => ts_nil) (fun _ _ _ _ _ => (ed_call G__law_draw_reference (by first | exact hr | exact hr.mono (by decide) | exact hr.mono (by omega)) (by rfl) E__law_draw_reference.g E__law_draw_reference.F.kp E__law_draw_reference.b (ad_cons (ed_var (pv 0)) (ad_cons (ed_var (pv 1)) (ad_cons (ed_var (pv 3)) ad_nil))) (fun _ _ _ h => h.1))))) (s_cons (s_asg [9] (fun _ h => ps_set (i := 10) nd rfl (by first | exact .inl rfl | exact .inr rfl) h) (ed_call G__law_draw_key (by first | exact hr | exact hr.mono (by decide) | exact hr.mono (by omega)) (by rfl) E__law_draw_key.g E__law_draw_key.F.kp E__law_draw_key.b (ad_cons (ed_var (pv 0)) (ad_cons (ed_len B (by rfl) (ad_cons (ed_var (pv 3)) ad_nil)) ad_nil)) (fun _ _ _ h => h.1)) (tr_name 10)) (s_one (s_ret (ed_tupT (ad_cons (ed_tuple B (by rfl) (ad_cons (ed_var (pv 3)) ad_nil)) (ad_cons (ed_var (pv 10)) (ad_cons (ed_tuple B (by rfl) (ad_cons (ed_lc (own := [("one", 14)]) (by rfl) nd (wd_seq (ed_var (pv 9))) (blkOk_by (N := ["pen", "tables", "columns", "bounds", "some", "other", "far", "k", "own", "references", "key", "number", "table", "again", "one"]) (sc := defScope s__law_draw_table) (by decide +kernel)) (tr_name 14) (fun _ _ _ _ _ => (pg_name (i := 14) nd rfl (by first | exact .inl rfl | exact .inr rfl))) (fun _ _ _ _ _ => (ts_one (bd_cmpT op_notN (nomark _) o2_not (ed_var (pv 14)) ed_non))) (fun _ _ _ _ _ => (ed_var (pv 14)))) ad_nil)) ad_nil)))))))))))

abbrev s__law_draw_scheme : Stmt := topS 24
theorem sc__law_draw_scheme : FnScope ["pen", "many", "columns", "found", "again"] ["pen", "many", "columns"] (defScope s__law_draw_scheme) := ⟨rfl, rfl, rfl, by decide +kernel, rfl, by decide +kernel, by decide +kernel⟩
def T__law_draw_scheme : FT := fnD 3 5 (sSeq (sAsg [] (fName 3) (tTupD aNil)) (sSeq (sFor [] (wRng1 (aCons (tOpD addD (tCD (.int 1)) (tCallD takeD (aCons (tVarD 0) (aCons (tVarD 1) aNil)))) aNil)) (fName 4) (sAsg [] (fName 3) (tOpD addD (tVarD 3) (tTupD (aCons (tCallD T__law_draw_table (aCons (tVarD 0) (aCons (tVarD 3) (aCons (tVarD 2) aNil)))) aNil))))) (sRet (tVarD 3))))
theorem ok__law_draw_scheme (B : NoB mg) {f__law_draw_table : Addr} {fd__law_draw_table : FuncData} (E__law_draw_table : Ent K mg "_law_draw_table" s__law_draw_table ["pen", "tables", "columns"] f__law_draw_table fd__law_draw_table) (G__law_draw_table : FnOk P w K mg base CX0 5 f__law_draw_table fd__law_draw_table ["pen", "tables", "columns"] (lift K 3 T__law_draw_table)) {f__law_take : Addr} {fd__law_take : FuncData} (E__law_take : Ent K mg "_law_take" s__law_take ["pen", "amount"] f__law_take fd__law_take) (G__law_take : FnOk P w K mg base CX0 2 f__law_take fd__law_take ["pen", "amount"] (lift K 2 takeD)) {f__law_draw_scheme : Addr} {fd__law_draw_scheme : FuncData} (E__law_draw_scheme : Ent K mg "_law_draw_scheme" s__law_draw_scheme ["pen", "many", "columns"] f__law_draw_scheme fd__law_draw_scheme) : FnOk P w K mg base CX0 6 f__law_draw_scheme fd__law_draw_scheme ["pen", "many", "columns"] (lift K 3 T__law_draw_scheme) := by
  refine fn_D 3 5 rfl rfl (by decide) E__law_draw_scheme.F sc__law_draw_scheme [] fun cdv A outer s H E hr => ⟨[], ?_⟩
  have nd := sc__law_draw_scheme.nd
  exact (s_cons (s_asg [] (fun _ h => ps_set (i := 3) nd rfl (by first | exact .inl rfl | exact .inr rfl) h) (ed_tupT ad_nil) (tr_name 3)) (s_cons (s_for [] [] PassesOwn.never (by rfl) (wd_rng1 B (by rfl) (ad_cons (ed_add ed_int (ed_call G__law_take (by first | exact hr | exact hr.mono (by decide) | exact hr.mono (by omega)) (by rfl) E__law_take.g E__law_take.F.kp E__law_take.b (ad_cons (ed_var (pv 0)) (ad_cons (ed_var (pv 1)) ad_nil)) (takeD_len))) ad_nil)) (pg_name (i := 4) nd rfl (by first | exact .inl rfl | exact .inr rfl)) (tr_name 4) (s_one (s_asg [] (fun _ h => ps_set (i := 3) nd rfl (by first | exact .inl rfl | exact .inr rfl) h) (ed_add (ed_var (pv 3)) (ed_tupT (ad_cons (ed_call G__law_draw_table (by first | exact hr | exact hr.mono (by decide) | exact hr.mono (by omega)) (by rfl) E__law_draw_table.g E__law_draw_table.F.kp E__law_draw_table.b (ad_cons (ed_var (pv 0)) (ad_cons (ed_var (pv 3)) (ad_cons (ed_var (pv 2)) ad_nil))) (fun _ _ _ h => h.1)) ad_nil))) (tr_name 3)))) (s_one (s_ret (ed_var (pv 3))))))

abbrev s__law_draw_row : Stmt := topS 25
theorem sc__law_draw_row : FnScope ["pen", "table", "found", "low", "high"] ["pen", "table"] (defScope s__law_draw_row) := ⟨rfl, rfl, rfl, by decide +kernel, rfl, by decide +kernel, by decide +kernel⟩
def T__law_draw_row : FT := fnD 2 5 (sSeq (sOwn [] 2 (lLstD aNil)) (sSeq (sFor [2] (wAny (tOpD ixD (tVarD 1) (tCD (.int 0)))) (fTup 2 (fsCons (fName 3) (fsCons (fName 4) fsNil))) (sApp [2] 2 (tIfD (bCmp gtD (tCallD takeD (aCons (tVarD 0) (aCons (tCD (.int 8)) aNil))) (tCD (.int 0))) (tOpD addD (tVarD 3) (tCallD takeD (aCons (tVarD 0) (aCons (tOpD addD (tCallB min2D (aCons (tOpD subD (tVarD 4) (tVarD 3)) (aCons (tCD (.int 3)) aNil))) (tCD (.int 1))) aNil)))) (tVarD 4)))) (sRet (tCallB tupleD (aCons (tVarD 2) aNil)))))
theorem ok__law_draw_row (B : NoB mg) {f__law_take : Addr} {fd__law_take : FuncData} (E__law_take : Ent K mg "_law_take" s__law_take ["pen", "amount"] f__law_take fd__law_take) (G__law_take : FnOk P w K mg base CX0 2 f__law_take fd__law_take ["pen", "amount"] (lift K 2 takeD)) {f__law_draw_row : Addr} {fd__law_draw_row : FuncData} (E__law_draw_row : Ent K mg "_law_draw_row" s__law_draw_row ["pen", "table"] f__law_draw_row fd__law_draw_row) : FnOk P w K mg base CX0 3 f__law_draw_row fd__law_draw_row ["pen", "table"] (lift K 2 T__law_draw_row) := by
  refine fn_D 2 5 rfl rfl (by decide) E__law_draw_row.F sc__law_draw_row [] fun cdv A outer s H E hr => ⟨[], ?_⟩
  have nd := sc__law_draw_row.nd
  exact (s_cons (s_own [] (fun _ h => ps_set (i := 2) nd rfl (by first | exact .inl rfl | exact .inr rfl) h) (ld_lstT ad_nil)) (s_cons (s_for [2] [2] PassesOwn.never (by rfl) (wd_seq (ed_ix (ed_var (pv 1)) ed_int)) (pg_tup (by rfl) (pgs_cons (pg_name (i := 3) nd rfl (by first | exact .inl rfl | exact .inr rfl)) (pgs_cons (pg_name (i := 4) nd rfl (by first | exact .inl rfl | exact .inr rfl)) pgs_nil))) (tr_tup 2 (trs_cons (tr_name 3) (trs_cons (tr_name 4) trs_nil))) (s_one (s_app [2] (fun _ h => ps_expr (pe_bm PySem.F.plainAttrs_list PySem.F.slot_list_append PySem.F.type_list_append mt_append (pv 2) (pa_cons h pa_nil))) (ed_if (bd_cmpT op_gt (nomark _) o2_cmpI (ed_call G__law_take (by first | exact hr | exact hr.mono (by decide) | exact hr.mono (by omega)) (by rfl) E__law_take.g E__law_take.F.kp E__law_take.b (ad_cons (ed_var (pv 0)) (ad_cons ed_int ad_nil)) (takeD_len)) ed_int) (ed_add (ed_var (pv 3)) (ed_call G__law_take (by first | exact hr | exact hr.mono (by decide) | exact hr.mono (by omega)) (by rfl) E__law_take.g E__law_take.F.kp E__law_take.b (ad_cons (ed_var (pv 0)) (ad_cons (ed_add (ed_min2 B (by rfl) (by rfl) (ad_cons (ed_sub (ed_var (pv 4)) (ed_var (pv 3))) (ad_cons ed_int ad_nil))) ed_int) ad_nil)) (takeD_len))) (ed_var (pv 4)))))) (s_one (s_ret (ed_tuple B (by rfl) (ad_cons (ed_var (pv 2)) ad_nil))))))

abbrev s__law_draw_constraint : Stmt := topS 26
theorem sc__law_draw_constraint : FnScope ["pen", "variables", "numbers", "x", "y", "gap"] ["pen", "variables", "numbers"] (defScope s__law_draw_constraint) := ⟨rfl, rfl, rfl, by decide +kernel, rfl, by decide +kernel, by decide +kernel⟩
def T__law_draw_constraint : FT := fnD 3 6 (sSeq (sPar [] 3 4 (aCons (tCallD T__law_one_of (aCons (tVarD 0) (aCons (tOpD addD (tVarD 1) (tLstD (aCons (tCD .non) aNil))) aNil))) (aCons (tCallD T__law_one_of (aCons (tVarD 0) (aCons (tOpD addD (tVarD 1) (tLstD (aCons (tCD .non) aNil))) aNil))) aNil))) (sSeq (sIf (bCmp eqD (tVarD 3) (tVarD 4)) (sAsg [] (fTup 2 (fsCons (fName 3) (fsCons (fName 4) fsNil))) (tIfD (bCmp eqD (tCallD takeD (aCons (tVarD 0) (aCons (tCD (.int 2)) aNil))) (tCD (.int 0))) (tTupD (aCons (tCD .non) (aCons (tOpD ixD (tVarD 1) (tCD (.int 0))) aNil))) (tTupD (aCons (tOpD ixD (tVarD 1) (tCD (.int 0))) (aCons (tCD .non) aNil))))) sNil) (sSeq (sAsg [] (fName 5) (tOpD subD (tGet2 (tVarD 2) (tVarD 3) (tCD (.int 0))) (tGet2 (tVarD 2) (tVarD 4) (tCD (.int 0))))) (sRet (tTupD (aCons (tVarD 3) (aCons (tVarD 4) (aCons (tCallB max2D (aCons (tOp1D negD (tCD (.int 4000000))) (aCons (tCallB min2D (aCons (tCD (.int 4000000)) (aCons (tOpD addD (tVarD 5) (tCallD T__law_one_of (aCons (tVarD 0) (aCons (tLstD (aCons (tCD (.int 0)) (aCons (tCD (.int 0)) (aCons (tCD (.int 0)) (aCons (tCD (.int 1)) (aCons (tCD (.int 2)) (aCons (tOp1D negD (tCD (.int 1))) (aCons (tCD (.int 1000)) aNil)))))))) aNil)))) aNil))) aNil))) aNil))))))))
theorem ok__law_draw_constraint (B : NoB mg) {f__law_one_of : Addr} {fd__law_one_of : FuncData} (E__law_one_of : Ent K mg "_law_one_of" s__law_one_of ["pen", "some"] f__law_one_of fd__law_one_of) (G__law_one_of : FnOk P w K mg base CX0 3 f__law_one_of fd__law_one_of ["pen", "some"] (lift K 2 T__law_one_of)) {f__law_take : Addr} {fd__law_take : FuncData} (E__law_take : Ent K mg "_law_take" s__law_take ["pen", "amount"] f__law_take fd__law_take) (G__law_take : FnOk P w K mg base CX0 2 f__law_take fd__law_take ["pen", "amount"] (lift K 2 takeD)) {f__law_draw_constraint : Addr} {fd__law_draw_constraint : FuncData} (E__law_draw_constraint : Ent K mg "_law_draw_constraint" s__law_draw_constraint ["pen", "variables", "numbers"] f__law_draw_constraint fd__law_draw_constraint) : FnOk P w K mg base CX0 4 f__law_draw_constraint fd__law_draw_constraint ["pen", "variables", "numbers"] (lift K 3 T__law_draw_constraint) := by
  refine fn_D 3 6 rfl rfl (by decide) E__law_draw_constraint.F sc__law_draw_constraint [] fun cdv A outer s H E hr => ⟨[], ?_⟩
  have nd := sc__law_draw_constraint.nd
  exact (s_cons (s_par [] (fun _ h => ps_par (i := 3) (j := 4) (by rfl) nd rfl rfl (by decide) rfl rfl h (by rfl)) (ad_cons (ed_call G__law_one_of (by first | exact hr | exact hr.mono (by decide) | exact hr.mono (by omega)) (by rfl) E__law_one_of.g E__law_one_of.F.kp E__law_one_of.b (ad_cons (ed_var (pv 0)) (ad_cons (ed_add (ed_var (pv 1)) (ed_lstT (ad_cons ed_non ad_nil))) ad_nil)) (fun _ _ _ h => h.1)) (ad_cons (ed_call G__law_one_of (by first | exact hr | exact hr.mono (by decide) | exact hr.mono (by omega)) (by rfl) E__law_one_of.g E__law_one_of.F.kp E__law_one_of.b (ad_cons (ed_var (pv 0)) (ad_cons (ed_add (ed_var (pv 1)) (ed_lstT (ad_cons ed_non ad_nil))) ad_nil)) (fun _ _ _ h => h.1)) ad_nil))) (s_cons (s_if (bd_cmpT ((op_eqD hr.units).or op_eq) (nomark _) o2_eq (ed_var (pv 3)) (ed_var (pv 4))) (s_one (s_asg [] (fun _ h => ps_asg h (pg_tup (by rfl) (pgs_cons (pg_name (i := 3) nd rfl (by first | exact .inl rfl | exact .inr rfl)) (pgs_cons (pg_name (i := 4) nd rfl (by first | exact .inl rfl | exact .inr rfl)) pgs_nil)))) (ed_if (bd_cmpT ((op_eqD hr.units).or op_eq) (nomark _) o2_eq (ed_call G__law_take (by first | exact hr | exact hr.mono (by decide) | exact hr.mono (by omega)) (by rfl) E__law_take.g E__law_take.F.kp E__law_take.b (ad_cons (ed_var (pv 0)) (ad_cons ed_int ad_nil)) (takeD_len)) ed_int) (ed_tupT (ad_cons ed_non (ad_cons (ed_ix (ed_var (pv 1)) ed_int) ad_nil))) (ed_tupT (ad_cons (ed_ix (ed_var (pv 1)) ed_int) (ad_cons ed_non ad_nil)))) (tr_tup 2 (trs_cons (tr_name 3) (trs_cons (tr_name 4) trs_nil))))) s_nil) (s_cons (s_asg [] (fun _ h => ps_set (i := 5) nd rfl (by first | exact .inl rfl | exact .inr rfl) h) (ed_sub (ed_get2 (hu1 hr) (ed_var (pv 2)) (ed_var (pv 3)) ed_int) (ed_get2 (hu1 hr) (ed_var (pv 2)) (ed_var (pv 4)) ed_int)) (tr_name 5)) (s_one (s_ret (ed_tupT (ad_cons (ed_var (pv 3)) (ad_cons (ed_var (pv 4)) (ad_cons (ed_max2 B (by rfl) (by rfl) (ad_cons (ed_neg ed_int) (ad_cons (ed_min2 B (by rfl) (by rfl) (ad_cons ed_int (ad_cons (ed_add (ed_var (pv 5)) (ed_call G__law_one_of (by first | exact hr | exact hr.mono (by decide) | exact hr.mono (by omega)) (by rfl) E__law_one_of.g E__law_one_of.F.kp E__law_one_of.b (ad_cons (ed_var (pv 0)) (ad_cons (ed_lstT (ad_cons ed_int (ad_cons ed_int (ad_cons ed_int (ad_cons ed_int (ad_cons ed_int (ad_cons (ed_neg ed_int) (ad_cons ed_int ad_nil)))))))) ad_nil)) (fun _ _ _ h => h.1))) ad_nil))) ad_nil))) ad_nil)))))))))

abbrev s__law_draw_query : Stmt := topS 27
theorem sc__law_draw_query : FnScope ["pen", "scheme", "parts", "most", "found", "numbers", "again", "table", "row", "names", "number", "same", "fresh", "is_shared", "name", "used", "constraints", "output", "one"] ["pen", "scheme", "parts", "most"] (defScope s__law_draw_query) := ⟨rfl, rfl, rfl, by decide +kernel, rfl, by decide +kernel, by decide +kernel⟩
def T__law_draw_query : FT := fnD 4 19 (sSeq (sParN [] 4 5 (tL (lLstD aNil)) tNoDict) (sSeq (sFor [5, 4] (wRng1 (aCons (tOpD addD (tCD (.int 1)) (tCallD takeD (aCons (tVarD 0) (aCons (tVarD 2) aNil)))) aNil)) (fName 6) (sSeq (sAsg [5, 4] (fName 7) (tCallD takeD (aCons (tVarD 0) (aCons (tCallB lenD (aCons (tVarD 1) aNil)) aNil)))) (sSeq (sAsg [5, 4] (fName 8) (tCallD T__law_draw_row (aCons (tVarD 0) (aCons (tOpD ixD (tVarD 1) (tVarD 7)) aNil)))) (sSeq (sOwn [5, 4] 9 (lLstD aNil)) (sSeq (sFor [9, 5, 4] (wAny (tVarD 8)) (fName 10) (sSeq (sOwnP 11 (tCompL (wKeysV 5) (fName 18) (bCmp eqD (tOpD dgetD (tVarD 5) (tVarD 18)) (tVarD 10)) (tVarD 18) [18])) (sSeq (sOwnP 12 (tCompL (wRng1 (aCons (tCD (.int 16)) aNil)) (fName 18) (bCmp (dinD true) (tVarD 18) (tVarD 5)) (tVarD 18) [18])) (sSeq (sAsgP (fName 13) (tAndD (tOpD neD (tVarD 11) (tLstD aNil)) (tOrD (tOpD eqD (tVarD 12) (tLstD aNil)) (tOpD gtD (tCallD takeD (aCons (tVarD 0) (aCons (tCD (.int 3)) aNil))) (tCD (.int 0)))))) (sSeq (sAsgP (fName 14) (tCallD T__law_one_of (aCons (tVarD 0) (aCons (tIfD (bVal (tVarD 13)) (tVarD 11) (tOpD addD (tVarD 12) (tLstD (aCons (tCD (.int 0)) aNil)))) aNil)))) (sSeq (sDSet 5 (tGet2 (tVarD 5) (tVarD 14) (tVarD 10)) (tVarD 14)) (sApp [12, 11, 9, 5, 4] 9 (tVarD 14)))))))) (sAppP 4 (tTupD (aCons (tVarD 7) (aCons (tCallB tupleD (aCons (tVarD 9) aNil)) aNil))))))))) (sSeq (sAsg [4] (fName 15) (tCallB sortedDD (aCons (tVarD 5) aNil))) (sSeq (sAsg [4] (fName 16) (tL (tCompL (wRng1 (aCons (tCallD takeD (aCons (tVarD 0) (aCons (tOpD addD (tVarD 3) (tCD (.int 1))) aNil))) aNil)) (fName 6) bYes (tCallD T__law_draw_constraint (aCons (tVarD 0) (aCons (tVarD 15) (aCons (tVarD 5) aNil)))) [6]))) (sSeq (sAsg [4] (fName 17) (tCallB tupleD (aCons (tComp (wRng1 (aCons (tCallD T__law_one_of (aCons (tVarD 0) (aCons (tLstD (aCons (tCD (.int 0)) (aCons (tCD (.int 1)) (aCons (tCD (.int 2)) (aCons (tCD (.int 3)) (aCons (tCD (.int 5)) (aCons (tCD (.int 6)) (aCons (tCD (.int 8)) aNil)))))))) aNil))) aNil)) (fName 6) bYes (tCallD T__law_one_of (aCons (tVarD 0) (aCons (tVarD 15) aNil))) [6]) aNil))) (sRet (tTupD (aCons (tCallB tupleD (aCons (tVarD 4) aNil)) (aCons (tCallB tupleD (aCons (tVarD 16) aNil)) (aCons (tVarD 17) aNil))))))))))
theorem ok__law_draw_query (B : NoB mg) {f__law_draw_constraint : Addr} {fd__law_draw_constraint : FuncData} (E__law_draw_constraint : Ent K mg "_law_draw_constraint" s__law_draw_constraint ["pen", "variables", "numbers"] f__law_draw_constraint fd__law_draw_constraint) (G__law_draw_constraint : FnOk P w K mg base CX0 4 f__law_draw_constraint fd__law_draw_constraint ["pen", "variables", "numbers"] (lift K 3 T__law_draw_constraint)) {f__law_draw_row : Addr} {fd__law_draw_row : FuncData} (E__law_draw_row : Ent K mg "_law_draw_row" s__law_draw_row ["pen", "table"] f__law_draw_row fd__law_draw_row) (G__law_draw_row : FnOk P w K mg base CX0 3 f__law_draw_row fd__law_draw_row ["pen", "table"] (lift K 2 T__law_draw_row)) {f__law_one_of : Addr} {fd__law_one_of : FuncData} (E__law_one_of : Ent K mg "_law_one_of" s__law_one_of ["pen", "some"] f__law_one_of fd__law_one_of) (G__law_one_of : FnOk P w K mg base CX0 3 f__law_one_of fd__law_one_of ["pen", "some"] (lift K 2 T__law_one_of)) {f__law_take : Addr} {fd__law_take : FuncData} (E__law_take : Ent K mg "_law_take" s__law_take ["pen", "amount"] f__law_take fd__law_take) (G__law_take : FnOk P w K mg base CX0 2 f__law_take fd__law_take ["pen", "amount"] (lift K 2 takeD)) {f__law_draw_query : Addr} {fd__law_draw_query : FuncData} (E__law_draw_query : Ent K mg "_law_draw_query" s__law_draw_query ["pen", "scheme", "parts", "most"] f__law_draw_query fd__law_draw_query) : FnOk P w K mg base CX0 5 f__law_draw_query fd__law_draw_query ["pen", "scheme", "parts", "most"] (lift K 4 T__law_draw_query) := by
  refine fn_D 4 19 rfl rfl (by decide) E__law_draw_query.F sc__law_draw_query [5] fun cdv A outer s H E hr => ⟨[], ?_⟩
  have nd := sc__law_draw_query.nd
  exact (s_cons (s_parN false true [] (mk_parT fun _ h => ps_asg (pe_tup h) (pg_tup (by rfl) (pgs_cons (pg_name (i := 4) nd rfl (by first | exact .inl rfl | exact .inr rfl)) (pgs_cons (pg_name (i := 5) nd rfl (by first | exact .inl rfl | exact .inr rfl)) pgs_nil)))) (ND.of_ld (ld_lstT ad_nil)) nd_dnew) (s_cons (s_for [5, 4] [9, 5, 4] PassesOwn.never (by rfl) (wd_rng1 B (by rfl) (ad_cons (ed_add ed_int (ed_call G__law_take (by first | exact hr | exact hr.mono (by decide) | exact hr.mono (by omega)) (by rfl) E__law_take.g E__law_take.F.kp E__law_take.b (ad_cons (ed_var (pv 0)) (ad_cons (ed_var (pv 2)) ad_nil)) (takeD_len))) ad_nil)) (pg_name (i := 6) nd rfl (by first | exact .inl rfl | exact .inr rfl)) (tr_name 6) (s_cons (s_asg [5, 4] (fun _ h => ps_set (i := 7) nd rfl (by first | exact .inl rfl | exact .inr rfl) h) (ed_call G__law_take (by first | exact hr | exact hr.mono (by decide) | exact hr.mono (by omega)) (by rfl) E__law_take.g E__law_take.F.kp E__law_take.b (ad_cons (ed_var (pv 0)) (ad_cons (ed_len B (by rfl) (ad_cons (ed_var (pv 1)) ad_nil)) ad_nil)) (takeD_len)) (tr_name 7)) (s_cons (s_asg [5, 4] (fun _ h => ps_set (i := 8) nd rfl (by first | exact .inl rfl | exact .inr rfl) h) (ed_call G__law_draw_row (by first | exact hr | exact hr.mono (by decide) | exact hr.mono (by omega)) (by rfl) E__law_draw_row.g E__law_draw_row.F.kp E__law_draw_row.b (ad_cons (ed_var (pv 0)) (ad_cons (ed_ix (ed_var (pv 1)) (ed_var (pv 7))) ad_nil)) (fun _ _ _ h => h.1)) (tr_name 8)) (s_cons (s_own [5, 4] (fun _ h => ps_set (i := 9) nd rfl (by first | exact .inl rfl | exact .inr rfl) h) (ld_lstT ad_nil)) (s_cons (s_for [9, 5, 4] [12, 11, 9, 5, 4] PassesOwn.never (by rfl) (wd_seq (ed_var (pv 8))) (pg_name (i := 10) nd rfl (by first | exact .inl rfl | exact .inr rfl)) (tr_name 10) (s_cons (s_ownPT (ps_lcSetK (j := 11) (own := [("one", 18)]) 5 (by rfl) nd rfl rfl (sw_true rfl rfl rfl (by decide +kernel)) (pv 5) (blkOk_by (N := ["pen", "scheme", "parts", "most", "found", "numbers", "again", "table", "row", "names", "number", "same", "fresh", "is_shared", "name", "used", "constraints", "output", "one"]) (sc := defScope s__law_draw_query) (by decide +kernel)) (tr_name 18) (fun _ _ _ _ _ => (pg_name (i := 18) nd rfl (by first | exact .inl rfl | exact .inr rfl))) (fun _ _ _ _ _ => (ts_one (bd_cmpT ((op_eqD hr.units).or op_eq) (nomark _) o2_eq (ed_dget (hu1 hr) (ed_var (pv 5)) (ed_var (pv 18))) (ed_var (pv 10))))) (fun _ _ _ _ _ => (ed_var (pv 18))))) (s_cons (s_ownPT (ps_lcSet (i := 12) (by rfl) nd rfl rfl (sw_true rfl rfl rfl (by decide +kernel)) (own := [("one", 18)]) (wd_rng1 B (by rfl) (ad_cons ed_int ad_nil)) (blkOk_by (N := ["pen", "scheme", "parts", "most", "found", "numbers", "again", "table", "row", "names", "number", "same", "fresh", "is_shared", "name", "used", "constraints", "output", "one"]) (sc := defScope s__law_draw_query) (by decide +kernel)) (tr_name 18) (fun _ _ _ _ _ => (pg_name (i := 18) nd rfl (by first | exact .inl rfl | exact .inr rfl))) (fun _ _ _ _ _ => (ts_one (bd_dnotin (hu1 hr) (ed_var (pv 18)) (ed_var (pv 5))))) (fun _ _ _ _ _ => (ed_var (pv 18))))) (s_cons (s_asgP (fun _ h => ps_set (i := 13) nd rfl (by first | exact .inl rfl | exact .inr rfl) h) (ed_and (ed_cmp ((op_neD hr.units).or op_ne) (nomark _) o2_ne (ed_var (pv 11)) (ed_lstT ad_nil)) (ed_one (ed_or (ed_cmp ((op_eqD hr.units).or op_eq) (nomark _) o2_eq (ed_var (pv 12)) (ed_lstT ad_nil)) (ed_one (ed_cmp op_gt (nomark _) o2_cmpI (ed_call G__law_take (by first | exact hr | exact hr.mono (by decide) | exact hr.mono (by omega)) (by rfl) E__law_take.g E__law_take.F.kp E__law_take.b (ad_cons (ed_var (pv 0)) (ad_cons ed_int ad_nil)) (takeD_len)) ed_int))))) (tr_name 13)) (s_cons (s_asgP (fun _ h => ps_set (i := 14) nd rfl (by first | exact .inl rfl | exact .inr rfl) h) (ed_call G__law_one_of (by first | exact hr | exact hr.mono (by decide) | exact hr.mono (by omega)) (by rfl) E__law_one_of.g E__law_one_of.F.kp E__law_one_of.b (ad_cons (ed_var (pv 0)) (ad_cons (ed_if (bd_valT (ed_var (pv 13))) (ed_var (pv 11)) (ed_add (ed_var (pv 12)) (ed_lstT (ad_cons ed_int ad_nil)))) ad_nil)) (fun _ _ _ h => h.1)) (tr_name 14)) (s_cons (s_dset (fun _ _ h h2 => ps_dput (hu1 hr) (pv 5) h2 h rfl) (ed_get2 (hu1 hr) (ed_var (pv 5)) (ed_var (pv 14)) (ed_var (pv 10))) (ed_var (pv 14))) (s_one (s_app [12, 11, 9, 5, 4] (fun _ h => ps_expr (pe_bm PySem.F.plainAttrs_list PySem.F.slot_list_append PySem.F.type_list_append mt_append (pv 9) (pa_cons h pa_nil))) (ed_var (pv 14)))))))))) (s_one (s_appP (fun _ h => ps_expr (pe_bm PySem.F.plainAttrs_list PySem.F.slot_list_append PySem.F.type_list_append mt_append (pv 4) (pa_cons h pa_nil))) (ed_tupT (ad_cons (ed_var (pv 7)) (ad_cons (ed_tuple B (by rfl) (ad_cons (ed_var (pv 9)) ad_nil)) ad_nil)))))))))) (s_cons (s_asg [4] (fun _ h => ps_set (i := 15) nd rfl (by first | exact .inl rfl | exact .inr rfl) h) (ed_sortedDict B (by rfl) (by rfl) (ad_cons (ed_var (pv 5)) ad_nil)) (tr_name 15)) (s_cons (s_asgT [4] (ps_lcSet (i := 16) (by rfl) nd rfl rfl (sw_true rfl rfl rfl (by decide +kernel)) (own := [("again", 6)]) (wd_rng1 B (by rfl) (ad_cons (ed_call G__law_take (by first | exact hr | exact hr.mono (by decide) | exact hr.mono (by omega)) (by rfl) E__law_take.g E__law_take.F.kp E__law_take.b (ad_cons (ed_var (pv 0)) (ad_cons (ed_add (ed_var (pv 3)) ed_int) ad_nil)) (takeD_len)) ad_nil)) (blkOk_by (N := ["pen", "scheme", "parts", "most", "found", "numbers", "again", "table", "row", "names", "number", "same", "fresh", "is_shared", "name", "used", "constraints", "output", "one"]) (sc := defScope s__law_draw_query) (by decide +kernel)) (tr_name 6) (fun _ _ _ _ _ => (pg_name (i := 6) nd rfl (by first | exact .inl rfl | exact .inr rfl))) (fun _ _ _ _ _ => ts_nil) (fun _ _ _ _ _ => (ed_call G__law_draw_constraint (by first | exact hr | exact hr.mono (by decide) | exact hr.mono (by omega)) (by rfl) E__law_draw_constraint.g E__law_draw_constraint.F.kp E__law_draw_constraint.b (ad_cons (ed_var (pv 0)) (ad_cons (ed_var (pv 15)) (ad_cons (ed_var (pv 5)) ad_nil))) (fun _ _ _ h => h.1))))) (s_cons (s_asg [4] (fun _ h => ps_set (i := 17) nd rfl (by first | exact .inl rfl | exact .inr rfl) h) (ed_tuple B (by rfl) (ad_cons (ed_lc (own := [("again", 6)]) (by rfl) nd (wd_rng1 B (by rfl) (ad_cons (ed_call G__law_one_of (by first | exact hr | exact hr.mono (by decide) | exact hr.mono (by omega)) (by rfl) E__law_one_of.g E__law_one_of.F.kp E__law_one_of.b (ad_cons (ed_var (pv 0)) (ad_cons (ed_lstT (ad_cons ed_int (ad_cons ed_int (ad_cons ed_int (ad_cons ed_int (ad_cons ed_int (ad_cons ed_int (ad_cons ed_int ad_nil)))))))) ad_nil)) (fun _ _ _ h => h.1)) ad_nil)) (blkOk_by (N := ["pen", "scheme", "parts", "most", "found", "numbers", "again", "table", "row", "names", "number", "same", "fresh", "is_shared", "name", "used", "constraints", "output", "one"]) (sc := defScope s__law_draw_query) (by decide +kernel)) (tr_name 6) (fun _ _ _ _ _ => (pg_name (i := 6) nd rfl (by first | exact .inl rfl | exact .inr rfl))) (fun _ _ _ _ _ => ts_nil) (fun _ _ _ _ _ => (ed_call G__law_one_of (by first | exact hr | exact hr.mono (by decide) | exact hr.mono (by omega)) (by rfl) E__law_one_of.g E__law_one_of.F.kp E__law_one_of.b (ad_cons (ed_var (pv 0)) (ad_cons (ed_var (pv 15)) ad_nil)) (fun _ _ _ h => h.1)))) ad_nil)) (tr_name 17)) (s_one (s_ret (ed_tupT (ad_cons (ed_tuple B (by rfl) (ad_cons (ed_var (pv 4)) ad_nil)) (ad_cons (ed_tuple B (by rfl) (ad_cons (ed_var (pv 16)) ad_nil)) (ad_cons (ed_var (pv 17)) ad_nil)))))))))))

abbrev s__law_odd : Stmt := topS 28
theorem sc__law_odd : FnScope ["pen", "some"] ["pen"] (defScope s__law_odd) := ⟨rfl, rfl, rfl, by decide +kernel, rfl, by decide +kernel, by decide +kernel⟩
def T__law_odd : FT := fnD 1 2 (sSeq (sAsg [] (fName 1) (tLstD (aCons (tCD .non) (aCons (tCD (.bl true)) (aCons (tCD (.bl false)) (aCons (tCD (.int 0)) (aCons (tCD (.int 1)) (aCons (tOp1D negD (tCD (.int 1))) (aCons (tCD (.int 2)) (aCons (tCD (.int 3)) (aCons (tCD (.int 4)) (aCons (tOpD powD (tCD (.int 10)) (tCD (.int 6))) (aCons (tOpD addD (tOpD powD (tCD (.int 10)) (tCD (.int 6))) (tCD (.int 1))) (aCons (tOpD powD (tCD (.int 10)) (tCD (.int 20))) (aCons (tCD (.str "")) (aCons (tCD (.str "a")) (aCons (tCD (.str "b")) (aCons (tCD (.str "e")) (aCons (tCD (.str "insert")) (aCons (tTupD aNil) aNil)))))))))))))))))))) (sSeq (sAsg [] (fName 1) (tOpD addD (tVarD 1) (tLstD (aCons (tTupD (aCons (tCD (.int 0)) aNil)) (aCons (tTupD (aCons (tCD (.int 0)) (aCons (tCD (.int 0)) aNil))) (aCons (tTupD (aCons (tCD (.int 0)) (aCons (tCD (.int 1)) aNil))) (aCons (tTupD (aCons (tCD (.int 1)) (aCons (tCD (.int 0)) aNil))) (aCons (tLstD (aCons (tCD (.int 0)) aNil)) (aCons (tTupD (aCons (tTupD (aCons (tCD (.int 0)) (aCons (tCD (.int 1)) aNil))) aNil)) (aCons (tTupD (aCons (tCD .non) (aCons (tCD (.int 0)) (aCons (tCD (.int 1)) aNil)))) (aCons (tTupD (aCons (tCD (.int 0)) (aCons (tCD .non) (aCons (tCD (.int 1)) aNil)))) (aCons (tTupD (aCons (tCD (.str "a")) (aCons (tCD .non) (aCons (tCD (.int 0)) aNil)))) (aCons (tCD (.str "delete")) aNil))))))))))))) (sSeq (sAsg [] (fName 1) (tOpD addD (tVarD 1) (tLstD (aCons (tLstD aNil) (aCons tNoDict aNil))))) (sRet (tCallD T__law_one_of (aCons (tVarD 0) (aCons (tVarD 1) aNil)))))))
theorem ok__law_odd (B : NoB mg) {f__law_one_of : Addr} {fd__law_one_of : FuncData} (E__law_one_of : Ent K mg "_law_one_of" s__law_one_of ["pen", "some"] f__law_one_of fd__law_one_of) (G__law_one_of : FnOk P w K mg base CX0 3 f__law_one_of fd__law_one_of ["pen", "some"] (lift K 2 T__law_one_of)) {f__law_odd : Addr} {fd__law_odd : FuncData} (E__law_odd : Ent K mg "_law_odd" s__law_odd ["pen"] f__law_odd fd__law_odd) : FnOk P w K mg base CX0 4 f__law_odd fd__law_odd ["pen"] (lift K 1 T__law_odd) := by
  refine fn_D 1 2 rfl rfl (by decide) E__law_odd.F sc__law_odd [] fun cdv A outer s H E hr => ⟨[], ?_⟩
  have nd := sc__law_odd.nd
  exact (s_cons (s_asg [] (fun _ h => ps_set (i := 1) nd rfl (by first | exact .inl rfl | exact .inr rfl) h) (ed_lstT (ad_cons ed_non (ad_cons ed_bl (ad_cons ed_bl (ad_cons ed_int (ad_cons ed_int (ad_cons (ed_neg ed_int) (ad_cons ed_int (ad_cons ed_int (ad_cons ed_int (ad_cons (ed_pow ed_int ed_int) (ad_cons (ed_add (ed_pow ed_int ed_int) ed_int) (ad_cons (ed_pow ed_int ed_int) (ad_cons ed_str (ad_cons ed_str (ad_cons ed_str (ad_cons ed_str (ad_cons ed_str (ad_cons (ed_tupT ad_nil) ad_nil))))))))))))))))))) (tr_name 1)) (s_cons (s_asg [] (fun _ h => ps_set (i := 1) nd rfl (by first | exact .inl rfl | exact .inr rfl) h) (ed_add (ed_var (pv 1)) (ed_lstT (ad_cons (ed_tupT (ad_cons ed_int ad_nil)) (ad_cons (ed_tupT (ad_cons ed_int (ad_cons ed_int ad_nil))) (ad_cons (ed_tupT (ad_cons ed_int (ad_cons ed_int ad_nil))) (ad_cons (ed_tupT (ad_cons ed_int (ad_cons ed_int ad_nil))) (ad_cons (ed_lstT (ad_cons ed_int ad_nil)) (ad_cons (ed_tupT (ad_cons (ed_tupT (ad_cons ed_int (ad_cons ed_int ad_nil))) ad_nil)) (ad_cons (ed_tupT (ad_cons ed_non (ad_cons ed_int (ad_cons ed_int ad_nil)))) (ad_cons (ed_tupT (ad_cons ed_int (ad_cons ed_non (ad_cons ed_int ad_nil)))) (ad_cons (ed_tupT (ad_cons ed_str (ad_cons ed_non (ad_cons ed_int ad_nil)))) (ad_cons ed_str ad_nil)))))))))))) (tr_name 1)) (s_cons (s_asg [] (fun _ h => ps_set (i := 1) nd rfl (by first | exact .inl rfl | exact .inr rfl) h) (ed_add (ed_var (pv 1)) (ed_lstT (ad_cons (ed_lstT ad_nil) (ad_cons ed_dnew ad_nil)))) (tr_name 1)) (s_one (s_ret (ed_call G__law_one_of (by first | exact hr | exact hr.mono (by decide) | exact hr.mono (by omega)) (by rfl) E__law_one_of.g E__law_one_of.F.kp E__law_one_of.b (ad_cons (ed_var (pv 0)) (ad_cons (ed_var (pv 1)) ad_nil)) (fun _ _ _ h => h.1)))))))

abbrev s__law_bent : Stmt := topS 29
theorem sc__law_bent : FnScope ["pen", "value", "k", "way", "some"] ["pen", "value"] (defScope s__law_bent) := ⟨rfl, rfl, rfl, by decide +kernel, rfl, by decide +kernel, by decide +kernel⟩
def T__law_bent : Nat → FT
  | 0 => fun _ _ _ => False
  | m + 1 => fnD 2 5 (sSeq (sIf (bOr (bNot (bVal (tIsi "tuple" (tVarD 1)))) (bOr (bCmp eqD (tVarD 1) (tTupD aNil)) (bCmp eqD (tCallD takeD (aCons (tVarD 0) (aCons (tCD (.int 7)) aNil))) (tCD (.int 0))))) (sRet (tCallD T__law_odd (aCons (tVarD 0) aNil))) sNil) (sSeq (sPar [] 2 3 (aCons (tCallD takeD (aCons (tVarD 0) (aCons (tCallB lenD (aCons (tVarD 1) aNil)) aNil))) (aCons (tCallD takeD (aCons (tVarD 0) (aCons (tCD (.int 13)) aNil))) aNil))) (sSeq (sIf (bCmp ltD (tVarD 3) (tCD (.int 8))) (sRet (tOpD addD (tOpD addD (tSlD (tVarD 1) oNone (oSome (tVarD 2))) (tTupD (aCons (tCallD (T__law_bent m) (aCons (tVarD 0) (aCons (tOpD ixD (tVarD 1) (tVarD 2)) aNil))) aNil))) (tSlD (tVarD 1) (oSome (tOpD addD (tVarD 2) (tCD (.int 1)))) oNone))) sNil) (sSeq (sAsg [] (fName 4) (tLstD (aCons (tOpD addD (tSlD (tVarD 1) oNone (oSome (tVarD 2))) (tSlD (tVarD 1) (oSome (tOpD addD (tVarD 2) (tCD (.int 1)))) oNone)) (aCons (tOpD addD (tOpD addD (tSlD (tVarD 1) oNone (oSome (tVarD 2))) (tTupD (aCons (tOpD ixD (tVarD 1) (tVarD 2)) aNil))) (tSlD (tVarD 1) (oSome (tVarD 2)) oNone)) (aCons (tCallB listD (aCons (tVarD 1) aNil)) (aCons (tRevD (tVarD 1) (tOp1D negD (tCD (.int 1)))) (aCons (tOpD mulD (tVarD 1) (tCD (.int 2))) aNil))))))) (sRet (tOpD ixD (tVarD 4) (tOpD subD (tVarD 3) (tCD (.int 8)))))))))
theorem T__law_bent_len : ∀ (m : Nat) (ds : List D) (n : Nat) (q : QD), T__law_bent m ds n q → ds.length = 2
  | 0, _, _, _, h => h.elim
  | _ + 1, _, _, _, h => h.1
theorem ok__law_bent (B : NoB mg) {f__law_odd : Addr} {fd__law_odd : FuncData} (E__law_odd : Ent K mg "_law_odd" s__law_odd ["pen"] f__law_odd fd__law_odd) (G__law_odd : FnOk P w K mg base CX0 4 f__law_odd fd__law_odd ["pen"] (lift K 1 T__law_odd)) {f__law_take : Addr} {fd__law_take : FuncData} (E__law_take : Ent K mg "_law_take" s__law_take ["pen", "amount"] f__law_take fd__law_take) (G__law_take : FnOk P w K mg base CX0 2 f__law_take fd__law_take ["pen", "amount"] (lift K 2 takeD)) {f__law_bent : Addr} {fd__law_bent : FuncData} (E__law_bent : Ent K mg "_law_bent" s__law_bent ["pen", "value"] f__law_bent fd__law_bent) (m : Nat) : FnOk P w K mg base CX0 (4 + m) f__law_bent fd__law_bent ["pen", "value"] (lift K 2 (T__law_bent m)) := by
  induction m with
  | zero => exact fn_none
  | succ m G__law_bent =>
    refine fn_D (k := 4 + m) 2 5 rfl rfl (by decide) E__law_bent.F sc__law_bent [] fun cdv A outer s H E hr => ⟨[], ?_⟩
    have nd := sc__law_bent.nd
    exact (s_cons (s_if (bd_w (wb_or (bd_not (bd_valT (ed_isi (T := "tuple") B (by decide +kernel) (by rfl) (by rfl) (by decide) (by decide +kernel) (ed_var (pv 1))))) (wb_or (bd_cmpT ((op_eqD hr.units).or op_eq) (nomark _) o2_eq (ed_var (pv 1)) (ed_tupT ad_nil)) (wb_or1 (bd_cmpT ((op_eqD hr.units).or op_eq) (nomark _) o2_eq (ed_call G__law_take (by first | exact hr | exact hr.mono (by decide) | exact hr.mono (by omega)) (by rfl) E__law_take.g E__law_take.F.kp E__law_take.b (ad_cons (ed_var (pv 0)) (ad_cons ed_int ad_nil)) (takeD_len)) ed_int))))) (s_one (s_ret (ed_call G__law_odd (by first | exact hr | exact hr.mono (by decide) | exact hr.mono (by omega)) (by rfl) E__law_odd.g E__law_odd.F.kp E__law_odd.b (ad_cons (ed_var (pv 0)) ad_nil) (fun _ _ _ h => h.1)))) s_nil) (s_cons (s_par [] (fun _ h => ps_par (i := 2) (j := 3) (by rfl) nd rfl rfl (by decide) rfl rfl h (by rfl)) (ad_cons (ed_call G__law_take (by first | exact hr | exact hr.mono (by decide) | exact hr.mono (by omega)) (by rfl) E__law_take.g E__law_take.F.kp E__law_take.b (ad_cons (ed_var (pv 0)) (ad_cons (ed_len B (by rfl) (ad_cons (ed_var (pv 1)) ad_nil)) ad_nil)) (takeD_len)) (ad_cons (ed_call G__law_take (by first | exact hr | exact hr.mono (by decide) | exact hr.mono (by omega)) (by rfl) E__law_take.g E__law_take.F.kp E__law_take.b (ad_cons (ed_var (pv 0)) (ad_cons ed_int ad_nil)) (takeD_len)) ad_nil))) (s_cons (s_if (bd_cmpT op_lt (nomark _) o2_cmpI (ed_var (pv 3)) ed_int) (s_one (s_ret (ed_add (ed_add (ed_slice (ed_var (pv 1)) od_none (od_some (ed_var (pv 2)))) (ed_tupT (ad_cons (ed_call G__law_bent (by first | exact hr | exact hr.mono (by decide) | exact hr.mono (by omega)) (by rfl) E__law_bent.g E__law_bent.F.kp E__law_bent.b (ad_cons (ed_var (pv 0)) (ad_cons (ed_ix (ed_var (pv 1)) (ed_var (pv 2))) ad_nil)) (T__law_bent_len m)) ad_nil))) (ed_slice (ed_var (pv 1)) (od_some (ed_add (ed_var (pv 2)) ed_int)) od_none)))) s_nil) (s_cons (s_asg [] (fun _ h => ps_set (i := 4) nd rfl (by first | exact .inl rfl | exact .inr rfl) h) (ed_lstT (ad_cons (ed_add (ed_slice (ed_var (pv 1)) od_none (od_some (ed_var (pv 2)))) (ed_slice (ed_var (pv 1)) (od_some (ed_add (ed_var (pv 2)) ed_int)) od_none)) (ad_cons (ed_add (ed_add (ed_slice (ed_var (pv 1)) od_none (od_some (ed_var (pv 2)))) (ed_tupT (ad_cons (ed_ix (ed_var (pv 1)) (ed_var (pv 2))) ad_nil))) (ed_slice (ed_var (pv 1)) (od_some (ed_var (pv 2))) od_none)) (ad_cons (ed_list B (by rfl) (ad_cons (ed_var (pv 1)) ad_nil)) (ad_cons (ed_rev (ed_var (pv 1)) (ed_neg ed_int)) (ad_cons (ed_mul (ed_var (pv 1)) ed_int) ad_nil)))))) (tr_name 4)) (s_one (s_ret (ed_ix (ed_var (pv 4)) (ed_sub (ed_var (pv 3)) ed_int))))))))

abbrev s__law_off : Stmt := topS 30
theorem sc__law_off : FnScope ["pen", "value", "k"] ["pen", "value"] (defScope s__law_off) := ⟨rfl, rfl, rfl, by decide +kernel, rfl, by decide +kernel, by decide +kernel⟩
def T__law_off : Nat → FT
  | 0 => fun _ _ _ => False
  | m + 1 => fnD 2 3 (sSeq (sIf (bAnd (bVal (tIsi "tuple" (tVarD 1))) (bCmp neD (tVarD 1) (tTupD aNil))) (sSeq (sAsg [] (fName 2) (tCallD takeD (aCons (tVarD 0) (aCons (tCallB lenD (aCons (tVarD 1) aNil)) aNil)))) (sRet (tOpD addD (tOpD addD (tSlD (tVarD 1) oNone (oSome (tVarD 2))) (tTupD (aCons (tCallD (T__law_off m) (aCons (tVarD 0) (aCons (tOpD ixD (tVarD 1) (tVarD 2)) aNil))) aNil))) (tSlD (tVarD 1) (oSome (tOpD addD (tVarD 2) (tCD (.int 1)))) oNone)))) sNil) (sRet (tIfD (bVal (tIsi "int" (tVarD 1))) (tOpD addD (tVarD 1) (tCallD T__law_one_of (aCons (tVarD 0) (aCons (tLstD (aCons (tCD (.int 1)) (aCons (tOp1D negD (tCD (.int 1))) aNil))) aNil)))) (tVarD 1))))
theorem T__law_off_len : ∀ (m : Nat) (ds : List D) (n : Nat) (q : QD), T__law_off m ds n q → ds.length = 2
  | 0, _, _, _, h => h.elim
  | _ + 1, _, _, _, h => h.1
theorem ok__law_off (B : NoB mg) {f__law_one_of : Addr} {fd__law_one_of : FuncData} (E__law_one_of : Ent K mg "_law_one_of" s__law_one_of ["pen", "some"] f__law_one_of fd__law_one_of) (G__law_one_of : FnOk P w K mg base CX0 3 f__law_one_of fd__law_one_of ["pen", "some"] (lift K 2 T__law_one_of)) {f__law_take : Addr} {fd__law_take : FuncData} (E__law_take : Ent K mg "_law_take" s__law_take ["pen", "amount"] f__law_take fd__law_take) (G__law_take : FnOk P w K mg base CX0 2 f__law_take fd__law_take ["pen", "amount"] (lift K 2 takeD)) {f__law_off : Addr} {fd__law_off : FuncData} (E__law_off : Ent K mg "_law_off" s__law_off ["pen", "value"] f__law_off fd__law_off) (m : Nat) : FnOk P w K mg base CX0 (3 + m) f__law_off fd__law_off ["pen", "value"] (lift K 2 (T__law_off m)) := by
  induction m with
  | zero => exact fn_none
  | succ m G__law_off =>
    refine fn_D (k := 3 + m) 2 3 rfl rfl (by decide) E__law_off.F sc__law_off [] fun cdv A outer s H E hr => ⟨[], ?_⟩
    have nd := sc__law_off.nd
    exact (s_cons (s_if (bd_w (wb_and (bd_valT (ed_isi (T := "tuple") B (by decide +kernel) (by rfl) (by rfl) (by decide) (by decide +kernel) (ed_var (pv 1)))) (wb_and1 (bd_cmpT ((op_neD hr.units).or op_ne) (nomark _) o2_ne (ed_var (pv 1)) (ed_tupT ad_nil))))) (s_cons (s_asg [] (fun _ h => ps_set (i := 2) nd rfl (by first | exact .inl rfl | exact .inr rfl) h) (ed_call G__law_take (by first | exact hr | exact hr.mono (by decide) | exact hr.mono (by omega)) (by rfl) E__law_take.g E__law_take.F.kp E__law_take.b (ad_cons (ed_var (pv 0)) (ad_cons (ed_len B (by rfl) (ad_cons (ed_var (pv 1)) ad_nil)) ad_nil)) (takeD_len)) (tr_name 2)) (s_one (s_ret (ed_add (ed_add (ed_slice (ed_var (pv 1)) od_none (od_some (ed_var (pv 2)))) (ed_tupT (ad_cons (ed_call G__law_off (by first | exact hr | exact hr.mono (by decide) | exact hr.mono (by omega)) (by rfl) E__law_off.g E__law_off.F.kp E__law_off.b (ad_cons (ed_var (pv 0)) (ad_cons (ed_ix (ed_var (pv 1)) (ed_var (pv 2))) ad_nil)) (T__law_off_len m)) ad_nil))) (ed_slice (ed_var (pv 1)) (od_some (ed_add (ed_var (pv 2)) ed_int)) od_none))))) s_nil) (s_one (s_ret (ed_if (bd_valT (ed_isi (T := "int") B (by decide +kernel) (by rfl) (by rfl) (by decide) (by decide +kernel) (ed_var (pv 1)))) (ed_add (ed_var (pv 1)) (ed_call G__law_one_of (by first | exact hr | exact hr.mono (by decide) | exact hr.mono (by omega)) (by rfl) E__law_one_of.g E__law_one_of.F.kp E__law_one_of.b (ad_cons (ed_var (pv 0)) (ad_cons (ed_lstT (ad_cons ed_int (ad_cons (ed_neg ed_int) ad_nil))) ad_nil)) (fun _ _ _ h => h.1))) (ed_var (pv 1))))))

abbrev s__law_is_constraint : Stmt := topS 31
theorem sc__law_is_constraint : FnScope ["names", "value", "one"] ["names", "value"] (defScope s__law_is_constraint) := ⟨rfl, rfl, rfl, by decide +kernel, rfl, by decide +kernel, by decide +kernel⟩
def T__law_is_constraint : FT := fnD 2 3 (sSeq (sIf (bOr (bNot (bVal (tIsi "tuple" (tVarD 1)))) (bOr (bCmp neD (tCallB lenD (aCons (tVarD 1) aNil)) (tCD (.int 3))) (bNot (bVal (tCallD T__law_between (aCons (tOpD ixD (tVarD 1) (tCD (.int 2))) (aCons (tOp1D negD (tCD (.int 4000000))) (aCons (tCD (.int 4000000)) aNil)))))))) (sRet (tCD (.bl false))) sNil) (sSeq (sFor [] (wAny (tSlD (tVarD 1) oNone (oSome (tCD (.int 2))))) (fName 2) (sIf (bAnd (bCmp notD (tVarD 2) (tCD .non)) (bOr (bNot (bVal (tCallD T__law_between (aCons (tVarD 2) (aCons (tCD (.int 0)) (aCons (tCD (.int 15)) aNil)))))) (bCmp (inAD true) (tVarD 2) (tVarD 0)))) (sRet (tCD (.bl false))) sNil)) (sRet (tOpD neD (tOpD ixD (tVarD 1) (tCD (.int 0))) (tOpD ixD (tVarD 1) (tCD (.int 1)))))))
theorem ok__law_is_constraint (B : NoB mg) {f__law_between : Addr} {fd__law_between : FuncData} (E__law_between : Ent K mg "_law_between" s__law_between ["value", "low", "high"] f__law_between fd__law_between) (G__law_between : FnOk P w K mg base CX0 1 f__law_between fd__law_between ["value", "low", "high"] (lift K 3 T__law_between)) {f__law_is_constraint : Addr} {fd__law_is_constraint : FuncData} (E__law_is_constraint : Ent K mg "_law_is_constraint" s__law_is_constraint ["names", "value"] f__law_is_constraint fd__law_is_constraint) : FnOk P w K mg base CX0 2 f__law_is_constraint fd__law_is_constraint ["names", "value"] (lift K 2 T__law_is_constraint) := by
  refine fn_D 2 3 rfl rfl (by decide) E__law_is_constraint.F sc__law_is_constraint [] fun cdv A outer s H E hr => ⟨[], ?_⟩
  have nd := sc__law_is_constraint.nd
  exact (s_cons (s_if (bd_w (wb_or (bd_not (bd_valT (ed_isi (T := "tuple") B (by decide +kernel) (by rfl) (by rfl) (by decide) (by decide +kernel) (ed_var (pv 1))))) (wb_or (bd_cmpT ((op_neD hr.units).or op_ne) (nomark _) o2_ne (ed_len B (by rfl) (ad_cons (ed_var (pv 1)) ad_nil)) ed_int) (wb_or1 (bd_not (bd_valT (ed_call G__law_between (by first | exact hr | exact hr.mono (by decide) | exact hr.mono (by omega)) (by rfl) E__law_between.g E__law_between.F.kp E__law_between.b (ad_cons (ed_ix (ed_var (pv 1)) ed_int) (ad_cons (ed_neg ed_int) (ad_cons ed_int ad_nil))) (fun _ _ _ h => h.1)))))))) (s_one (s_ret ed_bl)) s_nil) (s_cons (s_for [] [] PassesOwn.never (by rfl) (wd_seq (ed_slice (ed_var (pv 1)) od_none (od_some ed_int))) (pg_name (i := 2) nd rfl (by first | exact .inl rfl | exact .inr rfl)) (tr_name 2) (s_one (s_if (bd_w (wb_and (bd_cmpT op_notN (nomark _) o2_not (ed_var (pv 2)) ed_non) (wb_and1 (bd_w (wb_or (bd_not (bd_valT (ed_call G__law_between (by first | exact hr | exact hr.mono (by decide) | exact hr.mono (by omega)) (by rfl) E__law_between.g E__law_between.F.kp E__law_between.b (ad_cons (ed_var (pv 2)) (ad_cons ed_int (ad_cons ed_int ad_nil))) (fun _ _ _ h => h.1)))) (wb_or1 (bd_cmpT (op_notIn_seq.or (op_notInG hr.units)) (by rfl) (o2_in.or o2_inG) (ed_var (pv 2)) (ed_var (pv 0))))))))) (s_one (s_ret ed_bl)) s_nil))) (s_one (s_ret (ed_cmp ((op_neD hr.units).or op_ne) (nomark _) o2_ne (ed_ix (ed_var (pv 1)) ed_int) (ed_ix (ed_var (pv 1)) ed_int))))))

abbrev s__law_is_query : Stmt := topS 32
theorem sc__law_is_query : FnScope ["scheme", "value", "parts", "constraints", "output", "names", "part", "one"] ["scheme", "value"] (defScope s__law_is_query) := ⟨rfl, rfl, rfl, by decide +kernel, rfl, by decide +kernel, by decide +kernel⟩
def T__law_is_query : FT := fnD 2 8 (sSeq (sIf (bOr (bNot (bVal (tIsi "tuple" (tVarD 1)))) (bOr (bCmp neD (tCallB lenD (aCons (tVarD 1) aNil)) (tCD (.int 3))) (bCmp (inD false) (tCD (.bl false)) (tComp (wAny (tVarD 1)) (fName 7) bYes (tIsi "tuple" (tVarD 7)) [7])))) (sRet (tCD (.bl false))) sNil) (sSeq (sAsg [] (fTup 3 (fsCons (fName 2) (fsCons (fName 3) (fsCons (fName 4) fsNil)))) (tVarD 1)) (sSeq (sIf (bNot (bChain leD leD (tCD (.int 1)) (tCallB lenD (aCons (tVarD 2) aNil)) (tCD (.int 4)))) (sRet (tCD (.bl false))) sNil) (sSeq (sAsg [] (fName 5) (tLstD aNil)) (sSeq (sFor [] (wAny (tVarD 2)) (fName 6) (sSeq (sIf (bOr (bNot (bVal (tIsi "tuple" (tVarD 6)))) (bOr (bCmp neD (tCallB lenD (aCons (tVarD 6) aNil)) (tCD (.int 2))) (bNot (bVal (tCallD T__law_between (aCons (tOpD ixD (tVarD 6) (tCD (.int 0))) (aCons (tCD (.int 0)) (aCons (tOpD subD (tCallB lenD (aCons (tVarD 0) aNil)) (tCD (.int 1))) aNil)))))))) (sRet (tCD (.bl false))) sNil) (sSeq (sIf (bOr (bNot (bVal (tIsi "tuple" (tOpD ixD (tVarD 6) (tCD (.int 1)))))) (bCmp neD (tCallB lenD (aCons (tOpD ixD (tVarD 6) (tCD (.int 1))) aNil)) (tCallB lenD (aCons (tOpD ixD (tOpD ixD (tVarD 0) (tOpD ixD (tVarD 6) (tCD (.int 0)))) (tCD (.int 0))) aNil)))) (sRet (tCD (.bl false))) sNil) (sSeq (sIf (bCmp (inD false) (tCD (.bl false)) (tComp (wAny (tOpD ixD (tVarD 6) (tCD (.int 1)))) (fName 7) bYes (tCallD T__law_between (aCons (tVarD 7) (aCons (tCD (.int 0)) (aCons (tCD (.int 15)) aNil)))) [7])) (sRet (tCD (.bl false))) sNil) (sAsg [] (fName 5) (tOpD addD (tVarD 5) (tCallB listD (aCons (tOpD ixD (tVarD 6) (tCD (.int 1))) aNil)))))))) (sSeq (sIf (bOr (bCmp gtD (tCallB lenD (aCons (tVarD 3) aNil)) (tCD (.int 8))) (bOr (bCmp (inD false) (tCD (.bl false)) (tComp (wAny (tVarD 3)) (fName 7) bYes (tCallD T__law_is_constraint (aCons (tVarD 5) (aCons (tVarD 7) aNil))) [7])) (bCmp gtD (tCallB lenD (aCons (tVarD 4) aNil)) (tCD (.int 8))))) (sRet (tCD (.bl false))) sNil) (sRet (tOpD (inD true) (tCD (.bl false)) (tComp (wAny (tVarD 4)) (fName 7) bYes (tAndD (tCallD T__law_between (aCons (tVarD 7) (aCons (tCD (.int 0)) (aCons (tCD (.int 15)) aNil)))) (tOpD (inAD false) (tVarD 7) (tVarD 5))) [7])))))))))
theorem ok__law_is_query (B : NoB mg) {f__law_between : Addr} {fd__law_between : FuncData} (E__law_between : Ent K mg "_law_between" s__law_between ["value", "low", "high"] f__law_between fd__law_between) (G__law_between : FnOk P w K mg base CX0 1 f__law_between fd__law_between ["value", "low", "high"] (lift K 3 T__law_between)) {f__law_is_constraint : Addr} {fd__law_is_constraint : FuncData} (E__law_is_constraint : Ent K mg "_law_is_constraint" s__law_is_constraint ["names", "value"] f__law_is_constraint fd__law_is_constraint) (G__law_is_constraint : FnOk P w K mg base CX0 2 f__law_is_constraint fd__law_is_constraint ["names", "value"] (lift K 2 T__law_is_constraint)) {f__law_is_query : Addr} {fd__law_is_query : FuncData} (E__law_is_query : Ent K mg "_law_is_query" s__law_is_query ["scheme", "value"] f__law_is_query fd__law_is_query) : FnOk P w K mg base CX0 3 f__law_is_query fd__law_is_query ["scheme", "value"] (lift K 2 T__law_is_query) := by
  refine fn_D 2 8 rfl rfl (by decide) E__law_is_query.F sc__law_is_query [] fun cdv A outer s H E hr => ⟨[], ?_⟩
  have nd := sc__law_is_query.nd
  exact (s_cons (s_if (bd_w (wb_or (bd_not (bd_valT (ed_isi (T := "tuple") B (by decide +kernel) (by rfl) (by rfl) (by decide) (by decide +kernel) (ed_var (pv 1))))) (wb_or (bd_cmpT ((op_neD hr.units).or op_ne) (nomark _) o2_ne (ed_len B (by rfl) (ad_cons (ed_var (pv 1)) ad_nil)) ed_int) (wb_or1 (bd_cmpT op_in_seq (by rfl) o2_in ed_bl (ed_lc (own := [("one", 7)]) (by rfl) nd (wd_seq (ed_var (pv 1))) (blkOk_by (N := ["scheme", "value", "parts", "constraints", "output", "names", "part", "one"]) (sc := defScope s__law_is_query) (by decide +kernel)) (tr_name 7) (fun _ _ _ _ _ => (pg_name (i := 7) nd rfl (by first | exact .inl rfl | exact .inr rfl))) (fun _ _ _ _ _ => ts_nil) (fun _ _ _ _ _ => (ed_isi (T := "tuple") B (by decide +kernel) (by rfl) (by rfl) (by decide) (by decide +kernel) (ed_var (pv 7)))))))))) (s_one (s_ret ed_bl)) s_nil) (s_cons (s_asg [] (fun _ h => ps_asg h (pg_tup (by rfl) (pgs_cons (pg_name (i := 2) nd rfl (by first | exact .inl rfl | exact .inr rfl)) (pgs_cons (pg_name (i := 3) nd rfl (by first | exact .inl rfl | exact .inr rfl)) (pgs_cons (pg_name (i := 4) nd rfl (by first | exact .inl rfl | exact .inr rfl)) pgs_nil))))) (ed_var (pv 1)) (tr_tup 3 (trs_cons (tr_name 2) (trs_cons (tr_name 3) (trs_cons (tr_name 4) trs_nil))))) (s_cons (s_if (bd_not (bd_chain op_le op_le o2_cmpI o2_cmpI ed_int (ed_len B (by rfl) (ad_cons (ed_var (pv 2)) ad_nil)) ed_int)) (s_one (s_ret ed_bl)) s_nil) (s_cons (s_asg [] (fun _ h => ps_set (i := 5) nd rfl (by first | exact .inl rfl | exact .inr rfl) h) (ed_lstT ad_nil) (tr_name 5)) (s_cons (s_for [] [] PassesOwn.never (by rfl) (wd_seq (ed_var (pv 2))) (pg_name (i := 6) nd rfl (by first | exact .inl rfl | exact .inr rfl)) (tr_name 6) (s_cons (s_if (bd_w (wb_or (bd_not (bd_valT (ed_isi (T := "tuple") B (by decide +kernel) (by rfl) (by rfl) (by decide) (by decide +kernel) (ed_var (pv 6))))) (wb_or (bd_cmpT ((op_neD hr.units).or op_ne) (nomark _) o2_ne (ed_len B (by rfl) (ad_cons (ed_var (pv 6)) ad_nil)) ed_int) (wb_or1 (bd_not (bd_valT (ed_call G__law_between (by first | exact hr | exact hr.mono (by decide) | exact hr.mono (by omega)) (by rfl) E__law_between.g E__law_between.F.kp E__law_between.b (ad_cons (ed_ix (ed_var (pv 6)) ed_int) (ad_cons ed_int (ad_cons (ed_sub (ed_len B (by rfl) (ad_cons (ed_var (pv 0)) ad_nil)) ed_int) ad_nil))) (fun _ _ _ h => h.1)))))))) (s_one (s_ret ed_bl)) s_nil) (s_cons (s_if (bd_w (wb_or (bd_not (bd_valT (ed_isi (T := "tuple") B (by decide +kernel) (by rfl) (by rfl) (by decide) (by decide +kernel) (ed_ix (ed_var (pv 6)) ed_int)))) (wb_or1 (bd_cmpT ((op_neD hr.units).or op_ne) (nomark _) o2_ne (ed_len B (by rfl) (ad_cons (ed_ix (ed_var (pv 6)) ed_int) ad_nil)) (ed_len B (by rfl) (ad_cons (ed_ix (ed_ix (ed_var (pv 0)) (ed_ix (ed_var (pv 6)) ed_int)) ed_int) ad_nil)))))) (s_one (s_ret ed_bl)) s_nil) (s_cons (s_if (bd_cmpT op_in_seq (by rfl) o2_in ed_bl (ed_lc (own := [("one", 7)]) (by rfl) nd (wd_seq (ed_ix (ed_var (pv 6)) ed_int)) (blkOk_by (N := ["scheme", "value", "parts", "constraints", "output", "names", "part", "one"]) (sc := defScope s__law_is_query) (by decide +kernel)) (tr_name 7) (fun _ _ _ _ _ => (pg_name (i := 7) nd rfl (by first | exact .inl rfl | exact .inr rfl))) (fun _ _ _ _ _ => ts_nil) (fun _ _ _ _ _ => (ed_call G__law_between (by first | exact hr | exact hr.mono (by decide) | exact hr.mono (by omega)) (by rfl) E__law_between.g E__law_between.F.kp E__law_between.b (ad_cons (ed_var (pv 7)) (ad_cons ed_int (ad_cons ed_int ad_nil))) (fun _ _ _ h => h.1))))) (s_one (s_ret ed_bl)) s_nil) (s_one (s_asg [] (fun _ h => ps_set (i := 5) nd rfl (by first | exact .inl rfl | exact .inr rfl) h) (ed_add (ed_var (pv 5)) (ed_list B (by rfl) (ad_cons (ed_ix (ed_var (pv 6)) ed_int) ad_nil))) (tr_name 5))))))) (s_cons (s_if (bd_w (wb_or (bd_cmpT op_gt (nomark _) o2_cmpI (ed_len B (by rfl) (ad_cons (ed_var (pv 3)) ad_nil)) ed_int) (wb_or (bd_cmpT op_in_seq (by rfl) o2_in ed_bl (ed_lc (own := [("one", 7)]) (by rfl) nd (wd_seq (ed_var (pv 3))) (blkOk_by (N := ["scheme", "value", "parts", "constraints", "output", "names", "part", "one"]) (sc := defScope s__law_is_query) (by decide +kernel)) (tr_name 7) (fun _ _ _ _ _ => (pg_name (i := 7) nd rfl (by first | exact .inl rfl | exact .inr rfl))) (fun _ _ _ _ _ => ts_nil) (fun _ _ _ _ _ => (ed_call G__law_is_constraint (by first | exact hr | exact hr.mono (by decide) | exact hr.mono (by omega)) (by rfl) E__law_is_constraint.g E__law_is_constraint.F.kp E__law_is_constraint.b (ad_cons (ed_var (pv 5)) (ad_cons (ed_var (pv 7)) ad_nil)) (fun _ _ _ h => h.1))))) (wb_or1 (bd_cmpT op_gt (nomark _) o2_cmpI (ed_len B (by rfl) (ad_cons (ed_var (pv 4)) ad_nil)) ed_int))))) (s_one (s_ret ed_bl)) s_nil) (s_one (s_ret (ed_cmp op_notIn_seq (by rfl) o2_in ed_bl (ed_lc (own := [("one", 7)]) (by rfl) nd (wd_seq (ed_var (pv 4))) (blkOk_by (N := ["scheme", "value", "parts", "constraints", "output", "names", "part", "one"]) (sc := defScope s__law_is_query) (by decide +kernel)) (tr_name 7) (fun _ _ _ _ _ => (pg_name (i := 7) nd rfl (by first | exact .inl rfl | exact .inr rfl))) (fun _ _ _ _ _ => ts_nil) (fun _ _ _ _ _ => (ed_and (ed_call G__law_between (by first | exact hr | exact hr.mono (by decide) | exact hr.mono (by omega)) (by rfl) E__law_between.g E__law_between.F.kp E__law_between.b (ad_cons (ed_var (pv 7)) (ad_cons ed_int (ad_cons ed_int ad_nil))) (fun _ _ _ h => h.1)) (ed_one (ed_cmp (op_in_seq.or (op_inG hr.units)) (by rfl) (o2_in.or o2_inG) (ed_var (pv 7)) (ed_var (pv 5))))))))))))))))

abbrev s__law_near : Stmt := topS 33
theorem sc__law_near : FnScope ["pen", "query", "parts", "constraints", "output", "way", "k", "some", "far", "part"] ["pen", "query"] (defScope s__law_near) := ⟨rfl, rfl, rfl, by decide +kernel, rfl, by decide +kernel, by decide +kernel⟩
def T__law_near : FT := fnD 2 10 (sSeq (sAsg [] (fTup 3 (fsCons (fName 2) (fsCons (fName 3) (fsCons (fName 4) fsNil)))) (tVarD 1)) (sSeq (sPar [] 5 6 (aCons (tCallD takeD (aCons (tVarD 0) (aCons (tCD (.int 8)) aNil))) (aCons (tCallD takeD (aCons (tVarD 0) (aCons (tCallB lenD (aCons (tVarD 2) aNil)) aNil))) aNil))) (sSeq (sIf (bCmp ltD (tVarD 5) (tCD (.int 2))) (sRet (tIfD (bCmp eqD (tVarD 5) (tCD (.int 0))) (tCallD (T__law_bent 12) (aCons (tVarD 0) (aCons (tVarD 1) aNil))) (tCallD (T__law_off 12) (aCons (tVarD 0) (aCons (tVarD 1) aNil))))) sNil) (sSeq (sIf (bCmp eqD (tVarD 5) (tCD (.int 2))) (sSeq (sAsg [] (fName 7) (tLstD (aCons (tTupD (aCons (tCD (.int 0)) (aCons (tCD (.int 0)) (aCons (tCD (.int 1)) aNil)))) (aCons (tTupD (aCons (tCD .non) (aCons (tCD .non) (aCons (tCD (.int 1)) aNil)))) (aCons (tTupD (aCons (tCD (.int 15)) (aCons (tCD .non) (aCons (tCD (.int 0)) aNil)))) (aCons (tTupD (aCons (tCD .non) (aCons (tCD (.int 16)) (aCons (tCD (.int 0)) aNil)))) (aCons (tTupD (aCons (tCD (.bl true)) (aCons (tCD .non) (aCons (tCD (.int 0)) aNil)))) (aCons (tTupD (aCons (tCD (.str "a")) (aCons (tCD .non) (aCons (tCD (.int 0)) aNil)))) aNil)))))))) (sSeq (sAsg [] (fName 8) (tCallD T__law_one_of (aCons (tVarD 0) (aCons (tLstD (aCons (tOp1D negD (tCD (.int 4000001))) (aCons (tOp1D negD (tCD (.int 4000000))) (aCons (tCD (.int 4000000)) (aCons (tCD (.int 4000001)) aNil))))) aNil)))) (sSeq (sAsg [] (fName 7) (tOpD addD (tVarD 7) (tOpD mulD (tLstD (aCons (tTupD (aCons (tOpD ixD (tOpD ixD (tOpD ixD (tVarD 2) (tVarD 6)) (tCD (.int 1))) (tCD (.int 0))) (aCons (tCD .non) (aCons (tVarD 8) aNil)))) (aCons (tTupD (aCons (tCD .non) (aCons (tOpD ixD (tOpD ixD (tOpD ixD (tVarD 2) (tVarD 6)) (tCD (.int 1))) (tOp1D negD (tCD (.int 1)))) (aCons (tVarD 8) aNil)))) aNil))) (tCD (.int 3))))) (sRet (tTupD (aCons (tVarD 2) (aCons (tSlD (tOpD addD (tVarD 3) (tTupD (aCons (tCallD T__law_one_of (aCons (tVarD 0) (aCons (tVarD 7) aNil))) aNil))) (oSome (tOp1D negD (tCD (.int 8)))) oNone) (aCons (tVarD 4) aNil)))))))) sNil) (sSeq (sIf (bCmp eqD (tVarD 5) (tCD (.int 3))) (sRet (tTupD (aCons (tVarD 2) (aCons (tVarD 3) (aCons (tOpD addD (tVarD 4) (tTupD (aCons (tCallD T__law_one_of (aCons (tVarD 0) (aCons (tLstD (aCons (tCD (.int 15)) (aCons (tCD (.int 16)) (aCons (tOp1D negD (tCD (.int 1))) (aCons (tCD .non) (aCons (tCD (.bl true)) (aCons (tCD (.str "0")) (aCons (tCD (.int 0)) aNil)))))))) aNil))) aNil))) aNil))))) sNil) (sSeq (sIf (bCmp eqD (tVarD 5) (tCD (.int 4))) (sRet (tTupD (aCons (tOpD mulD (tVarD 2) (tCallD takeD (aCons (tVarD 0) (aCons (tCD (.int 6)) aNil)))) (aCons (tVarD 3) (aCons (tVarD 4) aNil))))) sNil) (sSeq (sIf (bCmp eqD (tVarD 5) (tCD (.int 5))) (sRet (tTupD (aCons (tVarD 2) (aCons (tSlD (tOpD mulD (tVarD 3) (tCD (.int 9))) oNone (oSome (tOpD addD (tCD (.int 7)) (tCallD takeD (aCons (tVarD 0) (aCons (tCD (.int 4)) aNil)))))) (aCons (tSlD (tOpD mulD (tVarD 4) (tCD (.int 9))) oNone (oSome (tOpD addD (tCD (.int 7)) (tCallD takeD (aCons (tVarD 0) (aCons (tCD (.int 4)) aNil)))))) aNil))))) sNil) (sSeq (sIf (bCmp eqD (tVarD 5) (tCD (.int 6))) (sSeq (sAsg [] (fName 9) (tTupD (aCons (tOpD ixD (tOpD ixD (tVarD 2) (tVarD 6)) (tCD (.int 0))) (aCons (tOpD addD (tSlD (tOpD ixD (tOpD ixD (tVarD 2) (tVarD 6)) (tCD (.int 1))) oNone (oSome (tOp1D negD (tCD (.int 1))))) (tTupD (aCons (tCallD T__law_one_of (aCons (tVarD 0) (aCons (tLstD (aCons (tCD (.int 16)) (aCons (tOp1D negD (tCD (.int 1))) (aCons (tCD .non) (aCons (tCD (.bl false)) (aCons (tCD (.int 15)) aNil)))))) aNil))) aNil))) aNil)))) (sRet (tTupD (aCons (tOpD addD (tOpD addD (tSlD (tVarD 2) oNone (oSome (tVarD 6))) (tTupD (aCons (tVarD 9) aNil))) (tSlD (tVarD 2) (oSome (tOpD addD (tVarD 6) (tCD (.int 1)))) oNone)) (aCons (tVarD 3) (aCons (tVarD 4) aNil)))))) sNil) (sSeq (sAsg [] (fName 7) (tLstD (aCons (tCallB listD (aCons (tVarD 1) aNil)) (aCons (tOpD addD (tVarD 1) (tTupD (aCons (tTupD aNil) aNil))) (aCons (tSlD (tVarD 1) oNone (oSome (tCD (.int 2)))) (aCons (tTupD (aCons (tCallB listD (aCons (tVarD 2) aNil)) (aCons (tVarD 3) (aCons (tVarD 4) aNil)))) (aCons (tCD .non) (aCons tNoDict (aCons (tTupD (aCons (tTupD aNil) (aCons (tTupD aNil) (aCons (tTupD aNil) aNil)))) aNil))))))))) (sRet (tCallD T__law_one_of (aCons (tVarD 0) (aCons (tVarD 7) aNil)))))))))))))
theorem ok__law_near (B : NoB mg) {f__law_bent : Addr} {fd__law_bent : FuncData} (E__law_bent : Ent K mg "_law_bent" s__law_bent ["pen", "value"] f__law_bent fd__law_bent) (G__law_bent : FnOk P w K mg base CX0 16 f__law_bent fd__law_bent ["pen", "value"] (lift K 2 (T__law_bent 12))) {f__law_off : Addr} {fd__law_off : FuncData} (E__law_off : Ent K mg "_law_off" s__law_off ["pen", "value"] f__law_off fd__law_off) (G__law_off : FnOk P w K mg base CX0 15 f__law_off fd__law_off ["pen", "value"] (lift K 2 (T__law_off 12))) {f__law_one_of : Addr} {fd__law_one_of : FuncData} (E__law_one_of : Ent K mg "_law_one_of" s__law_one_of ["pen", "some"] f__law_one_of fd__law_one_of) (G__law_one_of : FnOk P w K mg base CX0 3 f__law_one_of fd__law_one_of ["pen", "some"] (lift K 2 T__law_one_of)) {f__law_take : Addr} {fd__law_take : FuncData} (E__law_take : Ent K mg "_law_take" s__law_take ["pen", "amount"] f__law_take fd__law_take) (G__law_take : FnOk P w K mg base CX0 2 f__law_take fd__law_take ["pen", "amount"] (lift K 2 takeD)) {f__law_near : Addr} {fd__law_near : FuncData} (E__law_near : Ent K mg "_law_near" s__law_near ["pen", "query"] f__law_near fd__law_near) : FnOk P w K mg base CX0 17 f__law_near fd__law_near ["pen", "query"] (lift K 2 T__law_near) := by
  refine fn_D 2 10 rfl rfl (by decide) E__law_near.F sc__law_near [] fun cdv A outer s H E hr => ⟨[], ?_⟩
  have nd := sc__law_near.nd
  exact (s_cons (s_asg [] (fun _ h => ps_asg h (pg_tup (by rfl) (pgs_cons (pg_name (i := 2) nd rfl (by first | exact .inl rfl | exact .inr rfl)) (pgs_cons (pg_name (i := 3) nd rfl (by first | exact .inl rfl | exact .inr rfl)) (pgs_cons (pg_name (i := 4) nd rfl (by first | exact .inl rfl | exact .inr rfl)) pgs_nil))))) (ed_var (pv 1)) (tr_tup 3 (trs_cons (tr_name 2) (trs_cons (tr_name 3) (trs_cons (tr_name 4) trs_nil))))) (s_cons (s_par [] (fun _ h => ps_par (i := 5) (j := 6) (by rfl) nd rfl rfl (by decide) rfl rfl h (by rfl)) (ad_cons (ed_call G__law_take (by first | exact hr | exact hr.mono (by decide) | exact hr.mono (by omega)) (by rfl) E__law_take.g E__law_take.F.kp E__law_take.b (ad_cons (ed_var (pv 0)) (ad_cons ed_int ad_nil)) (takeD_len)) (ad_cons (ed_call G__law_take (by first | exact hr | exact hr.mono (by decide) | exact hr.mono (by omega)) (by rfl) E__law_take.g E__law_take.F.kp E__law_take.b (ad_cons (ed_var (pv 0)) (ad_cons (ed_len B (by rfl) (ad_cons (ed_var (pv 2)) ad_nil)) ad_nil)) (takeD_len)) ad_nil))) (s_cons (s_if (bd_cmpT op_lt (nomark _) o2_cmpI (ed_var (pv 5)) ed_int) (s_one (s_ret (ed_if (bd_cmpT ((op_eqD hr.units).or op_eq) (nomark _) o2_eq (ed_var (pv 5)) ed_int) (ed_call G__law_bent (by first | exact hr | exact hr.mono (by decide) | exact hr.mono (by omega)) (by rfl) E__law_bent.g E__law_bent.F.kp E__law_bent.b (ad_cons (ed_var (pv 0)) (ad_cons (ed_var (pv 1)) ad_nil)) (T__law_bent_len 12)) (ed_call G__law_off (by first | exact hr | exact hr.mono (by decide) | exact hr.mono (by omega)) (by rfl) E__law_off.g E__law_off.F.kp E__law_off.b (ad_cons (ed_var (pv 0)) (ad_cons (ed_var (pv 1)) ad_nil)) (T__law_off_len 12))))) s_nil) (s_cons (s_if (bd_cmpT ((op_eqD hr.units).or op_eq) (nomark _) o2_eq (ed_var (pv 5)) ed_int) (s_cons (s_asg [] (fun _ h => ps_set (i := 7) nd rfl (by first | exact .inl rfl | exact .inr rfl) h) (ed_lstT (ad_cons (ed_tupT (ad_cons ed_int (ad_cons ed_int (ad_cons ed_int ad_nil)))) (ad_cons (ed_tupT (ad_cons ed_non (ad_cons ed_non (ad_cons ed_int ad_nil)))) (ad_cons (ed_tupT (ad_cons ed_int (ad_cons ed_non (ad_cons ed_int ad_nil)))) (ad_cons (ed_tupT (ad_cons ed_non (ad_cons ed_int (ad_cons ed_int ad_nil)))) (ad_cons (ed_tupT (ad_cons ed_bl (ad_cons ed_non (ad_cons ed_int ad_nil)))) (ad_cons (ed_tupT (ad_cons ed_str (ad_cons ed_non (ad_cons ed_int ad_nil)))) ad_nil))))))) (tr_name 7)) (s_cons (s_asg [] (fun _ h => ps_set (i := 8) nd rfl (by first | exact .inl rfl | exact .inr rfl) h) (ed_call G__law_one_of (by first | exact hr | exact hr.mono (by decide) | exact hr.mono (by omega)) (by rfl) E__law_one_of.g E__law_one_of.F.kp E__law_one_of.b (ad_cons (ed_var (pv 0)) (ad_cons (ed_lstT (ad_cons (ed_neg ed_int) (ad_cons (ed_neg ed_int) (ad_cons ed_int (ad_cons ed_int ad_nil))))) ad_nil)) (fun _ _ _ h => h.1)) (tr_name 8)) (s_cons (s_asg [] (fun _ h => ps_set (i := 7) nd rfl (by first | exact .inl rfl | exact .inr rfl) h) (ed_add (ed_var (pv 7)) (ed_mul (ed_lstT (ad_cons (ed_tupT (ad_cons (ed_ix (ed_ix (ed_ix (ed_var (pv 2)) (ed_var (pv 6))) ed_int) ed_int) (ad_cons ed_non (ad_cons (ed_var (pv 8)) ad_nil)))) (ad_cons (ed_tupT (ad_cons ed_non (ad_cons (ed_ix (ed_ix (ed_ix (ed_var (pv 2)) (ed_var (pv 6))) ed_int) (ed_neg ed_int)) (ad_cons (ed_var (pv 8)) ad_nil)))) ad_nil))) ed_int)) (tr_name 7)) (s_one (s_ret (ed_tupT (ad_cons (ed_var (pv 2)) (ad_cons (ed_slice (ed_add (ed_var (pv 3)) (ed_tupT (ad_cons (ed_call G__law_one_of (by first | exact hr | exact hr.mono (by decide) | exact hr.mono (by omega)) (by rfl) E__law_one_of.g E__law_one_of.F.kp E__law_one_of.b (ad_cons (ed_var (pv 0)) (ad_cons (ed_var (pv 7)) ad_nil)) (fun _ _ _ h => h.1)) ad_nil))) (od_some (ed_neg ed_int)) od_none) (ad_cons (ed_var (pv 4)) ad_nil))))))))) s_nil) (s_cons (s_if (bd_cmpT ((op_eqD hr.units).or op_eq) (nomark _) o2_eq (ed_var (pv 5)) ed_int) (s_one (s_ret (ed_tupT (ad_cons (ed_var (pv 2)) (ad_cons (ed_var (pv 3)) (ad_cons (ed_add (ed_var (pv 4)) (ed_tupT (ad_cons (ed_call G__law_one_of (by first | exact hr | exact hr.mono (by decide) | exact hr.mono (by omega)) (by rfl) E__law_one_of.g E__law_one_of.F.kp E__law_one_of.b (ad_cons (ed_var (pv 0)) (ad_cons (ed_lstT (ad_cons ed_int (ad_cons ed_int (ad_cons (ed_neg ed_int) (ad_cons ed_non (ad_cons ed_bl (ad_cons ed_str (ad_cons ed_int ad_nil)))))))) ad_nil)) (fun _ _ _ h => h.1)) ad_nil))) ad_nil)))))) s_nil) (s_cons (s_if (bd_cmpT ((op_eqD hr.units).or op_eq) (nomark _) o2_eq (ed_var (pv 5)) ed_int) (s_one (s_ret (ed_tupT (ad_cons (ed_mul (ed_var (pv 2)) (ed_call G__law_take (by first | exact hr | exact hr.mono (by decide) | exact hr.mono (by omega)) (by rfl) E__law_take.g E__law_take.F.kp E__law_take.b (ad_cons (ed_var (pv 0)) (ad_cons ed_int ad_nil)) (takeD_len))) (ad_cons (ed_var (pv 3)) (ad_cons (ed_var (pv 4)) ad_nil)))))) s_nil) (s_cons (s_if (bd_cmpT ((op_eqD hr.units).or op_eq) (nomark _) o2_eq (ed_var (pv 5)) ed_int) (s_one (s_ret (ed_tupT (ad_cons (ed_var (pv 2)) (ad_cons (ed_slice (ed_mul (ed_var (pv 3)) ed_int) od_none (od_some (ed_add ed_int (ed_call G__law_take (by first | exact hr | exact hr.mono (by decide) | exact hr.mono (by omega)) (by rfl) E__law_take.g E__law_take.F.kp E__law_take.b (ad_cons (ed_var (pv 0)) (ad_cons ed_int ad_nil)) (takeD_len))))) (ad_cons (ed_slice (ed_mul (ed_var (pv 4)) ed_int) od_none (od_some (ed_add ed_int (ed_call G__law_take (by first | exact hr | exact hr.mono (by decide) | exact hr.mono (by omega)) (by rfl) E__law_take.g E__law_take.F.kp E__law_take.b (ad_cons (ed_var (pv 0)) (ad_cons ed_int ad_nil)) (takeD_len))))) ad_nil)))))) s_nil) (s_cons (s_if (bd_cmpT ((op_eqD hr.units).or op_eq) (nomark _) o2_eq (ed_var (pv 5)) ed_int) (s_cons (s_asg [] (fun _ h => ps_set (i := 9) nd rfl (by first | exact .inl rfl | exact .inr rfl) h) (ed_tupT (ad_cons (ed_ix (ed_ix (ed_var (pv 2)) (ed_var (pv 6))) ed_int) (ad_cons (ed_add (ed_slice (ed_ix (ed_ix (ed_var (pv 2)) (ed_var (pv 6))) ed_int) od_none (od_some (ed_neg ed_int))) (ed_tupT (ad_cons (ed_call G__law_one_of (by first | exact hr | exact hr.mono (by decide) | exact hr.mono (by omega)) (by rfl) E__law_one_of.g E__law_one_of.F.kp E__law_one_of.b (ad_cons (ed_var (pv 0)) (ad_cons (ed_lstT (ad_cons ed_int (ad_cons (ed_neg ed_int) (ad_cons ed_non (ad_cons ed_bl (ad_cons ed_int ad_nil)))))) ad_nil)) (fun _ _ _ h => h.1)) ad_nil))) ad_nil))) (tr_name 9)) (s_one (s_ret (ed_tupT (ad_cons (ed_add (ed_add (ed_slice (ed_var (pv 2)) od_none (od_some (ed_var (pv 6)))) (ed_tupT (ad_cons (ed_var (pv 9)) ad_nil))) (ed_slice (ed_var (pv 2)) (od_some (ed_add (ed_var (pv 6)) ed_int)) od_none)) (ad_cons (ed_var (pv 3)) (ad_cons (ed_var (pv 4)) ad_nil))))))) s_nil) (s_cons (s_asg [] (fun _ h => ps_set (i := 7) nd rfl (by first | exact .inl rfl | exact .inr rfl) h) (ed_lstT (ad_cons (ed_list B (by rfl) (ad_cons (ed_var (pv 1)) ad_nil)) (ad_cons (ed_add (ed_var (pv 1)) (ed_tupT (ad_cons (ed_tupT ad_nil) ad_nil))) (ad_cons (ed_slice (ed_var (pv 1)) od_none (od_some ed_int)) (ad_cons (ed_tupT (ad_cons (ed_list B (by rfl) (ad_cons (ed_var (pv 2)) ad_nil)) (ad_cons (ed_var (pv 3)) (ad_cons (ed_var (pv 4)) ad_nil)))) (ad_cons ed_non (ad_cons ed_dnew (ad_cons (ed_tupT (ad_cons (ed_tupT ad_nil) (ad_cons (ed_tupT ad_nil) (ad_cons (ed_tupT ad_nil) ad_nil)))) ad_nil)))))))) (tr_name 7)) (s_one (s_ret (ed_call G__law_one_of (by first | exact hr | exact hr.mono (by decide) | exact hr.mono (by omega)) (by rfl) E__law_one_of.g E__law_one_of.F.kp E__law_one_of.b (ad_cons (ed_var (pv 0)) (ad_cons (ed_var (pv 7)) ad_nil)) (fun _ _ _ h => h.1)))))))))))))

abbrev s_law : Stmt := topS 34
theorem sc_law : FnScope ["script", "pen", "turn", "scheme", "query", "value", "text", "again"] ["script"] (defScope s_law) := ⟨rfl, rfl, rfl, by decide +kernel, rfl, by decide +kernel, by decide +kernel⟩
def T_law1 : TDS := (sAsg [] (fName 1) (tCallD T__law_open (aCons (tVarD 0) aNil)))
def T_law2 : TDS := (sSeq (sFor [] (wRng1 (aCons (tCD (.int 5)) aNil)) (fName 2) (sSeq (sAsg [] (fName 3) (tCallD T__law_draw_scheme (aCons (tVarD 1) (aCons (tCD (.int 3)) (aCons (tCD (.int 4)) aNil))))) (sSeq (sAsg [] (fName 4) (tCallD T__law_draw_query (aCons (tVarD 1) (aCons (tVarD 3) (aCons (tCD (.int 4)) (aCons (tCD (.int 8)) aNil)))))) (sFor [] (wAny (tOpD addD (tLstD (aCons (tVarD 4) aNil)) (tComp (wRng1 (aCons (tCD (.int 18)) aNil)) (fName 7) bYes (tCallD T__law_near (aCons (tVarD 1) (aCons (tVarD 4) aNil))) [7]))) (fName 5) (sSeq (sAsg [] (fName 6) (tCallB reprF (aCons (tTupD (aCons (tVarD 3) (aCons (tVarD 5) aNil))) aNil))) (sIf (bOr (bNot (bVal (tCallD (T__law_same 12) (aCons (tCallD T_is_query (aCons (tVarD 3) (aCons (tVarD 5) aNil))) (aCons (tCallD T__law_is_query (aCons (tVarD 3) (aCons (tVarD 5) aNil))) aNil))))) (bCmp neD (tCallB reprF (aCons (tTupD (aCons (tVarD 3) (aCons (tVarD 5) aNil))) aNil)) (tVarD 6))) (sRet (tCD (.bl false))) sNil)))))) (sRet (tCD (.bl true))))
theorem run_law (B : NoB mg) {f__law_draw_query : Addr} {fd__law_draw_query : FuncData} (E__law_draw_query : Ent K mg "_law_draw_query" s__law_draw_query ["pen", "scheme", "parts", "most"] f__law_draw_query fd__law_draw_query) (G__law_draw_query : FnOk P w K mg base CX0 5 f__law_draw_query fd__law_draw_query ["pen", "scheme", "parts", "most"] (lift K 4 T__law_draw_query)) {f__law_draw_scheme : Addr} {fd__law_draw_scheme : FuncData} (E__law_draw_scheme : Ent K mg "_law_draw_scheme" s__law_draw_scheme ["pen", "many", "columns"] f__law_draw_scheme fd__law_draw_scheme) (G__law_draw_scheme : FnOk P w K mg base CX0 6 f__law_draw_scheme fd__law_draw_scheme ["pen", "many", "columns"] (lift K 3 T__law_draw_scheme)) {f__law_is_query : Addr} {fd__law_is_query : FuncData} (E__law_is_query : Ent K mg "_law_is_query" s__law_is_query ["scheme", "value"] f__law_is_query fd__law_is_query) (G__law_is_query : FnOk P w K mg base CX0 3 f__law_is_query fd__law_is_query ["scheme", "value"] (lift K 2 T__law_is_query)) {f__law_near : Addr} {fd__law_near : FuncData} (E__law_near : Ent K mg "_law_near" s__law_near ["pen", "query"] f__law_near fd__law_near) (G__law_near : FnOk P w K mg base CX0 17 f__law_near fd__law_near ["pen", "query"] (lift K 2 T__law_near)) {f__law_open : Addr} {fd__law_open : FuncData} (E__law_open : Ent K mg "_law_open" s__law_open ["script"] f__law_open fd__law_open) (G__law_open : FnOk P w K mg base CX0 1 f__law_open fd__law_open ["script"] (lift K 1 T__law_open)) {f__law_same : Addr} {fd__law_same : FuncData} (E__law_same : Ent K mg "_law_same" s__law_same ["found", "due"] f__law_same fd__law_same) (G__law_same : FnOk P w K mg base CX0 12 f__law_same fd__law_same ["found", "due"] (lift K 2 (T__law_same 12))) {f_is_query : Addr} {fd_is_query : FuncData} (E_is_query : Ent K mg "is_query" s_is_query ["scheme", "value"] f_is_query fd_is_query) (G_is_query : FnOk P w K mg base CX0 5 f_is_query fd_is_query ["scheme", "value"] (lift K 2 T_is_query)) (cdv : Value) (s : Shared) (H : Hp) (E : XK) (f : Addr) (hr : Room 17 (callerA.deeper (envOfC "law" (defScope s_law) s.heap.objs.size f cdv))) :
    LawRun [] (cxOf CX0 P w K mg base ["script", "pen", "turn", "scheme", "query", "value", "text", "again"] "law" (defScope s_law) f cdv callerA [] s H E).nox (defBody s_law) [] T_law1 T_law2 := by
  have nd := sc_law.nd
  have hgd : (cxOf CX0 P w K mg base ["script", "pen", "turn", "scheme", "query", "value", "text", "again"] "law" (defScope s_law) f cdv callerA [] s H E).nox.A.guards = some [] := rfl
  have hun : (cxOf CX0 P w K mg base ["script", "pen", "turn", "scheme", "query", "value", "text", "again"] "law" (defScope s_law) f cdv callerA [] s H E).nox.A.units + 200 < cLine := by
    show 4 + 3 + 200 < cLine
    decide
  exact law_cons (s_asg [] (fun _ h => ps_set (i := 1) nd rfl (by first | exact .inl rfl | exact .inr rfl) h) (ed_call G__law_open (by first | exact hr | exact hr.mono (by decide) | exact hr.mono (by omega)) (by rfl) E__law_open.g E__law_open.F.kp E__law_open.b (ad_cons (ed_var (pv 0)) ad_nil) (fun _ _ _ h => h.1)) (tr_name 1)) (s_cons (s_for [] [] PassesOwn.never (by rfl) (wd_rng1 B (by rfl) (ad_cons ed_int ad_nil)) (pg_name (i := 2) nd rfl (by first | exact .inl rfl | exact .inr rfl)) (tr_name 2) (s_cons (s_asg [] (fun _ h => ps_set (i := 3) nd rfl (by first | exact .inl rfl | exact .inr rfl) h) (ed_call G__law_draw_scheme (by first | exact hr | exact hr.mono (by decide) | exact hr.mono (by omega)) (by rfl) E__law_draw_scheme.g E__law_draw_scheme.F.kp E__law_draw_scheme.b (ad_cons (ed_var (pv 1)) (ad_cons ed_int (ad_cons ed_int ad_nil))) (fun _ _ _ h => h.1)) (tr_name 3)) (s_cons (s_asg [] (fun _ h => ps_set (i := 4) nd rfl (by first | exact .inl rfl | exact .inr rfl) h) (ed_call G__law_draw_query (by first | exact hr | exact hr.mono (by decide) | exact hr.mono (by omega)) (by rfl) E__law_draw_query.g E__law_draw_query.F.kp E__law_draw_query.b (ad_cons (ed_var (pv 1)) (ad_cons (ed_var (pv 3)) (ad_cons ed_int (ad_cons ed_int ad_nil)))) (fun _ _ _ h => h.1)) (tr_name 4)) (s_one (s_for [] [] PassesOwn.never (by rfl) (wd_seq (ed_add (ed_lstT (ad_cons (ed_var (pv 4)) ad_nil)) (ed_lc (own := [("again", 7)]) (by rfl) nd (wd_rng1 B (by rfl) (ad_cons ed_int ad_nil)) (blkOk_by (N := ["script", "pen", "turn", "scheme", "query", "value", "text", "again"]) (sc := defScope s_law) (by decide +kernel)) (tr_name 7) (fun _ _ _ _ _ => (pg_name (i := 7) nd rfl (by first | exact .inl rfl | exact .inr rfl))) (fun _ _ _ _ _ => ts_nil) (fun _ _ _ _ _ => (ed_call G__law_near (by first | exact hr | exact hr.mono (by decide) | exact hr.mono (by omega)) (by rfl) E__law_near.g E__law_near.F.kp E__law_near.b (ad_cons (ed_var (pv 1)) (ad_cons (ed_var (pv 4)) ad_nil)) (fun _ _ _ h => h.1)))))) (pg_name (i := 5) nd rfl (by first | exact .inl rfl | exact .inr rfl)) (tr_name 5) (s_cons (s_asg [] (fun _ h => ps_set (i := 6) nd rfl (by first | exact .inl rfl | exact .inr rfl) h) (ed_repr B hgd hun (by rfl) (ad_cons (ed_tupT (ad_cons (ed_var (pv 3)) (ad_cons (ed_var (pv 5)) ad_nil))) ad_nil)) (tr_name 6)) (s_one (s_if (bd_w (wb_or (bd_not (bd_valT (ed_call G__law_same (by first | exact hr | exact hr.mono (by decide) | exact hr.mono (by omega)) (by rfl) E__law_same.g E__law_same.F.kp E__law_same.b (ad_cons (ed_call G_is_query (by first | exact hr | exact hr.mono (by decide) | exact hr.mono (by omega)) (by rfl) E_is_query.g E_is_query.F.kp E_is_query.b (ad_cons (ed_var (pv 3)) (ad_cons (ed_var (pv 5)) ad_nil)) (fun _ _ _ h => h.1)) (ad_cons (ed_call G__law_is_query (by first | exact hr | exact hr.mono (by decide) | exact hr.mono (by omega)) (by rfl) E__law_is_query.g E__law_is_query.F.kp E__law_is_query.b (ad_cons (ed_var (pv 3)) (ad_cons (ed_var (pv 5)) ad_nil)) (fun _ _ _ h => h.1)) ad_nil)) (T__law_same_len 12)))) (wb_or1 (bd_cmpT ((op_neD hr.units).or op_ne) (nomark _) o2_ne (ed_repr B hgd hun (by rfl) (ad_cons (ed_tupT (ad_cons (ed_var (pv 3)) (ad_cons (ed_var (pv 5)) ad_nil))) ad_nil)) (ed_var (pv 6)))))) (s_one (s_ret ed_bl)) s_nil)))))))) (s_one (s_ret ed_bl)))

end
end K10
set_option maxHeartbeats 4000000
namespace DL
open PySem PySem.Spec PyProof.Rows L2
theorem compD_map {f : D → DL.Env → Option DL.Env} {Te : TD} (g : D → D) {ρ : DL.Env} : ∀ (ds acc : List D) (n : Nat) (q : List D → Nat → Prop), (∀ d ∈ ds, ∃ ρ', f d ρ = some ρ' ∧ ∀ n k, Te ρ' n k ↔ k (g d) n) → acc.length + ds.length ≤ LIM → (compD f bYes Te ds acc ρ n q ↔ q (acc ++ ds.map g) n)
  | [], acc, n, q, _, _ => by simp [compD]
  | d :: ds, acc, n, q, h, hl => by
    obtain ⟨ρ', e1, e2⟩ := h d List.mem_cons_self
    have hl' : acc.length + ds.length + 1 ≤ LIM := by
      simp only [List.length_cons] at hl
      omega
    have ih := compD_map g ds (acc ++ [g d]) n q (fun d hd => h d (List.mem_cons_of_mem _ hd)) (by simp only [List.length_append, List.length_cons, List.length_nil]; omega)
    unfold compD
    constructor
    · rintro ⟨ρ2, e3, e4⟩
      rw [e1] at e3
      cases e3
      simp only [bYes, if_true] at e4
      rw [e2] at e4
      have := ih.mp e4.2
      simpa using this
    · intro hq
      refine ⟨ρ', e1, ?_⟩
      simp only [bYes, if_true]
      rw [e2]
      exact ⟨by omega, ih.mpr (by simpa using hq)⟩
theorem blsOf_map' {α : Type} (p : α → Bool) (ds : List α) : blsOf (ds.map fun d => .bl (p d)) = some (ds.map p) := by
  have := blsOf_map (ds.map p)
  rw [List.map_map] at this
  exact this
theorem inD_bls {α : Type} (p : α → Bool) (ds : List α) : inD false (.bl false) (.lst (ds.map fun d => .bl (p d))) = some (.bl (!ds.all p)) := by
  have h1 : (ds.map fun d => D.bl (p d)).all flatD = true := by simp [flatD]
  simp only [inD, h1, flatD, Bool.and_self, if_true]
  congr 2
  simp only [Bool.false_eq_true, if_false, inDs, toV, List.map_map]
  induction ds with
  | nil => rfl
  | cons d ds ih =>
    have e1 : eqV (.bl false) (.bl false) = true := by decide
    have e2 : eqV (.bl true) (.bl false) = false := by decide
    cases h : p d <;> simp_all [inV, toV]
theorem eqD_int (a b : Int) : eqD (.int a) (.int b) = some (.bl (decide (a = b))) := by
  have h1 : ∀ i : Int, okD (.int i) = true := fun i => by simp [okD, SeqAt.shaped, toPy, PyData.canLay0, PyData.depth]
  unfold eqD
  rw [h1, h1]
  simp only [toPy, PyData.eqv, Bool.and_self, if_true]
  congr 2
theorem neD_int (a b : Int) : neD (.int a) (.int b) = some (.bl (decide (¬ a = b))) := by
  have h1 : ∀ i : Int, okD (.int i) = true := fun i => by simp [okD, SeqAt.shaped, toPy, PyData.canLay0, PyData.depth]
  unfold neD
  rw [h1, h1]
  simp only [toPy, PyData.eqv, Bool.and_self, if_true]
  congr 2
  by_cases h : a = b <;> simp [h]
theorem inD_bls' {α : Type} (p : α → Bool) (ds : List α) : inD true (.bl false) (.lst (ds.map fun d => .bl (p d))) = some (.bl (ds.all p)) := by
  have h1 : (ds.map fun d => D.bl (p d)).all flatD = true := by simp [flatD]
  have := inD_bls p ds
  simp only [inD, h1, flatD, Bool.and_self, if_true, Bool.false_eq_true, if_false, Option.some.injEq, D.bl.injEq] at this ⊢
  rw [this, Bool.not_not]
theorem tComp_at {f : D → DL.Env → Option DL.Env} {Te : TD} (g : D → D) {i : Nat} {vs : List Nat} {ds : List D} {ρ : DL.Env} {d : D} (hd : d = .tup ds ∨ d = .lst ds) (h0 : ρ[i]? = some (some d)) (h : ∀ d ∈ ds, ∃ ρ', f d (wipeE ρ vs) = some ρ' ∧ ∀ n k, Te ρ' n k ↔ k (g d) n) (hl : ds.length ≤ LIM) (n : Nat) (q : QD) :
    tComp (wAny (tVarD i)) f bYes Te vs ρ n q ↔ q (.lst (ds.map g)) n := by
  unfold tComp wAny tVarD
  constructor
  · rintro ⟨d', e1, ds', e2, e3⟩
    rw [h0] at e1
    cases e1
    have : ds' = ds := by
      rcases e2 with rfl | rfl <;> rcases hd with hd | hd <;> cases hd <;> rfl
    subst this
    have := (compD_map g ds' [] n _ h (by simpa using hl)).mp e3
    simpa using this
  · intro hq
    refine ⟨d, h0, ds, hd.symm, ?_⟩
    refine (compD_map g ds [] n _ h (by simpa using hl)).mpr ?_
    simpa using hq
end DL
namespace K10
open PySem PySem.Spec PyProof.Rows L2 DL
def isI (d : D) : Bool := isTy "int" d && !isTy "bool" d
theorem m_is_integer (d : D) (n : Nat) (q : QD) : T_is_integer [d] n q ↔ q (.bl (isI d)) n := by
  simp [T_is_integer, isI, fnD, startE, hide_nil, sSeq, sNil, sIf, sRet, sRetN, sAsg, sAsgP, sFor, sForP, sOwn, sOwnP, sPar, sPar2, sApp, sAppP, sSet, sRem, sBreak, sCont, tVarD, tCD, tOpD, tOp1D, tCallD, tCallB, aNil, aCons, tAndD, tOrD, tNotD, tIfD, bAnd, bOr, bNot, bVal, bCmp, bChain, bChain3, bYes, tChainD, tIsi, tIsiIS, tTupD, tLstD, lLstD, tL, tSlD, oNone, oSome, tRevD, tNoDict, fName, fsNil, fsCons, fTup, ltD, leD, gtD, geD, cmpI, eqD, neD, isD, notD, addD, orD, arI, catT, catL, subD, mulD, mulID, arC, modD, fdivD, powD, negD, repT, repL, lenD, wEnum, wEnumP, wAny, wRng1, wRng2, wZip, List.replicate]
  cases isTy "int" d <;> simp
theorem isI_int {d : D} (h : isI d = true) : ∃ i, d = .int i := by
  cases d <;> simp [isI, isTy, tyN] at h ⊢
def btw (d : D) (lo hi : Int) : Bool := match d with
  | .int i => decide (lo ≤ i) && decide (i ≤ hi)
  | _ => false
theorem m_lies_between (d : D) (lo hi : Int) (n : Nat) (q : QD) : T_lies_between [d, .int lo, .int hi] n q ↔ q (.bl (btw d lo hi)) n := by
  simp [T_lies_between, m_is_integer, fnD, startE, hide_nil, sSeq, sNil, sIf, sRet, sRetN, sAsg, sAsgP, sFor, sForP, sOwn, sOwnP, sPar, sPar2, sApp, sAppP, sSet, sRem, sBreak, sCont, tVarD, tCD, tOpD, tOp1D, tCallD, tCallB, aNil, aCons, tAndD, tOrD, tNotD, tIfD, bAnd, bOr, bNot, bVal, bCmp, bChain, bChain3, bYes, tChainD, tIsi, tIsiIS, tTupD, tLstD, lLstD, tL, tSlD, oNone, oSome, tRevD, tNoDict, fName, fsNil, fsCons, fTup, ltD, leD, gtD, geD, cmpI, eqD, neD, isD, notD, addD, orD, arI, catT, catL, subD, mulD, mulID, arC, modD, fdivD, powD, negD, repT, repL, lenD, wEnum, wEnumP, wAny, wRng1, wRng2, wZip, List.replicate]
  cases h : isI d with
  | false =>
    simp
    cases d <;> simp [isI, isTy, tyN] at h <;> simp [btw]
  | true =>
    obtain ⟨i, rfl⟩ := isI_int h
    simp [btw]
    by_cases h1 : lo ≤ i
    · simp [h1, Int.not_lt.mpr h1]
    · simp [h1, Int.not_le.mp h1]
theorem m_law_between (d : D) (lo hi : Int) (n : Nat) (q : QD) : T__law_between [d, .int lo, .int hi] n q ↔ q (.bl (btw d lo hi)) n := by
  simp [T__law_between, fnD, startE, hide_nil, sSeq, sNil, sIf, sRet, sRetN, sAsg, sAsgP, sFor, sForP, sOwn, sOwnP, sPar, sPar2, sApp, sAppP, sSet, sRem, sBreak, sCont, tVarD, tCD, tOpD, tOp1D, tCallD, tCallB, aNil, aCons, tAndD, tOrD, tNotD, tIfD, bAnd, bOr, bNot, bVal, bCmp, bChain, bChain3, bYes, tChainD, tIsi, tIsiIS, tTupD, tLstD, lLstD, tL, tSlD, oNone, oSome, tRevD, tNoDict, fName, fsNil, fsCons, fTup, ltD, leD, gtD, geD, cmpI, eqD, neD, isD, notD, addD, orD, arI, catT, catL, subD, mulD, mulID, arC, modD, fdivD, powD, negD, repT, repL, lenD, wEnum, wEnumP, wAny, wRng1, wRng2, wZip, List.replicate]
  cases d <;> simp [isTy, tyN, btw]
  rename_i i
  by_cases h1 : lo ≤ i
  · simp [h1, Int.not_lt.mpr h1]
  · simp [h1, Int.not_le.mp h1]
def isT (d : D) (k : Int) : Bool := match d with
  | .tup ds => decide ((ds.length : Int) = k)
  | _ => false
theorem m_is_tuple_of (d : D) (k : Int) (n : Nat) (q : QD) : T_is_tuple_of [d, .int k] n q ↔ q (.bl (isT d k)) n := by
  simp [T_is_tuple_of, fnD, startE, sRet, tAndD, tIsi, tVarD, tOpD, tCallB, aCons, aNil]
  cases d <;> simp [isTy, tyN, isT, lenD, eqD_int]
theorem isT_get {d : D} {k : Int} (h : isT d k = true) : ∃ ds, d = .tup ds ∧ (ds.length : Int) = k := by
  cases d <;> simp [isT] at h ⊢
  exact h
def bndB (d : D) : Bool := match d with
  | .tup [.int a, .int b] => decide (-1000000 ≤ a) && decide (a ≤ 1000000) && decide (-1000000 ≤ b) && decide (b ≤ 1000000) && decide (a ≤ b)
  | _ => false
end K10
set_option maxHeartbeats 4000000
namespace K10
open PySem PySem.Spec PyProof.Rows L2 DL
theorem leD_int (a b : Int) : leD (.int a) (.int b) = some (.bl (decide (a ≤ b))) := rfl
theorem gtD_int (a b : Int) : gtD (.int a) (.int b) = some (.bl (decide (b < a))) := rfl
theorem subD_int (a b : Int) : subD (.int a) (.int b) = some (.int (a - b)) := rfl
theorem lenD_tup (ds : List D) : lenD [.tup ds] = some (.int (ds.length : Nat)) := rfl
theorem isTup_tup (ds : List D) : isTy "tuple" (.tup ds) = true := rfl
theorem isTup_no {d : D} (h : ∀ ds, d ≠ .tup ds) : isTy "tuple" d = false := by
  cases d <;> simp [isTy, tyN]
  exact h _ rfl
/-- whatever is a tuple of 1 to k -/
def tupLen (k : Int) (d : D) : Bool := match d with
  | .tup ds => decide (1 ≤ (ds.length : Int)) && decide ((ds.length : Int) ≤ k)
  | _ => false
theorem tupLen_no {k : Int} {d : D} (h : ∀ ds, d ≠ .tup ds) : tupLen k d = false := by
  unfold tupLen
  split
  · exact absurd rfl (h _)
  · rfl
/-- the two tests at the head: a tuple of 1 to k, else q -/
theorem head_tests (i : Nat) (k : Int) (ρ : DL.Env) (d : D) (hd : ρ[i]? = some (some d)) (n : Nat) (q : Bool → Nat → Prop) :
    bOr (bNot (bVal (tIsi "tuple" (tVarD i)))) (bNot (bChain leD leD (tCD (.int 1)) (tCallB lenD (aCons (tVarD i) aNil)) (tCD (.int k)))) ρ n q ↔ q (!tupLen k d) n := by
  simp only [bOr, tIsi, bChain, hd, fnD, startE, hide_nil, sSeq, sNil, sIf, sRet, sRetN, tVarD, tCD, tOpD, tOp1D, tCallD, tCallB, aNil, aCons, bVal, bNot, bCmp, List.map_cons, List.map_nil, List.length_cons, List.length_nil, List.replicate, List.cons_append, List.nil_append, List.append_nil, List.getElem?_cons_zero, List.getElem?_cons_succ, Nat.zero_add, Nat.reduceAdd, Nat.reduceSub, Option.some.injEq, exists_eq_left', true_and, D.bl.injEq]
  by_cases ht : ∃ ds, d = .tup ds
  · obtain ⟨ds, rfl⟩ := ht
    simp only [isTup_tup, exists_eq_left', Bool.not_true, Bool.false_eq_true, if_false, lenD_tup, Option.some.injEq, leD_int, D.bl.injEq, tupLen]
    by_cases h1 : (1 : Int) ≤ (ds.length : Int) <;> simp [h1]
  · have h : ∀ ds, d ≠ .tup ds := fun ds h => ht ⟨ds, h⟩
    simp [isTup_no h, tupLen_no h]
theorem tupLen_get {k : Int} {d : D} (h : tupLen k d = true) : ∃ ds, d = .tup ds ∧ 1 ≤ ds.length ∧ (ds.length : Int) ≤ k := by
  unfold tupLen at h
  split at h
  · simp only [Bool.and_eq_true, decide_eq_true_eq] at h
    exact ⟨_, rfl, by omega, h.2⟩
  · cases h
def colsB (d : D) : Bool := tupLen 4 d && (match d with
  | .tup ds => ds.all bndB
  | _ => false)
/-! different columns -/
def difB (m : Int) (ds : List D) : Bool := ds.all (fun x => btw x 0 (m - 1)) && (match intsOf ds with
  | some ns => decide (((dist ns : Nat) : Int) = (ds.length : Int))
  | none => false)
theorem ints_of_btw {lo hi : Int} : ∀ {ds : List D}, (ds.all fun x => btw x lo hi) = true → ∃ ns : List Int, ds = ns.map D.int ∧ intsOf ds = some ns ∧ ∀ k ∈ ns, lo ≤ k ∧ k ≤ hi
  | [], _ => ⟨[], rfl, rfl, by simp⟩
  | d :: ds, h => by
    simp only [List.all_cons, Bool.and_eq_true] at h
    obtain ⟨ns, e1, e2, e3⟩ := ints_of_btw h.2
    have hb := h.1
    cases d <;> simp [btw] at hb
    rename_i i
    refine ⟨i :: ns, by rw [e1]; rfl, by simp [intsOf, e2], fun k hk => ?_⟩
    rcases List.mem_cons.mp hk with rfl | hk
    · exact hb
    · exact e3 k hk
theorem lenset_ints (ns : List Int) (h : ns.length ≤ 4000) : lensetD (.tup (ns.map D.int)) = some (.int (dist ns : Nat)) := by
  simp [lensetD, intsOf_map, h]
def dcolB (m : Int) (d : D) : Bool := tupLen 2 d && (match d with
  | .tup ds => difB m ds
  | _ => false)
end K10
set_option maxHeartbeats 4000000
namespace DL
open PySem PySem.Spec PyProof.Rows L2
/-- neither dict nor pen within, no deeper than k -/
def Sh (k : Nat) (d : D) : Prop := (toPy d).canLay0 = true ∧ (toPy d).depth ≤ k
theorem Sh.ok {k : Nat} {d : D} (h : Sh k d) (hk : k ≤ 64) : okD d = true := by
  unfold okD SeqAt.shaped
  rw [h.1, decide_eq_true (Nat.le_trans h.2 hk)]
  rfl
theorem Sh.mono {k m : Nat} {d : D} (h : Sh k d) (hk : k ≤ m) : Sh m d := ⟨h.1, Nat.le_trans h.2 hk⟩
theorem sh_int (k : Nat) (i : Int) : Sh k (.int i) := ⟨by simp [toPy, PyData.canLay0], by simp [toPy, PyData.depth]⟩
theorem sh_all {k : Nat} : ∀ {ds : List D}, (∀ d ∈ ds, Sh k d) → PyData.canLayAll0 (toPys ds) = true ∧ PyData.depthAll (toPys ds) ≤ k
  | [], _ => ⟨by simp [toPys, PyData.canLayAll0], by simp [toPys, PyData.depthAll]⟩
  | d :: ds, h => by
    obtain ⟨h1, h2⟩ := sh_all (ds := ds) fun d hd => h d (List.mem_cons_of_mem _ hd)
    obtain ⟨h3, h4⟩ := h d List.mem_cons_self
    exact ⟨by simp [toPys, PyData.canLayAll0, h1, h3], by simp only [toPys, PyData.depthAll]; omega⟩
theorem sh_tup {k : Nat} {ds : List D} (h : ∀ d ∈ ds, Sh k d) : Sh (k + 1) (.tup ds) := by
  obtain ⟨h1, h2⟩ := sh_all h
  exact ⟨by simpa [toPy, PyData.canLay0] using h1, by simp only [toPy, PyData.depth]; omega⟩
theorem sh_lst {k : Nat} {ds : List D} (h : ∀ d ∈ ds, Sh k d) : Sh (k + 1) (.lst ds) := by
  obtain ⟨h1, h2⟩ := sh_all h
  exact ⟨by simpa [toPy, PyData.canLay0] using h1, by simp only [toPy, PyData.depth]; omega⟩
theorem sh_ints (k : Nat) (ns : List Int) : ∀ d ∈ ns.map D.int, Sh k d := fun d hd => by
  obtain ⟨i, _, rfl⟩ := List.mem_map.mp hd
  exact sh_int k i
theorem eqD_ok {a b : D} (ha : okD a = true) (hb : okD b = true) : eqD a b = some (.bl (PyData.eqv (toPy a) (toPy b))) := by simp [eqD, ha, hb]
theorem neD_ok {a b : D} (ha : okD a = true) (hb : okD b = true) : neD a b = some (.bl (!PyData.eqv (toPy a) (toPy b))) := by simp [neD, ha, hb]
theorem atI_nat' {α : Type} {xs : List α} {i : Int} (h0 : 0 ≤ i) (h1 : i < xs.length) : ∃ x, xs[i.toNat]? = some x ∧ atI xs i = some x := by
  have hi : i.toNat < xs.length := by omega
  refine ⟨xs[i.toNat], List.getElem?_eq_getElem hi, ?_⟩
  have := atI_nat (xs := xs) (j := i.toNat) (List.getElem?_eq_getElem hi)
  rw [show ((i.toNat : Nat) : Int) = i by omega] at this
  exact this
end DL
namespace K10
open PySem PySem.Spec PyProof.Rows L2 DL
def srtB (ds : List D) : Bool := match intsOf ds with
  | some ns => PyData.eqv (toPy (.lst (ns.map D.int))) (toPy (.lst ((sortI ns).map D.int)))
  | none => false
def keyB (m : Int) (d : D) : Bool := tupLen 2 d && (match d with
  | .tup ds => difB m ds && srtB ds
  | _ => false)
theorem difB_ints {m : Int} {ds : List D} (h : difB m ds = true) : ∃ ns : List Int, ds = ns.map D.int ∧ intsOf ds = some ns ∧ (∀ k ∈ ns, 0 ≤ k ∧ k < m) := by
  unfold difB at h
  rw [Bool.and_eq_true] at h
  obtain ⟨ns, e1, e2, e3⟩ := ints_of_btw h.1
  exact ⟨ns, e1, e2, fun k hk => ⟨(e3 k hk).1, by have := (e3 k hk).2; omega⟩⟩
def ix {α : Type} [Inhabited α] (xs : List α) (i : Int) : α := xs[i.toNat]?.getD default
instance : Inhabited D := ⟨.non⟩
theorem at_ix {α : Type} [Inhabited α] {xs : List α} {i : Int} (h0 : 0 ≤ i) (h1 : i < xs.length) : atI xs i = some (ix xs i) := by
  obtain ⟨x, e1, e2⟩ := atI_nat' h0 h1
  rw [e2]
  unfold ix
  rw [e1]
  rfl
structure Tab where
  cols : List (Int × Int)
  key : List Int
  refs : List (List Int × Int)
instance : Inhabited Tab := ⟨⟨[], [], []⟩⟩
def colD (c : Int × Int) : D := .tup [.int c.1, .int c.2]
def refD (r : List Int × Int) : D := .tup [.tup (r.1.map D.int), .int r.2]
def tabD (t : Tab) : D := .tup [.tup (t.cols.map colD), .tup (t.key.map D.int), .tup (t.refs.map refD)]
structure Tab.Ok (t : Tab) : Prop where
  len : 1 ≤ t.cols.length ∧ t.cols.length ≤ 4
  low : ∀ c ∈ t.cols, c.1 ≤ c.2
  keyLen : 1 ≤ t.key.length ∧ t.key.length ≤ 2
  keyIn : ∀ k ∈ t.key, 0 ≤ k ∧ k < t.cols.length
theorem sh_ref (r : List Int × Int) : Sh 2 (refD r) := sh_tup (k := 1) fun d hd => by
  rcases List.mem_cons.mp hd with rfl | hd
  · exact sh_tup (sh_ints 0 _)
  · rw [List.mem_singleton.mp hd]
    exact sh_int 1 _
theorem ok_refs (rs : List (List Int × Int)) : okD (.tup (rs.map refD)) = true := (sh_tup (k := 2) fun d hd => by
  obtain ⟨r, _, rfl⟩ := List.mem_map.mp hd
  exact sh_ref r).ok (by decide)
theorem ne_none (rs : List (List Int × Int)) : neD (.tup (rs.map refD)) (.tup []) = some (.bl (!rs.isEmpty)) := by
  rw [neD_ok (ok_refs rs) ((sh_tup (k := 0) (ds := []) (by simp)).ok (by decide))]
  cases rs <;> simp [toPy, toPys, PyData.eqv, PyData.eqvAll]
/-- the columns that refer lie within those that are referred to -/
def pairsB (cols : List (Int × Int)) (t : Tab) (os : List Int) : Bool := (os.zip t.key).all fun p => decide ((ix t.cols p.2).1 ≤ (ix cols p.1).1) && decide ((ix cols p.1).2 ≤ (ix t.cols p.2).2)
def pairO (cols : List (Int × Int)) (t : Tab) (os : List D) : Bool := match intsOf os with
  | some ns => pairsB cols t ns
  | none => false
def refB (cols : List (Int × Int)) (earlier : List Tab) (d : D) : Bool := match d with
  | .tup [.tup os, .int j] => decide (0 ≤ j) && decide (j ≤ (earlier.length : Int) - 1) && (ix earlier j).refs.isEmpty && decide (os.length = (ix earlier j).key.length) && difB cols.length os && pairO cols (ix earlier j) os
  | _ => false
end K10
set_option maxHeartbeats 4000000
namespace K10
open PySem PySem.Spec PyProof.Rows L2 DL
theorem btw_get {d : D} {lo hi : Int} (h : btw d lo hi = true) : ∃ i, d = .int i ∧ lo ≤ i ∧ i ≤ hi := by
  cases d <;> simp [btw] at h ⊢
  exact h
theorem ix_map {α : Type} [Inhabited α] {f : α → D} {xs : List α} {i : Int} (h0 : 0 ≤ i) (h1 : i < xs.length) : ix (xs.map f) i = f (ix xs i) := by
  obtain ⟨x, e1, _⟩ := atI_nat' h0 h1
  unfold ix
  rw [List.getElem?_map, e1]
  rfl
theorem zipD_maps {α β : Type} (f : α → D) (g : β → D) : ∀ (xs : List α) (ys : List β), zipD (xs.map f) (ys.map g) = (xs.zip ys).map fun p => .tup [f p.1, g p.2]
  | [], _ => by simp [zipD]
  | _ :: _, [] => by simp [zipD]
  | x :: xs, y :: ys => by simp [zipD, zipD_maps f g xs ys]
end K10
set_option maxHeartbeats 4000000
namespace K10
open PySem PySem.Spec PyProof.Rows L2 DL
theorem refB_true {cols : List (Int × Int)} {es : List Tab} {d : D} (h : refB cols es d = true) : ∃ os j, d = .tup [.tup os, .int j] ∧ 0 ≤ j ∧ j ≤ (es.length : Int) - 1 ∧ (ix es j).refs.isEmpty = true ∧ os.length = (ix es j).key.length ∧ difB cols.length os = true ∧ pairO cols (ix es j) os = true := by
  unfold refB at h
  split at h
  · simp only [Bool.and_eq_true, decide_eq_true_eq] at h
    obtain ⟨⟨⟨⟨⟨h1, h2⟩, h3⟩, h4⟩, h5⟩, h6⟩ := h
    exact ⟨_, _, rfl, h1, h2, h3, h4, h5, h6⟩
  · cases h
theorem ix_mem {α : Type} [Inhabited α] {xs : List α} {i : Int} (h0 : 0 ≤ i) (h1 : i < xs.length) : ix xs i ∈ xs := by
  obtain ⟨x, e1, _⟩ := atI_nat' h0 h1
  unfold ix
  rw [e1]
  exact List.mem_of_getElem? e1
/-- a loop that ends at the first wrong one -/
theorem forD_all {f : D → DL.Env → Option DL.Env} {Tb : TDS} {Dd : DE} {R : DL.Env → Prop} {p : D → Bool} (g : D → DL.Env → DL.Env) {all : List D}
    (hend : ∀ ρ n, R ρ → (Dd.nx ρ n ↔ Dd.rt (.bl true) n)) : ∀ (ds pre : List D), all = pre ++ ds → pre.all p = true →
    (∀ (pre' : List D) (d : D) (post : List D), all = pre' ++ d :: post → pre'.all p = true → ∀ ρ, R ρ → R (g d ρ) ∧ ∃ ρ', f d ρ = some ρ' ∧ ∀ (De : DE) (n : Nat), De.rt = Dd.rt → (Tb De ρ' n ↔ if p d = true then De.nx (g d ρ) n else De.rt (.bl false) n)) →
    ∀ (ρ : DL.Env) (n : Nat), R ρ → (forD f Tb Dd ds ρ n ↔ Dd.rt (.bl (ds.all p)) n)
  | [], pre, _, _, _, ρ, n, hR => by
    unfold forD
    exact hend ρ n hR
  | d :: ds, pre, e, hp, hb, ρ, n, hR => by
    obtain ⟨h1, ρ', h2, h3⟩ := hb pre d ds e hp ρ hR
    unfold forD
    rw [h2]
    simp only [Option.some.injEq, exists_eq_left']
    rw [h3 { nx := forD f Tb Dd ds, rt := Dd.rt, bk := Dd.nx, ct := forD f Tb Dd ds } n rfl]
    cases hd : p d with
    | false => simp [hd]
    | true =>
      simp only [if_true, List.all_cons, hd, Bool.true_and]
      exact forD_all g hend ds (pre ++ [d]) (by simp [e]) (by simp [hp, hd]) hb _ n h1
theorem ix0 (a : D) (r : List D) : ixD (.tup (a :: r)) (.int 0) = some a := by
  have := at_ix (xs := a :: r) (i := 0) (by decide) (by simp)
  show atI (a :: r) 0 = _
  rw [this]
  rfl
theorem ix1 (a b : D) (r : List D) : ixD (.tup (a :: b :: r)) (.int 1) = some b := by
  have := at_ix (xs := a :: b :: r) (i := 1) (by decide) (by simp; omega)
  show atI (a :: b :: r) 1 = _
  rw [this]
  rfl
theorem ix2 (a b c : D) (r : List D) : ixD (.tup (a :: b :: c :: r)) (.int 2) = some c := by
  have := at_ix (xs := a :: b :: c :: r) (i := 2) (by decide) (by simp; omega)
  show atI (a :: b :: c :: r) 2 = _
  rw [this]
  rfl
theorem zz (A B : List D) (P : List D → List D → Prop) : (∃ ds es, (([.tup A, .tup B] : List D) = [.lst ds, .lst es] ∨ ([.tup A, .tup B] : List D) = [.tup ds, .tup es]) ∧ P ds es) ↔ P A B := by
  constructor
  · rintro ⟨ds, es, e | e, h⟩
    · injection e with e1 e
      cases e1
    · injection e with e1 e
      injection e with e2 e
      injection e1 with e1
      injection e2 with e2
      rw [e1, e2]
      exact h
  · exact fun h => ⟨A, B, .inr rfl, h⟩
theorem ee (A : List D) (P : List D → Prop) : (∃ ds, (([.tup A] : List D) = [.lst ds] ∨ ([.tup A] : List D) = [.tup ds]) ∧ P ds) ↔ P A := by
  constructor
  · rintro ⟨ds, e | e, h⟩
    · injection e with e1 e
      cases e1
    · injection e with e1 e
      injection e1 with e1
      rw [e1]
      exact h
  · exact fun h => ⟨A, .inr rfl, h⟩
end K10
set_option maxHeartbeats 4000000
namespace K10
open PySem PySem.Spec PyProof.Rows L2 DL
def colOf : D → Int × Int
  | .tup [.int a, .int b] => (a, b)
  | _ => (0, 0)
theorem bndB_col {d : D} (h : bndB d = true) : colD (colOf d) = d ∧ (colOf d).1 ≤ (colOf d).2 := by
  unfold bndB at h
  split at h
  · simp only [Bool.and_eq_true, decide_eq_true_eq] at h
    exact ⟨rfl, h.2⟩
  · cases h
theorem bnds_cols : ∀ {cs : List D}, cs.all bndB = true → (cs.map colOf).map colD = cs ∧ ∀ c ∈ cs.map colOf, c.1 ≤ c.2
  | [], _ => ⟨rfl, by simp⟩
  | d :: cs, h => by
    simp only [List.all_cons, Bool.and_eq_true] at h
    obtain ⟨e1, e2⟩ := bndB_col h.1
    obtain ⟨e3, e4⟩ := bnds_cols h.2
    exact ⟨by simp only [List.map_cons, e1, e3], fun c hc => by
      rcases List.mem_cons.mp hc with rfl | hc
      · exact e2
      · exact e4 c hc⟩
def intOf : D → Int
  | .int i => i
  | _ => 0
def refOf : D → List Int × Int
  | .tup [.tup os, .int j] => (os.map intOf, j)
  | _ => ([], 0)
theorem ints_map (ns : List Int) : (ns.map D.int).map intOf = ns := by
  rw [List.map_map]
  exact (List.map_congr_left fun _ _ => rfl).trans (List.map_id' ns)
theorem refB_ref {cols : List (Int × Int)} {es : List Tab} {d : D} (h : refB cols es d = true) : refD (refOf d) = d := by
  obtain ⟨os, j, rfl, _, _, _, _, h5, _⟩ := refB_true h
  obtain ⟨ns, rfl, _, _⟩ := difB_ints h5
  show D.tup [.tup ((((ns.map D.int).map intOf)).map D.int), .int j] = _
  rw [ints_map]
theorem refs_refs {cols : List (Int × Int)} {es : List Tab} : ∀ {rs : List D}, rs.all (refB cols es) = true → (rs.map refOf).map refD = rs
  | [], _ => rfl
  | d :: rs, h => by
    simp only [List.all_cons, Bool.and_eq_true] at h
    simp only [List.map_cons, refB_ref h.1, refs_refs h.2]
def itemsOf : D → List D
  | .tup ds => ds
  | _ => []
def refsB (cols : List (Int × Int)) (es : List Tab) (r : D) : Bool := isTy "tuple" r && decide ((itemsOf r).length ≤ 2) && (itemsOf r).all (refB cols es)
def tabB (es : List Tab) (d : D) : Bool := match d with
  | .tup [c, k, r] => colsB c && keyB (itemsOf c).length k && refsB ((itemsOf c).map colOf) es r
  | _ => false
def tabOf : D → Tab
  | .tup [c, k, r] => ⟨(itemsOf c).map colOf, (itemsOf k).map intOf, (itemsOf r).map refOf⟩
  | _ => ⟨[], [], []⟩
theorem colsB_get {c : D} (h : colsB c = true) : ∃ cs : List (Int × Int), c = .tup (cs.map colD) ∧ (itemsOf c).map colOf = cs ∧ (itemsOf c).length = cs.length ∧ 1 ≤ cs.length ∧ cs.length ≤ 4 ∧ ∀ c ∈ cs, c.1 ≤ c.2 := by
  unfold colsB at h
  rw [Bool.and_eq_true] at h
  obtain ⟨ds, rfl, h1, h2⟩ := tupLen_get h.1
  obtain ⟨e1, e2⟩ := bnds_cols (show ds.all bndB = true from h.2)
  exact ⟨ds.map colOf, by rw [e1], rfl, by simp [itemsOf], by simpa using h1, by simp; omega, e2⟩
theorem keyB_get {m : Int} {k : D} (h : keyB m k = true) : ∃ ns : List Int, k = .tup (ns.map D.int) ∧ 1 ≤ ns.length ∧ ns.length ≤ 2 ∧ ∀ i ∈ ns, 0 ≤ i ∧ i < m := by
  unfold keyB at h
  rw [Bool.and_eq_true] at h
  obtain ⟨ds, rfl, h1, h2⟩ := tupLen_get h.1
  have h3 : (difB m ds && srtB ds) = true := h.2
  rw [Bool.and_eq_true] at h3
  obtain ⟨ns, rfl, _, e3⟩ := difB_ints h3.1
  simp only [List.length_map] at h1 h2
  exact ⟨ns, rfl, h1, by omega, e3⟩
theorem tabB_ok {es : List Tab} {d : D} (h : tabB es d = true) : tabD (tabOf d) = d ∧ (tabOf d).Ok := by
  unfold tabB at h
  split at h
  · rename_i c k r
    simp only [Bool.and_eq_true] at h
    obtain ⟨⟨h1, h2⟩, h3⟩ := h
    obtain ⟨cs, rfl, e2, e3, e4, e5, e6⟩ := colsB_get h1
    obtain ⟨ns, rfl, f1, f2, f3⟩ := keyB_get h2
    unfold refsB at h3
    simp only [Bool.and_eq_true, decide_eq_true_eq] at h3
    obtain ⟨⟨h4, h5⟩, h6⟩ := h3
    have hr : ∃ rs, r = .tup rs := by
      cases r <;> simp [isTy, tyN] at h4 ⊢
    obtain ⟨rs, rfl⟩ := hr
    have g := refs_refs (show rs.all _ = true from h6)
    refine ⟨?_, ?_⟩
    · show D.tup [.tup (((itemsOf (.tup (cs.map colD))).map colOf).map colD), .tup ((((ns.map D.int).map intOf)).map D.int), .tup ((rs.map refOf).map refD)] = _
      rw [e2, g, ints_map]
    · show Tab.Ok ⟨(itemsOf (.tup (cs.map colD))).map colOf, (ns.map D.int).map intOf, rs.map refOf⟩
      rw [e2, ints_map]
      rw [e3] at f3
      exact ⟨⟨e4, e5⟩, e6, ⟨f1, f2⟩, f3⟩
  · cases h
theorem allD_map (p : D → Bool) (ds : List D) : allD [.lst (ds.map fun d => .bl (p d))] = some (.bl (ds.all p)) := by
  simp only [allD, blsOf_map', Option.map_some, List.all_map, Function.comp_def, id]
end K10
set_option maxHeartbeats 4000000
namespace K10
open PySem PySem.Spec PyProof.Rows L2 DL
/-- the item number i of vs, with its number -/
def pE (vs : List D) : D → Bool
  | .tup [.int i, t] => tabB ((vs.take i.toNat).map tabOf) t
  | _ => false
def schB (d : D) : Bool := tupLen 4 d && (enumD 0 (itemsOf d)).all (pE (itemsOf d))
theorem enumD_split : ∀ (vs : List D) (k : Nat) (pre : List D) (x : D) (post : List D), enumD k vs = pre ++ x :: post → ∃ (i : Nat) (t : D), x = .tup [.int ((k + i : Nat) : Int), t] ∧ pre = enumD k (vs.take i) ∧ vs[i]? = some t ∧ pre.length = i
  | [], k, pre, x, post, e => by
    cases pre <;> simp [enumD] at e
  | v :: vs, k, [], x, post, e => by
    simp only [enumD, List.nil_append] at e
    injection e with e1 e2
    exact ⟨0, v, e1.symm, rfl, rfl, rfl⟩
  | v :: vs, k, p :: pre, x, post, e => by
    simp only [enumD, List.cons_append] at e
    injection e with e1 e2
    obtain ⟨i, t, h1, h2, h3, h4⟩ := enumD_split vs (k + 1) pre x post e2
    refine ⟨i + 1, t, ?_, ?_, by simpa using h3, by simp [h4]⟩
    · rw [h1, show k + 1 + i = k + (i + 1) by omega]
    · rw [← e1, h2]
      rfl
theorem pE_take {vs : List D} : ∀ (k : Nat) (ws : List D), (∀ i, i < ws.length → (vs.take (k + i)) = vs.take k ++ ws.take i) → (enumD k ws).all (pE vs) = true → (ws.map tabOf).map tabD = ws ∧ ∀ t ∈ ws.map tabOf, t.Ok
  | k, [], _, _ => ⟨rfl, by simp⟩
  | k, w :: ws, h, hp => by
    simp only [enumD, List.all_cons, Bool.and_eq_true] at hp
    have h0 : tabB ((vs.take k).map tabOf) w = true := by simpa [pE] using hp.1
    obtain ⟨e1, e2⟩ := tabB_ok h0
    obtain ⟨e3, e4⟩ := pE_take (vs := vs) (k + 1) ws (fun i hi => by
      have a := h (i + 1) (by simp; omega)
      have b := h 1 (by
        have : 0 < ws.length := by omega
        simp
        omega)
      rw [show k + 1 + i = k + (i + 1) by omega, a, b]
      simp) hp.2
    refine ⟨by simp only [List.map_cons, e1, e3], fun t ht => ?_⟩
    rcases List.mem_cons.mp ht with rfl | ht
    · exact e2
    · exact e4 t ht
theorem pre_ok {vs pre post : List D} {x : D} (e : enumD 0 vs = pre ++ x :: post) (hp : pre.all (pE vs) = true) : ∃ (i : Nat) (t : D) (es : List Tab), x = .tup [.int (i : Int), t] ∧ vs.take i = es.map tabD ∧ es = (vs.take i).map tabOf ∧ (∀ t ∈ es, t.Ok) ∧ i < vs.length := by
  obtain ⟨i, t, h1, h2, h3, h4⟩ := enumD_split vs 0 pre x post e
  rw [h2] at hp
  have hlt : i < vs.length := (List.getElem?_eq_some_iff.mp h3).1
  obtain ⟨e1, e2⟩ := pE_take (vs := vs) 0 (vs.take i) (fun j hj => by
    have : j < i := by
      rw [List.length_take] at hj
      omega
    rw [Nat.zero_add, List.take_zero, List.nil_append, List.take_take, Nat.min_eq_left (by omega)]) hp
  exact ⟨i, t, _, by rw [h1, Nat.zero_add], e1.symm, rfl, e2, hlt⟩
theorem cut_take (ds : List D) (i : Nat) (h : i < ds.length) : DL.cutD (.tup ds) none (some (i : Int)) = some (.tup (ds.take i)) := by
  show some (D.tup (DL.cutL ds none (some (i : Int)))) = _
  have e2 : HT.sIx ds.length ds.length (some (i : Int)) = i := by
    rw [HT.sIx_nat]
    omega
  have e1 : DL.cutL ds none (some (i : Int)) = ds.take i := by
    unfold DL.cutL
    rw [e2]
    show (ds.drop 0).take (i - 0) = _
    simp
  rw [e1]
end K10
set_option maxHeartbeats 4000000
namespace K10
open PySem PySem.Spec PyProof.Rows L2 DL
theorem any_not {α : Type} (p : α → Bool) (ds : List α) : (!ds.all p) = true ↔ ¬ ds.all p = true := by
  cases ds.all p <;> simp
theorem keyB_parts {m : Int} {ds : List D} : keyB m (.tup ds) = (dcolB m (.tup ds) && srtB ds) := by
  unfold keyB dcolB
  cases tupLen 2 (.tup ds) <;> simp
theorem chain_len (i : Nat) (k : Int) (ρ : DL.Env) (ds : List D) (hd : ρ[i]? = some (some (.tup ds))) (n : Nat) (q : Bool → Nat → Prop) :
    bChain leD leD (tCD (.int 1)) (tCallB lenD (aCons (tVarD i) aNil)) (tCD (.int k)) ρ n q ↔ q (tupLen k (.tup ds)) n := by
  simp only [bChain, hd, fnD, startE, hide_nil, sSeq, sNil, sIf, sRet, sRetN, tVarD, tCD, tOpD, tOp1D, tCallD, tCallB, aNil, aCons, bVal, bNot, bCmp, List.map_cons, List.map_nil, List.length_cons, List.length_nil, List.replicate, List.cons_append, List.nil_append, List.append_nil, List.getElem?_cons_zero, List.getElem?_cons_succ, Nat.zero_add, Nat.reduceAdd, Nat.reduceSub, Option.some.injEq, exists_eq_left', true_and, D.bl.injEq]
  simp only [lenD_tup, Option.some.injEq, exists_eq_left', leD_int, D.bl.injEq, tupLen]
  by_cases h1 : (1 : Int) ≤ (ds.length : Int)
  · simp only [h1, decide_true, if_true, Bool.true_and]
  · simp only [h1, decide_false, Bool.false_eq_true, if_false, Bool.false_and]
theorem keyB_no {m : Int} {k : D} (h : dcolB m k = false) : keyB m k = false := by
  unfold dcolB at h
  unfold keyB
  cases ht : tupLen 2 k with
  | false => rfl
  | true =>
    obtain ⟨ks, rfl, _⟩ := tupLen_get ht
    rw [ht, Bool.true_and] at h
    have h' : difB m ks = false := h
    show (true && (difB m ks && srtB ks)) = false
    rw [h']
    rfl
theorem dcolB_get {m : Int} {k : D} (h : dcolB m k = true) : ∃ ns : List Int, k = .tup (ns.map D.int) := by
  unfold dcolB at h
  rw [Bool.and_eq_true] at h
  obtain ⟨ks, rfl, _⟩ := tupLen_get h.1
  obtain ⟨ns, rfl, _⟩ := difB_ints (show difB m ks = true from h.2)
  exact ⟨ns, rfl⟩
theorem sort_test (ns : List Int) (n : Nat) (q : Bool → Nat → Prop) : (∃ z, listD [.tup (ns.map D.int)] = some z ∧ ∃ z1, sortedAD [.tup (ns.map D.int)] = some z1 ∧ ∃ z2, neD z z1 = some z2 ∧ ∃ b, z2 = .bl b ∧ q b n) ↔ q (!srtB (ns.map D.int)) n := by
  have o1 : okD (.lst (ns.map D.int)) = true := (sh_lst (sh_ints 0 ns)).ok (by decide)
  have o2 : okD (.lst ((sortI ns).map D.int)) = true := (sh_lst (sh_ints 0 _)).ok (by decide)
  simp [listD, sortedAD, intsOf_map, neD_ok o1 o2, srtB]
  cases PyData.eqv (toPy (.lst (ns.map D.int))) (toPy (.lst ((sortI ns).map D.int))) <;> simp
end K10
set_option maxHeartbeats 8000000
namespace K10
open PySem PySem.Spec PyProof.Rows L2 DL
theorem eqD_bl (a b : Bool) : eqD (.bl a) (.bl b) = some (.bl (a == b)) := by
  have h1 : ∀ i : Bool, okD (.bl i) = true := fun i => by simp [okD, SeqAt.shaped, toPy, PyData.canLay0, PyData.depth]
  rw [eqD_ok (h1 a) (h1 b)]
  simp [toPy, PyData.eqv]
theorem m_law_same (m : Nat) (a b : Bool) (n : Nat) (q : QD) : T__law_same (m + 1) [.bl a, .bl b] n q ↔ q (.bl (a == b)) n := by
  have t1 : ∀ b, isTy "bool" (.bl b) = true := fun _ => rfl
  simp only [T__law_same, fnD, startE, List.replicate, List.cons_append, List.nil_append, tIsi, isD, isN, tAndD, t1, eqD_bl, sSeq, sNil, sIf, sRet, sRetN, tVarD, tCD, tOpD, tOp1D, tCallD, tCallB, aNil, aCons, bVal, bNot, bCmp, bOr, tTupD, sAsg, hide_nil, fTup, fsCons, fsNil, fName, Option.bind_some, List.set_cons_zero, List.set_cons_succ, List.map_cons, List.map_nil, List.length_cons, List.length_nil, List.getElem?_cons_zero, List.getElem?_cons_succ, Nat.zero_add, Nat.reduceAdd, Option.some.injEq, exists_eq_left', true_and, D.bl.injEq, Bool.not_true, Bool.not_false, Bool.false_eq_true, if_false, if_true, lenD_tup, List.length_map, subD_int]
theorem mod_list (ps : List Int) (h0 : ps ≠ []) (a : Int) (h : 0 ≤ a) : ∃ p, p ∈ ps ∧ ixD (.lst (ps.map D.int)) (.int (a.fmod (ps.length : Nat))) = some (.int p) := by
  have hl : (0 : Int) < ((ps.length : Nat) : Int) := by
    have := List.length_pos_iff.mpr h0
    omega
  have h1 := Int.fmod_nonneg_of_pos a hl
  have h2 := Int.fmod_lt_of_pos a hl
  refine ⟨ix ps (a.fmod (ps.length : Nat)), ix_mem h1 h2, ?_⟩
  show atI (ps.map D.int) _ = _
  rw [at_ix h1 (by simpa using h2), ix_map h1 h2]
def prs : List Int := [2147483629, 2147483587, 2147483579, 2147483563, 2147483549, 2147483543, 2147483497, 2147483489, 2147483477, 2147483423, 2147483399, 2147483353, 2147483323]
theorem prs_in {p : Int} (h : p ∈ prs) : 2147483323 ≤ p ∧ p ≤ 2147483629 := by
  have : prs.all (fun p => decide (2147483323 ≤ p) && decide (p ≤ 2147483629)) = true := by decide
  rw [List.all_eq_true] at this
  have := this p h
  simpa using this
theorem addD_int (a b : Int) : addD (.int a) (.int b) = some (.int (a + b)) := rfl
theorem mulD_int (a b : Int) (h : -(2 ^ 64) < b ∧ b < 2 ^ 64) : mulD (.int a) (.int b) = some (.int (a * b)) := by
  unfold mulD orD mulID arC
  simp only [decide_eq_true (show (-(2 ^ 64) < a ∧ a < 2 ^ 64) ∨ (-(2 ^ 64) < b ∧ b < 2 ^ 64) from .inr h), if_true]
  rfl
theorem modD_int (a b : Int) (h : b ≠ 0) : modD (.int a) (.int b) = some (.int (a.fmod b)) := by
  unfold modD arC
  simp [h]
theorem powD_int (a : Int) (k : Nat) (h : a.natAbs < 2 ^ 64) (hk : k ≤ 1000) : powD (.int a) (.int (k : Nat)) = some (.int (a ^ k)) := by
  unfold powD arC
  have : (0 : Int) ≤ (k : Int) ∧ (k : Int) ≤ 1000000 ∧ a.natAbs < 2 ^ 64 := ⟨by omega, by omega, h⟩
  simp [this]
theorem m_spread : SpreadOk T__law_spread := by
  intro c a n q h0 h1 hq
  have p18 : powD (.int 10) (.int 18) = some (.int (10 ^ 18)) := powD_int 10 18 (by decide) (by decide)
  have ge : ∀ a b : Int, geD (.int a) (.int b) = some (.bl (decide (b ≤ a))) := fun a b => rfl
  have cat : addD (.lst (([2147483629, 2147483587, 2147483579, 2147483563, 2147483549, 2147483543, 2147483497, 2147483489] : List Int).map D.int)) (.lst (([2147483477, 2147483423, 2147483399, 2147483353, 2147483323] : List Int).map D.int)) = some (.lst (prs.map D.int)) := by
    simp [addD, orD, arI, catT, catL, prs, LIM]
  have iI : ∀ i : Int, intD [.int i] = some (.int i) := fun i => rfl
  have ll : ∀ k : Nat, k ≤ 100 → k ≤ LIM := fun k h => by
    have : LIM = 1000000 := rfl
    omega
  simp only [T__law_spread, fnD, startE, List.replicate, List.cons_append, List.nil_append, p18, ge, tLstD, iI, addD_int, sSeq, sNil, sIf, sRet, sRetN, tVarD, tCD, tOpD, tOp1D, tCallD, tCallB, aNil, aCons, bVal, bNot, bCmp, bOr, tTupD, sAsg, hide_nil, fTup, fsCons, fsNil, fName, Option.bind_some, List.set_cons_zero, List.set_cons_succ, List.map_cons, List.map_nil, List.length_cons, List.length_nil, List.getElem?_cons_zero, List.getElem?_cons_succ, Nat.zero_add, Nat.reduceAdd, Option.some.injEq, exists_eq_left', true_and, D.bl.injEq, Bool.not_true, Bool.not_false, Bool.false_eq_true, if_false, if_true, lenD_tup, List.length_map, subD_int]
  have bd : ∀ x y A B : Int, 0 ≤ x → x ≤ A → 0 ≤ y → y ≤ B → 0 ≤ x * y ∧ x * y ≤ A * B := fun x y A B h1 h2 h3 h4 => ⟨Int.mul_nonneg h1 h3, Int.mul_le_mul h2 h4 h3 (by omega)⟩
  have pick : ∀ x : Int, 0 ≤ x → ∃ p, p ∈ prs ∧ ixD (.lst (prs.map D.int)) (.int (x.fmod 13)) = some (.int p) := fun x hx => mod_list prs (by decide) x hx
  have fm : ∀ x m : Int, 0 < m → 0 ≤ x.fmod m ∧ x.fmod m < m := fun x m h => ⟨Int.fmod_nonneg_of_pos x h, Int.fmod_lt_of_pos x h⟩
  by_cases hb : (10 : Int) ^ 18 ≤ c
  · simp only [hb, decide_true, if_true]
    exact hq c
  · simp only [hb, decide_false, Bool.false_eq_true, if_false]
    refine ⟨ll _ (by decide), ll _ (by decide), _, cat, ?_⟩
    have f0 := fm c 1000000007 (by decide)
    refine ⟨_, modD_int _ _ (by decide), _, mulD_int _ _ (by omega), _, addD_int _ _, _, mulD_int _ _ (by omega), _, mulD_int _ _ (by decide), _, addD_int _ _, _, addD_int _ _, ?_⟩
    have b1 := bd (c.fmod 1000000007) (2 * a + 69069) 1000000006 2000069067 (by omega) (by omega) (by omega) (by omega)
    refine ⟨_, powD_int _ 3 (by omega) (by decide), _, iI _, _, modD_int _ _ (by decide), ?_⟩
    obtain ⟨p1, m1, e1⟩ := pick a h0
    have k1 := prs_in m1
    refine ⟨_, e1, _, modD_int _ _ (by omega), ?_⟩
    have f1 := fm ((c.fmod 1000000007 * (2 * a + 69069) + a * 40503 + 977) ^ 3) p1 (by omega)
    have b2 := bd (((c.fmod 1000000007 * (2 * a + 69069) + a * 40503 + 977) ^ 3).fmod p1) (a + 3) 2147483629 1000000002 (by omega) (by omega) (by omega) (by omega)
    have f2 := fm c 65537 (by decide)
    refine ⟨_, mulD_int _ _ (by omega), _, modD_int _ _ (by decide), _, addD_int _ _, _, addD_int _ _, _, powD_int _ 5 (by omega) (by decide), _, iI _, ?_⟩
    obtain ⟨p2, m2, e2⟩ := pick (a + 5) (by omega)
    have k2 := prs_in m2
    refine ⟨_, modD_int _ _ (by decide), _, e2, _, modD_int _ _ (by omega), ?_⟩
    have f3 := fm ((((c.fmod 1000000007 * (2 * a + 69069) + a * 40503 + 977) ^ 3).fmod p1 * (a + 3) + c.fmod 65537 + 5) ^ 5) p2 (by omega)
    have f4 := fm (((c.fmod 1000000007 * (2 * a + 69069) + a * 40503 + 977) ^ 3).fmod p1) 1009 (by decide)
    refine ⟨_, iI _, _, modD_int _ _ (by decide), _, addD_int _ _, _, addD_int _ _, _, powD_int _ 3 (by omega) (by decide), _, iI _, _, modD_int _ _ (by decide), ?_⟩
    obtain ⟨p3, m3, e3⟩ := pick (a + 7) (by omega)
    have k3 := prs_in m3
    refine ⟨_, e3, _, modD_int _ _ (by omega), _, mulD_int _ _ (by decide), _, addD_int _ _, _, mulD_int _ _ (by decide), _, addD_int _ _, hq _⟩
end K10
set_option maxHeartbeats 4000000
namespace DL
open PySem PySem.Spec PyProof.Rows L2
/-- as many draws as ever are made -/
def NN : Nat := 1000000000
/-- a loop by an invariant -/
theorem forD_inv {f : D → DL.Env → Option DL.Env} {Tb : TDS} {Dd : DE} {all : List D} (R : Nat → DL.Env → Nat → Prop)
    (hstep : ∀ (i : Nat) (d : D), all[i]? = some d → ∀ ρ n, R i ρ n → ∃ ρ', f d ρ = some ρ' ∧ ∀ De : DE, De.rt = Dd.rt → De.bk = Dd.nx → (∀ ρ2 n2, R (i + 1) ρ2 n2 → De.nx ρ2 n2) → (∀ ρ2 n2, R (i + 1) ρ2 n2 → De.ct ρ2 n2) → Tb De ρ' n)
    (hend : ∀ ρ n, R all.length ρ n → Dd.nx ρ n) : ∀ (ds : List D) (i : Nat) (ρ : DL.Env) (n : Nat), all.drop i = ds → i ≤ all.length → R i ρ n → forD f Tb Dd ds ρ n
  | [], i, ρ, n, e, hi, hR => by
    have : all.length ≤ i := by
      have := congrArg List.length e
      simp only [List.length_drop, List.length_nil] at this
      omega
    obtain rfl : i = all.length := by omega
    exact hend ρ n hR
  | d :: ds, i, ρ, n, e, hi, hR => by
    have hlt : i < all.length := by
      have := congrArg List.length e
      simp only [List.length_drop, List.length_cons] at this
      omega
    have hd : all[i]? = some d := by
      have : (all.drop i)[0]? = some d := by rw [e]; rfl
      rw [List.getElem?_drop] at this
      simpa using this
    have e' : all.drop (i + 1) = ds := by
      have : (all.drop i).drop 1 = ds := by rw [e]; rfl
      rw [List.drop_drop] at this
      rw [← this]
    obtain ⟨ρ', h1, h2⟩ := hstep i d hd ρ n hR
    unfold forD
    exact ⟨ρ', h1, h2 { nx := forD f Tb Dd ds, rt := Dd.rt, bk := Dd.nx, ct := forD f Tb Dd ds } rfl rfl (fun ρ2 n2 h => forD_inv R hstep hend ds (i + 1) ρ2 n2 e' hlt h) fun ρ2 n2 h => forD_inv R hstep hend ds (i + 1) ρ2 n2 e' hlt h⟩
/-- a comprehension that draws -/
theorem compD_inv {f : D → DL.Env → Option DL.Env} {Te : TD} {ρ : DL.Env} (P : D → Prop) (C : Nat) : ∀ (ds acc : List D) (n : Nat) (q : List D → Nat → Prop),
    (∀ d ∈ ds, ∃ ρ', f d ρ = some ρ' ∧ ∀ n k, n + C ≤ NN → (∀ y n', P y → n ≤ n' → n' ≤ n + C → k y n') → Te ρ' n k) → n + C * ds.length ≤ NN → acc.length + ds.length ≤ LIM →
    (∀ ys n', ys.length = ds.length → (∀ y ∈ ys, P y) → n ≤ n' → n' ≤ n + C * ds.length → q (acc ++ ys) n') → compD f bYes Te ds acc ρ n q
  | [], acc, n, q, _, _, _, h => by
    have := h [] n rfl (by simp) (Nat.le_refl _) (by omega)
    simpa [compD] using this
  | d :: ds, acc, n, q, hd, hn, hl, h => by
    obtain ⟨ρ', e1, e2⟩ := hd d List.mem_cons_self
    simp only [List.length_cons] at hn hl
    have hC : C * (ds.length + 1) = C * ds.length + C := by rw [Nat.mul_add, Nat.mul_one]
    refine ⟨ρ', e1, ?_⟩
    simp only [bYes, if_true]
    refine e2 n _ (by omega) fun y n' hy h1 h2 => ⟨by omega, ?_⟩
    refine compD_inv P C ds (acc ++ [y]) n' q (fun d hd' => hd d (List.mem_cons_of_mem _ hd')) (by omega) (by simp only [List.length_append, List.length_cons, List.length_nil]; omega) fun ys n'' l1 l2 l3 l4 => ?_
    rw [List.append_assoc]
    refine h (y :: ys) n'' (by simp [l1]) (fun z hz => ?_) (by omega) (by simp only [List.length_cons]; omega)
    rcases List.mem_cons.mp hz with rfl | hz
    · exact hy
    · exact l2 z hz
/-- a comprehension with a test, without draws -/
theorem compD_filter {f : D → DL.Env → Option DL.Env} {tt : TDb} {Te : TD} (p : D → Bool) (g : D → D) {ρ : DL.Env} : ∀ (ds acc : List D) (n : Nat) (q : List D → Nat → Prop),
    (∀ d ∈ ds, ∃ ρ', f d ρ = some ρ' ∧ (∀ n k, tt ρ' n k ↔ k (p d) n) ∧ ∀ n k, Te ρ' n k ↔ k (g d) n) → acc.length + ds.length ≤ LIM → (compD f tt Te ds acc ρ n q ↔ q (acc ++ (ds.filter p).map g) n)
  | [], acc, n, q, _, _ => by simp [compD]
  | d :: ds, acc, n, q, h, hl => by
    obtain ⟨ρ', e1, e2, e3⟩ := h d List.mem_cons_self
    simp only [List.length_cons] at hl
    unfold compD
    rw [e1]
    simp only [Option.some.injEq, exists_eq_left']
    rw [e2]
    cases hp : p d with
    | false =>
      simp only [Bool.false_eq_true, if_false]
      rw [compD_filter p g ds acc n q (fun d hd => h d (List.mem_cons_of_mem _ hd)) (by omega)]
      simp [hp]
    | true =>
      simp only [if_true]
      rw [e3]
      have : acc.length < LIM := by omega
      simp only [this, true_and]
      rw [compD_filter p g ds (acc ++ [g d]) n q (fun d hd => h d (List.mem_cons_of_mem _ hd)) (by simp only [List.length_append, List.length_cons, List.length_nil]; omega)]
      simp [hp]
end DL
namespace K10
open PySem PySem.Spec PyProof.Rows L2 DL
theorem take_ok {m : Int} {n : Nat} {q : QD} (h0 : 0 < m) (h1 : m ≤ 1000000) (hn : n + 1 ≤ NN) (h : ∀ k : Int, 0 ≤ k → k < m → q (.int k) (n + 1)) : takeD [.pen, .int m] n q :=
  ⟨m, rfl, h0, by omega, by unfold NN at hn; omega, h⟩
theorem one_ok {ds : List D} {n : Nat} {q : QD} (h0 : ds ≠ []) (h1 : ds.length ≤ 1000) (hn : n + 1 ≤ NN) (h : ∀ d ∈ ds, q d (n + 1)) : T__law_one_of [.pen, .lst ds] n q := by
  have hl := List.length_pos_iff.mpr h0
  have e : lenD [.lst ds] = some (.int (ds.length : Nat)) := rfl
  simp only [T__law_one_of, fnD, startE, List.replicate, Nat.reduceSub, List.append_nil, List.cons_append, List.nil_append, e, sSeq, sNil, sIf, sRet, sRetN, tVarD, tCD, tOpD, tOp1D, tCallD, tCallB, aNil, aCons, bVal, bNot, bCmp, bOr, tTupD, sAsg, hide_nil, fTup, fsCons, fsNil, fName, Option.bind_some, List.set_cons_zero, List.set_cons_succ, List.map_cons, List.map_nil, List.length_cons, List.length_nil, List.getElem?_cons_zero, List.getElem?_cons_succ, Nat.zero_add, Nat.reduceAdd, Option.some.injEq, exists_eq_left', true_and, D.bl.injEq, Bool.not_true, Bool.not_false, Bool.false_eq_true, if_false, if_true, lenD_tup, List.length_map, subD_int]
  refine take_ok (m := ((ds.length : Nat) : Int)) (by omega) (by omega) hn fun k k0 k1 => ?_
  refine ⟨ix ds k, ?_, h _ (ix_mem k0 k1)⟩
  show atI ds k = _
  rw [at_ix k0 k1]
theorem m_draw_bounds {n : Nat} {q : QD} (hn : n + 4 ≤ NN) (h : ∀ (a b : Int) (n' : Nat), -1000000 ≤ a → a ≤ b → b ≤ 1000013 → n ≤ n' → n' ≤ n + 4 → q (colD (a, b)) n') : T__law_draw_bounds [.pen] n q := by
  simp only [T__law_draw_bounds, fnD, startE, List.replicate, List.cons_append, List.nil_append, tLstD, sSeq, sNil, sIf, sRet, sRetN, tVarD, tCD, tOpD, tOp1D, tCallD, tCallB, aNil, aCons, bVal, bNot, bCmp, bOr, tTupD, sAsg, hide_nil, fTup, fsCons, fsNil, fName, Option.bind_some, List.set_cons_zero, List.set_cons_succ, List.map_cons, List.map_nil, List.length_cons, List.length_nil, List.getElem?_cons_zero, List.getElem?_cons_succ, Nat.zero_add, Nat.reduceAdd, Option.some.injEq, exists_eq_left', true_and, D.bl.injEq, Bool.not_true, Bool.not_false, Bool.false_eq_true, if_false, if_true, lenD_tup, List.length_map, subD_int]
  have LL : LIM = 1000000 := rfl
  refine ⟨.int (-1), rfl, take_ok (by decide) (by decide) (by omega) fun k k0 k1 => ⟨.int (k - 4), rfl, .int (-1000000), rfl, by omega, one_ok (by simp) (by simp) (by omega) fun d hd => ?_⟩⟩
  have hd' : ∃ a : Int, d = .int a ∧ -1000000 ≤ a ∧ a ≤ 4 := by
    simp only [List.mem_cons, List.not_mem_nil, or_false] at hd
    rcases hd with rfl | rfl | rfl | rfl | rfl | rfl
    all_goals exact ⟨_, rfl, by omega, by omega⟩
  obtain ⟨a, rfl, a0, a1⟩ := hd'
  refine ⟨by omega, one_ok (by simp) (by simp) (by omega) fun d hd => ?_⟩
  have hd' : ∃ b : Int, d = .int b ∧ 0 ≤ b ∧ b ≤ 9 := by
    simp only [List.mem_cons, List.not_mem_nil, or_false] at hd
    rcases hd with rfl | rfl | rfl | rfl | rfl | rfl
    all_goals exact ⟨_, rfl, by omega, by omega⟩
  obtain ⟨b, rfl, b0, b1⟩ := hd'
  refine ⟨_, addD_int _ _, ?_⟩
  simp only [tIfD, sSeq, sNil, sIf, sRet, sRetN, tVarD, tCD, tOpD, tOp1D, tCallD, tCallB, aNil, aCons, bVal, bNot, bCmp, bOr, tTupD, sAsg, hide_nil, fTup, fsCons, fsNil, fName, Option.bind_some, List.set_cons_zero, List.set_cons_succ, List.map_cons, List.map_nil, List.length_cons, List.length_nil, List.getElem?_cons_zero, List.getElem?_cons_succ, Nat.zero_add, Nat.reduceAdd, Option.some.injEq, exists_eq_left', true_and, D.bl.injEq, Bool.not_true, Bool.not_false, Bool.false_eq_true, if_false, if_true, lenD_tup, List.length_map, subD_int]
  refine take_ok (by decide) (by decide) (by omega) fun k2 _ _ => ?_
  simp only [eqD_int, sSeq, sNil, sIf, sRet, sRetN, tVarD, tCD, tOpD, tOp1D, tCallD, tCallB, aNil, aCons, bVal, bNot, bCmp, bOr, tTupD, sAsg, hide_nil, fTup, fsCons, fsNil, fName, Option.bind_some, List.set_cons_zero, List.set_cons_succ, List.map_cons, List.map_nil, List.length_cons, List.length_nil, List.getElem?_cons_zero, List.getElem?_cons_succ, Nat.zero_add, Nat.reduceAdd, Option.some.injEq, exists_eq_left', true_and, D.bl.injEq, Bool.not_true, Bool.not_false, Bool.false_eq_true, if_false, if_true, lenD_tup, List.length_map, subD_int]
  by_cases hk : k2 = 0
  · simp only [hk, decide_true, if_true]
    exact ⟨by omega, h a 1000000 _ (by omega) (by omega) (by omega) (by omega) (by omega)⟩
  · simp only [hk, decide_false, Bool.false_eq_true, if_false]
    exact ⟨by omega, h a (a + b) _ (by omega) (by omega) (by omega) (by omega) (by omega)⟩
theorem m_draw_key {m : Int} {n : Nat} {q : QD} (h0 : 0 < m) (h1 : m ≤ 100) (hn : n + 3 ≤ NN) (h : ∀ (ks : List Int) (n' : Nat), 1 ≤ ks.length → ks.length ≤ 2 → (∀ k ∈ ks, 0 ≤ k ∧ k < m) → n ≤ n' → n' ≤ n + 3 → q (.tup (ks.map D.int)) n') : T__law_draw_key [.pen, .int m] n q := by
  have LL : LIM = 1000000 := rfl
  simp only [T__law_draw_key, fnD, startE, List.replicate, List.cons_append, List.nil_append, sPar, sSeq, sNil, sIf, sRet, sRetN, tVarD, tCD, tOpD, tOp1D, tCallD, tCallB, aNil, aCons, bVal, bNot, bCmp, bOr, tTupD, sAsg, hide_nil, fTup, fsCons, fsNil, fName, Option.bind_some, List.set_cons_zero, List.set_cons_succ, List.map_cons, List.map_nil, List.length_cons, List.length_nil, List.getElem?_cons_zero, List.getElem?_cons_succ, Nat.zero_add, Nat.reduceAdd, Option.some.injEq, exists_eq_left', true_and, D.bl.injEq, Bool.not_true, Bool.not_false, Bool.false_eq_true, if_false, if_true, lenD_tup, List.length_map, subD_int]
  refine take_ok h0 (by omega) (by omega) fun k k0 k1 => take_ok h0 (by omega) (by omega) fun j j0 j1 => ?_
  refine ⟨_, _, rfl, ?_⟩
  simp only [tIfD, eqD_int, min2D, max2D, sSeq, sNil, sIf, sRet, sRetN, tVarD, tCD, tOpD, tOp1D, tCallD, tCallB, aNil, aCons, bVal, bNot, bCmp, bOr, tTupD, sAsg, hide_nil, fTup, fsCons, fsNil, fName, Option.bind_some, List.set_cons_zero, List.set_cons_succ, List.map_cons, List.map_nil, List.length_cons, List.length_nil, List.getElem?_cons_zero, List.getElem?_cons_succ, Nat.zero_add, Nat.reduceAdd, Option.some.injEq, exists_eq_left', true_and, D.bl.injEq, Bool.not_true, Bool.not_false, Bool.false_eq_true, if_false, if_true, lenD_tup, List.length_map, subD_int]
  have end1 : ∀ n', n + 2 ≤ n' → n' ≤ n + 3 → 1 ≤ LIM ∧ q (.tup [.int k]) n' := fun n' h1 h2 => ⟨by omega, h [k] n' (by simp) (by simp) (by simp; omega) (by omega) (by omega)⟩
  by_cases hk : k = j
  · simp only [hk, decide_true, if_true]
    rw [← hk]
    exact end1 _ (by omega) (by omega)
  · simp only [hk, decide_false, Bool.false_eq_true, if_false]
    refine take_ok (by decide) (by decide) (by omega) fun b _ _ => ?_
    simp only [eqD_int, sSeq, sNil, sIf, sRet, sRetN, tVarD, tCD, tOpD, tOp1D, tCallD, tCallB, aNil, aCons, bVal, bNot, bCmp, bOr, tTupD, sAsg, hide_nil, fTup, fsCons, fsNil, fName, Option.bind_some, List.set_cons_zero, List.set_cons_succ, List.map_cons, List.map_nil, List.length_cons, List.length_nil, List.getElem?_cons_zero, List.getElem?_cons_succ, Nat.zero_add, Nat.reduceAdd, Option.some.injEq, exists_eq_left', true_and, D.bl.injEq, Bool.not_true, Bool.not_false, Bool.false_eq_true, if_false, if_true, lenD_tup, List.length_map, subD_int]
    by_cases hb : b = 0
    · simp only [hb, decide_true, if_true]
      exact end1 _ (by omega) (by omega)
    · simp only [hb, decide_false, Bool.false_eq_true, if_false]
      refine ⟨by omega, h [if j < k then j else k, if j > k then j else k] _ (by simp) (by simp) ?_ (by omega) (by omega)⟩
      intro z hz
      simp only [List.mem_cons, List.not_mem_nil, or_false] at hz
      rcases hz with rfl | rfl
      · split <;> omega
      · split <;> omega
theorem cutL_map {α β : Type} (f : α → β) (xs : List α) (lo hi : Option Int) : DL.cutL (xs.map f) lo hi = (DL.cutL xs lo hi).map f := by
  unfold DL.cutL
  simp only [List.length_map, List.map_drop, List.map_take]
theorem cut_front {α : Type} (xs : List α) (k : Nat) : DL.cutL xs none (some (k : Int)) = xs.take k := by
  unfold DL.cutL
  rw [HT.sIx_nat]
  show (xs.drop 0).take (min k xs.length - 0) = _
  rw [List.drop_zero, Nat.sub_zero]
  by_cases h : k ≤ xs.length
  · rw [Nat.min_eq_left h]
  · rw [Nat.min_eq_right (by omega), List.take_length, List.take_of_length_le (by omega)]
theorem cut_mid {α : Type} (xs : List α) (i k : Nat) : (DL.cutL xs (some (i : Int)) (some (k : Int))).length ≤ xs.length - i := by
  unfold DL.cutL
  rw [HT.sIx_nat, HT.sIx_nat, List.length_take, List.length_drop]
  omega
theorem at_set {α : Type} {xs : List α} {i : Int} {j : Nat} (h : ixN xs.length i = some j) : j < xs.length := (ixN_seq h).2.1
theorem m_open {ns : List Int} {n : Nat} {q : QD} (hns : ns.length ≤ 63) (h : ∀ cs : List Int, cs.length ≤ 12 → q (.lst [.lst (cs.map D.int), .int 0, .int 0]) n) : T__law_open [.scr ns] n q := by
  have LL : LIM = 1000000 := rfl
  have c1 : DL.cutD (.scr ns) none (some 12) = some (.lst ((ns.take 12).map D.int)) := by
    show some (D.lst (DL.cutL (ns.map D.int) none (some ((12 : Nat) : Int)))) = _
    rw [cutL_map, cut_front]
  have c2 : DL.cutD (.scr ns) (some 12) (some 63) = some (.lst ((DL.cutL ns (some ((12 : Nat) : Int)) (some ((63 : Nat) : Int))).map D.int)) := by
    show some (D.lst (DL.cutL (ns.map D.int) (some ((12 : Nat) : Int)) (some ((63 : Nat) : Int)))) = _
    rw [cutL_map]
  have lB := cut_mid ns 12 63
  generalize DL.cutL ns (some ((12 : Nat) : Int)) (some ((63 : Nat) : Int)) = B at c2 lB
  simp only [T__law_open, fnD, startE, List.replicate, List.cons_append, List.nil_append, sOwn, ldList, tSlD, oNone, oSome, sSeq, sNil, sIf, sRet, sRetN, tVarD, tCD, tOpD, tOp1D, tCallD, tCallB, aNil, aCons, bVal, bNot, bCmp, bOr, tTupD, sAsg, hide_nil, fTup, fsCons, fsNil, fName, Option.bind_some, List.set_cons_zero, List.set_cons_succ, List.map_cons, List.map_nil, List.length_cons, List.length_nil, List.getElem?_cons_zero, List.getElem?_cons_succ, Nat.zero_add, Nat.reduceAdd, Option.some.injEq, exists_eq_left', true_and, D.bl.injEq, Bool.not_true, Bool.not_false, Bool.false_eq_true, if_false, if_true, lenD_tup, List.length_map, subD_int]
  refine ⟨12, rfl, _, c1, _, .inl rfl, by decide, ?_⟩
  have hh : ∀ a b c d : Option D, hide [1] [a, b, c, d] = [a, none, c, d] := fun a b c d => by simp [hide, hideFrom]
  simp only [sFor, wEnum, hh, tSlD, oSome, sSeq, sNil, sIf, sRet, sRetN, tVarD, tCD, tOpD, tOp1D, tCallD, tCallB, aNil, aCons, bVal, bNot, bCmp, bOr, tTupD, sAsg, hide_nil, fTup, fsCons, fsNil, fName, Option.bind_some, List.set_cons_zero, List.set_cons_succ, List.map_cons, List.map_nil, List.length_cons, List.length_nil, List.getElem?_cons_zero, List.getElem?_cons_succ, Nat.zero_add, Nat.reduceAdd, Option.some.injEq, exists_eq_left', true_and, D.bl.injEq, Bool.not_true, Bool.not_false, Bool.false_eq_true, if_false, if_true, lenD_tup, List.length_map, subD_int]
  refine ⟨12, rfl, 63, rfl, _, c2, _, .inl rfl, ?_⟩
  refine forD_inv (all := enumD 0 (B.map D.int)) (fun i ρ n' => ∃ (cs : List Int) (x2 x3 : Option D), ρ = [some (.scr ns), some (.lst (cs.map D.int)), x2, x3] ∧ cs.length = (ns.take 12).length ∧ n' = n) ?_ ?_ _ 0 _ _ rfl (Nat.zero_le _) ⟨_, none, none, rfl, rfl, rfl⟩
  · rintro i d hd ρ n' ⟨cs, x2, x3, rfl, hl, rfl⟩
    rw [enumD_get] at hd
    obtain ⟨b, hb, rfl⟩ := Option.map_eq_some_iff.mp hd
    rw [List.getElem?_map] at hb
    obtain ⟨z, hz, rfl⟩ := Option.map_eq_some_iff.mp hb
    have hBpos : i < B.length := (List.getElem?_eq_some_iff.mp hz).1
    have h12 : cs.length = 12 := by
      rw [hl, List.length_take]
      omega
    refine ⟨_, rfl, fun De _ _ hnx _ => ?_⟩
    have iI : ∀ i : Int, DL.intD [.int i] = some (.int i) := fun i => rfl
    simp only [sSet, iI, modD_int _ 12 (by decide), sSeq, sNil, sIf, sRet, sRetN, tVarD, tCD, tOpD, tOp1D, tCallD, tCallB, aNil, aCons, bVal, bNot, bCmp, bOr, tTupD, sAsg, hide_nil, fTup, fsCons, fsNil, fName, Option.bind_some, List.set_cons_zero, List.set_cons_succ, List.map_cons, List.map_nil, List.length_cons, List.length_nil, List.getElem?_cons_zero, List.getElem?_cons_succ, Nat.zero_add, Nat.reduceAdd, Option.some.injEq, exists_eq_left', true_and, D.bl.injEq, Bool.not_true, Bool.not_false, Bool.false_eq_true, if_false, if_true, lenD_tup, List.length_map, subD_int]
    have f0 : 0 ≤ ((i : Nat) : Int).fmod 12 := Int.fmod_nonneg_of_pos _ (by decide)
    have f1 : ((i : Nat) : Int).fmod 12 < 12 := Int.fmod_lt_of_pos _ (by decide)
    have e1 : ixD (.lst (cs.map D.int)) (.int (((i : Nat) : Int).fmod 12)) = some (.int (ix cs (((i : Nat) : Int).fmod 12))) := by
      show atI (cs.map D.int) _ = _
      rw [at_ix f0 (by rw [List.length_map, h12]; exact f1), ix_map f0 (by rw [h12]; exact f1)]
    have e2 : ixN (cs.map D.int).length (((i : Nat) : Int).fmod 12) = some (((i : Nat) : Int).fmod 12).toNat := by
      unfold ixN
      rw [if_pos f0, List.length_map, h12]
      exact if_pos f1
    refine ⟨_, e1, _, addD_int _ _, rfl, _, _, _, rfl, rfl, e2, hnx _ _ ⟨cs.set (((i : Nat) : Int).fmod 12).toNat (ix cs (((i : Nat) : Int).fmod 12) + z), _, _, by rw [List.map_set], by rw [List.length_set]; exact hl, rfl⟩⟩
  · rintro ρ n' ⟨cs, x2, x3, rfl, hl, rfl⟩
    simp only [tLstD, sSeq, sNil, sIf, sRet, sRetN, tVarD, tCD, tOpD, tOp1D, tCallD, tCallB, aNil, aCons, bVal, bNot, bCmp, bOr, tTupD, sAsg, hide_nil, fTup, fsCons, fsNil, fName, Option.bind_some, List.set_cons_zero, List.set_cons_succ, List.map_cons, List.map_nil, List.length_cons, List.length_nil, List.getElem?_cons_zero, List.getElem?_cons_succ, Nat.zero_add, Nat.reduceAdd, Option.some.injEq, exists_eq_left', true_and, D.bl.injEq, Bool.not_true, Bool.not_false, Bool.false_eq_true, if_false, if_true, lenD_tup, List.length_map, subD_int]
    exact ⟨by omega, h cs (by rw [hl, List.length_take]; omega)⟩
end K10
set_option maxHeartbeats 8000000
namespace DL
open PySem PySem.Spec PyProof.Rows L2
/-- a comprehension, by what its items are -/
theorem compD_post {f : D → DL.Env → Option DL.Env} {tt : TDb} {Te : TD} (S P : D → Prop) {ρ : DL.Env} : ∀ (ds acc : List D) (n : Nat) (q : List D → Nat → Prop),
    (∀ d ∈ ds, ∃ ρ', f d ρ = some ρ' ∧ (∀ n k, (∀ b, (b = true → S d) → k b n) → tt ρ' n k) ∧ ∀ n k, S d → (∀ y, P y → k y n) → Te ρ' n k) → acc.length + ds.length ≤ LIM →
    (∀ ys, ys.length ≤ ds.length → (∀ y ∈ ys, P y) → q (acc ++ ys) n) → compD f tt Te ds acc ρ n q
  | [], acc, n, q, _, _, h => by
    have := h [] (Nat.le_refl _) (by simp)
    simpa [compD] using this
  | d :: ds, acc, n, q, hd, hl, h => by
    obtain ⟨ρ', e1, e2, e3⟩ := hd d List.mem_cons_self
    simp only [List.length_cons] at hl
    refine ⟨ρ', e1, e2 n _ fun b hb => ?_⟩
    cases b with
    | false =>
      simp only [Bool.false_eq_true, if_false]
      exact compD_post S P ds acc n q (fun d hd' => hd d (List.mem_cons_of_mem _ hd')) (by omega) fun ys l1 l2 => h ys (by simp only [List.length_cons]; omega) l2
    | true =>
      simp only [if_true]
      refine e3 n _ (hb rfl) fun y hy => ⟨by omega, ?_⟩
      refine compD_post S P ds (acc ++ [y]) n q (fun d hd' => hd d (List.mem_cons_of_mem _ hd')) (by simp only [List.length_append, List.length_cons, List.length_nil]; omega) fun ys l1 l2 => ?_
      rw [List.append_assoc]
      refine h (y :: ys) (by simp only [List.length_cons]; omega) fun z hz => ?_
      rcases List.mem_cons.mp hz with rfl | hz
      · exact hy
      · exact l2 z hz
theorem list_of {α : Type} {g : α → D} {Q : α → Prop} : ∀ {ys : List D}, (∀ y ∈ ys, ∃ a, y = g a ∧ Q a) → ∃ as : List α, ys = as.map g ∧ ∀ a ∈ as, Q a
  | [], _ => ⟨[], rfl, by simp⟩
  | y :: ys, h => by
    obtain ⟨a, e, qa⟩ := h y List.mem_cons_self
    obtain ⟨as, e2, q2⟩ := list_of (ys := ys) fun z hz => h z (List.mem_cons_of_mem _ hz)
    refine ⟨a :: as, by rw [e, e2]; rfl, fun b hb => ?_⟩
    rcases List.mem_cons.mp hb with rfl | hb
    · exact qa
    · exact q2 b hb
end DL
namespace K10
open PySem PySem.Spec PyProof.Rows L2 DL
theorem pure_ints : ∀ ns : List Int, pureDs (ns.map D.int) = true
  | [] => rfl
  | n :: ns => by simp [pureDs, pureD, pure_ints ns]
theorem last_int (cs : List Int) (c : Int) : ixD (.lst ((cs ++ [c]).map D.int)) (.int (-1)) = some (.int c) := by
  show atI ((cs ++ [c]).map D.int) (-1) = _
  unfold atI ixN
  have h1 : ¬ (0 : Int) ≤ -1 := by decide
  have h2 : -((((cs ++ [c]).map D.int).length : Nat) : Int) ≤ -1 := by
    simp only [List.length_map, List.length_append, List.length_cons, List.length_nil]
    omega
  rw [if_neg h1, if_pos h2]
  have h3 : (-1 + ((((cs ++ [c]).map D.int).length : Nat) : Int)).toNat = cs.length := by
    simp only [List.length_map, List.length_append, List.length_cons, List.length_nil]
    omega
  rw [h3]
  simp
theorem eq_none (rs : List (List Int × Int)) : eqD (.tup (rs.map refD)) (.tup []) = some (.bl rs.isEmpty) := by
  rw [eqD_ok (ok_refs rs) ((sh_tup (k := 0) (ds := []) (by simp)).ok (by decide))]
  cases rs <;> simp [toPy, toPys, PyData.eqv, PyData.eqvAll]
theorem ints_ne (ns : List Int) : neD (.lst (ns.map D.int)) (.lst []) = some (.bl (!ns.isEmpty)) := by
  rw [neD_ok ((sh_lst (sh_ints 0 ns)).ok (by decide)) ((sh_lst (k := 0) (ds := []) (by simp)).ok (by decide))]
  cases ns <;> simp [toPy, toPys, PyData.eqv, PyData.eqvAll]
theorem ints_eq (ns : List Int) : eqD (.lst (ns.map D.int)) (.lst []) = some (.bl ns.isEmpty) := by
  rw [eqD_ok ((sh_lst (sh_ints 0 ns)).ok (by decide)) ((sh_lst (k := 0) (ds := []) (by simp)).ok (by decide))]
  cases ns <;> simp [toPy, toPys, PyData.eqv, PyData.eqvAll]
theorem one_int {ns : List Int} {n : Nat} {q : QD} (h0 : ns ≠ []) (h1 : ns.length ≤ 1000) (hn : n + 1 ≤ NN) (h : ∀ i ∈ ns, q (.int i) (n + 1)) : T__law_one_of [.pen, .lst (ns.map D.int)] n q :=
  one_ok (by simpa using h0) (by simpa using h1) hn fun d hd => by
    obtain ⟨i, hi, rfl⟩ := List.mem_map.mp hd
    exact h i hi
theorem tab_at {ts : List Tab} {j : Int} (h0 : 0 ≤ j) (h1 : j < ts.length) : ixD (.tup (ts.map tabD)) (.int j) = some (tabD (ix ts j)) := by
  show atI (ts.map tabD) j = _
  rw [at_ix h0 (by simpa using h1), ix_map h0 h1]
theorem col_at {cs : List (Int × Int)} {j : Int} (h0 : 0 ≤ j) (h1 : j < cs.length) : ixD (.tup (cs.map colD)) (.int j) = some (colD (ix cs j)) := by
  show atI (cs.map colD) j = _
  rw [at_ix h0 (by simpa using h1), ix_map h0 h1]
theorem colL_at {cs : List (Int × Int)} {j : Int} (h0 : 0 ≤ j) (h1 : j < cs.length) : ixD (.lst (cs.map colD)) (.int j) = some (colD (ix cs j)) := by
  show atI (cs.map colD) j = _
  rw [at_ix h0 (by simpa using h1), ix_map h0 h1]
/-- the numbers of those tables that refer to none, whatever they are -/
theorem m_some {ts : List Tab} (hl : ts.length ≤ 1000) {f : D → DL.Env → Option DL.Env} {tt : TDb} {Te : TD} {ρ : DL.Env} {n : Nat} {q : List D → Nat → Prop}
    (hf : ∀ (i : Int) (t : Tab), ∃ ρ', f (.tup [.int i, tabD t]) ρ = some ρ' ∧ (∀ n k, (∀ b, k b n) → tt ρ' n k) ∧ ∀ n k, k (.int i) n → Te ρ' n k)
    (h : ∀ js : List Int, js.length ≤ ts.length → (∀ j ∈ js, 0 ≤ j ∧ j < ts.length) → q (js.map D.int) n) : compD f tt Te (enumD 0 (ts.map tabD)) [] ρ n q := by
  have LL : LIM = 1000000 := rfl
  refine compD_post (fun _ => True) (fun y => ∃ i : Int, y = .int i ∧ (0 ≤ i ∧ i < ts.length)) _ _ _ _ (fun d hd => ?_) (by rw [enumD_len]; simp; omega) fun ys l1 l2 => ?_
  · obtain ⟨i, hi⟩ := List.mem_iff_getElem?.mp hd
    rw [enumD_get, List.getElem?_map] at hi
    cases ht : ts[i]? with
    | none =>
      rw [ht] at hi
      cases hi
    | some t =>
      rw [ht] at hi
      cases hi
      have hlt := (List.getElem?_eq_some_iff.mp ht).1
      obtain ⟨ρ', e1, e2, e3⟩ := hf ((0 + i : Nat) : Int) t
      exact ⟨ρ', e1, fun n k hk => e2 n k fun b => hk b fun _ => trivial, fun n k _ hk => e3 n k (hk _ ⟨_, rfl, by omega, by omega⟩)⟩
  · rw [enumD_len, List.length_map] at l1
    obtain ⟨js, rfl, hj⟩ := list_of l2
    exact h js (by simpa using l1) hj
def RefRes (L T : Nat) (d : D) : Prop := d = .non ∨ ∃ (os : List Int) (j : Int), d = refD (os, j) ∧ os.length ≤ 2 ∧ (∀ o ∈ os, 0 ≤ o ∧ o < L) ∧ 0 ≤ j ∧ j < T
theorem m_draw_reference {ts : List Tab} (hts : ∀ t ∈ ts, t.Ok) (hl : ts.length ≤ 100) {bs : List (Int × Int)} (hb : bs.length ≤ 100) {n : Nat} {q : QD} (hn : n + 3 ≤ NN)
    (h : ∀ d n', RefRes bs.length ts.length d → n ≤ n' → n' ≤ n + 3 → q d n') : T__law_draw_reference [.pen, .tup (ts.map tabD), .lst (bs.map colD)] n q := by
  have LL : LIM = 1000000 := rfl
  have t0 : ∀ t, ixD (tabD t) (.int 0) = some (.tup (t.cols.map colD)) := fun _ => rfl
  have t1 : ∀ t, ixD (tabD t) (.int 1) = some (.tup (t.key.map D.int)) := fun _ => rfl
  have t2 : ∀ t, ixD (tabD t) (.int 2) = some (.tup (t.refs.map refD)) := fun _ => rfl
  simp only [T__law_draw_reference, fnD, startE, List.replicate, List.cons_append, List.nil_append, Nat.reduceSub, tL, tCompL, wEnum, sSeq, sNil, sIf, sRet, sRetN, tVarD, tCD, tOpD, tOp1D, tCallD, tCallB, aNil, aCons, bVal, bNot, bCmp, bOr, tTupD, sAsg, hide_nil, fTup, fsCons, fsNil, fName, Option.bind_some, List.set_cons_zero, List.set_cons_succ, List.map_cons, List.map_nil, List.length_cons, List.length_nil, List.getElem?_cons_zero, List.getElem?_cons_succ, Nat.zero_add, Nat.reduceAdd, Option.some.injEq, exists_eq_left', true_and, D.bl.injEq, Bool.not_true, Bool.not_false, Bool.false_eq_true, if_false, if_true, lenD_tup, List.length_map, subD_int]
  rw [ee]
  refine m_some (by omega) (fun i t => ⟨_, rfl, fun n k hk => ?_, fun n k hk => ?_⟩) fun js l1 l2 => ?_
  · simp only [wipeE, t2, eq_none, sSeq, sNil, sIf, sRet, sRetN, tVarD, tCD, tOpD, tOp1D, tCallD, tCallB, aNil, aCons, bVal, bNot, bCmp, bOr, tTupD, sAsg, hide_nil, fTup, fsCons, fsNil, fName, Option.bind_some, List.set_cons_zero, List.set_cons_succ, List.map_cons, List.map_nil, List.length_cons, List.length_nil, List.getElem?_cons_zero, List.getElem?_cons_succ, Nat.zero_add, Nat.reduceAdd, Option.some.injEq, exists_eq_left', true_and, D.bl.injEq, Bool.not_true, Bool.not_false, Bool.false_eq_true, if_false, if_true, lenD_tup, List.length_map, subD_int]
    exact ⟨by omega, hk _⟩
  · simp only [wipeE, sSeq, sNil, sIf, sRet, sRetN, tVarD, tCD, tOpD, tOp1D, tCallD, tCallB, aNil, aCons, bVal, bNot, bCmp, bOr, tTupD, sAsg, hide_nil, fTup, fsCons, fsNil, fName, Option.bind_some, List.set_cons_zero, List.set_cons_succ, List.map_cons, List.map_nil, List.length_cons, List.length_nil, List.getElem?_cons_zero, List.getElem?_cons_succ, Nat.zero_add, Nat.reduceAdd, Option.some.injEq, exists_eq_left', true_and, D.bl.injEq, Bool.not_true, Bool.not_false, Bool.false_eq_true, if_false, if_true, lenD_tup, List.length_map, subD_int]
    exact hk
  simp only [tIfD, tLstD, ints_ne, sSeq, sNil, sIf, sRet, sRetN, tVarD, tCD, tOpD, tOp1D, tCallD, tCallB, aNil, aCons, bVal, bNot, bCmp, bOr, tTupD, sAsg, hide_nil, fTup, fsCons, fsNil, fName, Option.bind_some, List.set_cons_zero, List.set_cons_succ, List.map_cons, List.map_nil, List.length_cons, List.length_nil, List.getElem?_cons_zero, List.getElem?_cons_succ, Nat.zero_add, Nat.reduceAdd, Option.some.injEq, exists_eq_left', true_and, D.bl.injEq, Bool.not_true, Bool.not_false, Bool.false_eq_true, if_false, if_true, lenD_tup, List.length_map, subD_int]
  refine ⟨by omega, ?_⟩
  have non : ∀ n', n ≤ n' → n' ≤ n + 3 → q .non n' := fun n' h1 h2 => h _ _ (.inl rfl) h1 h2
  cases hj : js.isEmpty with
  | true =>
    simp only [Bool.not_true, Bool.false_eq_true, if_false]
    simp only [isD, isN, sSeq, sNil, sIf, sRet, sRetN, tVarD, tCD, tOpD, tOp1D, tCallD, tCallB, aNil, aCons, bVal, bNot, bCmp, bOr, tTupD, sAsg, hide_nil, fTup, fsCons, fsNil, fName, Option.bind_some, List.set_cons_zero, List.set_cons_succ, List.map_cons, List.map_nil, List.length_cons, List.length_nil, List.getElem?_cons_zero, List.getElem?_cons_succ, Nat.zero_add, Nat.reduceAdd, Option.some.injEq, exists_eq_left', true_and, D.bl.injEq, Bool.not_true, Bool.not_false, Bool.false_eq_true, if_false, if_true, lenD_tup, List.length_map, subD_int]
    exact non _ (by omega) (by omega)
  | false =>
    simp only [Bool.not_false, if_true]
    refine one_int (by
      intro e
      rw [e] at hj
      cases hj) (by omega) (by omega) fun j hjm => ?_
    obtain ⟨j0, j1⟩ := l2 j hjm
    have ok := hts _ (ix_mem j0 j1)
    have e1 := tab_at j0 j1
    have ln : lenD [.lst (bs.map colD)] = some (.int (bs.length : Nat)) := by simp [lenD]
    simp only [isD, isN, e1, t1, ln, ltD, cmpI, sSeq, sNil, sIf, sRet, sRetN, tVarD, tCD, tOpD, tOp1D, tCallD, tCallB, aNil, aCons, bVal, bNot, bCmp, bOr, tTupD, sAsg, hide_nil, fTup, fsCons, fsNil, fName, Option.bind_some, List.set_cons_zero, List.set_cons_succ, List.map_cons, List.map_nil, List.length_cons, List.length_nil, List.getElem?_cons_zero, List.getElem?_cons_succ, Nat.zero_add, Nat.reduceAdd, Option.some.injEq, exists_eq_left', true_and, D.bl.injEq, Bool.not_true, Bool.not_false, Bool.false_eq_true, if_false, if_true, lenD_tup, List.length_map, subD_int]
    by_cases hlt : ((bs.length : Nat) : Int) < (((ix ts j).key.length : Nat) : Int)
    · simp only [hlt, decide_true, if_true]
      exact non _ (by omega) (by omega)
    · simp only [hlt, decide_false, Bool.false_eq_true, if_false]
      simp only [sPar2, lLstD, lList_range1, ln, sFor, wAny, sSeq, sNil, sIf, sRet, sRetN, tVarD, tCD, tOpD, tOp1D, tCallD, tCallB, aNil, aCons, bVal, bNot, bCmp, bOr, tTupD, sAsg, hide_nil, fTup, fsCons, fsNil, fName, Option.bind_some, List.set_cons_zero, List.set_cons_succ, List.map_cons, List.map_nil, List.length_cons, List.length_nil, List.getElem?_cons_zero, List.getElem?_cons_succ, Nat.zero_add, Nat.reduceAdd, Option.some.injEq, exists_eq_left', true_and, D.bl.injEq, Bool.not_true, Bool.not_false, Bool.false_eq_true, if_false, if_true, lenD_tup, List.length_map, subD_int]
      have hh : ∀ a0 a1 a2 a3 a4 a5 a6 a7 a8 a9 a10 a11 a12 : Option D, hide [6, 5] [a0, a1, a2, a3, a4, a5, a6, a7, a8, a9, a10, a11, a12] = [a0, a1, a2, a3, a4, none, none, a7, a8, a9, a10, a11, a12] := fun a0 a1 a2 a3 a4 a5 a6 a7 a8 a9 a10 a11 a12 => by simp [hide, hideFrom]
      refine ⟨by omega, _, rfl, by omega, by omega, by decide, ?_⟩
      simp only [hh, e1, t1, sSeq, sNil, sIf, sRet, sRetN, tVarD, tCD, tOpD, tOp1D, tCallD, tCallB, aNil, aCons, bVal, bNot, bCmp, bOr, tTupD, sAsg, hide_nil, fTup, fsCons, fsNil, fName, Option.bind_some, List.set_cons_zero, List.set_cons_succ, List.map_cons, List.map_nil, List.length_cons, List.length_nil, List.getElem?_cons_zero, List.getElem?_cons_succ, Nat.zero_add, Nat.reduceAdd, Option.some.injEq, exists_eq_left', true_and, D.bl.injEq, Bool.not_true, Bool.not_false, Bool.false_eq_true, if_false, if_true, lenD_tup, List.length_map, subD_int]
      refine ⟨_, .inr rfl, ?_⟩
      have rr : rangeD 0 ((bs.length : Nat) : Int).toNat = ((List.range bs.length).map fun (k : Nat) => (0 : Int) + (k : Int)).map D.int := by
        unfold rangeD
        rw [List.map_map, Int.toNat_natCast]
        rfl
      rw [rr]
      refine forD_inv (all := (ix ts j).key.map D.int) (fun i ρ n' => ∃ (cs rs : List Int) (x7 x8 x9 x10 : Option D), ρ = [some .pen, some (.tup (ts.map tabD)), some (.lst (bs.map colD)), some (.lst (js.map D.int)), some (.int j), some (.lst (cs.map D.int)), some (.lst (rs.map D.int)), x7, x8, x9, x10, none, none] ∧
        cs.length = i ∧ (∀ c ∈ cs, 0 ≤ c ∧ c < bs.length) ∧ (∀ c ∈ rs, 0 ≤ c ∧ c < bs.length) ∧ rs.length ≤ bs.length ∧ n + 1 ≤ n' ∧ n' ≤ n + 1 + i) ?_ ?_ _ 0 _ _ rfl (Nat.zero_le _) ⟨[], _, none, none, none, none, rfl, rfl, by simp, ?_, by simp, by omega, by omega⟩
      · rintro i d hd ρ n' ⟨cs, rs, x7, x8, x9, x10, rfl, hcl, hcs, hrs, hrl, n0, n1⟩
        rw [List.getElem?_map] at hd
        obtain ⟨k, hk, rfl⟩ := Option.map_eq_some_iff.mp hd
        have hik : i < (ix ts j).key.length := (List.getElem?_eq_some_iff.mp hk).1
        have hk2 := ok.keyLen
        obtain ⟨k0, k1⟩ := ok.keyIn k (List.mem_of_getElem? hk)
        refine ⟨_, rfl, fun De hrt _ hnx _ => ?_⟩
        simp only [hh, e1, t0, col_at k0 k1, colD, sOwnP, tCompL, wAny, sSeq, sNil, sIf, sRet, sRetN, tVarD, tCD, tOpD, tOp1D, tCallD, tCallB, aNil, aCons, bVal, bNot, bCmp, bOr, tTupD, sAsg, hide_nil, fTup, fsCons, fsNil, fName, Option.bind_some, List.set_cons_zero, List.set_cons_succ, List.map_cons, List.map_nil, List.length_cons, List.length_nil, List.getElem?_cons_zero, List.getElem?_cons_succ, Nat.zero_add, Nat.reduceAdd, Option.some.injEq, exists_eq_left', true_and, D.bl.injEq, Bool.not_true, Bool.not_false, Bool.false_eq_true, if_false, if_true, lenD_tup, List.length_map, subD_int]
        refine ⟨_, .inl rfl, ?_⟩
        refine compD_post (fun _ => True) (fun y => ∃ c : Int, y = .int c ∧ c ∈ rs) _ _ _ _ (fun d hd => ?_) (by simp; omega) fun ys l1 l2 => ?_
        · obtain ⟨c, hc, rfl⟩ := List.mem_map.mp hd
          obtain ⟨c0, c1⟩ := hrs c hc
          refine ⟨_, rfl, fun n k hk => ?_, fun n k _ hk => ?_⟩
          · simp only [wipeE, bAnd, colL_at c0 c1, sSeq, sNil, sIf, sRet, sRetN, tVarD, tCD, tOpD, tOp1D, tCallD, tCallB, aNil, aCons, bVal, bNot, bCmp, bOr, tTupD, sAsg, hide_nil, fTup, fsCons, fsNil, fName, Option.bind_some, List.set_cons_zero, List.set_cons_succ, List.map_cons, List.map_nil, List.length_cons, List.length_nil, List.getElem?_cons_zero, List.getElem?_cons_succ, Nat.zero_add, Nat.reduceAdd, Option.some.injEq, exists_eq_left', true_and, D.bl.injEq, Bool.not_true, Bool.not_false, Bool.false_eq_true, if_false, if_true, lenD_tup, List.length_map, subD_int]
            refine ⟨_, ix0 _ _, ?_⟩
            simp only [leD_int, sSeq, sNil, sIf, sRet, sRetN, tVarD, tCD, tOpD, tOp1D, tCallD, tCallB, aNil, aCons, bVal, bNot, bCmp, bOr, tTupD, sAsg, hide_nil, fTup, fsCons, fsNil, fName, Option.bind_some, List.set_cons_zero, List.set_cons_succ, List.map_cons, List.map_nil, List.length_cons, List.length_nil, List.getElem?_cons_zero, List.getElem?_cons_succ, Nat.zero_add, Nat.reduceAdd, Option.some.injEq, exists_eq_left', true_and, D.bl.injEq, Bool.not_true, Bool.not_false, Bool.false_eq_true, if_false, if_true, lenD_tup, List.length_map, subD_int]
            split
            · refine ⟨_, ix1 _ _ _, ?_⟩
              simp only [leD_int, sSeq, sNil, sIf, sRet, sRetN, tVarD, tCD, tOpD, tOp1D, tCallD, tCallB, aNil, aCons, bVal, bNot, bCmp, bOr, tTupD, sAsg, hide_nil, fTup, fsCons, fsNil, fName, Option.bind_some, List.set_cons_zero, List.set_cons_succ, List.map_cons, List.map_nil, List.length_cons, List.length_nil, List.getElem?_cons_zero, List.getElem?_cons_succ, Nat.zero_add, Nat.reduceAdd, Option.some.injEq, exists_eq_left', true_and, D.bl.injEq, Bool.not_true, Bool.not_false, Bool.false_eq_true, if_false, if_true, lenD_tup, List.length_map, subD_int]
              exact hk _ fun _ => trivial
            · exact hk _ fun _ => trivial
          · simp only [wipeE, sSeq, sNil, sIf, sRet, sRetN, tVarD, tCD, tOpD, tOp1D, tCallD, tCallB, aNil, aCons, bVal, bNot, bCmp, bOr, tTupD, sAsg, hide_nil, fTup, fsCons, fsNil, fName, Option.bind_some, List.set_cons_zero, List.set_cons_succ, List.map_cons, List.map_nil, List.length_cons, List.length_nil, List.getElem?_cons_zero, List.getElem?_cons_succ, Nat.zero_add, Nat.reduceAdd, Option.some.injEq, exists_eq_left', true_and, D.bl.injEq, Bool.not_true, Bool.not_false, Bool.false_eq_true, if_false, if_true, lenD_tup, List.length_map, subD_int]
            exact hk _ ⟨c, rfl, hc⟩
        · obtain ⟨fs, rfl, hfs⟩ := list_of l2
          rw [List.nil_append]
          refine ⟨pure_ints fs, by decide, ?_⟩
          simp only [tLstD, ints_eq, sSeq, sNil, sIf, sRet, sRetN, tVarD, tCD, tOpD, tOp1D, tCallD, tCallB, aNil, aCons, bVal, bNot, bCmp, bOr, tTupD, sAsg, hide_nil, fTup, fsCons, fsNil, fName, Option.bind_some, List.set_cons_zero, List.set_cons_succ, List.map_cons, List.map_nil, List.length_cons, List.length_nil, List.getElem?_cons_zero, List.getElem?_cons_succ, Nat.zero_add, Nat.reduceAdd, Option.some.injEq, exists_eq_left', true_and, D.bl.injEq, Bool.not_true, Bool.not_false, Bool.false_eq_true, if_false, if_true, lenD_tup, List.length_map, subD_int]
          refine ⟨by omega, ?_⟩
          cases hf : fs.isEmpty with
          | true =>
            simp only [if_true]
            rw [hrt]
            exact non _ (by omega) (by omega)
          | false =>
            simp only [Bool.false_eq_true, if_false]
            simp only [sAppP, sSeq, sNil, sIf, sRet, sRetN, tVarD, tCD, tOpD, tOp1D, tCallD, tCallB, aNil, aCons, bVal, bNot, bCmp, bOr, tTupD, sAsg, hide_nil, fTup, fsCons, fsNil, fName, Option.bind_some, List.set_cons_zero, List.set_cons_succ, List.map_cons, List.map_nil, List.length_cons, List.length_nil, List.getElem?_cons_zero, List.getElem?_cons_succ, Nat.zero_add, Nat.reduceAdd, Option.some.injEq, exists_eq_left', true_and, D.bl.injEq, Bool.not_true, Bool.not_false, Bool.false_eq_true, if_false, if_true, lenD_tup, List.length_map, subD_int]
            rw [List.length_map, List.length_map] at l1
            refine one_int (by
              intro e
              rw [e] at hf
              cases hf) (by omega) (by omega) fun c hc => ?_
            have hcr := hfs c hc
            refine ⟨rfl, _, rfl, by rw [List.length_map]; omega, ?_⟩
            have e5 : cs.map D.int ++ [D.int c] = (cs ++ [c]).map D.int := by rw [List.map_append]; rfl
            have ng : negD (.int 1) = some (.int (-1)) := rfl
            rw [e5]
            simp only [sRem, ng, last_int, sSeq, sNil, sIf, sRet, sRetN, tVarD, tCD, tOpD, tOp1D, tCallD, tCallB, aNil, aCons, bVal, bNot, bCmp, bOr, tTupD, sAsg, hide_nil, fTup, fsCons, fsNil, fName, Option.bind_some, List.set_cons_zero, List.set_cons_succ, List.map_cons, List.map_nil, List.length_cons, List.length_nil, List.getElem?_cons_zero, List.getElem?_cons_succ, Nat.zero_add, Nat.reduceAdd, Option.some.injEq, exists_eq_left', true_and, D.bl.injEq, Bool.not_true, Bool.not_false, Bool.false_eq_true, if_false, if_true, lenD_tup, List.length_map, subD_int]
            refine ⟨rs, c, rfl, rfl, hcr, hnx _ _ ⟨cs ++ [c], rs.erase c, _, _, _, _, rfl, by simp [hcl], fun z hz => ?_, fun z hz => hrs z (List.mem_of_mem_erase hz), ?_, by omega, by omega⟩⟩
            · rcases List.mem_append.mp hz with hz | hz
              · exact hcs z hz
              · rw [List.mem_singleton.mp hz]
                exact hrs c hcr
            · have := List.length_erase_of_mem hcr
              omega
      · rintro ρ n' ⟨cs, rs, x7, x8, x9, x10, rfl, hcl, hcs, hrs, hrl, n0, n1⟩
        have hk2 := ok.keyLen
        rw [List.length_map] at hcl n1
        simp only [tupleD, sSeq, sNil, sIf, sRet, sRetN, tVarD, tCD, tOpD, tOp1D, tCallD, tCallB, aNil, aCons, bVal, bNot, bCmp, bOr, tTupD, sAsg, hide_nil, fTup, fsCons, fsNil, fName, Option.bind_some, List.set_cons_zero, List.set_cons_succ, List.map_cons, List.map_nil, List.length_cons, List.length_nil, List.getElem?_cons_zero, List.getElem?_cons_succ, Nat.zero_add, Nat.reduceAdd, Option.some.injEq, exists_eq_left', true_and, D.bl.injEq, Bool.not_true, Bool.not_false, Bool.false_eq_true, if_false, if_true, lenD_tup, List.length_map, subD_int]
        exact ⟨by omega, h _ _ (.inr ⟨cs, j, rfl, by omega, hcs, j0, j1⟩) (by omega) (by omega)⟩
      · intro c hc
        obtain ⟨k, hk, rfl⟩ := List.mem_map.mp hc
        have := List.mem_range.mp hk
        omega
end K10
set_option maxHeartbeats 8000000
namespace K10
open PySem PySem.Spec PyProof.Rows L2 DL
structure Fine (t : Tab) : Prop where
  ok : t.Ok
  cb : ∀ c ∈ t.cols, -1000000 ≤ c.1 ∧ c.2 ≤ 1000013
  rl : t.refs.length ≤ 2
  rb : ∀ r ∈ t.refs, r.1.length ≤ 2 ∧ (∀ o ∈ r.1, 0 ≤ o ∧ o < 10) ∧ 0 ≤ r.2 ∧ r.2 < 10
/-- the references' columns are the table's own, their tables among the first T -/
def RefIn (t : Tab) (T : Nat) : Prop := ∀ r ∈ t.refs, (∀ o ∈ r.1, 0 ≤ o ∧ o < t.cols.length) ∧ 0 ≤ r.2 ∧ r.2 < T
theorem RefIn.mono {t : Tab} {T T' : Nat} (h : RefIn t T) (hT : T ≤ T') : RefIn t T' := fun r hr => by
  obtain ⟨h1, h2, h3⟩ := h r hr
  exact ⟨h1, h2, by omega⟩
def BOk (c : Int × Int) : Prop := -1000000 ≤ c.1 ∧ c.1 ≤ c.2 ∧ c.2 ≤ 1000013
theorem pure_cols : ∀ cs : List (Int × Int), pureDs (cs.map colD) = true
  | [] => rfl
  | c :: cs => by simp [pureDs, colD, pureD, pure_cols cs]
theorem refres_pure {L T : Nat} {d : D} (h : RefRes L T d) : pureD d = true := by
  rcases h with rfl | ⟨os, j, rfl, _⟩
  · rfl
  · simp [refD, pureD, pureDs, pure_ints]
theorem pures_all : ∀ {ds : List D}, (∀ d ∈ ds, pureD d = true) → pureDs ds = true
  | [], _ => rfl
  | d :: ds, h => by simp [pureDs, h d List.mem_cons_self, pures_all (ds := ds) fun z hz => h z (List.mem_cons_of_mem _ hz)]
def tabRest : TDS := (sSeq (sOwnP 9 (tCompL (wRng1 (aCons (tCallD takeD (aCons (tVarD 0) (aCons (tCD (.int 3)) aNil))) aNil)) (fName 13) bYes (tCallD T__law_draw_reference (aCons (tVarD 0) (aCons (tVarD 1) (aCons (tVarD 3) aNil)))) [13])) (sSeq (sAsg [9] (fName 10) (tCallD T__law_draw_key (aCons (tVarD 0) (aCons (tCallB lenD (aCons (tVarD 3) aNil)) aNil)))) (sRet (tTupD (aCons (tCallB tupleD (aCons (tVarD 3) aNil)) (aCons (tVarD 10) (aCons (tCallB tupleD (aCons (tComp (wAny (tVarD 9)) (fName 14) (bCmp notD (tVarD 14) (tCD .non)) (tVarD 14) [14]) aNil)) aNil)))))))
theorem m_tabRest {ts : List Tab} (hts : ∀ t ∈ ts, t.Ok) (hl : ts.length ≤ 10) {bs : List (Int × Int)} (hb : 1 ≤ bs.length ∧ bs.length ≤ 4) (hB : ∀ c ∈ bs, BOk c) {m : Int} {x4 x5 x6 x7 x8 : Option D} {n : Nat} {De : DE} (hn : n + 12 ≤ NN)
    (h : ∀ (t : Tab) (n' : Nat), Fine t → RefIn t ts.length → n ≤ n' → n' ≤ n + 12 → De.rt (tabD t) n') : tabRest De [some .pen, some (.tup (ts.map tabD)), some (.int m), some (.lst (bs.map colD)), x4, x5, x6, x7, x8, none, none, none, none, none, none] n := by
  have LL : LIM = 1000000 := rfl
  simp only [tabRest, sOwnP, tCompL, wRng1, sSeq, sNil, sIf, sRet, sRetN, tVarD, tCD, tOpD, tOp1D, tCallD, tCallB, aNil, aCons, bVal, bNot, bCmp, bOr, tTupD, sAsg, hide_nil, fTup, fsCons, fsNil, fName, Option.bind_some, List.set_cons_zero, List.set_cons_succ, List.map_cons, List.map_nil, List.length_cons, List.length_nil, List.getElem?_cons_zero, List.getElem?_cons_succ, Nat.zero_add, Nat.reduceAdd, Option.some.injEq, exists_eq_left', true_and, D.bl.injEq, Bool.not_true, Bool.not_false, Bool.false_eq_true, if_false, if_true, lenD_tup, List.length_map, subD_int]
  refine take_ok (by decide) (by decide) (by omega) fun r r0 r1 => ⟨r, rfl, by omega, by omega, ?_⟩
  have lr : (rangeD 0 r.toNat).length = r.toNat := by simp [rangeD]
  refine compD_inv (RefRes bs.length ts.length) 3 _ _ _ _ (fun d hd => ⟨_, rfl, fun n k hn' hk => ?_⟩) (by rw [lr]; omega) (by rw [lr]; simp; omega) fun ys n' l1 l2 l3 l4 => ?_
  · simp only [wipeE, sSeq, sNil, sIf, sRet, sRetN, tVarD, tCD, tOpD, tOp1D, tCallD, tCallB, aNil, aCons, bVal, bNot, bCmp, bOr, tTupD, sAsg, hide_nil, fTup, fsCons, fsNil, fName, Option.bind_some, List.set_cons_zero, List.set_cons_succ, List.map_cons, List.map_nil, List.length_cons, List.length_nil, List.getElem?_cons_zero, List.getElem?_cons_succ, Nat.zero_add, Nat.reduceAdd, Option.some.injEq, exists_eq_left', true_and, D.bl.injEq, Bool.not_true, Bool.not_false, Bool.false_eq_true, if_false, if_true, lenD_tup, List.length_map, subD_int]
    exact m_draw_reference hts (by omega) (by omega) hn' fun d n' hd h1 h2 => hk d n' hd h1 h2
  · rw [lr] at l1 l4
    refine ⟨pures_all fun d hd => refres_pure (l2 d (by simpa using hd)), by decide, ?_⟩
    have ln : lenD [.lst (bs.map colD)] = some (.int (bs.length : Nat)) := by simp [lenD]
    have hh : ∀ a0 a1 a2 a3 a4 a5 a6 a7 a8 a9 a10 a11 a12 a13 a14 : Option D, hide [9] [a0, a1, a2, a3, a4, a5, a6, a7, a8, a9, a10, a11, a12, a13, a14] = [a0, a1, a2, a3, a4, a5, a6, a7, a8, none, a10, a11, a12, a13, a14] := fun a0 a1 a2 a3 a4 a5 a6 a7 a8 a9 a10 a11 a12 a13 a14 => by simp [hide, hideFrom]
    simp only [List.nil_append, hh, ln, sSeq, sNil, sIf, sRet, sRetN, tVarD, tCD, tOpD, tOp1D, tCallD, tCallB, aNil, aCons, bVal, bNot, bCmp, bOr, tTupD, sAsg, hide_nil, fTup, fsCons, fsNil, fName, Option.bind_some, List.set_cons_zero, List.set_cons_succ, List.map_cons, List.map_nil, List.length_cons, List.length_nil, List.getElem?_cons_zero, List.getElem?_cons_succ, Nat.zero_add, Nat.reduceAdd, Option.some.injEq, exists_eq_left', true_and, D.bl.injEq, Bool.not_true, Bool.not_false, Bool.false_eq_true, if_false, if_true, lenD_tup, List.length_map, subD_int]
    refine m_draw_key (by omega) (by omega) (by omega) fun ks n2 k1 k2 k3 k4 k5 => ?_
    simp only [tupleD, tComp, wAny, sSeq, sNil, sIf, sRet, sRetN, tVarD, tCD, tOpD, tOp1D, tCallD, tCallB, aNil, aCons, bVal, bNot, bCmp, bOr, tTupD, sAsg, hide_nil, fTup, fsCons, fsNil, fName, Option.bind_some, List.set_cons_zero, List.set_cons_succ, List.map_cons, List.map_nil, List.length_cons, List.length_nil, List.getElem?_cons_zero, List.getElem?_cons_succ, Nat.zero_add, Nat.reduceAdd, Option.some.injEq, exists_eq_left', true_and, D.bl.injEq, Bool.not_true, Bool.not_false, Bool.false_eq_true, if_false, if_true, lenD_tup, List.length_map, subD_int]
    refine ⟨_, .inl rfl, ?_⟩
    refine compD_post (fun d => d ≠ .non ∧ RefRes bs.length ts.length d) (fun y => ∃ r : List Int × Int, y = refD r ∧ r.1.length ≤ 2 ∧ (∀ o ∈ r.1, 0 ≤ o ∧ o < bs.length) ∧ 0 ≤ r.2 ∧ r.2 < ts.length) _ _ _ _ (fun d hd => ⟨_, rfl, fun n k hk => ?_, fun n k hS hk => ?_⟩) (by simp; omega) fun zs z1 z2 => ?_
    · simp only [wipeE, notD, sSeq, sNil, sIf, sRet, sRetN, tVarD, tCD, tOpD, tOp1D, tCallD, tCallB, aNil, aCons, bVal, bNot, bCmp, bOr, tTupD, sAsg, hide_nil, fTup, fsCons, fsNil, fName, Option.bind_some, List.set_cons_zero, List.set_cons_succ, List.map_cons, List.map_nil, List.length_cons, List.length_nil, List.getElem?_cons_zero, List.getElem?_cons_succ, Nat.zero_add, Nat.reduceAdd, Option.some.injEq, exists_eq_left', true_and, D.bl.injEq, Bool.not_true, Bool.not_false, Bool.false_eq_true, if_false, if_true, lenD_tup, List.length_map, subD_int]
      refine hk _ fun hb => ⟨?_, l2 d hd⟩
      intro e
      rw [e] at hb
      cases hb
    · simp only [wipeE, sSeq, sNil, sIf, sRet, sRetN, tVarD, tCD, tOpD, tOp1D, tCallD, tCallB, aNil, aCons, bVal, bNot, bCmp, bOr, tTupD, sAsg, hide_nil, fTup, fsCons, fsNil, fName, Option.bind_some, List.set_cons_zero, List.set_cons_succ, List.map_cons, List.map_nil, List.length_cons, List.length_nil, List.getElem?_cons_zero, List.getElem?_cons_succ, Nat.zero_add, Nat.reduceAdd, Option.some.injEq, exists_eq_left', true_and, D.bl.injEq, Bool.not_true, Bool.not_false, Bool.false_eq_true, if_false, if_true, lenD_tup, List.length_map, subD_int]
      rcases hS.2 with e | ⟨os, j, rfl, q1, q2, q3, q4⟩
      · exact absurd e hS.1
      · exact hk _ ⟨(os, j), rfl, q1, q2, q3, q4⟩
    · obtain ⟨rs, rfl, hrs⟩ := list_of z2
      rw [List.nil_append]
      refine ⟨by omega, h ⟨bs, ks, rs⟩ n2 ⟨⟨hb, fun c hc => (hB c hc).2.1, ⟨k1, k2⟩, k3⟩, fun c hc => ⟨(hB c hc).1, (hB c hc).2.2⟩, ?_, fun r hr => ⟨(hrs r hr).1, fun o ho => ⟨((hrs r hr).2.1 o ho).1, by have := ((hrs r hr).2.1 o ho).2; omega⟩, (hrs r hr).2.2.1, by have := (hrs r hr).2.2.2; omega⟩⟩ (fun r hr => (hrs r hr).2) (by omega) (by omega)⟩
      rw [List.length_map] at z1
      show rs.length ≤ 2
      omega
def tabIf : TDS := sIf (bAnd (bCmp neD (tVarD 4) (tLstD aNil)) (bCmp gtD (tCallD takeD (aCons (tVarD 0) (aCons (tCD (.int 4)) aNil))) (tCD (.int 0)))) (sSeq (sAsg [3] (fName 5) (tOpD ixD (tVarD 1) (tCallD T__law_one_of (aCons (tVarD 0) (aCons (tVarD 4) aNil))))) (sSeq (sAsgP (fName 6) (tCallB intD (aCons (tOpD gtD (tCallB lenD (aCons (tVarD 3) aNil)) (tCallB lenD (aCons (tOpD ixD (tVarD 5) (tCD (.int 1))) aNil))) aNil))) (sForP (wEnumP (aCons (tSlD (tOpD ixD (tVarD 5) (tCD (.int 1))) oNone (oSome (tCallB lenD (aCons (tVarD 3) aNil)))) aNil)) (fTup 2 (fsCons (fName 7) (fsCons (fName 8) fsNil))) (sSet 3 (tOpD ixD (tOpD ixD (tVarD 5) (tCD (.int 0))) (tVarD 8)) (tOpD addD (tVarD 7) (tVarD 6)))))) sNil
theorem table_eq : T__law_draw_table = fnD 3 15 (sSeq (sOwn [] 3 (tCompL (wRng1 (aCons (tOpD addD (tCD (.int 1)) (tCallD takeD (aCons (tVarD 0) (aCons (tVarD 2) aNil)))) aNil)) (fName 7) bYes (tCallD T__law_draw_bounds (aCons (tVarD 0) aNil)) [7])) (sSeq (sAsg [3] (fName 4) (tL (tCompL (wEnum (aCons (tVarD 1) aNil)) (fTup 2 (fsCons (fName 11) (fsCons (fName 12) fsNil))) (bCmp eqD (tOpD ixD (tVarD 12) (tCD (.int 2))) (tTupD aNil)) (tVarD 11) [11, 12]))) (sSeq tabIf tabRest))) := rfl
theorem m_tabIf {ts : List Tab} (hts : ∀ t ∈ ts, Fine t) (hl : ts.length ≤ 10) {bs : List (Int × Int)} (hb : 1 ≤ bs.length ∧ bs.length ≤ 4) (hB : ∀ c ∈ bs, BOk c) {js : List Int} (hj : ∀ j ∈ js, 0 ≤ j ∧ j < ts.length) (hjl : js.length ≤ 10) {m : Int} {n : Nat} {De : DE} (hn : n + 2 ≤ NN)
    (h : ∀ (bs' : List (Int × Int)) (x5 x6 x7 x8 : Option D) (n' : Nat), bs'.length = bs.length → (∀ c ∈ bs', BOk c) → n ≤ n' → n' ≤ n + 2 → De.nx [some .pen, some (.tup (ts.map tabD)), some (.int m), some (.lst (bs'.map colD)), some (.lst (js.map D.int)), x5, x6, x7, x8, none, none, none, none, none, none] n') :
    tabIf De [some .pen, some (.tup (ts.map tabD)), some (.int m), some (.lst (bs.map colD)), some (.lst (js.map D.int)), none, none, none, none, none, none, none, none, none, none] n := by
  have LL : LIM = 1000000 := rfl
  have t0 : ∀ t, ixD (tabD t) (.int 0) = some (.tup (t.cols.map colD)) := fun _ => rfl
  have t1 : ∀ t, ixD (tabD t) (.int 1) = some (.tup (t.key.map D.int)) := fun _ => rfl
  simp only [tabIf, bAnd, tLstD, ints_ne, sSeq, sNil, sIf, sRet, sRetN, tVarD, tCD, tOpD, tOp1D, tCallD, tCallB, aNil, aCons, bVal, bNot, bCmp, bOr, tTupD, sAsg, hide_nil, fTup, fsCons, fsNil, fName, Option.bind_some, List.set_cons_zero, List.set_cons_succ, List.map_cons, List.map_nil, List.length_cons, List.length_nil, List.getElem?_cons_zero, List.getElem?_cons_succ, Nat.zero_add, Nat.reduceAdd, Option.some.injEq, exists_eq_left', true_and, D.bl.injEq, Bool.not_true, Bool.not_false, Bool.false_eq_true, if_false, if_true, lenD_tup, List.length_map, subD_int]
  refine ⟨by omega, ?_⟩
  cases he : js.isEmpty with
  | true =>
    simp only [Bool.not_true, Bool.false_eq_true, if_false]
    exact h bs _ _ _ _ n rfl hB (by omega) (by omega)
  | false =>
    simp only [Bool.not_false, if_true]
    refine take_ok (by decide) (by decide) (by omega) fun k k0 k1 => ?_
    simp only [gtD_int, sSeq, sNil, sIf, sRet, sRetN, tVarD, tCD, tOpD, tOp1D, tCallD, tCallB, aNil, aCons, bVal, bNot, bCmp, bOr, tTupD, sAsg, hide_nil, fTup, fsCons, fsNil, fName, Option.bind_some, List.set_cons_zero, List.set_cons_succ, List.map_cons, List.map_nil, List.length_cons, List.length_nil, List.getElem?_cons_zero, List.getElem?_cons_succ, Nat.zero_add, Nat.reduceAdd, Option.some.injEq, exists_eq_left', true_and, D.bl.injEq, Bool.not_true, Bool.not_false, Bool.false_eq_true, if_false, if_true, lenD_tup, List.length_map, subD_int]
    by_cases hk : 0 < k
    · simp only [hk, decide_true, if_true]
      have hh : ∀ a0 a1 a2 a3 a4 a5 a6 a7 a8 a9 a10 a11 a12 a13 a14 : Option D, hide [3] [a0, a1, a2, a3, a4, a5, a6, a7, a8, a9, a10, a11, a12, a13, a14] = [a0, a1, a2, none, a4, a5, a6, a7, a8, a9, a10, a11, a12, a13, a14] := fun a0 a1 a2 a3 a4 a5 a6 a7 a8 a9 a10 a11 a12 a13 a14 => by simp [hide, hideFrom]
      simp only [hh, sSeq, sNil, sIf, sRet, sRetN, tVarD, tCD, tOpD, tOp1D, tCallD, tCallB, aNil, aCons, bVal, bNot, bCmp, bOr, tTupD, sAsg, hide_nil, fTup, fsCons, fsNil, fName, Option.bind_some, List.set_cons_zero, List.set_cons_succ, List.map_cons, List.map_nil, List.length_cons, List.length_nil, List.getElem?_cons_zero, List.getElem?_cons_succ, Nat.zero_add, Nat.reduceAdd, Option.some.injEq, exists_eq_left', true_and, D.bl.injEq, Bool.not_true, Bool.not_false, Bool.false_eq_true, if_false, if_true, lenD_tup, List.length_map, subD_int]
      refine one_int (by
        intro e
        rw [e] at he
        cases he) (by omega) (by omega) fun j hjm => ?_
      obtain ⟨j0, j1⟩ := hj j hjm
      have fine := hts _ (ix_mem j0 j1)
      have ok := fine.ok
      have ln : lenD [.lst (bs.map colD)] = some (.int (bs.length : Nat)) := by simp [lenD]
      have iB : ∀ b : Bool, DL.intD [.bl b] = some (.int (if b then 1 else 0)) := fun _ => rfl
      simp only [tab_at j0 j1, sAsgP, t1, ln, gtD_int, iB, sSeq, sNil, sIf, sRet, sRetN, tVarD, tCD, tOpD, tOp1D, tCallD, tCallB, aNil, aCons, bVal, bNot, bCmp, bOr, tTupD, sAsg, hide_nil, fTup, fsCons, fsNil, fName, Option.bind_some, List.set_cons_zero, List.set_cons_succ, List.map_cons, List.map_nil, List.length_cons, List.length_nil, List.getElem?_cons_zero, List.getElem?_cons_succ, Nat.zero_add, Nat.reduceAdd, Option.some.injEq, exists_eq_left', true_and, D.bl.injEq, Bool.not_true, Bool.not_false, Bool.false_eq_true, if_false, if_true, lenD_tup, List.length_map, subD_int]
      refine ⟨rfl, ?_⟩
      simp only [sForP, wEnumP, tSlD, oNone, oSome, t1, ln, sSeq, sNil, sIf, sRet, sRetN, tVarD, tCD, tOpD, tOp1D, tCallD, tCallB, aNil, aCons, bVal, bNot, bCmp, bOr, tTupD, sAsg, hide_nil, fTup, fsCons, fsNil, fName, Option.bind_some, List.set_cons_zero, List.set_cons_succ, List.map_cons, List.map_nil, List.length_cons, List.length_nil, List.getElem?_cons_zero, List.getElem?_cons_succ, Nat.zero_add, Nat.reduceAdd, Option.some.injEq, exists_eq_left', true_and, D.bl.injEq, Bool.not_true, Bool.not_false, Bool.false_eq_true, if_false, if_true, lenD_tup, List.length_map, subD_int]
      have c1 : DL.cutD (.tup ((ix ts j).key.map D.int)) none (some ((bs.length : Nat) : Int)) = some (.tup (((ix ts j).key.take bs.length).map D.int)) := by
        show some (D.tup (DL.cutL ((ix ts j).key.map D.int) none (some ((bs.length : Nat) : Int)))) = _
        rw [cutL_map, cut_front]
      refine ⟨_, rfl, _, c1, _, rfl, pure_ints _, ?_⟩
      have hkl := ok.keyLen
      refine forD_inv (all := enumD 0 (((ix ts j).key.take bs.length).map D.int)) (fun i ρ n' => ∃ (bs' : List (Int × Int)) (x7 x8 : Option D), ρ = [some .pen, some (.tup (ts.map tabD)), some (.int m), some (.lst (bs'.map colD)), some (.lst (js.map D.int)), some (tabD (ix ts j)), some (.int (if decide (((ix ts j).key.length : Int) < (bs.length : Int)) = true then 1 else 0)), x7, x8, none, none, none, none, none, none] ∧ bs'.length = bs.length ∧ (∀ c ∈ bs', BOk c) ∧ n' = n + 1 + 1) ?_ ?_ _ 0 _ _ rfl (Nat.zero_le _) ⟨bs, none, none, rfl, rfl, hB, rfl⟩
      · rintro i d hd ρ n' ⟨bs', x7, x8, rfl, hl', hB', rfl⟩
        rw [enumD_get, List.getElem?_map] at hd
        obtain ⟨d', hd', rfl⟩ := Option.map_eq_some_iff.mp hd
        obtain ⟨o, ho, rfl⟩ := Option.map_eq_some_iff.mp hd'
        have hi := (List.getElem?_eq_some_iff.mp ho).1
        rw [List.length_take] at hi
        obtain ⟨o0, o1⟩ := ok.keyIn o (List.mem_of_mem_take (List.mem_of_getElem? ho))
        refine ⟨_, rfl, fun De' _ _ hnx _ => ?_⟩
        simp only [sSet, t0, col_at o0 o1, addD_int, sSeq, sNil, sIf, sRet, sRetN, tVarD, tCD, tOpD, tOp1D, tCallD, tCallB, aNil, aCons, bVal, bNot, bCmp, bOr, tTupD, sAsg, hide_nil, fTup, fsCons, fsNil, fName, Option.bind_some, List.set_cons_zero, List.set_cons_succ, List.map_cons, List.map_nil, List.length_cons, List.length_nil, List.getElem?_cons_zero, List.getElem?_cons_succ, Nat.zero_add, Nat.reduceAdd, Option.some.injEq, exists_eq_left', true_and, D.bl.injEq, Bool.not_true, Bool.not_false, Bool.false_eq_true, if_false, if_true, lenD_tup, List.length_map, subD_int]
        have e2 : ixN (bs'.map colD).length (((0 + i : Nat) : Int) + (if decide (((ix ts j).key.length : Int) < (bs.length : Int)) = true then 1 else 0)) = some (((0 + i : Nat) : Int) + (if decide (((ix ts j).key.length : Int) < (bs.length : Int)) = true then 1 else 0)).toNat := by
          unfold ixN
          rw [List.length_map, hl']
          by_cases hc : ((ix ts j).key.length : Int) < (bs.length : Int)
          · simp only [hc, decide_true, if_true]
            rw [if_pos (by omega), if_pos (by omega)]
          · simp only [hc, decide_false, Bool.false_eq_true, if_false]
            rw [if_pos (by omega), if_pos (by omega)]
        rw [Nat.zero_add] at e2
        refine ⟨rfl, _, _, _, rfl, rfl, e2, hnx _ _ ⟨bs'.set _ (ix (ix ts j).cols o), _, _, by rw [List.map_set], by rw [List.length_set]; exact hl', fun c hc => ?_, rfl⟩⟩
        rcases List.mem_or_eq_of_mem_set hc with hc | rfl
        · exact hB' c hc
        · have hm := ix_mem o0 o1
          exact ⟨(fine.cb _ hm).1, ok.low _ hm, (fine.cb _ hm).2⟩
      · rintro ρ n' ⟨bs', x7, x8, rfl, hl', hB', rfl⟩
        exact h bs' _ _ _ _ _ hl' hB' (by omega) (by omega)
    · simp only [hk, decide_false, Bool.false_eq_true, if_false]
      exact h bs _ _ _ _ _ rfl hB (by omega) (by omega)
theorem m_draw_table {ts : List Tab} (hts : ∀ t ∈ ts, Fine t) (hl : ts.length ≤ 10) {m : Int} (hm : 0 < m ∧ m ≤ 4) {n : Nat} {q : QD} (hn : n + 40 ≤ NN) (h : ∀ (t : Tab) (n' : Nat), Fine t → RefIn t ts.length → n ≤ n' → n' ≤ n + 40 → q (tabD t) n') : T__law_draw_table [.pen, .tup (ts.map tabD), .int m] n q := by
  have LL : LIM = 1000000 := rfl
  have t2 : ∀ t, ixD (tabD t) (.int 2) = some (.tup (t.refs.map refD)) := fun _ => rfl
  rw [table_eq]
  simp only [fnD, startE, List.replicate, List.cons_append, List.nil_append, Nat.reduceSub, sOwn, tCompL, wRng1, sSeq, sNil, sIf, sRet, sRetN, tVarD, tCD, tOpD, tOp1D, tCallD, tCallB, aNil, aCons, bVal, bNot, bCmp, bOr, tTupD, sAsg, hide_nil, fTup, fsCons, fsNil, fName, Option.bind_some, List.set_cons_zero, List.set_cons_succ, List.map_cons, List.map_nil, List.length_cons, List.length_nil, List.getElem?_cons_zero, List.getElem?_cons_succ, Nat.zero_add, Nat.reduceAdd, Option.some.injEq, exists_eq_left', true_and, D.bl.injEq, Bool.not_true, Bool.not_false, Bool.false_eq_true, if_false, if_true, lenD_tup, List.length_map, subD_int]
  refine take_ok hm.1 (by omega) (by omega) fun r r0 r1 => ?_
  simp only [addD_int, sSeq, sNil, sIf, sRet, sRetN, tVarD, tCD, tOpD, tOp1D, tCallD, tCallB, aNil, aCons, bVal, bNot, bCmp, bOr, tTupD, sAsg, hide_nil, fTup, fsCons, fsNil, fName, Option.bind_some, List.set_cons_zero, List.set_cons_succ, List.map_cons, List.map_nil, List.length_cons, List.length_nil, List.getElem?_cons_zero, List.getElem?_cons_succ, Nat.zero_add, Nat.reduceAdd, Option.some.injEq, exists_eq_left', true_and, D.bl.injEq, Bool.not_true, Bool.not_false, Bool.false_eq_true, if_false, if_true, lenD_tup, List.length_map, subD_int]
  refine ⟨1 + r, rfl, by omega, by omega, ?_⟩
  have lr : (rangeD 0 (1 + r).toNat).length = (1 + r).toNat := by simp [rangeD]
  refine compD_inv (fun y => ∃ c : Int × Int, y = colD c ∧ BOk c) 4 _ _ _ _ (fun d hd => ⟨_, rfl, fun n k hn' hk => ?_⟩) (by rw [lr]; omega) (by rw [lr]; simp; omega) fun ys n' l1 l2 l3 l4 => ?_
  · simp only [wipeE, sSeq, sNil, sIf, sRet, sRetN, tVarD, tCD, tOpD, tOp1D, tCallD, tCallB, aNil, aCons, bVal, bNot, bCmp, bOr, tTupD, sAsg, hide_nil, fTup, fsCons, fsNil, fName, Option.bind_some, List.set_cons_zero, List.set_cons_succ, List.map_cons, List.map_nil, List.length_cons, List.length_nil, List.getElem?_cons_zero, List.getElem?_cons_succ, Nat.zero_add, Nat.reduceAdd, Option.some.injEq, exists_eq_left', true_and, D.bl.injEq, Bool.not_true, Bool.not_false, Bool.false_eq_true, if_false, if_true, lenD_tup, List.length_map, subD_int]
    exact m_draw_bounds hn' fun a b n' h1 h2 h3 h4 h5 => hk _ _ ⟨(a, b), rfl, h1, h2, h3⟩ h4 h5
  · rw [lr] at l1 l4
    obtain ⟨bs, rfl, hB⟩ := list_of l2
    rw [List.length_map] at l1
    rw [List.nil_append]
    refine ⟨by decide, ?_⟩
    have hh : ∀ a0 a1 a2 a3 a4 a5 a6 a7 a8 a9 a10 a11 a12 a13 a14 : Option D, hide [3] [a0, a1, a2, a3, a4, a5, a6, a7, a8, a9, a10, a11, a12, a13, a14] = [a0, a1, a2, none, a4, a5, a6, a7, a8, a9, a10, a11, a12, a13, a14] := fun a0 a1 a2 a3 a4 a5 a6 a7 a8 a9 a10 a11 a12 a13 a14 => by simp [hide, hideFrom]
    simp only [hh, tL, tCompL, wEnum, sSeq, sNil, sIf, sRet, sRetN, tVarD, tCD, tOpD, tOp1D, tCallD, tCallB, aNil, aCons, bVal, bNot, bCmp, bOr, tTupD, sAsg, hide_nil, fTup, fsCons, fsNil, fName, Option.bind_some, List.set_cons_zero, List.set_cons_succ, List.map_cons, List.map_nil, List.length_cons, List.length_nil, List.getElem?_cons_zero, List.getElem?_cons_succ, Nat.zero_add, Nat.reduceAdd, Option.some.injEq, exists_eq_left', true_and, D.bl.injEq, Bool.not_true, Bool.not_false, Bool.false_eq_true, if_false, if_true, lenD_tup, List.length_map, subD_int]
    rw [ee]
    refine m_some (by omega) (fun i t => ⟨_, rfl, fun n k hk => ?_, fun n k hk => ?_⟩) fun js j1 j2 => ?_
    · simp only [wipeE, t2, eq_none, sSeq, sNil, sIf, sRet, sRetN, tVarD, tCD, tOpD, tOp1D, tCallD, tCallB, aNil, aCons, bVal, bNot, bCmp, bOr, tTupD, sAsg, hide_nil, fTup, fsCons, fsNil, fName, Option.bind_some, List.set_cons_zero, List.set_cons_succ, List.map_cons, List.map_nil, List.length_cons, List.length_nil, List.getElem?_cons_zero, List.getElem?_cons_succ, Nat.zero_add, Nat.reduceAdd, Option.some.injEq, exists_eq_left', true_and, D.bl.injEq, Bool.not_true, Bool.not_false, Bool.false_eq_true, if_false, if_true, lenD_tup, List.length_map, subD_int]
      exact ⟨by omega, hk _⟩
    · simp only [wipeE, sSeq, sNil, sIf, sRet, sRetN, tVarD, tCD, tOpD, tOp1D, tCallD, tCallB, aNil, aCons, bVal, bNot, bCmp, bOr, tTupD, sAsg, hide_nil, fTup, fsCons, fsNil, fName, Option.bind_some, List.set_cons_zero, List.set_cons_succ, List.map_cons, List.map_nil, List.length_cons, List.length_nil, List.getElem?_cons_zero, List.getElem?_cons_succ, Nat.zero_add, Nat.reduceAdd, Option.some.injEq, exists_eq_left', true_and, D.bl.injEq, Bool.not_true, Bool.not_false, Bool.false_eq_true, if_false, if_true, lenD_tup, List.length_map, subD_int]
      exact hk
    refine m_tabIf hts hl (bs := bs) (by omega) hB j2 (by omega) (by omega) fun bs' x5 x6 x7 x8 n2 b1 b2 b3 b4 => ?_
    refine m_tabRest (fun t ht => (hts t ht).ok) hl (by omega) b2 (by omega) fun t n3 hF hR h1 h2 => h t n3 hF hR (by omega) (by omega)
theorem add_tup {xs ys : List D} (h : xs.length + ys.length ≤ LIM) : addD (.tup xs) (.tup ys) = some (.tup (xs ++ ys)) := by
  unfold addD orD arI catT
  simp [h]
def SchD (d : D) : Prop := ∃ ts : List Tab, d = .tup (ts.map tabD) ∧ 1 ≤ ts.length ∧ ts.length ≤ 4 ∧ ∀ t ∈ ts, Fine t
theorem m_draw_schemeR {mm cc : Int} (hmm : 0 < mm ∧ mm ≤ 4) (hcc : 0 < cc ∧ cc ≤ 4) {n : Nat} {q : QD} (hn : n + 200 ≤ NN) (h : ∀ (ts : List Tab) n', 1 ≤ ts.length → ts.length ≤ 4 → (∀ t ∈ ts, Fine t) → (∀ t ∈ ts, RefIn t ts.length) → n ≤ n' → n' ≤ n + 200 → q (.tup (ts.map tabD)) n') : T__law_draw_scheme [.pen, .int mm, .int cc] n q := by
  have LL : LIM = 1000000 := rfl
  simp only [T__law_draw_scheme, fnD, startE, List.replicate, List.cons_append, List.nil_append, Nat.reduceSub, sFor, wRng1, sSeq, sNil, sIf, sRet, sRetN, tVarD, tCD, tOpD, tOp1D, tCallD, tCallB, aNil, aCons, bVal, bNot, bCmp, bOr, tTupD, sAsg, hide_nil, fTup, fsCons, fsNil, fName, Option.bind_some, List.set_cons_zero, List.set_cons_succ, List.map_cons, List.map_nil, List.length_cons, List.length_nil, List.getElem?_cons_zero, List.getElem?_cons_succ, Nat.zero_add, Nat.reduceAdd, Option.some.injEq, exists_eq_left', true_and, D.bl.injEq, Bool.not_true, Bool.not_false, Bool.false_eq_true, if_false, if_true, lenD_tup, List.length_map, subD_int]
  refine ⟨by omega, take_ok hmm.1 (by omega) (by omega) fun r r0 r1 => ?_⟩
  simp only [addD_int, sSeq, sNil, sIf, sRet, sRetN, tVarD, tCD, tOpD, tOp1D, tCallD, tCallB, aNil, aCons, bVal, bNot, bCmp, bOr, tTupD, sAsg, hide_nil, fTup, fsCons, fsNil, fName, Option.bind_some, List.set_cons_zero, List.set_cons_succ, List.map_cons, List.map_nil, List.length_cons, List.length_nil, List.getElem?_cons_zero, List.getElem?_cons_succ, Nat.zero_add, Nat.reduceAdd, Option.some.injEq, exists_eq_left', true_and, D.bl.injEq, Bool.not_true, Bool.not_false, Bool.false_eq_true, if_false, if_true, lenD_tup, List.length_map, subD_int]
  refine ⟨1 + r, rfl, by omega, by omega, ?_⟩
  have lr : (rangeD 0 (1 + r).toNat).length = (1 + r).toNat := by simp [rangeD]
  refine forD_inv (all := rangeD 0 (1 + r).toNat) (fun i ρ n' => ∃ (ts : List Tab) (x4 : Option D), ρ = [some .pen, some (.int mm), some (.int cc), some (.tup (ts.map tabD)), x4] ∧ ts.length = i ∧ (∀ t ∈ ts, Fine t) ∧ (∀ t ∈ ts, RefIn t ts.length) ∧ n + 1 ≤ n' ∧ n' ≤ n + 1 + 40 * i) ?_ ?_ _ 0 _ _ rfl (Nat.zero_le _) ⟨[], none, rfl, rfl, by simp, by simp, by omega, by omega⟩
  · rintro i d hd ρ n' ⟨ts, x4, rfl, hl, hF, hR, n0, n1⟩
    have hi := (List.getElem?_eq_some_iff.mp hd).1
    rw [lr] at hi
    refine ⟨_, rfl, fun De _ _ hnx _ => ?_⟩
    simp only [catT, sSeq, sNil, sIf, sRet, sRetN, tVarD, tCD, tOpD, tOp1D, tCallD, tCallB, aNil, aCons, bVal, bNot, bCmp, bOr, tTupD, sAsg, hide_nil, fTup, fsCons, fsNil, fName, Option.bind_some, List.set_cons_zero, List.set_cons_succ, List.map_cons, List.map_nil, List.length_cons, List.length_nil, List.getElem?_cons_zero, List.getElem?_cons_succ, Nat.zero_add, Nat.reduceAdd, Option.some.injEq, exists_eq_left', true_and, D.bl.injEq, Bool.not_true, Bool.not_false, Bool.false_eq_true, if_false, if_true, lenD_tup, List.length_map, subD_int]
    refine m_draw_table hF (by omega) hcc (by omega) fun t n2 hFt hRt h1 h2 => ?_
    refine ⟨by omega, _, add_tup (by rw [List.length_map]; simp; omega), ?_⟩
    have e : ts.map tabD ++ [tabD t] = (ts ++ [t]).map tabD := by simp
    rw [e]
    refine hnx _ _ ⟨ts ++ [t], _, rfl, by simp [hl], fun u hu => ?_, fun u hu => ?_, by omega, by rw [Nat.mul_add]; omega⟩
    · rcases List.mem_append.mp hu with hu | hu
      · exact hF u hu
      · rw [List.mem_singleton.mp hu]
        exact hFt
    · rw [List.length_append]
      rcases List.mem_append.mp hu with hu | hu
      · exact (hR u hu).mono (by omega)
      · rw [List.mem_singleton.mp hu]
        exact hRt.mono (by omega)
  · rintro ρ n' ⟨ts, x4, rfl, hl, hF, hR, n0, n1⟩
    rw [lr] at hl n1
    simp only [hl, sSeq, sNil, sIf, sRet, sRetN, tVarD, tCD, tOpD, tOp1D, tCallD, tCallB, aNil, aCons, bVal, bNot, bCmp, bOr, tTupD, sAsg, hide_nil, fTup, fsCons, fsNil, fName, Option.bind_some, List.set_cons_zero, List.set_cons_succ, List.map_cons, List.map_nil, List.length_cons, List.length_nil, List.getElem?_cons_zero, List.getElem?_cons_succ, Nat.zero_add, Nat.reduceAdd, Option.some.injEq, exists_eq_left', true_and, D.bl.injEq, Bool.not_true, Bool.not_false, Bool.false_eq_true, if_false, if_true, lenD_tup, List.length_map, subD_int]
    exact h ts _ (by omega) (by omega) hF hR (by omega) (by omega)
theorem m_draw_schemeG {mm cc : Int} (hmm : 0 < mm ∧ mm ≤ 4) (hcc : 0 < cc ∧ cc ≤ 4) {n : Nat} {q : QD} (hn : n + 200 ≤ NN) (h : ∀ d n', SchD d → n ≤ n' → n' ≤ n + 200 → q d n') : T__law_draw_scheme [.pen, .int mm, .int cc] n q :=
  m_draw_schemeR hmm hcc hn fun ts n' h1 h2 h3 _ h4 h5 => h _ n' ⟨ts, rfl, h1, h2, h3⟩ h4 h5
theorem m_draw_scheme {n : Nat} {q : QD} (hn : n + 200 ≤ NN) (h : ∀ d n', SchD d → n ≤ n' → n' ≤ n + 200 → q d n') : T__law_draw_scheme [.pen, .int 4, .int 4] n q := m_draw_schemeG (by decide) (by decide) hn h
end K10
set_option maxHeartbeats 8000000
namespace DL
open PySem PySem.Spec PyProof.Rows L2
/-- how big: short leaves, so many things, so deep -/
structure VL (w k : Nat) (ds : List D) : Prop where
  lf : PyData.leavesShortAll 80 (toPys ds) = true
  sh : PyData.showableAll (toPys ds) = true
  wt : PyData.weightAll (toPys ds) ≤ w
  dp : PyData.depthAll (toPys ds) ≤ k
structure VD (w k : Nat) (d : D) : Prop where
  lf : (toPy d).leavesShort 80 = true
  sh : (toPy d).showable = true
  wt : (toPy d).weight ≤ w
  dp : (toPy d).depth ≤ k
theorem VL.nil (k : Nat) : VL 0 k [] := ⟨rfl, rfl, Nat.le_refl _, Nat.zero_le _⟩
theorem VL.cons {w w' k : Nat} {d : D} {ds : List D} (h : VD w k d) (hs : VL w' k ds) : VL (w + 1 + w') k (d :: ds) := by
  refine ⟨?_, ?_, ?_, ?_⟩
  · simp only [toPys, PyData.leavesShortAll, h.lf, hs.lf, Bool.and_self]
  · simp only [toPys, PyData.showableAll, h.sh, hs.sh, Bool.and_self]
  · have := h.wt
    have := hs.wt
    simp only [toPys, PyData.weightAll]
    omega
  · have := h.dp
    have := hs.dp
    simp only [toPys, PyData.depthAll]
    omega
theorem VL.head {w k : Nat} {d : D} {ds : List D} (h : VL w k (d :: ds)) : VD w k d ∧ VL (w - (toPy d).weight - 1) k ds ∧ (toPy d).weight + 1 ≤ w := by
  obtain ⟨h1, h2, h3, h4⟩ := h
  simp only [toPys, PyData.leavesShortAll, Bool.and_eq_true] at h1
  simp only [toPys, PyData.showableAll, Bool.and_eq_true] at h2
  simp only [toPys, PyData.weightAll] at h3
  simp only [toPys, PyData.depthAll] at h4
  exact ⟨⟨h1.1, h2.1, by omega, by omega⟩, ⟨h1.2, h2.2, by omega, by omega⟩, by omega⟩
theorem VL.mono {w w' k k' : Nat} {ds : List D} (h : VL w k ds) (h1 : w ≤ w') (h2 : k ≤ k') : VL w' k' ds := ⟨h.lf, h.sh, Nat.le_trans h.wt h1, Nat.le_trans h.dp h2⟩
theorem VD.mono {w w' k k' : Nat} {ds : D} (h : VD w k ds) (h1 : w ≤ w') (h2 : k ≤ k') : VD w' k' ds := ⟨h.lf, h.sh, Nat.le_trans h.wt h1, Nat.le_trans h.dp h2⟩
theorem VL.append {k : Nat} : ∀ {w w' : Nat} {ds es : List D}, VL w k ds → VL w' k es → VL (w + w') k (ds ++ es)
  | w, w', [], es, h, h' => h'.mono (by omega) (Nat.le_refl _)
  | w, w', d :: ds, es, h, h' => by
    obtain ⟨h1, h2, h3⟩ := VL.head h
    have := VL.append h2 h'
    have h4 : VD (toPy d).weight k d := ⟨h1.lf, h1.sh, Nat.le_refl _, h1.dp⟩
    exact (VL.cons h4 this).mono (by omega) (Nat.le_refl _)
theorem VL.of_mem {w k : Nat} : ∀ {ds : List D} {d : D}, VL w k ds → d ∈ ds → VD w k d
  | e :: ds, d, h, hm => by
    obtain ⟨h1, h2, h3⟩ := VL.head h
    rcases List.mem_cons.mp hm with rfl | hm
    · exact h1
    · exact (VL.of_mem h2 hm).mono (by omega) (Nat.le_refl _)
theorem VL.split {w k : Nat} : ∀ {ds es : List D}, VL w k (ds ++ es) → ∃ w1 w2, VL w1 k ds ∧ VL w2 k es ∧ w1 + w2 ≤ w
  | [], es, h => ⟨0, w, VL.nil k, h, by omega⟩
  | d :: ds, es, h => by
    obtain ⟨h1, h2, h3⟩ := VL.head h
    obtain ⟨w1, w2, h4, h5, h6⟩ := VL.split h2
    exact ⟨(toPy d).weight + 1 + w1, w2, VL.cons ⟨h1.lf, h1.sh, Nat.le_refl _, h1.dp⟩ h4, h5, by omega⟩
theorem VL.len {w k : Nat} : ∀ {ds : List D}, VL w k ds → ds.length ≤ w
  | [], _ => Nat.zero_le _
  | d :: ds, h => by
    obtain ⟨h1, h2, h3⟩ := VL.head h
    have := VL.len h2
    simp only [List.length_cons]
    omega
theorem VL.tup {w k : Nat} {ds : List D} (h : VL w k ds) : VD w (k + 1) (.tup ds) :=
  ⟨by simpa only [toPy, PyData.leavesShort] using h.lf, by simpa only [toPy, PyData.showable] using h.sh, by simpa only [toPy, PyData.weight] using h.wt, by
    have := h.dp
    simp only [toPy, PyData.depth]
    omega⟩
theorem VL.lst {w k : Nat} {ds : List D} (h : VL w k ds) : VD w (k + 1) (.lst ds) :=
  ⟨by simpa only [toPy, PyData.leavesShort] using h.lf, by simpa only [toPy, PyData.showable] using h.sh, by simpa only [toPy, PyData.weight] using h.wt, by
    have := h.dp
    simp only [toPy, PyData.depth]
    omega⟩
theorem VD.tup {w k : Nat} {ds : List D} (h : VD w (k + 1) (.tup ds)) : VL w k ds :=
  ⟨by simpa only [toPy, PyData.leavesShort] using h.lf, by simpa only [toPy, PyData.showable] using h.sh, by simpa only [toPy, PyData.weight] using h.wt, by
    have := h.dp
    simp only [toPy, PyData.depth] at this
    omega⟩
theorem log_bits {i : Int} (h : i.natAbs ≤ 10 ^ 20) : (if i == 0 then 0 else i.natAbs.log2 + 1) ≤ 68 ∧ i.natAbs.log2 < 1920 := by
  have h1 : i.natAbs.log2 < 68 := by
    by_cases h0 : i.natAbs = 0
    · rw [h0]
      decide
    · exact (Nat.log2_lt h0).mpr (Nat.lt_of_le_of_lt h (by decide))
  constructor
  · split <;> omega
  · omega
theorem vd_int {i : Int} (h : i.natAbs ≤ 10 ^ 20) (k : Nat) : VD 68 k (.int i) := by
  obtain ⟨h1, h2⟩ := log_bits h
  refine ⟨?_, ?_, ?_, ?_⟩
  · simp only [toPy, PyData.leavesShort]
    refine decide_eq_true ?_
    have e := int_text_length_le10 (a := i) (k := 21) (by decide) (Nat.lt_of_le_of_lt h (by decide))
    show (Str.ofString (toString i)).length ≤ 80
    rw [PySem.ofString_length]
    omega
  · simp only [toPy, PyData.showable]
    exact decide_eq_true h2
  · simp only [toPy, PyData.weight]
    exact h1
  · simp [toPy, PyData.depth]
theorem vd_small {i : Int} (h : i.natAbs ≤ 2 ^ 21) (k : Nat) : VD 22 k (.int i) := by
  have h0 := vd_int (i := i) (Nat.le_trans h (by decide)) k
  refine ⟨h0.lf, h0.sh, ?_, h0.dp⟩
  simp only [toPy, PyData.weight]
  split
  · omega
  · have : i.natAbs.log2 < 22 := by
      by_cases h1 : i.natAbs = 0
      · rw [h1]
        decide
      · exact (Nat.log2_lt h1).mpr (Nat.lt_of_le_of_lt h (by decide))
    omega
theorem vd_non (k : Nat) : VD 0 k .non := ⟨rfl, rfl, by simp [toPy, PyData.weight], by simp [toPy, PyData.depth]⟩
theorem vd_bl (b : Bool) (k : Nat) : VD 0 k (.bl b) := ⟨rfl, rfl, by simp [toPy, PyData.weight], by simp [toPy, PyData.depth]⟩
theorem vd_dct (k : Nat) : VD 0 (k + 1) (.dct []) := ⟨rfl, rfl, by simp [toPy, PyData.weight, PyData.weightKv], by simp [toPy, PyData.depth, PyData.depthKv]⟩
/-- what repr may be asked of -/
theorem repD_ok {w k : Nat} {d : D} (h : VD w k d) (hw : w ≤ 12000) (hk : k ≤ 100) (hn : noD d = true ∨ nlD d = true) : repD d = true := by
  have h1 := PyData.shown_le 80 (by decide) (toPy d) h.lf
  have h2 := h.wt
  have h3 := h.dp
  have LL : LIM = 1000000 := rfl
  unfold repD
  have : (noD d || nlD d) = true := by
    rcases hn with e | e <;> simp [e]
  rw [this, h.sh, decide_eq_true (show (toPy d).depth ≤ 100 by omega), decide_eq_true (show (toPy d).shown.length ≤ LIM by omega)]
  rfl
end DL
set_option maxHeartbeats 8000000
namespace K10
open PySem PySem.Spec PyProof.Rows L2 DL
/-- what is drawn may be handed in: repr may be asked -/
def Any (w k : Nat) (d : D) : Prop := VD w k d ∧ (noD d = true ∨ nlD d = true)
mutual
/-- ints and tuples alone -/
def itD : D → Bool
  | .non => true
  | .str x => (toPy (.str x)).canLay0
  | .int i => decide (i.natAbs ≤ 2 ^ 22)
  | .tup ds => itDs ds
  | _ => false
def itDs : List D → Bool
  | [] => true
  | d :: ds => itD d && itDs ds
end
theorem itDs_append : ∀ (a b : List D), itDs (a ++ b) = (itDs a && itDs b)
  | [], b => by simp [itDs]
  | d :: a, b => by simp [itDs, itDs_append a b, Bool.and_assoc]
theorem noDs_append : ∀ (a b : List D), noDs (a ++ b) = (noDs a && noDs b)
  | [], b => by simp [noDs]
  | d :: a, b => by simp [noDs, noDs_append a b, Bool.and_assoc]
theorem nlDs_append : ∀ (a b : List D), nlDs (a ++ b) = (nlDs a && nlDs b)
  | [], b => by simp [nlDs]
  | d :: a, b => by simp [nlDs, nlDs_append a b, Bool.and_assoc]
theorem itDs_mem : ∀ {ds : List D} {d : D}, itDs ds = true → d ∈ ds → itD d = true
  | e :: ds, d, h, hm => by
    simp only [itDs, Bool.and_eq_true] at h
    rcases List.mem_cons.mp hm with rfl | hm
    · exact h.1
    · exact itDs_mem h.2 hm
mutual
theorem it_no : ∀ d, itD d = true → noD d = true ∧ nlD d = true ∧ (toPy d).canLay0 = true
  | .int i, _ => ⟨rfl, rfl, by simp [toPy, PyData.canLay0]⟩
  | .tup ds, h => by
    obtain ⟨h1, h2, h3⟩ := its_no ds (by simpa [itD] using h)
    exact ⟨by simpa [noD] using h1, by simpa [nlD] using h2, by simpa [toPy, PyData.canLay0] using h3⟩
  | .non, h => ⟨rfl, rfl, by simp [toPy, PyData.canLay0]⟩
  | .bl _, h => by simp [itD] at h
  | .str _, h => ⟨rfl, rfl, by simpa [itD] using h⟩
  | .lst _, h => by simp [itD] at h
  | .dct _, h => by simp [itD] at h
  | .pen, h => by simp [itD] at h
  | .scr _, h => by simp [itD] at h
theorem its_no : ∀ ds, itDs ds = true → noDs ds = true ∧ nlDs ds = true ∧ PyData.canLayAll0 (toPys ds) = true
  | [], _ => ⟨rfl, rfl, rfl⟩
  | d :: ds, h => by
    simp only [itDs, Bool.and_eq_true] at h
    obtain ⟨h1, h2, h3⟩ := it_no d h.1
    obtain ⟨h4, h5, h6⟩ := its_no ds h.2
    exact ⟨by simp [noDs, h1, h4], by simp [nlDs, h2, h5], by simp [toPys, PyData.canLayAll0, h3, h6]⟩
end
/-- a list of the odd things -/
def oddL : List D := [.non, .bl true, .bl false, .int 0, .int 1, .int (-1), .int 2, .int 3, .int 4, .int 1000000, .int 1000001, .int 100000000000000000000, .str "", .str "a", .str "b", .str "e", .str "insert", .tup [],
  .tup [.int 0], .tup [.int 0, .int 0], .tup [.int 0, .int 1], .tup [.int 1, .int 0], .lst [.int 0], .tup [.tup [.int 0, .int 1]], .tup [.non, .int 0, .int 1], .tup [.int 0, .non, .int 1], .tup [.str "a", .non, .int 0], .str "delete", .lst [], .dct []]
def vdB (w k : Nat) (d : D) : Bool := (toPy d).leavesShort 80 && (toPy d).showable && decide ((toPy d).weight ≤ w) && decide ((toPy d).depth ≤ k)
theorem odd_any {d : D} (h : d ∈ oddL) : Any 100 3 d := by
  have h1 : oddL.all (fun d => (noD d || nlD d)) = true := by decide
  have h2 : oddL.all (vdB 100 3) = true := by decide +kernel
  rw [List.all_eq_true] at h1 h2
  have h3 := h2 d h
  unfold vdB at h3
  simp only [Bool.and_eq_true, decide_eq_true_eq] at h3
  exact ⟨⟨h3.1.1.1, h3.1.1.2, h3.1.2, h3.2⟩, by simpa using h1 d h⟩
theorem add_lst {xs ys : List D} (h : xs.length + ys.length ≤ LIM) : addD (.lst xs) (.lst ys) = some (.lst (xs ++ ys)) := by
  unfold addD orD arI catT
  simp [catL, h]
theorem m_odd {n : Nat} {q : QD} (hn : n + 1 ≤ NN) (h : ∀ d, Any 100 3 d → q d (n + 1)) : T__law_odd [.pen] n q := by
  have LL : LIM = 1000000 := rfl
  have p6 : powD (.int 10) (.int 6) = some (.int 1000000) := powD_int 10 6 (by decide) (by decide)
  have p20 : powD (.int 10) (.int 20) = some (.int 100000000000000000000) := powD_int 10 20 (by decide) (by decide)
  have ng : negD (.int 1) = some (.int (-1)) := rfl
  simp only [T__law_odd, fnD, startE, List.replicate, List.cons_append, List.nil_append, Nat.reduceSub, tLstD, tNoDict, p6, p20, ng, addD_int, sSeq, sNil, sIf, sRet, sRetN, tVarD, tCD, tOpD, tOp1D, tCallD, tCallB, aNil, aCons, bVal, bNot, bCmp, bOr, tTupD, sAsg, hide_nil, fTup, fsCons, fsNil, fName, Option.bind_some, List.set_cons_zero, List.set_cons_succ, List.map_cons, List.map_nil, List.length_cons, List.length_nil, List.getElem?_cons_zero, List.getElem?_cons_succ, Nat.zero_add, Nat.reduceAdd, Option.some.injEq, exists_eq_left', true_and, D.bl.injEq, Bool.not_true, Bool.not_false, Bool.false_eq_true, if_false, if_true, lenD_tup, List.length_map, subD_int]
  refine ⟨by omega, by omega, by omega, by omega, by omega, by omega, by omega, by omega, by omega, by omega, by omega, by omega, by omega, _, add_lst (by simp; omega), by omega, by omega, _, add_lst (by simp; omega), one_ok (by simp) (by simp) hn fun d hd => h d (odd_any ?_)⟩
  exact hd
theorem cut_back {α : Type} (xs : List α) (k : Nat) : DL.cutL xs (some (k : Int)) none = xs.drop k := by
  unfold DL.cutL
  rw [HT.sIx_nat]
  show (xs.drop (min k xs.length)).take (xs.length - min k xs.length) = _
  by_cases h : k ≤ xs.length
  · rw [Nat.min_eq_left h, List.take_of_length_le (by rw [List.length_drop]; omega)]
  · rw [Nat.min_eq_right (by omega), List.drop_length, List.drop_of_length_le (by omega)]
    simp
theorem cut_lo (ds : List D) (k : Nat) : DL.cutD (.tup ds) none (some ((k : Nat) : Int)) = some (.tup (ds.take k)) := by
  show some (D.tup (DL.cutL ds none (some ((k : Nat) : Int)))) = _
  rw [cut_front]
theorem cut_hi (ds : List D) (k : Nat) : DL.cutD (.tup ds) (some ((k : Nat) : Int)) none = some (.tup (ds.drop k)) := by
  show some (D.tup (DL.cutL ds (some ((k : Nat) : Int)) none)) = _
  rw [cut_back]
/-- a scheme-like thing within: ints and tuples, so big, so deep -/
structure It (w k : Nat) (d : D) : Prop where
  it : itD d = true
  vd : VD w k d
theorem It.any {w k : Nat} {d : D} (h : It w k d) : Any w k d := ⟨h.vd, .inl (it_no d h.it).1⟩
theorem ok_it {w k : Nat} {d : D} (h : It w k d) (hk : k ≤ 64) : okD d = true := by
  unfold okD SeqAt.shaped
  rw [(it_no d h.it).2.2, decide_eq_true (Nat.le_trans h.vd.dp hk)]
  rfl
theorem eq_unit (ds : List D) (h : okD (.tup ds) = true) : eqD (.tup ds) (.tup []) = some (.bl ds.isEmpty) ∧ neD (.tup ds) (.tup []) = some (.bl (!ds.isEmpty)) := by
  have h2 : okD (.tup []) = true := (sh_tup (k := 0) (ds := []) (by simp)).ok (by decide)
  rw [eqD_ok h h2, neD_ok h h2]
  cases ds <;> simp [toPy, toPys, PyData.eqv, PyData.eqvAll]
/-- a part replaced -/
theorem any_put {w k : Nat} {pre post : List D} {d z : D} (hi : itDs (pre ++ d :: post) = true) (hv : VL w k (pre ++ d :: post)) (hz : Any (2 * (toPy d).weight + 1000) k z) : Any (2 * w + 1000) (k + 1) (.tup (pre ++ z :: post)) := by
  obtain ⟨w1, w2, h1, h2, h3⟩ := VL.split hv
  obtain ⟨h4, h5, h6⟩ := VL.head h2
  refine ⟨(VL.append h1 (VL.cons hz.1 h5)).tup.mono (by omega) (Nat.le_refl _), ?_⟩
  rw [itDs_append] at hi
  simp only [itDs, Bool.and_eq_true] at hi
  obtain ⟨a1, a2, _⟩ := its_no pre hi.1
  obtain ⟨b1, b2, _⟩ := its_no post hi.2.2
  rcases hz.2 with e | e
  · left
    simp only [noD, noDs_append, noDs, a1, b1, e, Bool.and_self]
  · right
    simp only [nlD, nlDs_append, nlDs, a2, b2, e, Bool.and_self]
theorem it_any {w w' k k' : Nat} {ds : List D} (hi : itDs ds = true) (hv : VL w k ds) (h1 : w ≤ w') (h2 : k + 1 ≤ k') : Any w' k' (.tup ds) :=
  ⟨hv.tup.mono h1 h2, .inl (by simpa [noD] using (its_no ds hi).1)⟩
theorem mul_tup (ds : List D) (j : Nat) (h0 : 1 ≤ j) (h1 : j ≤ 1000) (h : ds.length ≤ 1000) : mulD (.tup ds) (.int (j : Nat)) = some (.tup (List.replicate j ds).flatten) := by
  have : (1 : Int) ≤ (j : Int) ∧ (j : Int) ≤ 1000 ∧ ds.length ≤ 1000 := ⟨by omega, by omega, h⟩
  unfold mulD orD mulID arC repT
  simp [this]
theorem itDs_rev : ∀ ds : List D, itDs ds.reverse = itDs ds
  | [] => rfl
  | d :: ds => by
    rw [List.reverse_cons, itDs_append, itDs_rev ds]
    simp only [itDs, Bool.and_true]
    exact Bool.and_comm _ _
theorem vl_rev {k : Nat} : ∀ {w : Nat} {ds : List D}, VL w k ds → VL w k ds.reverse
  | w, [], h => h
  | w, d :: ds, h => by
    obtain ⟨h1, h2, h3⟩ := VL.head h
    rw [List.reverse_cons]
    have h4 : VD (toPy d).weight k d := ⟨h1.lf, h1.sh, Nat.le_refl _, h1.dp⟩
    exact (VL.append (vl_rev h2) (VL.cons h4 (VL.nil k))).mono (by omega) (Nat.le_refl _)
theorem split_at {ds : List D} {i : Nat} (h : i < ds.length) : ds = ds.take i ++ ds[i] :: ds.drop (i + 1) := by
  rw [← List.drop_eq_getElem_cons h, List.take_append_drop]
theorem m_bent : ∀ (m k w : Nat) (d : D) (n : Nat) (q : QD), k < m → k ≤ 50 → w ≤ 1000 → It w k d → n + 3 * (k + 1) ≤ NN → (∀ z n', Any (2 * w + 1000) (k + 3) z → n ≤ n' → n' ≤ n + 3 * (k + 1) → q z n') → T__law_bent m [.pen, d] n q
  | 0, k, w, d, n, q, hm, _, _, _, _, _ => absurd hm (Nat.not_lt_zero _)
  | m + 1, k, w, d, n, q, hm, hk, hw, hd, hn, h => by
    have LL : LIM = 1000000 := rfl
    have odd : ∀ n', n ≤ n' → n' + 1 ≤ n + 3 * (k + 1) → T__law_odd [.pen] n' q := fun n' h1 h2 => m_odd (by omega) fun z hz => h z _ ⟨hz.1.mono (by omega) (by omega), hz.2⟩ (by omega) (by omega)
    simp only [T__law_bent, fnD, startE, List.replicate, List.cons_append, List.nil_append, Nat.reduceSub, tIsi, sSeq, sNil, sIf, sRet, sRetN, tVarD, tCD, tOpD, tOp1D, tCallD, tCallB, aNil, aCons, bVal, bNot, bCmp, bOr, tTupD, sAsg, hide_nil, fTup, fsCons, fsNil, fName, Option.bind_some, List.set_cons_zero, List.set_cons_succ, List.map_cons, List.map_nil, List.length_cons, List.length_nil, List.getElem?_cons_zero, List.getElem?_cons_succ, Nat.zero_add, Nat.reduceAdd, Option.some.injEq, exists_eq_left', true_and, D.bl.injEq, Bool.not_true, Bool.not_false, Bool.false_eq_true, if_false, if_true, lenD_tup, List.length_map, subD_int]
    by_cases ht : ∃ ds, d = .tup ds
    · obtain ⟨ds, rfl⟩ := ht
      obtain ⟨k, rfl⟩ : ∃ k', k = k' + 1 := by
        have := hd.vd.dp
        simp only [toPy, PyData.depth] at this
        exact ⟨k - 1, by omega⟩
      have eu := (eq_unit ds (ok_it hd (by omega))).1
      simp only [isTup_tup, eu, sSeq, sNil, sIf, sRet, sRetN, tVarD, tCD, tOpD, tOp1D, tCallD, tCallB, aNil, aCons, bVal, bNot, bCmp, bOr, tTupD, sAsg, hide_nil, fTup, fsCons, fsNil, fName, Option.bind_some, List.set_cons_zero, List.set_cons_succ, List.map_cons, List.map_nil, List.length_cons, List.length_nil, List.getElem?_cons_zero, List.getElem?_cons_succ, Nat.zero_add, Nat.reduceAdd, Option.some.injEq, exists_eq_left', true_and, D.bl.injEq, Bool.not_true, Bool.not_false, Bool.false_eq_true, if_false, if_true, lenD_tup, List.length_map, subD_int]
      refine ⟨by omega, ?_⟩
      cases he : ds.isEmpty with
      | true =>
        simp only [if_true]
        exact odd n (by omega) (by omega)
      | false =>
        simp only [Bool.false_eq_true, if_false]
        refine take_ok (by decide) (by decide) (by omega) fun r r0 r1 => ?_
        simp only [eqD_int, sSeq, sNil, sIf, sRet, sRetN, tVarD, tCD, tOpD, tOp1D, tCallD, tCallB, aNil, aCons, bVal, bNot, bCmp, bOr, tTupD, sAsg, hide_nil, fTup, fsCons, fsNil, fName, Option.bind_some, List.set_cons_zero, List.set_cons_succ, List.map_cons, List.map_nil, List.length_cons, List.length_nil, List.getElem?_cons_zero, List.getElem?_cons_succ, Nat.zero_add, Nat.reduceAdd, Option.some.injEq, exists_eq_left', true_and, D.bl.injEq, Bool.not_true, Bool.not_false, Bool.false_eq_true, if_false, if_true, lenD_tup, List.length_map, subD_int]
        by_cases hr : r = 0
        · simp only [hr, decide_true, if_true]
          exact odd _ (by omega) (by omega)
        · simp only [hr, decide_false, Bool.false_eq_true, if_false]
          have hv := hd.vd.tup
          have hlen := hv.len
          have hpos : 0 < ds.length := by
            cases ds with
            | nil => cases he
            | cons _ _ => simp
          simp only [sPar, sSeq, sNil, sIf, sRet, sRetN, tVarD, tCD, tOpD, tOp1D, tCallD, tCallB, aNil, aCons, bVal, bNot, bCmp, bOr, tTupD, sAsg, hide_nil, fTup, fsCons, fsNil, fName, Option.bind_some, List.set_cons_zero, List.set_cons_succ, List.map_cons, List.map_nil, List.length_cons, List.length_nil, List.getElem?_cons_zero, List.getElem?_cons_succ, Nat.zero_add, Nat.reduceAdd, Option.some.injEq, exists_eq_left', true_and, D.bl.injEq, Bool.not_true, Bool.not_false, Bool.false_eq_true, if_false, if_true, lenD_tup, List.length_map, subD_int]
          refine take_ok (m := ((ds.length : Nat) : Int)) (by omega) (by omega) (by omega) fun i i0 i1 => take_ok (by decide) (by decide) (by omega) fun y y0 y1 => ?_
          refine ⟨_, _, rfl, ?_⟩
          obtain ⟨i, rfl⟩ : ∃ i' : Nat, i = (i' : Int) := ⟨i.toNat, by omega⟩
          have hi : i < ds.length := by omega
          have hx : ixD (.tup ds) (.int (i : Nat)) = some ds[i] := by
            show atI ds _ = _
            rw [at_ix (by omega) (by omega)]
            unfold ix
            rw [Int.toNat_natCast, List.getElem?_eq_getElem hi]
            rfl
          have c1 : ((i : Nat) : Int) + 1 = ((i + 1 : Nat) : Int) := by omega
          simp only [ltD, cmpI, sSeq, sNil, sIf, sRet, sRetN, tVarD, tCD, tOpD, tOp1D, tCallD, tCallB, aNil, aCons, bVal, bNot, bCmp, bOr, tTupD, sAsg, hide_nil, fTup, fsCons, fsNil, fName, Option.bind_some, List.set_cons_zero, List.set_cons_succ, List.map_cons, List.map_nil, List.length_cons, List.length_nil, List.getElem?_cons_zero, List.getElem?_cons_succ, Nat.zero_add, Nat.reduceAdd, Option.some.injEq, exists_eq_left', true_and, D.bl.injEq, Bool.not_true, Bool.not_false, Bool.false_eq_true, if_false, if_true, lenD_tup, List.length_map, subD_int]
          have hsp := split_at hi
          have hits : itDs ds = true := by simpa [itD] using hd.it
          have hmem : ds[i] ∈ ds := List.getElem_mem hi
          have hvd := hv.of_mem hmem
          have h12 : (ds.take i).length + 1 ≤ LIM ∧ ((ds.take i).length + 1) + (ds.drop (i + 1)).length ≤ LIM := by
            simp only [List.length_take, List.length_drop]
            omega
          by_cases hy : y < 8
          · simp only [hy, decide_true, if_true]
            simp only [tSlD, oNone, oSome, D.int.injEq, cut_lo, hx, addD_int, c1, cut_hi, sSeq, sNil, sIf, sRet, sRetN, tVarD, tCD, tOpD, tOp1D, tCallD, tCallB, aNil, aCons, bVal, bNot, bCmp, bOr, tTupD, sAsg, hide_nil, fTup, fsCons, fsNil, fName, Option.bind_some, List.set_cons_zero, List.set_cons_succ, List.map_cons, List.map_nil, List.length_cons, List.length_nil, List.getElem?_cons_zero, List.getElem?_cons_succ, Nat.zero_add, Nat.reduceAdd, Option.some.injEq, exists_eq_left', true_and, D.bl.injEq, Bool.not_true, Bool.not_false, Bool.false_eq_true, if_false, if_true, lenD_tup, List.length_map, subD_int]
            refine m_bent m k (toPy ds[i]).weight ds[i] _ _ (by omega) (by omega) (Nat.le_trans hvd.wt hw) ⟨itDs_mem hits hmem, ⟨hvd.lf, hvd.sh, Nat.le_refl _, hvd.dp⟩⟩ (by omega) fun z n' hz n0 n1 => ?_
            refine ⟨by omega, _, add_tup (by simpa using h12.1), _, add_tup (by simpa using h12.2), ?_⟩
            have ep : ds.take i ++ [z] ++ ds.drop (i + 1) = ds.take i ++ z :: ds.drop (i + 1) := by simp
            rw [ep]
            refine h _ _ (any_put (pre := ds.take i) (post := ds.drop (i + 1)) (d := ds[i]) (k := k + 3) (by rw [← hsp]; exact hits) (by rw [← hsp]; exact hv.mono (Nat.le_refl _) (by omega)) hz) (by omega) (by omega)
          · simp only [hy, decide_false, Bool.false_eq_true, if_false]
            have m2 := mul_tup ds 2 (by decide) (by decide) (by omega)
            have ng : negD (.int 1) = some (.int (-1)) := rfl
            have lD : listD [.tup ds] = some (.lst ds) := rfl
            have e1 : addD (.tup (ds.take i)) (.tup (ds.drop (i + 1))) = some (.tup (ds.take i ++ ds.drop (i + 1))) := add_tup (by omega)
            have e2 : addD (.tup (ds.take i)) (.tup [ds[i]]) = some (.tup (ds.take i ++ [ds[i]])) := add_tup (by simpa using h12.1)
            have e3 : addD (.tup (ds.take i ++ [ds[i]])) (.tup (ds.drop i)) = some (.tup (ds.take i ++ [ds[i]] ++ ds.drop i)) := add_tup (by
              simp only [List.length_append, List.length_take, List.length_drop, List.length_cons, List.length_nil]
              omega)
            simp only [tLstD, tSlD, oNone, oSome, D.int.injEq, cut_lo, hx, addD_int, c1, cut_hi, e1, e2, e3, lD, tRevD, ng, D.tup.injEq, sSeq, sNil, sIf, sRet, sRetN, tVarD, tCD, tOpD, tOp1D, tCallD, tCallB, aNil, aCons, bVal, bNot, bCmp, bOr, tTupD, sAsg, hide_nil, fTup, fsCons, fsNil, fName, Option.bind_some, List.set_cons_zero, List.set_cons_succ, List.map_cons, List.map_nil, List.length_cons, List.length_nil, List.getElem?_cons_zero, List.getElem?_cons_succ, Nat.zero_add, Nat.reduceAdd, Option.some.injEq, exists_eq_left', true_and, D.bl.injEq, Bool.not_true, Bool.not_false, Bool.false_eq_true, if_false, if_true, lenD_tup, List.length_map, subD_int]
            refine ⟨by omega, _, m2, by omega, _, at_ix (by omega) (by simp only [List.length_cons, List.length_nil]; omega), ?_⟩
            have hq : ∀ z, Any (2 * w + 1000) (k + 1 + 3) z → q z (n + 1 + 1 + 1) := fun z hz => h z _ hz (by omega) (by omega)
            have hm := ix_mem (xs := [D.tup (ds.take i ++ ds.drop (i + 1)), .tup (ds.take i ++ [ds[i]] ++ ds.drop i), .lst ds, .tup ds.reverse, .tup (List.replicate 2 ds).flatten]) (i := y - 8) (by omega) (by simp only [List.length_cons, List.length_nil]; omega)
            have it2 := hits
            rw [hsp, itDs_append] at it2
            simp only [itDs, Bool.and_eq_true] at it2
            have v2 := hv
            rw [hsp] at v2
            obtain ⟨w1, w2, v3, v4, v5⟩ := VL.split v2
            obtain ⟨v6, v7, v8⟩ := VL.head v4
            have dr : itDs (ds.drop i) = true ∧ VL w k (ds.drop i) := by
              rw [List.drop_eq_getElem_cons hi]
              exact ⟨by simp only [itDs, it2.2.1, it2.2.2, Bool.and_self], v4.mono (by omega) (Nat.le_refl _)⟩
            generalize ix [D.tup (ds.take i ++ ds.drop (i + 1)), .tup (ds.take i ++ [ds[i]] ++ ds.drop i), .lst ds, .tup ds.reverse, .tup (List.replicate 2 ds).flatten] (y - 8) = z at hm
            simp only [List.mem_cons, List.not_mem_nil, or_false] at hm
            rcases hm with rfl | rfl | rfl | rfl | rfl
            · exact hq _ (it_any (by rw [itDs_append, it2.1, it2.2.2]; rfl) (VL.append v3 v7) (by omega) (by omega))
            · refine hq _ (it_any (by rw [itDs_append, itDs_append, it2.1, dr.1]; simp only [itDs, it2.2.1, Bool.and_self]) (VL.append (VL.append v3 (VL.cons v6 (VL.nil k))) dr.2) ?_ (by omega))
              omega
            · exact hq _ ⟨hv.lst.mono (by omega) (by omega), .inl (by simpa [noD] using (its_no ds hits).1)⟩
            · exact hq _ (it_any (by rw [itDs_rev]; exact hits) (vl_rev hv) (by omega) (by omega))
            · have e : (List.replicate 2 ds).flatten = ds ++ ds := by simp
              rw [e]
              exact hq _ (it_any (by rw [itDs_append, hits]; rfl) (VL.append hv hv) (by omega) (by omega))
    · simp only [isTup_no fun ds e => ht ⟨ds, e⟩, Bool.not_false, if_true]
      exact odd n (by omega) (by omega)
theorem m_off : ∀ (m k w : Nat) (d : D) (n : Nat) (q : QD), k < m → k ≤ 50 → w ≤ 10000 → It w k d → n + 2 * (k + 1) ≤ NN → (∀ z n', Any (2 * w + 1000) k z → n ≤ n' → n' ≤ n + 2 * (k + 1) → q z n') → T__law_off m [.pen, d] n q
  | 0, k, w, d, n, q, hm, _, _, _, _, _ => absurd hm (Nat.not_lt_zero _)
  | m + 1, k, w, d, n, q, hm, hk, hw, hd, hn, h => by
    have LL : LIM = 1000000 := rfl
    have self : q d n := h d n ⟨hd.vd.mono (by omega) (Nat.le_refl _), hd.any.2⟩ (by omega) (by omega)
    simp only [T__law_off, fnD, startE, List.replicate, List.cons_append, List.nil_append, Nat.reduceSub, tIsi, bAnd, tIfD, sSeq, sNil, sIf, sRet, sRetN, tVarD, tCD, tOpD, tOp1D, tCallD, tCallB, aNil, aCons, bVal, bNot, bCmp, bOr, tTupD, sAsg, hide_nil, fTup, fsCons, fsNil, fName, Option.bind_some, List.set_cons_zero, List.set_cons_succ, List.map_cons, List.map_nil, List.length_cons, List.length_nil, List.getElem?_cons_zero, List.getElem?_cons_succ, Nat.zero_add, Nat.reduceAdd, Option.some.injEq, exists_eq_left', true_and, D.bl.injEq, Bool.not_true, Bool.not_false, Bool.false_eq_true, if_false, if_true, lenD_tup, List.length_map, subD_int]
    by_cases ht : ∃ ds, d = .tup ds
    · obtain ⟨ds, rfl⟩ := ht
      obtain ⟨k, rfl⟩ : ∃ k', k = k' + 1 := by
        have := hd.vd.dp
        simp only [toPy, PyData.depth] at this
        exact ⟨k - 1, by omega⟩
      have eu := (eq_unit ds (ok_it hd (by omega))).2
      have ti : isTy "int" (.tup ds) = false := rfl
      simp only [isTup_tup, eu, ti, sSeq, sNil, sIf, sRet, sRetN, tVarD, tCD, tOpD, tOp1D, tCallD, tCallB, aNil, aCons, bVal, bNot, bCmp, bOr, tTupD, sAsg, hide_nil, fTup, fsCons, fsNil, fName, Option.bind_some, List.set_cons_zero, List.set_cons_succ, List.map_cons, List.map_nil, List.length_cons, List.length_nil, List.getElem?_cons_zero, List.getElem?_cons_succ, Nat.zero_add, Nat.reduceAdd, Option.some.injEq, exists_eq_left', true_and, D.bl.injEq, Bool.not_true, Bool.not_false, Bool.false_eq_true, if_false, if_true, lenD_tup, List.length_map, subD_int]
      refine ⟨by omega, ?_⟩
      cases he : ds.isEmpty with
      | true =>
        simp only [Bool.not_true, Bool.false_eq_true, if_false]
        exact self
      | false =>
        simp only [Bool.not_false, if_true]
        have hv := hd.vd.tup
        have hlen := hv.len
        have hpos : 0 < ds.length := by
          cases ds with
          | nil => cases he
          | cons _ _ => simp
        refine take_ok (m := ((ds.length : Nat) : Int)) (by omega) (by omega) (by omega) fun i i0 i1 => ?_
        obtain ⟨i, rfl⟩ : ∃ i' : Nat, i = (i' : Int) := ⟨i.toNat, by omega⟩
        have hi : i < ds.length := by omega
        have hx : ixD (.tup ds) (.int (i : Nat)) = some ds[i] := by
          show atI ds _ = _
          rw [at_ix (by omega) (by omega)]
          unfold ix
          rw [Int.toNat_natCast, List.getElem?_eq_getElem hi]
          rfl
        have c1 : ((i : Nat) : Int) + 1 = ((i + 1 : Nat) : Int) := by omega
        have hsp := split_at hi
        have hits : itDs ds = true := by simpa [itD] using hd.it
        have hmem : ds[i] ∈ ds := List.getElem_mem hi
        have hvd := hv.of_mem hmem
        have h12 : (ds.take i).length + 1 ≤ LIM ∧ ((ds.take i).length + 1) + (ds.drop (i + 1)).length ≤ LIM := by
          simp only [List.length_take, List.length_drop]
          omega
        simp only [tSlD, oNone, oSome, D.int.injEq, cut_lo, hx, addD_int, c1, cut_hi, sSeq, sNil, sIf, sRet, sRetN, tVarD, tCD, tOpD, tOp1D, tCallD, tCallB, aNil, aCons, bVal, bNot, bCmp, bOr, tTupD, sAsg, hide_nil, fTup, fsCons, fsNil, fName, Option.bind_some, List.set_cons_zero, List.set_cons_succ, List.map_cons, List.map_nil, List.length_cons, List.length_nil, List.getElem?_cons_zero, List.getElem?_cons_succ, Nat.zero_add, Nat.reduceAdd, Option.some.injEq, exists_eq_left', true_and, D.bl.injEq, Bool.not_true, Bool.not_false, Bool.false_eq_true, if_false, if_true, lenD_tup, List.length_map, subD_int]
        refine m_off m k (toPy ds[i]).weight ds[i] _ _ (by omega) (by omega) (Nat.le_trans hvd.wt hw) ⟨itDs_mem hits hmem, ⟨hvd.lf, hvd.sh, Nat.le_refl _, hvd.dp⟩⟩ (by omega) fun z n' hz n0 n1 => ?_
        refine ⟨by omega, _, add_tup (by simpa using h12.1), _, add_tup (by simpa using h12.2), ?_⟩
        have ep : ds.take i ++ [z] ++ ds.drop (i + 1) = ds.take i ++ z :: ds.drop (i + 1) := by simp
        rw [ep]
        exact h _ _ (any_put (pre := ds.take i) (post := ds.drop (i + 1)) (d := ds[i]) (k := k) (by rw [← hsp]; exact hits) (by rw [← hsp]; exact hv) hz) (by omega) (by omega)
    · simp only [isTup_no fun ds e => ht ⟨ds, e⟩, Bool.false_eq_true, if_false]
      by_cases hint : ∃ i, d = .int i
      · obtain ⟨i, rfl⟩ := hint
        have hb : i.natAbs ≤ 2 ^ 22 := by simpa [itD] using hd.it
        have ti : isTy "int" (.int i) = true := rfl
        have ng : negD (.int 1) = some (.int (-1)) := rfl
        simp only [ti, if_true]
        simp only [tLstD, ng, sSeq, sNil, sIf, sRet, sRetN, tVarD, tCD, tOpD, tOp1D, tCallD, tCallB, aNil, aCons, bVal, bNot, bCmp, bOr, tTupD, sAsg, hide_nil, fTup, fsCons, fsNil, fName, Option.bind_some, List.set_cons_zero, List.set_cons_succ, List.map_cons, List.map_nil, List.length_cons, List.length_nil, List.getElem?_cons_zero, List.getElem?_cons_succ, Nat.zero_add, Nat.reduceAdd, Option.some.injEq, exists_eq_left', true_and, D.bl.injEq, Bool.not_true, Bool.not_false, Bool.false_eq_true, if_false, if_true, lenD_tup, List.length_map, subD_int]
        refine ⟨by omega, one_ok (by simp) (by simp) (by omega) fun e he => ?_⟩
        have : ∃ s : Int, e = .int s ∧ (s = 1 ∨ s = -1) := by
          simp only [List.mem_cons, List.not_mem_nil, or_false] at he
          rcases he with rfl | rfl
          · exact ⟨_, rfl, .inl rfl⟩
          · exact ⟨_, rfl, .inr rfl⟩
        obtain ⟨s, rfl, hs⟩ := this
        refine ⟨_, addD_int _ _, h _ _ ⟨(vd_int (by omega) k).mono (by omega) (Nat.le_refl _), .inl rfl⟩ (by omega) (by omega)⟩
      · have tI : isTy "int" d = false := by
          have := hd.it
          cases d <;> simp [itD] at this <;> try rfl
          · exact absurd ⟨_, rfl⟩ hint
        simp only [tI, Bool.false_eq_true, if_false]
        exact self
end K10
set_option maxHeartbeats 8000000
namespace K10
open PySem PySem.Spec PyProof.Rows L2 DL
theorem vd_tiny {i : Int} (h : i.natAbs < 16) (k : Nat) : VD 4 k (.int i) := by
  have h0 := vd_int (i := i) (Nat.le_trans (Nat.le_of_lt h) (by decide)) k
  refine ⟨h0.lf, h0.sh, ?_, h0.dp⟩
  simp only [toPy, PyData.weight]
  split
  · omega
  · have : i.natAbs.log2 < 4 := by
      by_cases h1 : i.natAbs = 0
      · rw [h1]
        decide
      · exact (Nat.log2_lt h1).mpr h
    omega
theorem vl_map {α : Type} {g : α → D} {w k : Nat} : ∀ {as : List α}, (∀ a ∈ as, VD w k (g a)) → VL ((w + 1) * as.length) k (as.map g)
  | [], _ => VL.nil k
  | a :: as, h => (VL.cons (h a List.mem_cons_self) (vl_map (as := as) fun b hb => h b (List.mem_cons_of_mem _ hb))).mono (by rw [List.length_cons, Nat.mul_add]; omega) (Nat.le_refl _)
theorem itDs_map {α : Type} {g : α → D} : ∀ {as : List α}, (∀ a ∈ as, itD (g a) = true) → itDs (as.map g) = true
  | [], _ => rfl
  | a :: as, h => by simp only [List.map_cons, itDs, h a List.mem_cons_self, itDs_map (as := as) fun b hb => h b (List.mem_cons_of_mem _ hb), Bool.and_self]
theorem it_int {i : Int} (h : i.natAbs ≤ 2 ^ 22) : itD (.int i) = true := decide_eq_true h
theorem it_col {c : Int × Int} (h : -1000000 ≤ c.1 ∧ c.1 ≤ c.2 ∧ c.2 ≤ 1000013) : It 46 1 (colD c) := by
  have a1 : c.1.natAbs ≤ 2 ^ 22 := by omega
  have a2 : c.2.natAbs ≤ 2 ^ 22 := by omega
  exact ⟨by simp only [colD, itD, itDs, decide_eq_true a1, decide_eq_true a2, Bool.and_self], (VL.cons (vd_small (by omega) 0) (VL.cons (vd_small (by omega) 0) (VL.nil 0))).tup.mono (by omega) (by omega)⟩
theorem it_ints {ns : List Int} {L : Nat} (hl : ns.length ≤ L) (h : ∀ i ∈ ns, 0 ≤ i ∧ i < 16) : It (5 * L) 1 (.tup (ns.map D.int)) := by
  refine ⟨?_, ?_⟩
  · simp only [itD]
    exact itDs_map fun i hi => it_int (by have := h i hi; omega)
  · exact (vl_map (w := 4) (k := 0) fun i hi => vd_tiny (by have := h i hi; omega) 0).tup.mono (Nat.mul_le_mul_left 5 hl) (by omega)
theorem It.mono {w w' k k' : Nat} {d : D} (h : It w k d) (h1 : w ≤ w') (h2 : k ≤ k') : It w' k' d := ⟨h.it, h.vd.mono h1 h2⟩
theorem it_tup2 {w w' k : Nat} {a b : D} (h : It w k a) (h' : It w' k b) : It (w + w' + 2) (k + 1) (.tup [a, b]) :=
  ⟨by simp only [itD, itDs, h.it, h'.it, Bool.and_self], (VL.cons h.vd (VL.cons h'.vd (VL.nil k))).tup.mono (by omega) (Nat.le_refl _)⟩
theorem it_tup3 {w w' w'' k : Nat} {a b c : D} (h : It w k a) (h' : It w' k b) (h'' : It w'' k c) : It (w + w' + w'' + 3) (k + 1) (.tup [a, b, c]) :=
  ⟨by simp only [itD, itDs, h.it, h'.it, h''.it, Bool.and_self], (VL.cons h.vd (VL.cons h'.vd (VL.cons h''.vd (VL.nil k)))).tup.mono (by omega) (Nat.le_refl _)⟩
theorem it_map {α : Type} {g : α → D} {w k L : Nat} {as : List α} (hl : as.length ≤ L) (h : ∀ a ∈ as, It w k (g a)) : It ((w + 1) * L) (k + 1) (.tup (as.map g)) :=
  ⟨by simp only [itD]; exact itDs_map fun a ha => (h a ha).it, (vl_map fun a ha => (h a ha).vd).tup.mono (Nat.mul_le_mul_left _ hl) (Nat.le_refl _)⟩
theorem it_tab {t : Tab} (h : Fine t) : It 235 4 (tabD t) := by
  have h1 : It 188 2 (.tup (t.cols.map colD)) := it_map (L := 4) (w := 46) (k := 1) h.ok.len.2 fun c hc => it_col ⟨(h.cb c hc).1, h.ok.low c hc, (h.cb c hc).2⟩
  have hl := h.ok.len
  have h2 : It 10 1 (.tup (t.key.map D.int)) := it_ints (L := 2) h.ok.keyLen.2 fun i hi => by
    have := h.ok.keyIn i hi
    omega
  have h3 : It 34 3 (.tup (t.refs.map refD)) := it_map (L := 2) (w := 16) (k := 2) h.rl fun r hr => by
    obtain ⟨q1, q2, q3, q4⟩ := h.rb r hr
    have a : It 10 1 (.tup (r.1.map D.int)) := it_ints (L := 2) q1 fun i hi => by
      have := q2 i hi
      omega
    have b : It 4 1 (.int r.2) := ⟨it_int (by omega), vd_tiny (by omega) 1⟩
    exact (it_tup2 a b).mono (by omega) (by omega)
  exact (it_tup3 (h1.mono (Nat.le_refl _) (by omega)) (h2.mono (Nat.le_refl _) (by omega)) h3).mono (by omega) (by omega)
theorem it_sch {d : D} (h : SchD d) : It 944 5 d := by
  obtain ⟨ts, rfl, h1, h2, h3⟩ := h
  exact it_map (L := 4) (w := 235) (k := 4) h2 fun t ht => it_tab (h3 t ht)
theorem it_append {w w' k : Nat} {a b : List D} (h : It w (k + 1) (.tup a)) (h' : It w' (k + 1) (.tup b)) : It (w + w') (k + 1) (.tup (a ++ b)) := by
  have i1 : itDs a = true := by simpa [itD] using h.it
  have i2 : itDs b = true := by simpa [itD] using h'.it
  exact ⟨by simp only [itD, itDs_append, i1, i2, Bool.and_self], (VL.append h.vd.tup h'.vd.tup).tup⟩
theorem it_rev {w k : Nat} {a : List D} (h : It w (k + 1) (.tup a)) : It w (k + 1) (.tup a.reverse) := by
  have i1 : itDs a = true := by simpa [itD] using h.it
  exact ⟨by simp only [itD, itDs_rev, i1], (vl_rev h.vd.tup).tup⟩
theorem it_unit (k : Nat) : It 0 (k + 1) (.tup []) := ⟨rfl, (VL.nil k).tup⟩
theorem it_rep {w k : Nat} {a : List D} (h : It w (k + 1) (.tup a)) : ∀ j : Nat, It (w * j) (k + 1) (.tup (List.replicate j a).flatten)
  | 0 => it_unit k
  | j + 1 => by
    rw [List.replicate_succ, List.flatten_cons]
    exact (it_append h (it_rep h j)).mono (by rw [Nat.mul_add]; omega) (Nat.le_refl _)
theorem it_one {w k : Nat} {a : D} (h : It w k a) : It (w + 1) (k + 1) (.tup [a]) :=
  ⟨by simp only [itD, itDs, h.it, Bool.and_self], (VL.cons h.vd (VL.nil k)).tup.mono (by omega) (Nat.le_refl _)⟩
theorem it_tiny {i : Int} (h0 : 0 ≤ i) (h1 : i < 16) (k : Nat) : It 4 k (.int i) := ⟨it_int (by omega), vd_tiny (by omega) k⟩
theorem it_range (m : Nat) (h : m ≤ 10) : It 50 1 (.tup (rangeD 0 m)) := by
  have e : rangeD 0 m = ((List.range m).map fun (k : Nat) => (0 : Int) + (k : Int)).map D.int := by
    unfold rangeD
    rw [List.map_map]
    rfl
  rw [e]
  exact it_ints (L := 10) (by simpa using h) fun i hi => by
    obtain ⟨k, hk, rfl⟩ := List.mem_map.mp hi
    have := List.mem_range.mp hk
    omega
/-- a part put in the place of one -/
theorem any_put2 {w w' k : Nat} {pre post : List D} {d z : D} (hi : itDs (pre ++ d :: post) = true) (hv : VL w k (pre ++ d :: post)) (hz : Any w' k z) : Any (w + w') (k + 1) (.tup (pre ++ z :: post)) := by
  obtain ⟨w1, w2, h1, h2, h3⟩ := VL.split hv
  obtain ⟨h4, h5, h6⟩ := VL.head h2
  refine ⟨(VL.append h1 (VL.cons hz.1 h5)).tup.mono (by omega) (Nat.le_refl _), ?_⟩
  rw [itDs_append] at hi
  simp only [itDs, Bool.and_eq_true] at hi
  obtain ⟨a1, a2, _⟩ := its_no pre hi.1
  obtain ⟨b1, b2, _⟩ := its_no post hi.2.2
  rcases hz.2 with e | e
  · left
    simp only [noD, noDs_append, noDs, a1, b1, e, Bool.and_self]
  · right
    simp only [nlD, nlDs_append, nlDs, a2, b2, e, Bool.and_self]
theorem any_table {w w' w'' k : Nat} {a b c : D} (h : It w k a) (h' : It w' k b) (h'' : Any w'' k c) : Any (w + w' + w'' + 3) (k + 1) (.tup [a, b, c]) := by
  refine ⟨(VL.cons h.vd (VL.cons h'.vd (VL.cons h''.1 (VL.nil k)))).tup.mono (by omega) (Nat.le_refl _), ?_⟩
  obtain ⟨a1, a2, _⟩ := it_no a h.it
  obtain ⟨b1, b2, _⟩ := it_no b h'.it
  rcases h''.2 with e | e
  · left
    simp only [noD, noDs, a1, b1, e, Bool.and_self]
  · right
    simp only [nlD, nlDs, a2, b2, e, Bool.and_self]
end K10
set_option maxHeartbeats 4000000
namespace DL
open PySem PySem.Spec PyProof.Rows L2
/-- a loop that ends at the first wrong one, with a state -/
theorem forD_stop {f : D → DL.Env → Option DL.Env} {Tb : TDS} {Dd : DE} {p : D → Bool} (S : List D → DL.Env → Prop) {bad : D} : ∀ (ds pre : List D) (ρ : DL.Env), pre.all p = true → S pre ρ →
    (∀ (pre' : List D) (d : D) (post : List D), pre ++ ds = pre' ++ d :: post → pre'.all p = true → ∀ ρ, S pre' ρ → ∃ ρ', f d ρ = some ρ' ∧
      (p d = true → ∃ ρ2, S (pre' ++ [d]) ρ2 ∧ ∀ (De : DE) (n : Nat), De.rt = Dd.rt → (Tb De ρ' n ↔ De.nx ρ2 n)) ∧ (p d = false → ∀ (De : DE) (n : Nat), De.rt = Dd.rt → (Tb De ρ' n ↔ De.rt bad n))) →
    (ds.all p = true → ∃ ρE, S (pre ++ ds) ρE ∧ ∀ n, (forD f Tb Dd ds ρ n ↔ Dd.nx ρE n)) ∧ (ds.all p = false → ∀ n, (forD f Tb Dd ds ρ n ↔ Dd.rt bad n))
  | [], pre, ρ, hp, hS, _ => ⟨fun _ => ⟨ρ, by simpa using hS, fun n => by unfold forD; exact Iff.rfl⟩, fun h => by simp at h⟩
  | d :: ds, pre, ρ, hp, hS, hb => by
    obtain ⟨ρ', h1, h2, h3⟩ := hb pre d ds rfl hp ρ hS
    cases hd : p d with
    | false =>
      refine ⟨fun h => by simp [hd] at h, fun _ n => ?_⟩
      unfold forD
      rw [h1]
      simp only [Option.some.injEq, exists_eq_left']
      exact h3 hd _ n rfl
    | true =>
      obtain ⟨ρ2, s2, h4⟩ := h2 hd
      have ih := forD_stop (f := f) (Tb := Tb) (Dd := Dd) (p := p) S (bad := bad) ds (pre ++ [d]) ρ2 (by simp [hp, hd]) s2 fun pre' d' post e => hb pre' d' post (by simpa using e)
      have st : ∀ n, forD f Tb Dd (d :: ds) ρ n ↔ forD f Tb Dd ds ρ2 n := fun n => by
        conv => lhs; unfold forD
        rw [h1]
        simp only [Option.some.injEq, exists_eq_left']
        exact h4 _ n rfl
      refine ⟨fun h => ?_, fun h n => ?_⟩
      · simp only [List.all_cons, hd, Bool.true_and] at h
        obtain ⟨ρE, e1, e2⟩ := ih.1 h
        exact ⟨ρE, by simpa using e1, fun n => (st n).trans (e2 n)⟩
      · simp only [List.all_cons, hd, Bool.true_and] at h
        exact (st n).trans (ih.2 h n)
theorem forD_if {f : D → DL.Env → Option DL.Env} {Tb : TDS} {Dd : DE} (p : D → Bool) (S : List D → DL.Env → Prop) (bad : D) (R : Prop) {n : Nat} {ds : List D} {ρ : DL.Env} (hS : S [] ρ)
    (hb : ∀ (pre : List D) (d : D) (post : List D), ds = pre ++ d :: post → pre.all p = true → ∀ ρ, S pre ρ → ∃ ρ', f d ρ = some ρ' ∧
      (p d = true → ∃ ρ2, S (pre ++ [d]) ρ2 ∧ ∀ (De : DE) (n : Nat), De.rt = Dd.rt → (Tb De ρ' n ↔ De.nx ρ2 n)) ∧ (p d = false → ∀ (De : DE) (n : Nat), De.rt = Dd.rt → (Tb De ρ' n ↔ De.rt bad n)))
    (hend : ds.all p = true → ∀ ρE, S ds ρE → (Dd.nx ρE n ↔ R)) : forD f Tb Dd ds ρ n ↔ if ds.all p = true then R else Dd.rt bad n := by
  obtain ⟨k1, k2⟩ := forD_stop (f := f) (Tb := Tb) (Dd := Dd) (p := p) S (bad := bad) ds [] ρ rfl hS hb
  cases h : ds.all p with
  | false => simpa using k2 h n
  | true =>
    obtain ⟨ρE, e1, e2⟩ := k1 h
    simp only [if_true]
    exact (e2 n).trans (hend h ρE e1)
/-- two fors, without tests, without draws -/
theorem compD2_map {f f1 : D → DL.Env → Option DL.Env} {Tw1 : TDs} {Te : TD} {vs1 : List Nat} (it : D → List D) (g : D → D → D) {ρ : DL.Env} : ∀ (ds acc : List D) (n : Nat) (q : List D → Nat → Prop),
    (∀ d ∈ ds, ∃ ρ', f d ρ = some ρ' ∧ (∀ n k, Tw1 ρ' n k ↔ k (it d) n) ∧ ∀ e ∈ it d, ∃ ρ2, f1 e (wipeE ρ' vs1) = some ρ2 ∧ ∀ n k, Te ρ2 n k ↔ k (g d e) n) → acc.length + (ds.map fun d => (it d).length).sum ≤ LIM →
    (compD2 f bYes Tw1 f1 bYes Te vs1 ds acc ρ n q ↔ q (acc ++ ds.flatMap fun d => (it d).map (g d)) n)
  | [], acc, n, q, _, _ => by simp [compD2]
  | d :: ds, acc, n, q, h, hl => by
    obtain ⟨ρ', e1, e2, e3⟩ := h d List.mem_cons_self
    simp only [List.map_cons, List.sum_cons] at hl
    unfold compD2
    rw [e1]
    simp only [Option.some.injEq, exists_eq_left', bYes, if_true]
    rw [e2, compD_map (g d) (it d) acc n _ e3 (by omega)]
    rw [compD2_map it g ds _ n q (fun d hd => h d (List.mem_cons_of_mem _ hd)) (by simp only [List.length_append, List.length_map]; omega)]
    simp
end DL
namespace K10
open PySem PySem.Spec PyProof.Rows L2 DL
def NP (d : D) : Prop := noD d = true ∨ nlD d = true
theorem noDs_mem : ∀ {ds : List D} {d : D}, noDs ds = true → d ∈ ds → noD d = true
  | e :: ds, d, h, hm => by
    simp only [noDs, Bool.and_eq_true] at h
    rcases List.mem_cons.mp hm with rfl | hm
    · exact h.1
    · exact noDs_mem h.2 hm
theorem nlDs_mem : ∀ {ds : List D} {d : D}, nlDs ds = true → d ∈ ds → nlD d = true
  | e :: ds, d, h, hm => by
    simp only [nlDs, Bool.and_eq_true] at h
    rcases List.mem_cons.mp hm with rfl | hm
    · exact h.1
    · exact nlDs_mem h.2 hm
theorem NP.mem {ds : List D} {d : D} (h : NP (.tup ds)) (hm : d ∈ ds) : NP d := by
  rcases h with h | h
  · exact .inl (noDs_mem (by simpa [noD] using h) hm)
  · exact .inr (nlDs_mem (by simpa [nlD] using h) hm)
/-- a value among ints -/
def memB (names : List Int) : D → Bool
  | .int i => decide (i ∈ names)
  | .bl b => decide ((if b then 1 else 0) ∈ names)
  | _ => false
theorem flat_ints (names : List Int) : (names.map D.int).all flatD = true := by simp [flatD]
theorem is_ints (names : List Int) : (names.map D.int).all isIS = true := by simp [isIS]
theorem inV_ints (v : V) (names : List Int) : inV v ((names.map D.int).map toV) = names.any fun i => eqV (.int i) v := by
  induction names with
  | nil => rfl
  | cons i names ih => simp_all [inV, toV]
theorem in_ints {neg : Bool} {names : List Int} {d : D} (h : NP d) : inAD neg d (.lst (names.map D.int)) = some (.bl (xor neg (memB names d))) := by
  have ff := flat_ints names
  have ii := is_ints names
  have any : ∀ (i : Int), (names.any fun j => decide (j = i)) = decide (i ∈ names) := fun i => by
    induction names with
    | nil => rfl
    | cons j names ih =>
      simp only [List.any_cons, List.mem_cons]
      rw [ih (flat_ints names) (is_ints names)]
      by_cases hj : j = i
      · simp [hj]
      · have : ¬ i = j := fun e => hj e.symm
        simp [hj, this]
  have nx : ∀ b : Bool, (if neg = true then !b else b) = xor neg b := fun b => by cases neg <;> cases b <;> rfl
  cases d with
  | tup ds => cases neg <;> simp [inAD, orD, inD, flatD, inGD, inGs, DL.isObj, ii, memB]
  | lst ds => cases neg <;> simp [inAD, orD, inD, flatD, inGD, inGs, DL.isObj, ii, memB]
  | dct kvs => cases neg <;> simp [inAD, orD, inD, flatD, inGD, inGs, DL.isObj, ii, memB]
  | pen => rcases h with h | h <;> simp [noD, nlD] at h
  | scr ns => rcases h with h | h <;> simp [noD, nlD] at h
  | int i =>
    have e : ∀ j : Int, eqV (.int j) (.int i) = decide (j = i) := fun j => by simp [eqV, Bool.beq_eq_decide_eq]
    have : inDs (.int i) (names.map D.int) = decide (i ∈ names) := by
      unfold inDs
      rw [inV_ints, ← any]
      simp only [toV, e]
    simp only [inAD, orD, inD, flatD, ff, Bool.and_self, if_true, this, memB, nx]
    rfl
  | bl b =>
    have e : ∀ j : Int, eqV (.int j) (.bl b) = decide (j = if b then 1 else 0) := fun j => by cases b <;> simp [eqV, Bool.beq_eq_decide_eq]
    have : inDs (.bl b) (names.map D.int) = decide ((if b then 1 else 0) ∈ names) := by
      unfold inDs
      rw [inV_ints, ← any]
      simp only [toV, e]
    simp only [inAD, orD, inD, flatD, ff, Bool.and_self, if_true, this, memB, nx]
    rfl
  | non =>
    have : inDs .non (names.map D.int) = false := by
      unfold inDs
      rw [inV_ints]
      induction names with
      | nil => rfl
      | cons j names ih => simp_all [eqV, toV]
    simp only [inAD, orD, inD, flatD, ff, Bool.and_self, if_true, this, memB, nx]
    rfl
  | str x =>
    have : inDs (.str x) (names.map D.int) = false := by
      unfold inDs
      rw [inV_ints]
      induction names with
      | nil => rfl
      | cons j names ih => simp_all [eqV, toV]
    simp only [inAD, orD, inD, flatD, ff, Bool.and_self, if_true, this, memB, nx]
    rfl
/-- None or a name -/
def sideB (names : List Int) : D → Bool
  | .non => true
  | .int i => decide (i ∈ names)
  | _ => false
theorem m_is_side {names : List Int} {d : D} (h : NP d) (n : Nat) (q : QD) : T__is_side [d, .lst (names.map D.int)] n q ↔ q (.bl (sideB names d)) n := by
  simp only [T__is_side, fnD, startE, List.replicate, List.cons_append, List.nil_append, tOrD, isD, tAndD, tNotD, tIsi, in_ints h, sSeq, sNil, sIf, sRet, sRetN, tVarD, tCD, tOpD, tOp1D, tCallD, tCallB, aNil, aCons, bVal, bNot, bCmp, bOr, tTupD, sAsg, hide_nil, fTup, fsCons, fsNil, fName, Option.bind_some, List.set_cons_zero, List.set_cons_succ, List.map_cons, List.map_nil, List.length_cons, List.length_nil, List.getElem?_cons_zero, List.getElem?_cons_succ, Nat.zero_add, Nat.reduceAdd, Option.some.injEq, exists_eq_left', true_and, D.bl.injEq, Bool.not_true, Bool.not_false, Bool.false_eq_true, if_false, if_true, lenD_tup, List.length_map, subD_int]
  cases d <;> simp [isN, isTy, tyN, memB, sideB]
def sameB : D → D → Bool
  | .non, .non => true
  | .int i, .int j => decide (i = j)
  | _, _ => false
theorem eq_sides {names : List Int} {x y : D} (hx : sideB names x = true) (hy : sideB names y = true) : eqD x y = some (.bl (sameB x y)) ∧ neD x y = some (.bl (!sameB x y)) := by
  have ok : ∀ d, sideB names d = true → okD d = true := fun d h => by
    cases d <;> simp [sideB] at h <;> simp [okD, SeqAt.shaped, toPy, PyData.canLay0, PyData.depth]
  rw [eqD_ok (ok x hx) (ok y hy), neD_ok (ok x hx) (ok y hy)]
  cases x <;> simp [sideB] at hx <;> cases y <;> simp [sideB] at hy <;> simp [toPy, PyData.eqv, sameB, Bool.beq_eq_decide_eq]
def conB (names : List Int) : D → Bool
  | .tup [x, y, c] => sideB names x && sideB names y && !sameB x y && btw c (-4000000) 4000000
  | _ => false
theorem conB_no {names : List Int} {d : D} (h : isT d 3 = false) : conB names d = false := by
  unfold conB
  split
  · simp [isT] at h
  · rfl
theorem m_is_constraint {names : List Int} {d : D} (h : NP d) (n : Nat) (q : QD) : T_is_constraint [d, .lst (names.map D.int)] n q ↔ q (.bl (conB names d)) n := by
  simp only [T_is_constraint, fnD, startE, List.replicate, List.cons_append, List.nil_append, m_is_tuple_of, sSeq, sNil, sIf, sRet, sRetN, tVarD, tCD, tOpD, tOp1D, tCallD, tCallB, aNil, aCons, bVal, bNot, bCmp, bOr, tTupD, sAsg, hide_nil, fTup, fsCons, fsNil, fName, Option.bind_some, List.set_cons_zero, List.set_cons_succ, List.map_cons, List.map_nil, List.length_cons, List.length_nil, List.getElem?_cons_zero, List.getElem?_cons_succ, Nat.zero_add, Nat.reduceAdd, Option.some.injEq, exists_eq_left', true_and, D.bl.injEq, Bool.not_true, Bool.not_false, Bool.false_eq_true, if_false, if_true, lenD_tup, List.length_map, subD_int]
  cases hT : isT d 3 with
  | false => simp [conB_no hT]
  | true =>
    obtain ⟨ds, rfl, hl⟩ := isT_get hT
    match ds, hl with
    | [x, y, c], _ =>
      have hx : NP x := h.mem (by simp)
      have hy : NP y := h.mem (by simp)
      have ng : negD (.int 4000000) = some (.int (-4000000)) := rfl
      simp only [m_is_side hx, m_is_side hy, ng, m_lies_between, sSeq, sNil, sIf, sRet, sRetN, tVarD, tCD, tOpD, tOp1D, tCallD, tCallB, aNil, aCons, bVal, bNot, bCmp, bOr, tTupD, sAsg, hide_nil, fTup, fsCons, fsNil, fName, Option.bind_some, List.set_cons_zero, List.set_cons_succ, List.map_cons, List.map_nil, List.length_cons, List.length_nil, List.getElem?_cons_zero, List.getElem?_cons_succ, Nat.zero_add, Nat.reduceAdd, Option.some.injEq, exists_eq_left', true_and, D.bl.injEq, Bool.not_true, Bool.not_false, Bool.false_eq_true, if_false, if_true, lenD_tup, List.length_map, subD_int]
      cases sx : sideB names x with
      | false => simp [conB, sx]
      | true =>
        cases sy : sideB names y with
        | false => simp [conB, sx, sy]
        | true =>
          simp only [(eq_sides sx sy).1, sSeq, sNil, sIf, sRet, sRetN, tVarD, tCD, tOpD, tOp1D, tCallD, tCallB, aNil, aCons, bVal, bNot, bCmp, bOr, tTupD, sAsg, hide_nil, fTup, fsCons, fsNil, fName, Option.bind_some, List.set_cons_zero, List.set_cons_succ, List.map_cons, List.map_nil, List.length_cons, List.length_nil, List.getElem?_cons_zero, List.getElem?_cons_succ, Nat.zero_add, Nat.reduceAdd, Option.some.injEq, exists_eq_left', true_and, D.bl.injEq, Bool.not_true, Bool.not_false, Bool.false_eq_true, if_false, if_true, lenD_tup, List.length_map, subD_int]
          cases hs : sameB x y <;> simp [conB, sx, sy, hs]
theorem m_law_is_constraint {names : List Int} (hn : ∀ i ∈ names, 0 ≤ i ∧ i ≤ 15) {d : D} (h : NP d) (n : Nat) (q : QD) : T__law_is_constraint [.lst (names.map D.int), d] n q ↔ q (.bl (conB names d)) n := by
  simp only [T__law_is_constraint, fnD, startE, List.replicate, List.cons_append, List.nil_append, tIsi, sSeq, sNil, sIf, sRet, sRetN, tVarD, tCD, tOpD, tOp1D, tCallD, tCallB, aNil, aCons, bVal, bNot, bCmp, bOr, tTupD, sAsg, hide_nil, fTup, fsCons, fsNil, fName, Option.bind_some, List.set_cons_zero, List.set_cons_succ, List.map_cons, List.map_nil, List.length_cons, List.length_nil, List.getElem?_cons_zero, List.getElem?_cons_succ, Nat.zero_add, Nat.reduceAdd, Option.some.injEq, exists_eq_left', true_and, D.bl.injEq, Bool.not_true, Bool.not_false, Bool.false_eq_true, if_false, if_true, lenD_tup, List.length_map, subD_int]
  by_cases ht : ∃ ds, d = .tup ds
  · obtain ⟨ds, rfl⟩ := ht
    simp only [isTup_tup, neD_int, sSeq, sNil, sIf, sRet, sRetN, tVarD, tCD, tOpD, tOp1D, tCallD, tCallB, aNil, aCons, bVal, bNot, bCmp, bOr, tTupD, sAsg, hide_nil, fTup, fsCons, fsNil, fName, Option.bind_some, List.set_cons_zero, List.set_cons_succ, List.map_cons, List.map_nil, List.length_cons, List.length_nil, List.getElem?_cons_zero, List.getElem?_cons_succ, Nat.zero_add, Nat.reduceAdd, Option.some.injEq, exists_eq_left', true_and, D.bl.injEq, Bool.not_true, Bool.not_false, Bool.false_eq_true, if_false, if_true, lenD_tup, List.length_map, subD_int]
    by_cases hl : ds.length = 3
    · match ds, hl with
      | [x, y, c], _ =>
        have l3 : ¬ ((([x, y, c] : List D).length : Nat) : Int) = 3 ↔ False := by simp
        have i2 : ixD (.tup [x, y, c]) (.int 2) = some c := ix2 _ _ _ _
        have i0 : ixD (.tup [x, y, c]) (.int 0) = some x := ix0 _ _
        have i1 : ixD (.tup [x, y, c]) (.int 1) = some y := ix1 _ _ _
        have ng : negD (.int 4000000) = some (.int (-4000000)) := rfl
        have cu : DL.cutD (.tup [x, y, c]) none (some 2) = some (.tup [x, y]) := cut_lo [x, y, c] 2
        simp only [l3, decide_false, Bool.false_eq_true, if_false, i2, Option.some.injEq, exists_eq_left', ng, m_law_between, D.bl.injEq]
        cases hc : btw c (-4000000) 4000000 with
        | false => simp [conB, hc]
        | true =>
          simp only [Bool.not_true, Bool.false_eq_true, if_false, sFor, wAny, tSlD, tVarD, oNone, oSome, tCD, hide_nil, List.getElem?_cons_zero, List.getElem?_cons_succ, Option.some.injEq, exists_eq_left', D.int.injEq, cu]
          have ee1 : ∀ P : List D → Prop, (∃ ds, (D.tup [x, y] = .lst ds ∨ D.tup [x, y] = .tup ds) ∧ P ds) ↔ P [x, y] := fun P => by
            constructor
            · rintro ⟨ds, e | e, h⟩
              · cases e
              · cases e
                exact h
            · exact fun h => ⟨_, .inr rfl, h⟩
          rw [ee1]
          refine (forD_if (sideB names) (fun _ ρ => ∃ z, ρ = [some (.lst (names.map D.int)), some (.tup [x, y, c]), z]) (.bl false) (q (.bl (!sameB x y)) n) ⟨none, rfl⟩ (fun pre' e post eq hp ρ hρ => ?_) fun hs ρE hE => ?_).trans ?_
          · obtain ⟨z, rfl⟩ := hρ
            have he : NP e := h.mem (by
              have : e ∈ [x, y] := by
                rw [eq]
                simp
              simp only [List.mem_cons, List.not_mem_nil, or_false] at this ⊢
              rcases this with rfl | rfl <;> simp)
            refine ⟨_, rfl, fun hb => ⟨[some (.lst (names.map D.int)), some (.tup [x, y, c]), some e], ⟨_, rfl⟩, fun De n hr => ?_⟩, fun hb De n hr => ?_⟩
            · simp only [bAnd, notD, m_law_between, in_ints he, sSeq, sNil, sIf, sRet, sRetN, tVarD, tCD, tOpD, tOp1D, tCallD, tCallB, aNil, aCons, bVal, bNot, bCmp, bOr, tTupD, sAsg, hide_nil, fTup, fsCons, fsNil, fName, Option.bind_some, List.set_cons_zero, List.set_cons_succ, List.map_cons, List.map_nil, List.length_cons, List.length_nil, List.getElem?_cons_zero, List.getElem?_cons_succ, Nat.zero_add, Nat.reduceAdd, Option.some.injEq, exists_eq_left', true_and, D.bl.injEq, Bool.not_true, Bool.not_false, Bool.false_eq_true, if_false, if_true, lenD_tup, List.length_map, subD_int]
              cases e <;> simp [sideB] at hb <;> simp [isN, btw, memB]
              rename_i i
              have := hn i hb
              simp [hb, this]
              intro hh
              omega
            · simp only [bAnd, notD, m_law_between, in_ints he, sSeq, sNil, sIf, sRet, sRetN, tVarD, tCD, tOpD, tOp1D, tCallD, tCallB, aNil, aCons, bVal, bNot, bCmp, bOr, tTupD, sAsg, hide_nil, fTup, fsCons, fsNil, fName, Option.bind_some, List.set_cons_zero, List.set_cons_succ, List.map_cons, List.map_nil, List.length_cons, List.length_nil, List.getElem?_cons_zero, List.getElem?_cons_succ, Nat.zero_add, Nat.reduceAdd, Option.some.injEq, exists_eq_left', true_and, D.bl.injEq, Bool.not_true, Bool.not_false, Bool.false_eq_true, if_false, if_true, lenD_tup, List.length_map, subD_int]
              cases e <;> simp [sideB] at hb <;> simp [isN, btw, memB]
              rename_i i
              simp [hb]
          · obtain ⟨z, rfl⟩ := hE
            simp only [List.all_cons, List.all_nil, Bool.and_true, Bool.and_eq_true] at hs
            simp only [i0, i1, (eq_sides hs.1 hs.2).2, sSeq, sNil, sIf, sRet, sRetN, tVarD, tCD, tOpD, tOp1D, tCallD, tCallB, aNil, aCons, bVal, bNot, bCmp, bOr, tTupD, sAsg, hide_nil, fTup, fsCons, fsNil, fName, Option.bind_some, List.set_cons_zero, List.set_cons_succ, List.map_cons, List.map_nil, List.length_cons, List.length_nil, List.getElem?_cons_zero, List.getElem?_cons_succ, Nat.zero_add, Nat.reduceAdd, Option.some.injEq, exists_eq_left', true_and, D.bl.injEq, Bool.not_true, Bool.not_false, Bool.false_eq_true, if_false, if_true, lenD_tup, List.length_map, subD_int]
          · by_cases hs : [x, y].all (sideB names) = true
            · have hs' := hs
              simp only [List.all_cons, List.all_nil, Bool.and_true, Bool.and_eq_true] at hs'
              simp [hs, conB, hs'.1, hs'.2, hc]
            · have : conB names (.tup [x, y, c]) = false := by
                simp only [List.all_cons, List.all_nil, Bool.and_true, Bool.and_eq_true, not_and, Bool.not_eq_true] at hs
                show (sideB names x && sideB names y && !sameB x y && btw c (-4000000) 4000000) = false
                cases h1 : sideB names x with
                | false => rfl
                | true => simp [hs h1]
              rw [if_neg hs, this]
    · have : ¬ ((ds.length : Nat) : Int) = 3 := by omega
      have hT : isT (.tup ds) 3 = false := by simp [isT]; omega
      simp [this, conB_no hT]
  · have hT : isT d 3 = false := by
      cases d <;> simp [isT]
      exact absurd ⟨_, rfl⟩ ht
    simp [isTup_no fun ds e => ht ⟨ds, e⟩, conB_no hT]
theorem m_is_variable (d : D) (n : Nat) (q : QD) : T__is_variable [d] n q ↔ q (.bl (btw d 0 15)) n := by
  simp only [T__is_variable, fnD, startE, List.replicate, List.cons_append, List.nil_append, m_lies_between, sSeq, sNil, sIf, sRet, sRetN, tVarD, tCD, tOpD, tOp1D, tCallD, tCallB, aNil, aCons, bVal, bNot, bCmp, bOr, tTupD, sAsg, hide_nil, fTup, fsCons, fsNil, fName, Option.bind_some, List.set_cons_zero, List.set_cons_succ, List.map_cons, List.map_nil, List.length_cons, List.length_nil, List.getElem?_cons_zero, List.getElem?_cons_succ, Nat.zero_add, Nat.reduceAdd, Option.some.injEq, exists_eq_left', true_and, D.bl.injEq, Bool.not_true, Bool.not_false, Bool.false_eq_true, if_false, if_true, lenD_tup, List.length_map, subD_int]
def vars : D → List D
  | .tup [_, .tup vs] => vs
  | _ => []
def partB (ts : List Tab) : D → Bool
  | .tup [t, .tup vs] => btw t 0 ((ts.length : Int) - 1) && decide (vs.length = (ix ts (intOf t)).cols.length) && vs.all (fun v => btw v 0 15)
  | _ => false
theorem partB_get {ts : List Tab} {d : D} (h : partB ts d = true) : ∃ (t : Int) (ns : List Int), d = .tup [.int t, .tup (ns.map D.int)] ∧ 0 ≤ t ∧ t < ts.length ∧ ns.length = (ix ts t).cols.length ∧ ∀ i ∈ ns, 0 ≤ i ∧ i ≤ 15 := by
  unfold partB at h
  split at h
  · rename_i t vs
    simp only [Bool.and_eq_true, decide_eq_true_eq] at h
    obtain ⟨⟨h1, h2⟩, h3⟩ := h
    obtain ⟨i, rfl, a, b⟩ := btw_get h1
    obtain ⟨ns, rfl, _, e3⟩ := ints_of_btw h3
    exact ⟨i, ns, rfl, a, by omega, by simpa [intOf] using h2, e3⟩
  · cases h
theorem sch_len (ts : List Tab) : lenD [.tup (ts.map tabD)] = some (.int (ts.length : Nat)) := by simp [lenD]
theorem tab_cols {ts : List Tab} {t : Int} (h0 : 0 ≤ t) (h1 : t < ts.length) : ixD (.tup (ts.map tabD)) (.int t) = some (tabD (ix ts t)) := tab_at h0 h1
theorem m_is_part {ts : List Tab} (hts : ∀ t ∈ ts, t.Ok) (d : D) (n : Nat) (q : QD) : T__is_part [.tup (ts.map tabD), d] n q ↔ q (.bl (partB ts d)) n := by
  have LL : LIM = 1000000 := rfl
  simp only [T__is_part, fnD, startE, List.replicate, List.cons_append, List.nil_append, m_is_tuple_of, sSeq, sNil, sIf, sRet, sRetN, tVarD, tCD, tOpD, tOp1D, tCallD, tCallB, aNil, aCons, bVal, bNot, bCmp, bOr, tTupD, sAsg, hide_nil, fTup, fsCons, fsNil, fName, Option.bind_some, List.set_cons_zero, List.set_cons_succ, List.map_cons, List.map_nil, List.length_cons, List.length_nil, List.getElem?_cons_zero, List.getElem?_cons_succ, Nat.zero_add, Nat.reduceAdd, Option.some.injEq, exists_eq_left', true_and, D.bl.injEq, Bool.not_true, Bool.not_false, Bool.false_eq_true, if_false, if_true, lenD_tup, List.length_map, subD_int]
  cases h : isT d 2 with
  | false =>
    have : partB ts d = false := by
      unfold partB
      split
      · simp [isT] at h
      · rfl
    simp [this]
  | true =>
    obtain ⟨ds, rfl, hl⟩ := isT_get h
    match ds, hl with
    | [t, vs], _ =>
      simp only [sch_len, m_lies_between, sSeq, sNil, sIf, sRet, sRetN, tVarD, tCD, tOpD, tOp1D, tCallD, tCallB, aNil, aCons, bVal, bNot, bCmp, bOr, tTupD, sAsg, hide_nil, fTup, fsCons, fsNil, fName, Option.bind_some, List.set_cons_zero, List.set_cons_succ, List.map_cons, List.map_nil, List.length_cons, List.length_nil, List.getElem?_cons_zero, List.getElem?_cons_succ, Nat.zero_add, Nat.reduceAdd, Option.some.injEq, exists_eq_left', true_and, D.bl.injEq, Bool.not_true, Bool.not_false, Bool.false_eq_true, if_false, if_true, lenD_tup, List.length_map, subD_int]
      cases hb : btw t 0 ((ts.length : Int) - 1) with
      | false =>
        have : partB ts (.tup [t, vs]) = false := by
          unfold partB
          split
          · rename_i e
            injection e with e
            injection e with e1 e
            subst e1
            simp [hb]
          · rfl
        simp [this]
      | true =>
        obtain ⟨i, rfl, i0, i1⟩ := btw_get hb
        have t0 : ixD (tabD (ix ts i)) (.int 0) = some (.tup ((ix ts i).cols.map colD)) := rfl
        simp only [tab_cols (ts := ts) i0 (by omega), t0, m_is_tuple_of, sSeq, sNil, sIf, sRet, sRetN, tVarD, tCD, tOpD, tOp1D, tCallD, tCallB, aNil, aCons, bVal, bNot, bCmp, bOr, tTupD, sAsg, hide_nil, fTup, fsCons, fsNil, fName, Option.bind_some, List.set_cons_zero, List.set_cons_succ, List.map_cons, List.map_nil, List.length_cons, List.length_nil, List.getElem?_cons_zero, List.getElem?_cons_succ, Nat.zero_add, Nat.reduceAdd, Option.some.injEq, exists_eq_left', true_and, D.bl.injEq, Bool.not_true, Bool.not_false, Bool.false_eq_true, if_false, if_true, lenD_tup, List.length_map, subD_int]
        cases hT : isT vs ((ix ts i).cols.length : Nat) with
        | false =>
          have : partB ts (.tup [.int i, vs]) = false := by
            unfold partB
            split
            · rename_i ws e
              injection e with e
              injection e with e1 e
              injection e with e2 e
              subst e1 e2
              have : ¬ ws.length = (ix ts i).cols.length := fun e => by simp [isT, e] at hT
              simp [intOf, this]
            · rfl
          simp [this]
        | true =>
          obtain ⟨ws, rfl, hw⟩ := isT_get hT
          have hw' : ws.length = (ix ts i).cols.length := by omega
          have hk := (hts _ (ix_mem i0 (by omega))).len
          simp only [Bool.not_true, Bool.false_eq_true, if_false]
          rw [tComp_at (ds := ws) (fun v => .bl (btw v 0 15)) (.inl rfl) rfl]
          · simp only [allD_map, Option.some.injEq, exists_eq_left']
            simp [partB, hb, intOf, hw']
          · intro v hv
            refine ⟨_, rfl, fun n k => ?_⟩
            simp only [wipeE, m_is_variable, sSeq, sNil, sIf, sRet, sRetN, tVarD, tCD, tOpD, tOp1D, tCallD, tCallB, aNil, aCons, bVal, bNot, bCmp, bOr, tTupD, sAsg, hide_nil, fTup, fsCons, fsNil, fName, Option.bind_some, List.set_cons_zero, List.set_cons_succ, List.map_cons, List.map_nil, List.length_cons, List.length_nil, List.getElem?_cons_zero, List.getElem?_cons_succ, Nat.zero_add, Nat.reduceAdd, Option.some.injEq, exists_eq_left', true_and, D.bl.injEq, Bool.not_true, Bool.not_false, Bool.false_eq_true, if_false, if_true, lenD_tup, List.length_map, subD_int]
          · omega
end K10
set_option maxHeartbeats 4000000
namespace K10
open PySem PySem.Spec PyProof.Rows L2 DL
def tupMost (k : Int) : D → Bool
  | .tup ds => decide ((ds.length : Int) ≤ k)
  | _ => false
theorem tupMost_get {k : Int} {d : D} (h : tupMost k d = true) : ∃ ds, d = .tup ds ∧ (ds.length : Int) ≤ k := by
  unfold tupMost at h
  split at h
  · exact ⟨_, rfl, of_decide_eq_true h⟩
  · cases h
theorem most_tests (i : Nat) (k : Int) (ρ : DL.Env) (d : D) (hd : ρ[i]? = some (some d)) (n : Nat) (q : Bool → Nat → Prop) :
    bOr (bNot (bVal (tIsi "tuple" (tVarD i)))) (bCmp gtD (tCallB lenD (aCons (tVarD i) aNil)) (tCD (.int k))) ρ n q ↔ q (!tupMost k d) n := by
  simp only [bOr, tIsi, hd, fnD, startE, hide_nil, sSeq, sNil, sIf, sRet, sRetN, tVarD, tCD, tOpD, tOp1D, tCallD, tCallB, aNil, aCons, bVal, bNot, bCmp, List.map_cons, List.map_nil, List.length_cons, List.length_nil, List.replicate, List.cons_append, List.nil_append, List.append_nil, List.getElem?_cons_zero, List.getElem?_cons_succ, Nat.zero_add, Nat.reduceAdd, Nat.reduceSub, Option.some.injEq, exists_eq_left', true_and, D.bl.injEq]
  by_cases ht : ∃ ds, d = .tup ds
  · obtain ⟨ds, rfl⟩ := ht
    simp only [isTup_tup, exists_eq_left', Bool.not_true, Bool.false_eq_true, if_false, lenD_tup, Option.some.injEq, gtD_int, D.bl.injEq, tupMost]
    by_cases h1 : ((ds.length : Nat) : Int) ≤ k
    · have : ¬ k < ((ds.length : Nat) : Int) := by omega
      simp [h1, this]
    · have : k < ((ds.length : Nat) : Int) := by omega
      simp [h1, this]
  · have h : ∀ ds, d ≠ .tup ds := fun ds h => ht ⟨ds, h⟩
    have : tupMost k d = false := by
      unfold tupMost
      split
      · exact absurd rfl (h _)
      · rfl
    simp [isTup_no h, this]
/-- all([.. for x in a tuple]) as a test -/
theorem all_tests {f : D → DL.Env → Option DL.Env} {Te : TD} {vs : List Nat} (p : D → Bool) (i : Nat) {ρ : DL.Env} {ds : List D} (h0 : ρ[i]? = some (some (.tup ds))) (h : ∀ d ∈ ds, ∃ ρ', f d (wipeE ρ vs) = some ρ' ∧ ∀ n k, Te ρ' n k ↔ k (.bl (p d)) n) (hl : ds.length ≤ LIM) (n : Nat) (q : Bool → Nat → Prop) :
    bNot (bVal (tCallB allD (aCons (tComp (wAny (tVarD i)) f bYes Te vs) aNil))) ρ n q ↔ q (!ds.all p) n := by
  simp only [bNot, bVal, tCallB, aCons, aNil]
  rw [tComp_at (ds := ds) (fun v => .bl (p v)) (.inl rfl) h0 h hl]
  simp only [allD_map, Option.some.injEq, exists_eq_left', D.bl.injEq]
/-- False in [.. for x in a tuple] as a test -/
theorem some_tests {f : D → DL.Env → Option DL.Env} {Te : TD} {vs : List Nat} (p : D → Bool) (i : Nat) {ρ : DL.Env} {ds : List D} (h0 : ρ[i]? = some (some (.tup ds))) (h : ∀ d ∈ ds, ∃ ρ', f d (wipeE ρ vs) = some ρ' ∧ ∀ n k, Te ρ' n k ↔ k (.bl (p d)) n) (hl : ds.length ≤ LIM) (n : Nat) (q : Bool → Nat → Prop) :
    bCmp (inD false) (tCD (.bl false)) (tComp (wAny (tVarD i)) f bYes Te vs) ρ n q ↔ q (!ds.all p) n := by
  simp only [bCmp, tOpD, tCD]
  rw [tComp_at (ds := ds) (fun v => .bl (p v)) (.inl rfl) h0 h hl]
  simp only [inD_bls, Option.some.injEq, exists_eq_left', D.bl.injEq]
def namesOf (ps : List D) : List Int := (ps.flatMap vars).map intOf
def outB (names : List Int) (v : D) : Bool := btw v 0 15 && memB names v
def qryB (ts : List Tab) : D → Bool
  | .tup [.tup ps, .tup cs, .tup os] => tupLen 4 (.tup ps) && ps.all (partB ts) && tupMost 8 (.tup cs) && cs.all (conB (namesOf ps)) && tupMost 8 (.tup os) && os.all (outB (namesOf ps))
  | _ => false
theorem qryB_no {ts : List Tab} {d : D} (h : isT d 3 = false) : qryB ts d = false := by
  unfold qryB
  split
  · simp [isT] at h
  · rfl
theorem qryB_noP {ts : List Tab} {a b c : D} (h : tupLen 4 a = false) : qryB ts (.tup [a, b, c]) = false := by
  unfold qryB
  split
  · rename_i e
    injection e with e
    injection e with e1 e
    subst e1
    simp [h]
  · rfl
theorem qryB_noC {ts : List Tab} {ps : List D} {b c : D} (h : tupMost 8 b = false) : qryB ts (.tup [.tup ps, b, c]) = false := by
  unfold qryB
  split
  · rename_i e
    injection e with e
    injection e with e1 e
    injection e with e2 e
    subst e2
    simp [h]
  · rfl
theorem qryB_noO {ts : List Tab} {ps cs : List D} {c : D} (h : tupMost 8 c = false) : qryB ts (.tup [.tup ps, .tup cs, c]) = false := by
  unfold qryB
  split
  · rename_i e
    injection e with e
    injection e with e1 e
    injection e with e2 e
    injection e with e3 e
    subst e3
    simp [h]
  · rfl
theorem names_of {ts : List Tab} : ∀ {ps : List D}, ps.all (partB ts) = true → ps.flatMap vars = (namesOf ps).map D.int ∧ (∀ i ∈ namesOf ps, 0 ≤ i ∧ i ≤ 15)
  | [], _ => ⟨rfl, by simp [namesOf]⟩
  | p :: ps, h => by
    simp only [List.all_cons, Bool.and_eq_true] at h
    obtain ⟨t, ns, rfl, _, _, _, h4⟩ := partB_get h.1
    obtain ⟨e1, e2⟩ := names_of h.2
    have e3 : namesOf (.tup [.int t, .tup (ns.map D.int)] :: ps) = ns ++ namesOf ps := by
      unfold namesOf
      simp only [List.flatMap_cons, List.map_append, vars, ints_map]
    refine ⟨?_, fun i hi => ?_⟩
    · rw [e3, List.map_append, List.flatMap_cons, e1]
      rfl
    · rw [e3] at hi
      rcases List.mem_append.mp hi with hi | hi
      · exact h4 i hi
      · exact e2 i hi
theorem names_len {ts : List Tab} (hts : ∀ t ∈ ts, t.Ok) : ∀ {ps : List D}, ps.all (partB ts) = true → (ps.map fun d => (vars d).length).sum ≤ 4 * ps.length
  | [], _ => by simp
  | p :: ps, h => by
    simp only [List.all_cons, Bool.and_eq_true] at h
    obtain ⟨t, ns, rfl, h1, h2, h3, h4⟩ := partB_get h.1
    have := names_len hts h.2
    have := (hts _ (ix_mem h1 h2)).len
    have hv : vars (.tup [.int t, .tup (ns.map D.int)]) = ns.map D.int := rfl
    rw [List.map_cons, List.sum_cons, hv, List.length_map, List.length_cons]
    omega
theorem qryB_noA {ts : List Tab} {ps : List D} {b c : D} (h : ps.all (partB ts) = false) : qryB ts (.tup [.tup ps, b, c]) = false := by
  unfold qryB
  split
  · rename_i e
    injection e with e
    injection e with e1 e
    injection e1 with e1
    subst e1
    simp [h]
  · rfl
theorem qryB_noK {ts : List Tab} {ps cs : List D} {c : D} (h : cs.all (conB (namesOf ps)) = false) : qryB ts (.tup [.tup ps, .tup cs, c]) = false := by
  unfold qryB
  split
  · rename_i e
    injection e with e
    injection e with e1 e
    injection e with e2 e
    injection e1 with e1
    injection e2 with e2
    subst e1 e2
    simp [h]
  · rfl
theorem m_is_query {ts : List Tab} (hts : ∀ t ∈ ts, t.Ok) {d : D} (hd : NP d) (n : Nat) (q : QD) : T_is_query [.tup (ts.map tabD), d] n q ↔ q (.bl (qryB ts d)) n := by
  have LL : LIM = 1000000 := rfl
  simp only [T_is_query, fnD, startE, sSeq, sIf, sNil, sRet, sAsg, List.map_cons, List.map_nil, List.length_cons, List.length_nil, List.replicate, List.cons_append, List.nil_append, Nat.zero_add, Nat.reduceSub, Nat.reduceAdd, List.append_nil, true_and, hide_nil]
  simp only [bNot, bVal, m_is_tuple_of, fnD, startE, hide_nil, sSeq, sNil, sIf, sRet, sRetN, tVarD, tCD, tOpD, tOp1D, tCallD, tCallB, aNil, aCons, bVal, bNot, bCmp, List.map_cons, List.map_nil, List.length_cons, List.length_nil, List.replicate, List.cons_append, List.nil_append, List.append_nil, List.getElem?_cons_zero, List.getElem?_cons_succ, Nat.zero_add, Nat.reduceAdd, Nat.reduceSub, Option.some.injEq, exists_eq_left', true_and, D.bl.injEq]
  cases hT : isT d 3 with
  | false => simp [qryB_no hT, tCD]
  | true =>
    obtain ⟨ds, rfl, hl⟩ := isT_get hT
    match ds, hl with
    | [a, b, c], _ =>
      simp only [Bool.not_true, Bool.false_eq_true, if_false, tVarD, List.getElem?_cons_zero, List.getElem?_cons_succ, Option.some.injEq, exists_eq_left', fTup, fsCons, fName, fsNil, List.length_cons, List.length_nil, Nat.zero_add, Nat.reduceAdd, if_true, Option.bind_some, List.set_cons_zero, List.set_cons_succ]
      have ha : NP a := hd.mem (by simp)
      have hb : NP b := hd.mem (by simp)
      have hc : NP c := hd.mem (by simp)
      rw [head_tests 2 4 _ a rfl]
      cases hP : tupLen 4 a with
      | false => simp [qryB_noP hP]
      | true =>
        obtain ⟨ps, rfl, p1, p2⟩ := tupLen_get hP
        simp only [Bool.not_true, Bool.false_eq_true, if_false]
        rw [tComp_at (ds := ps) (fun d => .bl (partB ts d)) (.inl rfl) rfl]
        rotate_left
        · exact fun d hd => ⟨_, rfl, fun n k => by simp only [wipeE, m_is_part hts, sSeq, sNil, sIf, sRet, sRetN, tVarD, tCD, tOpD, tOp1D, tCallD, tCallB, aNil, aCons, bVal, bNot, bCmp, bOr, tTupD, sAsg, hide_nil, fTup, fsCons, fsNil, fName, Option.bind_some, List.set_cons_zero, List.set_cons_succ, List.map_cons, List.map_nil, List.length_cons, List.length_nil, List.getElem?_cons_zero, List.getElem?_cons_succ, Nat.zero_add, Nat.reduceAdd, Option.some.injEq, exists_eq_left', true_and, D.bl.injEq, Bool.not_true, Bool.not_false, Bool.false_eq_true, if_false, if_true, lenD_tup, List.length_map, subD_int]⟩
        · omega
        simp only [allD_map, Option.some.injEq, exists_eq_left', D.bl.injEq]
        cases hA : ps.all (partB ts) with
        | false => simp [qryB_noA hA]
        | true =>
          simp only [Bool.not_true, Bool.false_eq_true, if_false, tL, tComp2L, wAny, tVarD, List.getElem?_cons_zero, List.getElem?_cons_succ, Option.some.injEq, exists_eq_left']
          have ee1 : ∀ P : List D → Prop, (∃ ds, (D.tup ps = .lst ds ∨ D.tup ps = .tup ds) ∧ P ds) ↔ P ps := fun P => by
            constructor
            · rintro ⟨ds, e | e, h⟩
              · cases e
              · cases e
                exact h
            · exact fun h => ⟨_, .inr rfl, h⟩
          rw [ee1]
          obtain ⟨n1, n2⟩ := names_of hA
          rw [compD2_map vars (fun _ e => e)]
          rotate_left
          · intro d hd
            rw [List.all_eq_true] at hA
            obtain ⟨t, ns, rfl, _⟩ := partB_get (hA d hd)
            refine ⟨_, rfl, fun n k => ?_, fun e he => ⟨_, rfl, fun n k => ?_⟩⟩
            · simp only [wAny, fTup, wipeE, sSeq, sNil, sIf, sRet, sRetN, tVarD, tCD, tOpD, tOp1D, tCallD, tCallB, aNil, aCons, bVal, bNot, bCmp, bOr, tTupD, sAsg, hide_nil, fTup, fsCons, fsNil, fName, Option.bind_some, List.set_cons_zero, List.set_cons_succ, List.map_cons, List.map_nil, List.length_cons, List.length_nil, List.getElem?_cons_zero, List.getElem?_cons_succ, Nat.zero_add, Nat.reduceAdd, Option.some.injEq, exists_eq_left', true_and, D.bl.injEq, Bool.not_true, Bool.not_false, Bool.false_eq_true, if_false, if_true, lenD_tup, List.length_map, subD_int]
              constructor
              · rintro ⟨ds, e | e, h⟩
                · cases e
                · cases e
                  exact h
              · exact fun h => ⟨_, .inr rfl, h⟩
            · simp only [wipeE, sSeq, sNil, sIf, sRet, sRetN, tVarD, tCD, tOpD, tOp1D, tCallD, tCallB, aNil, aCons, bVal, bNot, bCmp, bOr, tTupD, sAsg, hide_nil, fTup, fsCons, fsNil, fName, Option.bind_some, List.set_cons_zero, List.set_cons_succ, List.map_cons, List.map_nil, List.length_cons, List.length_nil, List.getElem?_cons_zero, List.getElem?_cons_succ, Nat.zero_add, Nat.reduceAdd, Option.some.injEq, exists_eq_left', true_and, D.bl.injEq, Bool.not_true, Bool.not_false, Bool.false_eq_true, if_false, if_true, lenD_tup, List.length_map, subD_int]
          · have := names_len hts hA
            simp only [List.length_nil]
            omega
          · simp only [List.map_id', List.nil_append, n1]
            rw [most_tests 3 8 _ b rfl]
            cases hC : tupMost 8 b with
            | false => simp [qryB_noC hC]
            | true =>
              obtain ⟨cs, rfl, c1⟩ := tupMost_get hC
              simp only [Bool.not_true, Bool.false_eq_true, if_false]
              rw [tComp_at (ds := cs) (fun d => .bl (conB (namesOf ps) d)) (.inl rfl) rfl]
              rotate_left
              · exact fun d hd => ⟨_, rfl, fun n k => by simp only [wipeE, m_is_constraint (hb.mem hd), sSeq, sNil, sIf, sRet, sRetN, tVarD, tCD, tOpD, tOp1D, tCallD, tCallB, aNil, aCons, bVal, bNot, bCmp, bOr, tTupD, sAsg, hide_nil, fTup, fsCons, fsNil, fName, Option.bind_some, List.set_cons_zero, List.set_cons_succ, List.map_cons, List.map_nil, List.length_cons, List.length_nil, List.getElem?_cons_zero, List.getElem?_cons_succ, Nat.zero_add, Nat.reduceAdd, Option.some.injEq, exists_eq_left', true_and, D.bl.injEq, Bool.not_true, Bool.not_false, Bool.false_eq_true, if_false, if_true, lenD_tup, List.length_map, subD_int]⟩
              · omega
              simp only [allD_map, Option.some.injEq, exists_eq_left', D.bl.injEq]
              cases hK : cs.all (conB (namesOf ps)) with
              | false => simp [qryB_noK hK]
              | true =>
                simp only [Bool.not_true, Bool.false_eq_true, if_false]
                rw [most_tests 4 8 _ c rfl]
                cases hO : tupMost 8 c with
                | false => simp [qryB_noO hO]
                | true =>
                  obtain ⟨os, rfl, o1⟩ := tupMost_get hO
                  simp only [Bool.not_true, Bool.false_eq_true, if_false]
                  rw [tComp_at (ds := os) (fun d => .bl (outB (namesOf ps) d)) (.inl rfl) rfl]
                  rotate_left
                  · intro d hd
                    refine ⟨_, rfl, fun n k => ?_⟩
                    simp only [wipeE, tAndD, m_is_variable, in_ints (hc.mem hd), sSeq, sNil, sIf, sRet, sRetN, tVarD, tCD, tOpD, tOp1D, tCallD, tCallB, aNil, aCons, bVal, bNot, bCmp, bOr, tTupD, sAsg, hide_nil, fTup, fsCons, fsNil, fName, Option.bind_some, List.set_cons_zero, List.set_cons_succ, List.map_cons, List.map_nil, List.length_cons, List.length_nil, List.getElem?_cons_zero, List.getElem?_cons_succ, Nat.zero_add, Nat.reduceAdd, Option.some.injEq, exists_eq_left', true_and, D.bl.injEq, Bool.not_true, Bool.not_false, Bool.false_eq_true, if_false, if_true, lenD_tup, List.length_map, subD_int]
                    cases h : btw d 0 15 <;> simp [outB, h]
                  · omega
                  simp only [allD_map, Option.some.injEq, exists_eq_left', D.bl.injEq]
                  simp [qryB, hP, hA, hC, hK, hO]
end K10
set_option maxHeartbeats 4000000
namespace K10
open PySem PySem.Spec PyProof.Rows L2 DL
def partBody : TDS := (sSeq (sIf (bOr (bNot (bVal (tIsi "tuple" (tVarD 6)))) (bOr (bCmp neD (tCallB lenD (aCons (tVarD 6) aNil)) (tCD (.int 2))) (bNot (bVal (tCallD T__law_between (aCons (tOpD ixD (tVarD 6) (tCD (.int 0))) (aCons (tCD (.int 0)) (aCons (tOpD subD (tCallB lenD (aCons (tVarD 0) aNil)) (tCD (.int 1))) aNil)))))))) (sRet (tCD (.bl false))) sNil) (sSeq (sIf (bOr (bNot (bVal (tIsi "tuple" (tOpD ixD (tVarD 6) (tCD (.int 1)))))) (bCmp neD (tCallB lenD (aCons (tOpD ixD (tVarD 6) (tCD (.int 1))) aNil)) (tCallB lenD (aCons (tOpD ixD (tOpD ixD (tVarD 0) (tOpD ixD (tVarD 6) (tCD (.int 0)))) (tCD (.int 0))) aNil)))) (sRet (tCD (.bl false))) sNil) (sSeq (sIf (bCmp (inD false) (tCD (.bl false)) (tComp (wAny (tOpD ixD (tVarD 6) (tCD (.int 1)))) (fName 7) bYes (tCallD T__law_between (aCons (tVarD 7) (aCons (tCD (.int 0)) (aCons (tCD (.int 15)) aNil)))) [7])) (sRet (tCD (.bl false))) sNil) (sAsg [] (fName 5) (tOpD addD (tVarD 5) (tCallB listD (aCons (tOpD ixD (tVarD 6) (tCD (.int 1))) aNil)))))))
theorem partB_no {ts : List Tab} {d : D} (h : ∀ t vs, d ≠ .tup [t, .tup vs]) : partB ts d = false := by
  unfold partB
  split
  · exact absurd rfl (h _ _)
  · rfl
theorem tComp_gen {f : D → DL.Env → Option DL.Env} {Te : TD} (g : D → D) {Tx : TD} {vs : List Nat} {ds : List D} {ρ : DL.Env} {d : D} (hd : d = .tup ds ∨ d = .lst ds) (h0 : ∀ n q, Tx ρ n q ↔ q d n) (h : ∀ d ∈ ds, ∃ ρ', f d (wipeE ρ vs) = some ρ' ∧ ∀ n k, Te ρ' n k ↔ k (g d) n) (hl : ds.length ≤ LIM) (n : Nat) (q : QD) :
    tComp (wAny Tx) f bYes Te vs ρ n q ↔ q (.lst (ds.map g)) n := by
  unfold tComp wAny
  rw [h0]
  constructor
  · rintro ⟨ds', e2, e3⟩
    have : ds' = ds := by
      rcases e2 with rfl | rfl <;> rcases hd with hd | hd <;> cases hd <;> rfl
    subst this
    have := (compD_map g ds' [] n _ h (by simpa using hl)).mp e3
    simpa using this
  · intro hq
    refine ⟨ds, hd.symm, ?_⟩
    refine (compD_map g ds [] n _ h (by simpa using hl)).mpr ?_
    simpa using hq
theorem m_part_body {ts : List Tab} (hts : ∀ t ∈ ts, t.Ok) {d x1 x2 x3 x4 : D} {names : List Int} (hnl : names.length ≤ 100) {z7 : Option D} {De : DE} {n : Nat} :
    partBody De [some (.tup (ts.map tabD)), some x1, some x2, some x3, some x4, some (.lst (names.map D.int)), some d, z7] n ↔
    if partB ts d = true then De.nx [some (.tup (ts.map tabD)), some x1, some x2, some x3, some x4, some (.lst ((names ++ (vars d).map intOf).map D.int)), some d, z7] n else De.rt (.bl false) n := by
  have LL : LIM = 1000000 := rfl
  simp only [partBody, tIsi, sSeq, sNil, sIf, sRet, sRetN, tVarD, tCD, tOpD, tOp1D, tCallD, tCallB, aNil, aCons, bVal, bNot, bCmp, bOr, tTupD, sAsg, hide_nil, fTup, fsCons, fsNil, fName, Option.bind_some, List.set_cons_zero, List.set_cons_succ, List.map_cons, List.map_nil, List.length_cons, List.length_nil, List.getElem?_cons_zero, List.getElem?_cons_succ, Nat.zero_add, Nat.reduceAdd, Option.some.injEq, exists_eq_left', true_and, D.bl.injEq, Bool.not_true, Bool.not_false, Bool.false_eq_true, if_false, if_true, lenD_tup, List.length_map, subD_int]
  by_cases ht : ∃ ds, d = .tup ds
  · obtain ⟨ds, rfl⟩ := ht
    simp only [isTup_tup, neD_int, sSeq, sNil, sIf, sRet, sRetN, tVarD, tCD, tOpD, tOp1D, tCallD, tCallB, aNil, aCons, bVal, bNot, bCmp, bOr, tTupD, sAsg, hide_nil, fTup, fsCons, fsNil, fName, Option.bind_some, List.set_cons_zero, List.set_cons_succ, List.map_cons, List.map_nil, List.length_cons, List.length_nil, List.getElem?_cons_zero, List.getElem?_cons_succ, Nat.zero_add, Nat.reduceAdd, Option.some.injEq, exists_eq_left', true_and, D.bl.injEq, Bool.not_true, Bool.not_false, Bool.false_eq_true, if_false, if_true, lenD_tup, List.length_map, subD_int]
    by_cases hl : ds.length = 2
    · match ds, hl with
      | [t, vs], _ =>
        have l2 : ¬ ((([t, vs] : List D).length : Nat) : Int) = 2 ↔ False := by simp
        have i0 : ixD (.tup [t, vs]) (.int 0) = some t := ix0 _ _
        have i1 : ixD (.tup [t, vs]) (.int 1) = some vs := ix1 _ _ _
        simp only [l2, decide_false, Bool.false_eq_true, if_false, i0, i1, Option.some.injEq, exists_eq_left', m_law_between, D.bl.injEq]
        cases hb : btw t 0 ((ts.length : Int) - 1) with
        | false =>
          have : partB ts (.tup [t, vs]) = false := by
            unfold partB
            split
            · rename_i e
              injection e with e
              injection e with e1 e
              subst e1
              simp [hb]
            · rfl
          simp [this]
        | true =>
          obtain ⟨i, rfl, j0, j1⟩ := btw_get hb
          simp only [Bool.not_true, Bool.false_eq_true, if_false]
          by_cases hv : ∃ ws, vs = .tup ws
          · obtain ⟨ws, rfl⟩ := hv
            have t0 : ixD (tabD (ix ts i)) (.int 0) = some (.tup ((ix ts i).cols.map colD)) := rfl
            have ll : ((([.int i, .tup ws] : List D).length : Nat) : Int) = 2 := by simp
            simp only [isTup_tup, tab_cols (ts := ts) j0 (by omega), t0, neD_int, sSeq, sNil, sIf, sRet, sRetN, tVarD, tCD, tOpD, tOp1D, tCallD, tCallB, aNil, aCons, bVal, bNot, bCmp, bOr, tTupD, sAsg, hide_nil, fTup, fsCons, fsNil, fName, Option.bind_some, List.set_cons_zero, List.set_cons_succ, List.map_cons, List.map_nil, List.length_cons, List.length_nil, List.getElem?_cons_zero, List.getElem?_cons_succ, Nat.zero_add, Nat.reduceAdd, Option.some.injEq, exists_eq_left', true_and, D.bl.injEq, Bool.not_true, Bool.not_false, Bool.false_eq_true, if_false, if_true, lenD_tup, List.length_map, subD_int]
            by_cases hw : ws.length = (ix ts i).cols.length
            · have hw' : ¬ ((ws.length : Nat) : Int) = (((ix ts i).cols.length : Nat) : Int) ↔ False := by
                constructor
                · intro h
                  omega
                · exact fun h => h.elim
              have hk := (hts _ (ix_mem j0 (by omega))).len
              simp only [hw', decide_false, Bool.false_eq_true, if_false]
              rw [tComp_gen (ds := ws) (d := .tup ws) (fun v => .bl (btw v 0 15)) (.inl rfl)]
              rotate_left
              · intro n q
                simp only [tOpD, tVarD, tCD, List.getElem?_cons_zero, List.getElem?_cons_succ, Option.some.injEq, exists_eq_left', i1]
              · intro v hv
                refine ⟨_, rfl, fun n k => ?_⟩
                simp only [wipeE, m_law_between, sSeq, sNil, sIf, sRet, sRetN, tVarD, tCD, tOpD, tOp1D, tCallD, tCallB, aNil, aCons, bVal, bNot, bCmp, bOr, tTupD, sAsg, hide_nil, fTup, fsCons, fsNil, fName, Option.bind_some, List.set_cons_zero, List.set_cons_succ, List.map_cons, List.map_nil, List.length_cons, List.length_nil, List.getElem?_cons_zero, List.getElem?_cons_succ, Nat.zero_add, Nat.reduceAdd, Option.some.injEq, exists_eq_left', true_and, D.bl.injEq, Bool.not_true, Bool.not_false, Bool.false_eq_true, if_false, if_true, lenD_tup, List.length_map, subD_int]
              · omega
              simp only [inD_bls, Option.some.injEq, exists_eq_left', D.bl.injEq]
              cases ha : ws.all (fun v => btw v 0 15) with
              | false => simp [partB, hb, intOf, hw, ha]
              | true =>
                obtain ⟨ns, rfl, _, e3⟩ := ints_of_btw ha
                have lD : listD [.tup (ns.map D.int)] = some (.lst (ns.map D.int)) := rfl
                have al : addD (.lst (names.map D.int)) (.lst (ns.map D.int)) = some (.lst (names.map D.int ++ ns.map D.int)) := add_lst (by simp only [List.length_map] at hw ⊢; omega)
                have pB : partB ts (.tup [.int i, .tup (ns.map D.int)]) = true := by simp [partB, hb, intOf, hw, ha]
                have vv : (vars (.tup [.int i, .tup (ns.map D.int)])).map intOf = ns := ints_map ns
                simp only [Bool.not_true, Bool.false_eq_true, if_false, lD, al, Option.some.injEq, exists_eq_left', pB, if_true, vv, List.map_append]
            · have hw' : ¬ ((ws.length : Nat) : Int) = (((ix ts i).cols.length : Nat) : Int) := by omega
              simp [hw', partB, intOf, hw]
          · have : partB ts (.tup [.int i, vs]) = false := partB_no fun t ws e => by
              injection e with e
              injection e with e1 e
              injection e with e2 e
              exact hv ⟨ws, e2⟩
            simp [isTup_no fun ds e => hv ⟨ds, e⟩, this]
    · have h2 : ¬ ((ds.length : Nat) : Int) = 2 := by omega
      have : partB ts (.tup ds) = false := partB_no fun t ws e => by
        injection e with e
        rw [e] at hl
        exact hl rfl
      simp [h2, this]
  · have : partB ts d = false := partB_no fun t ws e => ht ⟨_, e⟩
    simp [isTup_no fun ds e => ht ⟨ds, e⟩, this]
theorem names_app (ps : List D) (d : D) : namesOf (ps ++ [d]) = namesOf ps ++ (vars d).map intOf := by
  unfold namesOf
  simp
theorem names_le {ts : List Tab} (hts : ∀ t ∈ ts, t.Ok) {ps : List D} (h : ps.all (partB ts) = true) : (namesOf ps).length ≤ 4 * ps.length := by
  have := names_len hts h
  unfold namesOf
  rw [List.length_map, List.length_flatMap]
  exact this
theorem law_is_query_eq : T__law_is_query = fnD 2 8 (sSeq (sIf (bOr (bNot (bVal (tIsi "tuple" (tVarD 1)))) (bOr (bCmp neD (tCallB lenD (aCons (tVarD 1) aNil)) (tCD (.int 3))) (bCmp (inD false) (tCD (.bl false)) (tComp (wAny (tVarD 1)) (fName 7) bYes (tIsi "tuple" (tVarD 7)) [7])))) (sRet (tCD (.bl false))) sNil) (sSeq (sAsg [] (fTup 3 (fsCons (fName 2) (fsCons (fName 3) (fsCons (fName 4) fsNil)))) (tVarD 1)) (sSeq (sIf (bNot (bChain leD leD (tCD (.int 1)) (tCallB lenD (aCons (tVarD 2) aNil)) (tCD (.int 4)))) (sRet (tCD (.bl false))) sNil) (sSeq (sAsg [] (fName 5) (tLstD aNil)) (sSeq (sFor [] (wAny (tVarD 2)) (fName 6) partBody) (sSeq (sIf (bOr (bCmp gtD (tCallB lenD (aCons (tVarD 3) aNil)) (tCD (.int 8))) (bOr (bCmp (inD false) (tCD (.bl false)) (tComp (wAny (tVarD 3)) (fName 7) bYes (tCallD T__law_is_constraint (aCons (tVarD 5) (aCons (tVarD 7) aNil))) [7])) (bCmp gtD (tCallB lenD (aCons (tVarD 4) aNil)) (tCD (.int 8))))) (sRet (tCD (.bl false))) sNil) (sRet (tOpD (inD true) (tCD (.bl false)) (tComp (wAny (tVarD 4)) (fName 7) bYes (tAndD (tCallD T__law_between (aCons (tVarD 7) (aCons (tCD (.int 0)) (aCons (tCD (.int 15)) aNil)))) (tOpD (inAD false) (tVarD 7) (tVarD 5))) [7]))))))))) := rfl
def restB (names : List Int) (cs os : List D) : Bool := decide (cs.length ≤ 8) && cs.all (conB names) && decide (os.length ≤ 8) && os.all (outB names)
theorem m_law_is_query {ts : List Tab} (hts : ∀ t ∈ ts, t.Ok) {d : D} (hd : NP d) (n : Nat) (q : QD) : T__law_is_query [.tup (ts.map tabD), d] n q ↔ q (.bl (qryB ts d)) n := by
  have LL : LIM = 1000000 := rfl
  rw [law_is_query_eq]
  simp only [fnD, startE, List.replicate, List.cons_append, List.nil_append, tIsi, sSeq, sNil, sIf, sRet, sRetN, tVarD, tCD, tOpD, tOp1D, tCallD, tCallB, aNil, aCons, bVal, bNot, bCmp, bOr, tTupD, sAsg, hide_nil, fTup, fsCons, fsNil, fName, Option.bind_some, List.set_cons_zero, List.set_cons_succ, List.map_cons, List.map_nil, List.length_cons, List.length_nil, List.getElem?_cons_zero, List.getElem?_cons_succ, Nat.zero_add, Nat.reduceAdd, Option.some.injEq, exists_eq_left', true_and, D.bl.injEq, Bool.not_true, Bool.not_false, Bool.false_eq_true, if_false, if_true, lenD_tup, List.length_map, subD_int]
  by_cases ht : ∃ ds, d = .tup ds
  · obtain ⟨ds, rfl⟩ := ht
    simp only [isTup_tup, neD_int, sSeq, sNil, sIf, sRet, sRetN, tVarD, tCD, tOpD, tOp1D, tCallD, tCallB, aNil, aCons, bVal, bNot, bCmp, bOr, tTupD, sAsg, hide_nil, fTup, fsCons, fsNil, fName, Option.bind_some, List.set_cons_zero, List.set_cons_succ, List.map_cons, List.map_nil, List.length_cons, List.length_nil, List.getElem?_cons_zero, List.getElem?_cons_succ, Nat.zero_add, Nat.reduceAdd, Option.some.injEq, exists_eq_left', true_and, D.bl.injEq, Bool.not_true, Bool.not_false, Bool.false_eq_true, if_false, if_true, lenD_tup, List.length_map, subD_int]
    by_cases hl : ds.length = 3
    · match ds, hl with
      | [a, b, c], _ =>
        have l3 : ¬ ((([a, b, c] : List D).length : Nat) : Int) = 3 ↔ False := by simp
        have l3' : ([a, b, c] : List D).length = 3 := rfl
        simp only [l3, decide_false, Bool.false_eq_true, if_false]
        rw [tComp_at (ds := [a, b, c]) (fun v => .bl (isTy "tuple" v)) (.inl rfl) rfl]
        rotate_left
        · intro v hv
          refine ⟨_, rfl, fun n k => ?_⟩
          simp only [wipeE, tIsi, sSeq, sNil, sIf, sRet, sRetN, tVarD, tCD, tOpD, tOp1D, tCallD, tCallB, aNil, aCons, bVal, bNot, bCmp, bOr, tTupD, sAsg, hide_nil, fTup, fsCons, fsNil, fName, Option.bind_some, List.set_cons_zero, List.set_cons_succ, List.map_cons, List.map_nil, List.length_cons, List.length_nil, List.getElem?_cons_zero, List.getElem?_cons_succ, Nat.zero_add, Nat.reduceAdd, Option.some.injEq, exists_eq_left', true_and, D.bl.injEq, Bool.not_true, Bool.not_false, Bool.false_eq_true, if_false, if_true, lenD_tup, List.length_map, subD_int]
        · simp only [List.length_cons, List.length_nil]
          omega
        simp only [inD_bls, Option.some.injEq, exists_eq_left', D.bl.injEq]
        cases hall : [a, b, c].all (isTy "tuple") with
        | false =>
          have : qryB ts (.tup [a, b, c]) = false := by
            unfold qryB
            split
            · rename_i e
              injection e with e
              injection e with e1 e
              injection e with e2 e
              injection e with e3 e
              subst e1 e2 e3
              simp [isTup_tup] at hall
            · rfl
          simp [this]
        | true =>
          have tup : ∀ d, isTy "tuple" d = true → ∃ ds, d = .tup ds := fun d h => by
            cases d <;> simp [isTy, tyN] at h ⊢
          simp only [List.all_cons, List.all_nil, Bool.and_true, Bool.and_eq_true] at hall
          obtain ⟨ps, rfl⟩ := tup _ hall.1
          obtain ⟨cs, rfl⟩ := tup _ hall.2.1
          obtain ⟨os, rfl⟩ := tup _ hall.2.2
          have hb : NP (.tup cs) := hd.mem (by simp)
          have hc : NP (.tup os) := hd.mem (by simp)
          simp only [Bool.not_true, Bool.false_eq_true, if_false, l3', if_true, Option.some.injEq, exists_eq_left', List.set_cons_zero, List.set_cons_succ]
          rw [chain_len 2 4 _ ps rfl]
          cases hP : tupLen 4 (.tup ps) with
          | false => simp [qryB_noP hP]
          | true =>
            obtain ⟨ps', e, p1, p2⟩ := tupLen_get hP
            injection e with e
            subst e
            simp only [tLstD, sFor, wAny, Nat.zero_le, sSeq, sNil, sIf, sRet, sRetN, tVarD, tCD, tOpD, tOp1D, tCallD, tCallB, aNil, aCons, bVal, bNot, bCmp, bOr, tTupD, sAsg, hide_nil, fTup, fsCons, fsNil, fName, Option.bind_some, List.set_cons_zero, List.set_cons_succ, List.map_cons, List.map_nil, List.length_cons, List.length_nil, List.getElem?_cons_zero, List.getElem?_cons_succ, Nat.zero_add, Nat.reduceAdd, Option.some.injEq, exists_eq_left', true_and, D.bl.injEq, Bool.not_true, Bool.not_false, Bool.false_eq_true, if_false, if_true, lenD_tup, List.length_map, subD_int]
            have ee1 : ∀ P : List D → Prop, (∃ ds, (D.tup ps = .lst ds ∨ D.tup ps = .tup ds) ∧ P ds) ↔ P ps := fun P => by
              constructor
              · rintro ⟨ds, e | e, h⟩
                · cases e
                · cases e
                  exact h
              · exact fun h => ⟨_, .inr rfl, h⟩
            rw [ee1]
            refine (forD_if (partB ts) (fun pre ρ => ∃ z6 z7, ρ = [some (.tup (ts.map tabD)), some (.tup [.tup ps, .tup cs, .tup os]), some (.tup ps), some (.tup cs), some (.tup os), some (.lst ((namesOf pre).map D.int)), z6, z7]) (.bl false) (q (.bl (restB (namesOf ps) cs os)) n) ⟨none, none, rfl⟩ (fun pre e post eq hp ρ hρ => ?_) fun hA ρE hE => ?_).trans ?_
            · obtain ⟨z6, z7, rfl⟩ := hρ
              have hlen : pre.length ≤ 4 := by
                have := congrArg List.length eq
                simp only [List.length_append, List.length_cons] at this
                omega
              have hnl : (namesOf pre).length ≤ 100 := by
                have := names_le hts hp
                omega
              refine ⟨_, rfl, fun hb => ⟨[some (.tup (ts.map tabD)), some (.tup [.tup ps, .tup cs, .tup os]), some (.tup ps), some (.tup cs), some (.tup os), some (.lst ((namesOf (pre ++ [e])).map D.int)), some e, z7], ⟨_, _, rfl⟩, fun De n hr => ?_⟩, fun hb De n hr => ?_⟩
              · rw [names_app]
                refine (m_part_body hts hnl).trans ?_
                rw [if_pos hb]
              · refine (m_part_body hts hnl).trans ?_
                rw [if_neg (by rw [hb]; decide)]
            · obtain ⟨z6, z7, rfl⟩ := hE
              obtain ⟨n1, n2⟩ := names_of hA
              simp only [gtD_int, sSeq, sNil, sIf, sRet, sRetN, tVarD, tCD, tOpD, tOp1D, tCallD, tCallB, aNil, aCons, bVal, bNot, bCmp, bOr, tTupD, sAsg, hide_nil, fTup, fsCons, fsNil, fName, Option.bind_some, List.set_cons_zero, List.set_cons_succ, List.map_cons, List.map_nil, List.length_cons, List.length_nil, List.getElem?_cons_zero, List.getElem?_cons_succ, Nat.zero_add, Nat.reduceAdd, Option.some.injEq, exists_eq_left', true_and, D.bl.injEq, Bool.not_true, Bool.not_false, Bool.false_eq_true, if_false, if_true, lenD_tup, List.length_map, subD_int]
              by_cases c8 : cs.length ≤ 8
              · have c8' : ¬ (8 : Int) < ((cs.length : Nat) : Int) := by omega
                simp only [c8', decide_false, Bool.false_eq_true, if_false]
                rw [tComp_at (ds := cs) (fun d => .bl (conB (namesOf ps) d)) (.inl rfl) rfl]
                rotate_left
                · exact fun d hd => ⟨_, rfl, fun n k => by simp only [wipeE, m_law_is_constraint n2 (hb.mem hd), sSeq, sNil, sIf, sRet, sRetN, tVarD, tCD, tOpD, tOp1D, tCallD, tCallB, aNil, aCons, bVal, bNot, bCmp, bOr, tTupD, sAsg, hide_nil, fTup, fsCons, fsNil, fName, Option.bind_some, List.set_cons_zero, List.set_cons_succ, List.map_cons, List.map_nil, List.length_cons, List.length_nil, List.getElem?_cons_zero, List.getElem?_cons_succ, Nat.zero_add, Nat.reduceAdd, Option.some.injEq, exists_eq_left', true_and, D.bl.injEq, Bool.not_true, Bool.not_false, Bool.false_eq_true, if_false, if_true, lenD_tup, List.length_map, subD_int]⟩
                · omega
                simp only [inD_bls, Option.some.injEq, exists_eq_left', D.bl.injEq]
                cases hK : cs.all (conB (namesOf ps)) with
                | false => simp [restB, hK]
                | true =>
                  simp only [Bool.not_true, Bool.false_eq_true, if_false]
                  by_cases o8 : os.length ≤ 8
                  · have o8' : ¬ (8 : Int) < ((os.length : Nat) : Int) := by omega
                    simp only [o8', decide_false, Bool.false_eq_true, if_false]
                    rw [tComp_at (ds := os) (fun d => .bl (outB (namesOf ps) d)) (.inl rfl) rfl]
                    rotate_left
                    · intro d hd
                      refine ⟨_, rfl, fun n k => ?_⟩
                      simp only [wipeE, tAndD, m_law_between, in_ints (hc.mem hd), sSeq, sNil, sIf, sRet, sRetN, tVarD, tCD, tOpD, tOp1D, tCallD, tCallB, aNil, aCons, bVal, bNot, bCmp, bOr, tTupD, sAsg, hide_nil, fTup, fsCons, fsNil, fName, Option.bind_some, List.set_cons_zero, List.set_cons_succ, List.map_cons, List.map_nil, List.length_cons, List.length_nil, List.getElem?_cons_zero, List.getElem?_cons_succ, Nat.zero_add, Nat.reduceAdd, Option.some.injEq, exists_eq_left', true_and, D.bl.injEq, Bool.not_true, Bool.not_false, Bool.false_eq_true, if_false, if_true, lenD_tup, List.length_map, subD_int]
                      cases h : btw d 0 15 <;> simp [outB, h]
                    · omega
                    simp only [inD_bls', Option.some.injEq, exists_eq_left']
                    simp [restB, c8, o8, hK]
                  · have o8' : (8 : Int) < ((os.length : Nat) : Int) := by omega
                    simp [o8', restB, o8]
              · have c8' : (8 : Int) < ((cs.length : Nat) : Int) := by omega
                simp [c8', restB, c8]
            · by_cases hA : ps.all (partB ts) = true
              · rw [if_pos hA]
                have : qryB ts (.tup [.tup ps, .tup cs, .tup os]) = restB (namesOf ps) cs os := by
                  have c8 : decide ((cs.length : Int) ≤ 8) = decide (cs.length ≤ 8) := by
                    by_cases h : cs.length ≤ 8
                    · have : (cs.length : Int) ≤ 8 := by omega
                      simp [h, this]
                    · have : ¬ (cs.length : Int) ≤ 8 := by omega
                      simp [h, this]
                  have o8 : decide ((os.length : Int) ≤ 8) = decide (os.length ≤ 8) := by
                    by_cases h : os.length ≤ 8
                    · have : (os.length : Int) ≤ 8 := by omega
                      simp [h, this]
                    · have : ¬ (os.length : Int) ≤ 8 := by omega
                      simp [h, this]
                  simp only [qryB, hP, hA, tupMost, restB, Bool.true_and, c8, o8]
                rw [this]
              · rw [if_neg hA, qryB_noA (by simpa using hA)]
    · have h2 : ¬ ((ds.length : Nat) : Int) = 3 := by omega
      have : qryB ts (.tup ds) = false := qryB_no (by simp [isT]; omega)
      simp [h2, this]
  · have : qryB ts d = false := qryB_no (by
      cases d <;> simp [isT]
      exact absurd ⟨_, rfl⟩ ht)
    simp [isTup_no fun ds e => ht ⟨ds, e⟩, this]
end K10
set_option maxHeartbeats 8000000
namespace K10
open PySem PySem.Spec PyProof.Rows L2 DL
theorem min2_int (a b : Int) : min2D [.int a, .int b] = some (.int (if b < a then b else a)) := rfl
theorem max2_int (a b : Int) : max2D [.int a, .int b] = some (.int (if b > a then b else a)) := rfl
theorem tup_ints (ns : List Int) : tupleD [.lst (ns.map D.int)] = some (.tup (ns.map D.int)) := rfl
theorem m_draw_row {t : Tab} (ht : t.Ok) {n : Nat} {q : QD} (hn : n + 10 ≤ NN) (h : ∀ (ns : List Int) n', ns.length = t.cols.length → n ≤ n' → n' ≤ n + 10 → q (.tup (ns.map D.int)) n') : T__law_draw_row [.pen, tabD t] n q := by
  have LL : LIM = 1000000 := rfl
  have t0 : ixD (tabD t) (.int 0) = some (.tup (t.cols.map colD)) := rfl
  have hA : ∀ x0 x1 x2 x3 x4 : Option D, hide [2] [x0, x1, x2, x3, x4] = [x0, x1, none, x3, x4] := by
    intros
    simp [hide, hideFrom]
  have hl := ht.len
  simp only [T__law_draw_row, fnD, startE, List.replicate, List.cons_append, List.nil_append, Nat.reduceSub, sOwn, lLstD, hA, sFor, wAny, t0, Nat.zero_le, sSeq, sNil, sIf, sRet, sRetN, tVarD, tCD, tOpD, tOp1D, tCallD, tCallB, aNil, aCons, bVal, bNot, bCmp, bOr, tTupD, sAsg, hide_nil, fTup, fsCons, fsNil, fName, Option.bind_some, List.set_cons_zero, List.set_cons_succ, List.map_cons, List.map_nil, List.length_cons, List.length_nil, List.getElem?_cons_zero, List.getElem?_cons_succ, Nat.zero_add, Nat.reduceAdd, Option.some.injEq, exists_eq_left', true_and, D.bl.injEq, Bool.not_true, Bool.not_false, Bool.false_eq_true, if_false, if_true, lenD_tup, List.length_map, subD_int]
  refine ⟨by decide, _, .inr rfl, ?_⟩
  refine forD_inv (all := t.cols.map colD) (fun i ρ n' => ∃ (ns : List Int) (x3 x4 : Option D), ρ = [some .pen, some (tabD t), some (.lst (ns.map D.int)), x3, x4] ∧ ns.length = i ∧ n ≤ n' ∧ n' ≤ n + 2 * i) ?_ ?_ _ 0 _ _ rfl (Nat.zero_le _) ⟨[], none, none, rfl, rfl, by omega, by omega⟩
  · rintro i d hd ρ n' ⟨ns, x3, x4, rfl, hl2, n0, n1⟩
    have hi := (List.getElem?_eq_some_iff.mp hd).1
    rw [List.length_map] at hi
    rw [List.getElem?_map, List.getElem?_eq_getElem hi] at hd
    simp only [Option.map_some, Option.some.injEq] at hd
    subst hd
    generalize hc : t.cols[i] = c
    have hlow : c.1 ≤ c.2 := ht.low c (hc ▸ List.getElem_mem hi)
    refine ⟨_, rfl, fun De _ _ hnx _ => ?_⟩
    simp only [sApp, hA, tIfD, sSeq, sNil, sIf, sRet, sRetN, tVarD, tCD, tOpD, tOp1D, tCallD, tCallB, aNil, aCons, bVal, bNot, bCmp, bOr, tTupD, sAsg, hide_nil, fTup, fsCons, fsNil, fName, Option.bind_some, List.set_cons_zero, List.set_cons_succ, List.map_cons, List.map_nil, List.length_cons, List.length_nil, List.getElem?_cons_zero, List.getElem?_cons_succ, Nat.zero_add, Nat.reduceAdd, Option.some.injEq, exists_eq_left', true_and, D.bl.injEq, Bool.not_true, Bool.not_false, Bool.false_eq_true, if_false, if_true, lenD_tup, List.length_map, subD_int]
    refine take_ok (by decide) (by decide) (by omega) fun r r0 r1 => ?_
    simp only [gtD_int, sSeq, sNil, sIf, sRet, sRetN, tVarD, tCD, tOpD, tOp1D, tCallD, tCallB, aNil, aCons, bVal, bNot, bCmp, bOr, tTupD, sAsg, hide_nil, fTup, fsCons, fsNil, fName, Option.bind_some, List.set_cons_zero, List.set_cons_succ, List.map_cons, List.map_nil, List.length_cons, List.length_nil, List.getElem?_cons_zero, List.getElem?_cons_succ, Nat.zero_add, Nat.reduceAdd, Option.some.injEq, exists_eq_left', true_and, D.bl.injEq, Bool.not_true, Bool.not_false, Bool.false_eq_true, if_false, if_true, lenD_tup, List.length_map, subD_int]
    by_cases hr : 0 < r
    · simp only [hr, decide_true, if_true, min2_int, Option.some.injEq, exists_eq_left', addD_int]
      refine take_ok (by split <;> omega) (by split <;> omega) (by omega) fun k _ _ => ?_
      simp only [addD_int, sSeq, sNil, sIf, sRet, sRetN, tVarD, tCD, tOpD, tOp1D, tCallD, tCallB, aNil, aCons, bVal, bNot, bCmp, bOr, tTupD, sAsg, hide_nil, fTup, fsCons, fsNil, fName, Option.bind_some, List.set_cons_zero, List.set_cons_succ, List.map_cons, List.map_nil, List.length_cons, List.length_nil, List.getElem?_cons_zero, List.getElem?_cons_succ, Nat.zero_add, Nat.reduceAdd, Option.some.injEq, exists_eq_left', true_and, D.bl.injEq, Bool.not_true, Bool.not_false, Bool.false_eq_true, if_false, if_true, lenD_tup, List.length_map, subD_int]
      refine ⟨_, rfl, by rw [List.length_map]; omega, ?_⟩
      rw [show ns.map D.int ++ [D.int (c.1 + k)] = (ns ++ [c.1 + k]).map D.int by simp]
      exact hnx _ _ ⟨_, _, _, rfl, by simp [hl2], by omega, by omega⟩
    · simp only [hr, decide_false, Bool.false_eq_true, if_false]
      refine ⟨_, rfl, by rw [List.length_map]; omega, ?_⟩
      rw [show ns.map D.int ++ [D.int c.2] = (ns ++ [c.2]).map D.int by simp]
      exact hnx _ _ ⟨_, _, _, rfl, by simp [hl2], by omega, by omega⟩
  · rintro ρ n' ⟨ns, x3, x4, rfl, hl2, n0, n1⟩
    rw [List.length_map] at hl2 n1
    simp only [tup_ints, sSeq, sNil, sIf, sRet, sRetN, tVarD, tCD, tOpD, tOp1D, tCallD, tCallB, aNil, aCons, bVal, bNot, bCmp, bOr, tTupD, sAsg, hide_nil, fTup, fsCons, fsNil, fName, Option.bind_some, List.set_cons_zero, List.set_cons_succ, List.map_cons, List.map_nil, List.length_cons, List.length_nil, List.getElem?_cons_zero, List.getElem?_cons_succ, Nat.zero_add, Nat.reduceAdd, Option.some.injEq, exists_eq_left', true_and, D.bl.injEq, Bool.not_true, Bool.not_false, Bool.false_eq_true, if_false, if_true, lenD_tup, List.length_map, subD_int]
    exact h ns n' hl2 n0 (by omega)
/-! a dict of ints -/
def dk (ks : List (Int × Int)) : List (Key × D) := ks.map fun p => (Sum.inl p.1, D.int p.2)
def findI (ks : List (Int × Int)) (i : Int) : Option Int := (ks.find? fun p => decide (p.1 = i)).map (·.2)
def putI (ks : List (Int × Int)) (i v : Int) : List (Int × Int) := if (ks.any fun p => decide (p.1 = i)) = true then ks.map (fun p => if p.1 = i then (p.1, v) else p) else ks ++ [(i, v)]
theorem look_dk (ks : List (Int × Int)) (i : Int) : lookD (dk ks) (.inl i) = (findI ks i).map D.int := by
  unfold lookD dk findI
  induction ks with
  | nil => rfl
  | cons p ks ih =>
    simp only [List.map_cons, List.find?_cons]
    by_cases hp : p.1 = i
    · simp [hp]
    · have : ¬ (Sum.inl p.1 : Key) = Sum.inl i := fun e => hp (Sum.inl.inj e)
      simp only [this, hp, decide_false, ih]
theorem put_dk (ks : List (Int × Int)) (i v : Int) : putD (dk ks) (.inl i) (.int v) = dk (putI ks i v) := by
  have ha : ((dk ks).any fun kv => decide (kv.1 = Sum.inl i)) = ks.any fun p => decide (p.1 = i) := by
    unfold dk
    rw [List.any_map]
    congr 1
    funext p
    by_cases hp : p.1 = i
    · simp [hp]
    · have : ¬ (Sum.inl p.1 : Key) = Sum.inl i := fun e => hp (Sum.inl.inj e)
      simp [hp, this]
  unfold putD putI
  rw [ha]
  split
  · unfold dk
    rw [List.map_map, List.map_map]
    refine List.map_congr_left fun p _ => ?_
    by_cases hp : p.1 = i
    · simp [hp]
    · have : ¬ (Sum.inl p.1 : Key) = Sum.inl i := fun e => hp (Sum.inl.inj e)
      simp [hp, this]
  · simp [dk]
theorem find_mem {ks : List (Int × Int)} {p : Int × Int} (h : p ∈ ks) : ∃ v, findI ks p.1 = some v := by
  unfold findI
  induction ks with
  | nil => cases h
  | cons p' ks ih =>
    rw [List.find?_cons]
    by_cases hp : p'.1 = p.1
    · simp [hp]
    · rcases List.mem_cons.mp h with rfl | h
      · exact absurd rfl hp
      · simpa [hp] using ih h
theorem keysI_dk : ∀ ks : List (Int × Int), keysI (dk ks) = some (ks.map (·.1))
  | [] => rfl
  | p :: ks => by
    show (keysI (dk ks)).map (p.1 :: ·) = _
    rw [keysI_dk ks]
    rfl
theorem keysD_dk (ks : List (Int × Int)) : keysD (dk ks) = (ks.map (·.1)).map D.int := by
  unfold keysD dk
  rw [List.map_map, List.map_map]
  rfl
theorem put_len (ks : List (Int × Int)) (i v : Int) : (putI ks i v).length ≤ ks.length + 1 ∧ ks.length ≤ (putI ks i v).length ∧ 1 ≤ (putI ks i v).length := by
  unfold putI
  split
  · rename_i h
    have : ks ≠ [] := fun e => by simp [e] at h
    have := List.length_pos_iff.mpr this
    simp
    omega
  · simp
theorem put_keys {ks : List (Int × Int)} {i v : Int} {P : Int → Prop} (h : ∀ p ∈ ks, P p.1) (hi : P i) : ∀ p ∈ putI ks i v, P p.1 := by
  unfold putI
  intro p hp
  split at hp
  · obtain ⟨p', hp', rfl⟩ := List.mem_map.mp hp
    split
    · exact h p' hp'
    · exact h p' hp'
  · rcases List.mem_append.mp hp with hp | hp
    · exact h p hp
    · rw [List.mem_singleton.mp hp]
      exact hi
/-! a constraint -/
def nodeD : Option Int → D
  | none => .non
  | some i => .int i
def conD (c : Option Int × Option Int × Int) : D := .tup [nodeD c.1, nodeD c.2.1, .int c.2.2]
theorem eq_nodes (x y : Option Int) : eqD (nodeD x) (nodeD y) = some (.bl (decide (x = y))) := by
  have ok : ∀ x, okD (nodeD x) = true := fun x => by
    cases x <;> simp [nodeD, okD, SeqAt.shaped, toPy, PyData.canLay0, PyData.depth]
  rw [eqD_ok (ok x) (ok y)]
  cases x <;> cases y <;> simp [nodeD, toPy, PyData.eqv, Bool.beq_eq_decide_eq]
theorem getOr_dk (ks : List (Int × Int)) (x : Option Int) : ∃ v : Int, getOrD (.dct (dk ks)) (nodeD x) (.int 0) = some (.int v) := by
  cases x with
  | none => exact ⟨0, rfl⟩
  | some i =>
    show ∃ v : Int, some ((lookD (dk ks) (.inl i)).getD (.int 0)) = some (D.int v)
    rw [look_dk]
    cases findI ks i with
    | none => exact ⟨0, rfl⟩
    | some v => exact ⟨v, rfl⟩
def ConOk (c : Option Int × Option Int × Int) : Prop := (∀ i, c.1 = some i → 0 ≤ i ∧ i ≤ 15) ∧ (∀ i, c.2.1 = some i → 0 ≤ i ∧ i ≤ 15) ∧ -4000000 ≤ c.2.2 ∧ c.2.2 ≤ 4000000
theorem nodes_of {us : List Int} (hu : ∀ i ∈ us, 0 ≤ i ∧ i ≤ 15) {d : D} (h : d ∈ us.map D.int ++ [.non]) : ∃ x : Option Int, d = nodeD x ∧ ∀ i, x = some i → 0 ≤ i ∧ i ≤ 15 := by
  rcases List.mem_append.mp h with h | h
  · obtain ⟨i, hi, rfl⟩ := List.mem_map.mp h
    exact ⟨some i, rfl, fun j e => by cases e; exact hu i hi⟩
  · rw [List.mem_singleton.mp h]
    exact ⟨none, rfl, fun j e => by cases e⟩
def conTail : TDS := (sSeq (sAsg [] (fName 5) (tOpD subD (tGet2 (tVarD 2) (tVarD 3) (tCD (.int 0))) (tGet2 (tVarD 2) (tVarD 4) (tCD (.int 0))))) (sRet (tTupD (aCons (tVarD 3) (aCons (tVarD 4) (aCons (tCallB max2D (aCons (tOp1D negD (tCD (.int 4000000))) (aCons (tCallB min2D (aCons (tCD (.int 4000000)) (aCons (tOpD addD (tVarD 5) (tCallD T__law_one_of (aCons (tVarD 0) (aCons (tLstD (aCons (tCD (.int 0)) (aCons (tCD (.int 0)) (aCons (tCD (.int 0)) (aCons (tCD (.int 1)) (aCons (tCD (.int 2)) (aCons (tOp1D negD (tCD (.int 1))) (aCons (tCD (.int 1000)) aNil)))))))) aNil)))) aNil))) aNil))) aNil))))))
theorem m_conTail {us : List Int} {ks : List (Int × Int)} {x y : Option Int} {z : Option D} {n n' : Nat} {q : QD} {De : DE} (hr : De.rt = q) (hn : n + 4 ≤ NN) (hx : ∀ i, x = some i → 0 ≤ i ∧ i ≤ 15) (hy : ∀ i, y = some i → 0 ≤ i ∧ i ≤ 15) (n0 : n ≤ n') (n1 : n' + 1 ≤ n + 4) (h : ∀ c n', ConOk c → n ≤ n' → n' ≤ n + 4 → q (conD c) n') :
    conTail De [some .pen, some (.lst (us.map D.int)), some (.dct (dk ks)), some (nodeD x), some (nodeD y), z] n' := by
  have LL : LIM = 1000000 := rfl
  obtain ⟨v, ev⟩ := getOr_dk ks x
  obtain ⟨w, ew⟩ := getOr_dk ks y
  have ng : negD (.int 4000000) = some (.int (-4000000)) := rfl
  have ng1 : negD (.int 1) = some (.int (-1)) := rfl
  simp only [conTail, tGet2, ev, ew, ng, ng1, tLstD, sSeq, sNil, sIf, sRet, sRetN, tVarD, tCD, tOpD, tOp1D, tCallD, tCallB, aNil, aCons, bVal, bNot, bCmp, bOr, tTupD, sAsg, hide_nil, fTup, fsCons, fsNil, fName, Option.bind_some, List.set_cons_zero, List.set_cons_succ, List.map_cons, List.map_nil, List.length_cons, List.length_nil, List.getElem?_cons_zero, List.getElem?_cons_succ, Nat.zero_add, Nat.reduceAdd, Option.some.injEq, exists_eq_left', true_and, D.bl.injEq, Bool.not_true, Bool.not_false, Bool.false_eq_true, if_false, if_true, lenD_tup, List.length_map, subD_int]
  refine ⟨⟨_, rfl⟩, ⟨_, rfl⟩, by omega, one_ok (by simp) (by simp) (by omega) fun d hd => ?_⟩
  have : ∃ s : Int, d = .int s := by
    simp only [List.mem_cons, List.not_mem_nil, or_false] at hd
    rcases hd with rfl | rfl | rfl | rfl | rfl | rfl | rfl <;> exact ⟨_, rfl⟩
  obtain ⟨s, rfl⟩ := this
  simp only [addD_int, min2_int, max2_int, Option.some.injEq, exists_eq_left', hr]
  have clamp : ∀ g : Int, ∃ z : Int, (if (if g < 4000000 then g else 4000000) > -4000000 then (if g < 4000000 then g else 4000000) else -4000000) = z ∧ -4000000 ≤ z ∧ z ≤ 4000000 := fun g => by
    by_cases h1 : g < 4000000
    · by_cases h2 : g > -4000000
      · exact ⟨g, by simp only [h1, h2, if_true], by omega, by omega⟩
      · exact ⟨-4000000, by simp only [h1, h2, if_true, if_false], by omega, by omega⟩
    · exact ⟨4000000, by simp only [h1, if_false]; decide, by omega, by omega⟩
  obtain ⟨z, hz, z0, z1⟩ := clamp (v - w + s)
  rw [hz]
  exact ⟨by omega, h (x, y, z) _ ⟨hx, hy, z0, z1⟩ (by omega) (by omega)⟩
theorem draw_constraint_eq : T__law_draw_constraint = fnD 3 6 (sSeq (sPar [] 3 4 (aCons (tCallD T__law_one_of (aCons (tVarD 0) (aCons (tOpD addD (tVarD 1) (tLstD (aCons (tCD .non) aNil))) aNil))) (aCons (tCallD T__law_one_of (aCons (tVarD 0) (aCons (tOpD addD (tVarD 1) (tLstD (aCons (tCD .non) aNil))) aNil))) aNil))) (sSeq (sIf (bCmp eqD (tVarD 3) (tVarD 4)) (sAsg [] (fTup 2 (fsCons (fName 3) (fsCons (fName 4) fsNil))) (tIfD (bCmp eqD (tCallD takeD (aCons (tVarD 0) (aCons (tCD (.int 2)) aNil))) (tCD (.int 0))) (tTupD (aCons (tCD .non) (aCons (tOpD ixD (tVarD 1) (tCD (.int 0))) aNil))) (tTupD (aCons (tOpD ixD (tVarD 1) (tCD (.int 0))) (aCons (tCD .non) aNil))))) sNil) conTail)) := rfl
theorem m_draw_constraint {us : List Int} (h0 : us ≠ []) (hl : us.length ≤ 100) (hu : ∀ i ∈ us, 0 ≤ i ∧ i ≤ 15) {ks : List (Int × Int)} {n : Nat} {q : QD} (hn : n + 4 ≤ NN) (h : ∀ c n', ConOk c → n ≤ n' → n' ≤ n + 4 → q (conD c) n') : T__law_draw_constraint [.pen, .lst (us.map D.int), .dct (dk ks)] n q := by
  have LL : LIM = 1000000 := rfl
  have al : addD (.lst (us.map D.int)) (.lst [.non]) = some (.lst (us.map D.int ++ [.non])) := add_lst (by simp; omega)
  rw [draw_constraint_eq]
  simp only [fnD, startE, List.replicate, List.cons_append, List.nil_append, Nat.reduceSub, sPar, tLstD, al, sSeq, sNil, sIf, sRet, sRetN, tVarD, tCD, tOpD, tOp1D, tCallD, tCallB, aNil, aCons, bVal, bNot, bCmp, bOr, tTupD, sAsg, hide_nil, fTup, fsCons, fsNil, fName, Option.bind_some, List.set_cons_zero, List.set_cons_succ, List.map_cons, List.map_nil, List.length_cons, List.length_nil, List.getElem?_cons_zero, List.getElem?_cons_succ, Nat.zero_add, Nat.reduceAdd, Option.some.injEq, exists_eq_left', true_and, D.bl.injEq, Bool.not_true, Bool.not_false, Bool.false_eq_true, if_false, if_true, lenD_tup, List.length_map, subD_int]
  have pick : ∀ {n : Nat} {q : QD}, n + 1 ≤ NN → (∀ (x : Option Int), (∀ i, x = some i → 0 ≤ i ∧ i ≤ 15) → q (nodeD x) (n + 1)) → T__law_one_of [.pen, .lst (us.map D.int ++ [.non])] n q := fun hn hq => one_ok (by simp) (by simp; omega) hn fun d hd => by
    obtain ⟨x, rfl, hx⟩ := nodes_of hu hd
    exact hq x hx
  refine ⟨by omega, pick (by omega) fun x hx => ⟨by omega, pick (by omega) fun y hy => ?_⟩⟩
  refine ⟨_, _, rfl, ?_⟩
  simp only [eq_nodes, sSeq, sNil, sIf, sRet, sRetN, tVarD, tCD, tOpD, tOp1D, tCallD, tCallB, aNil, aCons, bVal, bNot, bCmp, bOr, tTupD, sAsg, hide_nil, fTup, fsCons, fsNil, fName, Option.bind_some, List.set_cons_zero, List.set_cons_succ, List.map_cons, List.map_nil, List.length_cons, List.length_nil, List.getElem?_cons_zero, List.getElem?_cons_succ, Nat.zero_add, Nat.reduceAdd, Option.some.injEq, exists_eq_left', true_and, D.bl.injEq, Bool.not_true, Bool.not_false, Bool.false_eq_true, if_false, if_true, lenD_tup, List.length_map, subD_int]
  have hus : 0 < us.length := List.length_pos_iff.mpr h0
  have u0 : ixD (.lst (us.map D.int)) (.int 0) = some (.int (ix us 0)) := by
    show atI (us.map D.int) 0 = _
    rw [at_ix (by decide) (by simpa using hus), ix_map (by decide) (by omega)]
  have hu0 := hu _ (ix_mem (xs := us) (i := 0) (by decide) (by omega))
  have hu0' : ∀ i, some (ix us 0) = some i → 0 ≤ i ∧ i ≤ 15 := fun i e => by
    cases e
    exact hu0
  have no : ∀ i : Int, (none : Option Int) = some i → 0 ≤ i ∧ i ≤ 15 := fun i e => by cases e
  by_cases hxy : x = y
  · simp only [hxy, decide_true, if_true]
    simp only [tIfD, sSeq, sNil, sIf, sRet, sRetN, tVarD, tCD, tOpD, tOp1D, tCallD, tCallB, aNil, aCons, bVal, bNot, bCmp, bOr, tTupD, sAsg, hide_nil, fTup, fsCons, fsNil, fName, Option.bind_some, List.set_cons_zero, List.set_cons_succ, List.map_cons, List.map_nil, List.length_cons, List.length_nil, List.getElem?_cons_zero, List.getElem?_cons_succ, Nat.zero_add, Nat.reduceAdd, Option.some.injEq, exists_eq_left', true_and, D.bl.injEq, Bool.not_true, Bool.not_false, Bool.false_eq_true, if_false, if_true, lenD_tup, List.length_map, subD_int]
    refine take_ok (by decide) (by decide) (by omega) fun r _ _ => ?_
    simp only [eqD_int, u0, sSeq, sNil, sIf, sRet, sRetN, tVarD, tCD, tOpD, tOp1D, tCallD, tCallB, aNil, aCons, bVal, bNot, bCmp, bOr, tTupD, sAsg, hide_nil, fTup, fsCons, fsNil, fName, Option.bind_some, List.set_cons_zero, List.set_cons_succ, List.map_cons, List.map_nil, List.length_cons, List.length_nil, List.getElem?_cons_zero, List.getElem?_cons_succ, Nat.zero_add, Nat.reduceAdd, Option.some.injEq, exists_eq_left', true_and, D.bl.injEq, Bool.not_true, Bool.not_false, Bool.false_eq_true, if_false, if_true, lenD_tup, List.length_map, subD_int]
    by_cases hr : r = 0
    · simp only [hr, decide_true, if_true]
      refine ⟨by omega, ?_⟩
      show conTail _ [some .pen, some (.lst (us.map D.int)), some (.dct (dk ks)), some (nodeD none), some (nodeD (some (ix us 0))), none] _
      refine m_conTail (q := q) (n := n) (x := none) (y := some (ix us 0)) ?_ hn no hu0' ?_ ?_ h <;> first | rfl | omega
    · simp only [hr, decide_false, Bool.false_eq_true, if_false]
      refine ⟨by omega, ?_⟩
      show conTail _ [some .pen, some (.lst (us.map D.int)), some (.dct (dk ks)), some (nodeD (some (ix us 0))), some (nodeD none), none] _
      refine m_conTail (q := q) (n := n) (x := some (ix us 0)) (y := none) ?_ hn hu0' no ?_ ?_ h <;> first | rfl | omega
  · simp only [hxy, decide_false, Bool.false_eq_true, if_false]
    refine m_conTail (q := q) (n := n) ?_ hn hx hy ?_ ?_ h <;> first | rfl | omega
end K10
set_option maxHeartbeats 8000000
namespace K10
open PySem PySem.Spec PyProof.Rows L2 DL
def rowEnd : TDS := (sSeq (sDSet 5 (tGet2 (tVarD 5) (tVarD 14) (tVarD 10)) (tVarD 14)) (sApp [12, 11, 9, 5, 4] 9 (tVarD 14)))
def rowTail : TDS := (sSeq (sAsgP (fName 14) (tCallD T__law_one_of (aCons (tVarD 0) (aCons (tIfD (bVal (tVarD 13)) (tVarD 11) (tOpD addD (tVarD 12) (tLstD (aCons (tCD (.int 0)) aNil)))) aNil)))) rowEnd)
def rowBody : TDS := (sSeq (sOwnP 11 (tCompL (wKeysV 5) (fName 18) (bCmp eqD (tOpD dgetD (tVarD 5) (tVarD 18)) (tVarD 10)) (tVarD 18) [18])) (sSeq (sOwnP 12 (tCompL (wRng1 (aCons (tCD (.int 16)) aNil)) (fName 18) (bCmp (dinD true) (tVarD 18) (tVarD 5)) (tVarD 18) [18])) (sSeq (sAsgP (fName 13) (tAndD (tOpD neD (tVarD 11) (tLstD aNil)) (tOrD (tOpD eqD (tVarD 12) (tLstD aNil)) (tOpD gtD (tCallD takeD (aCons (tVarD 0) (aCons (tCD (.int 3)) aNil))) (tCD (.int 0)))))) rowTail)))
theorem filter_ints (p : D → Bool) (ns : List Int) : ((ns.map D.int).filter p).map (fun d => d) = (ns.filter fun i => p (.int i)).map D.int := by
  rw [List.map_id', List.filter_map]
  rfl
def KOk (ks : List (Int × Int)) : Prop := ∀ p ∈ ks, 0 ≤ p.1 ∧ p.1 ≤ 15
theorem range_ints (m : Nat) : rangeD 0 m = ((List.range m).map fun i => ((i : Nat) : Int)).map D.int := by
  unfold rangeD
  rw [List.map_map]
  refine List.map_congr_left fun i _ => ?_
  simp
theorem m_rowBody {x1 x2 x3 x6 x7 x8 x11 x12 x13 x14 x15 x16 x17 x18 : Option D} {fs : List D} {ks : List (Int × Int)} {names : List Int} {number : Int} (hk : KOk ks) (hkl : ks.length ≤ 100) (hnl : names.length ≤ 100) {n : Nat} (hn : n + 2 ≤ NN) {De : DE}
    (h : ∀ (name : Int) (ks' : List (Int × Int)) (y11 y12 y13 y14 : Option D) (n' : Nat), 0 ≤ name ∧ name ≤ 15 → KOk ks' → ks'.length ≤ ks.length + 1 → 1 ≤ ks'.length → n ≤ n' → n' ≤ n + 2 →
      De.nx [some .pen, x1, x2, x3, some (.lst fs), some (.dct (dk ks')), x6, x7, x8, some (.lst ((names ++ [name]).map D.int)), some (.int number), y11, y12, y13, y14, x15, x16, x17, x18] n') :
    rowBody De [some .pen, x1, x2, x3, some (.lst fs), some (.dct (dk ks)), x6, x7, x8, some (.lst (names.map D.int)), some (.int number), x11, x12, x13, x14, x15, x16, x17, x18] n := by
  have LL : LIM = 1000000 := rfl
  simp only [rowBody, sOwnP, tCompL, wKeysV, D.dct.injEq, sSeq, sNil, sIf, sRet, sRetN, tVarD, tCD, tOpD, tOp1D, tCallD, tCallB, aNil, aCons, bVal, bNot, bCmp, bOr, tTupD, sAsg, hide_nil, fTup, fsCons, fsNil, fName, Option.bind_some, List.set_cons_zero, List.set_cons_succ, List.map_cons, List.map_nil, List.length_cons, List.length_nil, List.getElem?_cons_zero, List.getElem?_cons_succ, Nat.zero_add, Nat.reduceAdd, Option.some.injEq, exists_eq_left', true_and, D.bl.injEq, Bool.not_true, Bool.not_false, Bool.false_eq_true, if_false, if_true, lenD_tup, List.length_map, subD_int]
  rw [keysD_dk]
  rw [compD_filter (fun d => match d with
    | .int i => decide (findI ks i = some number)
    | _ => false) (fun d => d)]
  rotate_left
  · intro d hd
    obtain ⟨i, hi, rfl⟩ := List.mem_map.mp hd
    obtain ⟨p, hp, rfl⟩ := List.mem_map.mp hi
    obtain ⟨v, hv⟩ := find_mem hp
    refine ⟨_, rfl, fun n k => ?_, fun n k => ?_⟩
    · simp only [wipeE, dgetD, kOf, look_dk, hv, Option.map_some, eqD_int, sSeq, sNil, sIf, sRet, sRetN, tVarD, tCD, tOpD, tOp1D, tCallD, tCallB, aNil, aCons, bVal, bNot, bCmp, bOr, tTupD, sAsg, hide_nil, fTup, fsCons, fsNil, fName, Option.bind_some, List.set_cons_zero, List.set_cons_succ, List.map_cons, List.map_nil, List.length_cons, List.length_nil, List.getElem?_cons_zero, List.getElem?_cons_succ, Nat.zero_add, Nat.reduceAdd, Option.some.injEq, exists_eq_left', true_and, D.bl.injEq, Bool.not_true, Bool.not_false, Bool.false_eq_true, if_false, if_true, lenD_tup, List.length_map, subD_int]
    · simp only [wipeE, sSeq, sNil, sIf, sRet, sRetN, tVarD, tCD, tOpD, tOp1D, tCallD, tCallB, aNil, aCons, bVal, bNot, bCmp, bOr, tTupD, sAsg, hide_nil, fTup, fsCons, fsNil, fName, Option.bind_some, List.set_cons_zero, List.set_cons_succ, List.map_cons, List.map_nil, List.length_cons, List.length_nil, List.getElem?_cons_zero, List.getElem?_cons_succ, Nat.zero_add, Nat.reduceAdd, Option.some.injEq, exists_eq_left', true_and, D.bl.injEq, Bool.not_true, Bool.not_false, Bool.false_eq_true, if_false, if_true, lenD_tup, List.length_map, subD_int]
  · simp only [List.length_map, List.length_nil]
    omega
  rw [filter_ints, List.nil_append]
  generalize hs : (ks.map (·.1)).filter (fun i => decide (findI ks i = some number)) = sames
  have sl : sames.length ≤ 100 := by
    rw [← hs]
    have := List.length_filter_le (fun i => decide (findI ks i = some number)) (ks.map (·.1))
    simp only [List.length_map] at this
    omega
  have sk : ∀ i ∈ sames, 0 ≤ i ∧ i ≤ 15 := fun i hi => by
    rw [← hs] at hi
    obtain ⟨p, hp, rfl⟩ := List.mem_map.mp (List.mem_filter.mp hi).1
    exact hk p hp
  refine ⟨pure_ints _, by simp, ?_⟩
  simp only [wRng1, sSeq, sNil, sIf, sRet, sRetN, tVarD, tCD, tOpD, tOp1D, tCallD, tCallB, aNil, aCons, bVal, bNot, bCmp, bOr, tTupD, sAsg, hide_nil, fTup, fsCons, fsNil, fName, Option.bind_some, List.set_cons_zero, List.set_cons_succ, List.map_cons, List.map_nil, List.length_cons, List.length_nil, List.getElem?_cons_zero, List.getElem?_cons_succ, Nat.zero_add, Nat.reduceAdd, Option.some.injEq, exists_eq_left', true_and, D.bl.injEq, Bool.not_true, Bool.not_false, Bool.false_eq_true, if_false, if_true, lenD_tup, List.length_map, subD_int]
  refine ⟨16, rfl, by decide, by decide, ?_⟩
  rw [range_ints]
  rw [compD_filter (fun d => match d with
    | .int i => !(findI ks i).isSome
    | _ => false) (fun d => d)]
  rotate_left
  · intro d hd
    obtain ⟨i, hi, rfl⟩ := List.mem_map.mp hd
    refine ⟨_, rfl, fun n k => ?_, fun n k => ?_⟩
    · simp only [wipeE, dinD, look_dk, Option.isSome_map, Bool.true_xor, sSeq, sNil, sIf, sRet, sRetN, tVarD, tCD, tOpD, tOp1D, tCallD, tCallB, aNil, aCons, bVal, bNot, bCmp, bOr, tTupD, sAsg, hide_nil, fTup, fsCons, fsNil, fName, Option.bind_some, List.set_cons_zero, List.set_cons_succ, List.map_cons, List.map_nil, List.length_cons, List.length_nil, List.getElem?_cons_zero, List.getElem?_cons_succ, Nat.zero_add, Nat.reduceAdd, Option.some.injEq, exists_eq_left', true_and, D.bl.injEq, Bool.not_true, Bool.not_false, Bool.false_eq_true, if_false, if_true, lenD_tup, List.length_map, subD_int]
    · simp only [wipeE, sSeq, sNil, sIf, sRet, sRetN, tVarD, tCD, tOpD, tOp1D, tCallD, tCallB, aNil, aCons, bVal, bNot, bCmp, bOr, tTupD, sAsg, hide_nil, fTup, fsCons, fsNil, fName, Option.bind_some, List.set_cons_zero, List.set_cons_succ, List.map_cons, List.map_nil, List.length_cons, List.length_nil, List.getElem?_cons_zero, List.getElem?_cons_succ, Nat.zero_add, Nat.reduceAdd, Option.some.injEq, exists_eq_left', true_and, D.bl.injEq, Bool.not_true, Bool.not_false, Bool.false_eq_true, if_false, if_true, lenD_tup, List.length_map, subD_int]
  · simp only [List.length_map, List.length_nil, List.length_range]
    have : (16 : Int).toNat = 16 := rfl
    omega
  rw [filter_ints, List.nil_append]
  generalize hf : ((List.range (16 : Int).toNat).map fun i => ((i : Nat) : Int)).filter (fun i => !(findI ks i).isSome) = fresh
  have fl : fresh.length ≤ 16 := by
    rw [← hf]
    have := List.length_filter_le (fun i => !(findI ks i).isSome) ((List.range (16 : Int).toNat).map fun i => ((i : Nat) : Int))
    simpa using this
  have fk : ∀ i ∈ fresh, 0 ≤ i ∧ i ≤ 15 := fun i hi => by
    rw [← hf] at hi
    obtain ⟨m, hm, rfl⟩ := List.mem_map.mp (List.mem_filter.mp hi).1
    have := List.mem_range.mp hm
    have e : (16 : Int).toNat = 16 := rfl
    omega
  refine ⟨pure_ints _, by simp, ?_⟩
  -- the rest, once it is known whether the name is shared
  have go : ∀ (b : Bool) (n1 : Nat), (b = true → sames ≠ []) → n ≤ n1 → n1 + 1 ≤ n + 2 →
      rowTail De
        [some .pen, x1, x2, x3, some (.lst fs), some (.dct (dk ks)), x6, x7, x8, some (.lst (names.map D.int)), some (.int number), some (.lst (sames.map D.int)), some (.lst (fresh.map D.int)), some (.bl b), x14, x15, x16, x17, x18] n1 := fun b n1 hb n0 n1' => by
    have fin : ∀ (name : Int), 0 ≤ name ∧ name ≤ 15 → rowEnd De
        [some .pen, x1, x2, x3, some (.lst fs), some (.dct (dk ks)), x6, x7, x8, some (.lst (names.map D.int)), some (.int number), some (.lst (sames.map D.int)), some (.lst (fresh.map D.int)), some (.bl b), some (.int name), x15, x16, x17, x18] (n1 + 1) := fun name hname => by
      have hh : ∀ y0 y1 y2 y3 y4 y5 y6 y7 y8 y9 y10 y11 y12 y13 y14 y15 y16 y17 y18 : Option D, hide [12, 11, 9, 5, 4] [y0, y1, y2, y3, y4, y5, y6, y7, y8, y9, y10, y11, y12, y13, y14, y15, y16, y17, y18] = [y0, y1, y2, y3, none, none, y6, y7, y8, none, y10, none, none, y13, y14, y15, y16, y17, y18] := by
        intros
        simp [hide, hideFrom]
      have gv : ∃ v : Int, getOrD (.dct (dk ks)) (.int name) (.int number) = some (.int v) := by
        show ∃ v : Int, some ((lookD (dk ks) (.inl name)).getD (.int number)) = some (D.int v)
        rw [look_dk]
        cases findI ks name with
        | none => exact ⟨number, rfl⟩
        | some v => exact ⟨v, rfl⟩
      obtain ⟨v, gv⟩ := gv
      simp only [rowEnd, sDSet, tGet2, gv, kOf, sSeq, sNil, sIf, sRet, sRetN, tVarD, tCD, tOpD, tOp1D, tCallD, tCallB, aNil, aCons, bVal, bNot, bCmp, bOr, tTupD, sAsg, hide_nil, fTup, fsCons, fsNil, fName, Option.bind_some, List.set_cons_zero, List.set_cons_succ, List.map_cons, List.map_nil, List.length_cons, List.length_nil, List.getElem?_cons_zero, List.getElem?_cons_succ, Nat.zero_add, Nat.reduceAdd, Option.some.injEq, exists_eq_left', true_and, D.bl.injEq, Bool.not_true, Bool.not_false, Bool.false_eq_true, if_false, if_true, lenD_tup, List.length_map, subD_int]
      refine ⟨⟨_, rfl⟩, rfl, _, rfl, by unfold dk; rw [List.length_map]; omega, ?_⟩
      rw [put_dk]
      simp only [sApp, hh, sSeq, sNil, sIf, sRet, sRetN, tVarD, tCD, tOpD, tOp1D, tCallD, tCallB, aNil, aCons, bVal, bNot, bCmp, bOr, tTupD, sAsg, hide_nil, fTup, fsCons, fsNil, fName, Option.bind_some, List.set_cons_zero, List.set_cons_succ, List.map_cons, List.map_nil, List.length_cons, List.length_nil, List.getElem?_cons_zero, List.getElem?_cons_succ, Nat.zero_add, Nat.reduceAdd, Option.some.injEq, exists_eq_left', true_and, D.bl.injEq, Bool.not_true, Bool.not_false, Bool.false_eq_true, if_false, if_true, lenD_tup, List.length_map, subD_int]
      refine ⟨_, rfl, by rw [List.length_map]; omega, ?_⟩
      rw [show names.map D.int ++ [D.int name] = (names ++ [name]).map D.int by simp]
      obtain ⟨p1, p2, p3⟩ := put_len ks name v
      exact h name (putI ks name v) _ _ _ _ _ hname (put_keys (P := fun i => 0 ≤ i ∧ i ≤ 15) hk hname) p1 p3 (by omega) (by omega)
    simp only [rowTail, sAsgP, tIfD, sSeq, sNil, sIf, sRet, sRetN, tVarD, tCD, tOpD, tOp1D, tCallD, tCallB, aNil, aCons, bVal, bNot, bCmp, bOr, tTupD, sAsg, hide_nil, fTup, fsCons, fsNil, fName, Option.bind_some, List.set_cons_zero, List.set_cons_succ, List.map_cons, List.map_nil, List.length_cons, List.length_nil, List.getElem?_cons_zero, List.getElem?_cons_succ, Nat.zero_add, Nat.reduceAdd, Option.some.injEq, exists_eq_left', true_and, D.bl.injEq, Bool.not_true, Bool.not_false, Bool.false_eq_true, if_false, if_true, lenD_tup, List.length_map, subD_int]
    cases b with
    | true =>
      simp only [if_true]
      exact one_int (hb rfl) (by omega) (by omega) fun i hi => ⟨rfl, fin i (sk i hi)⟩
    | false =>
      have al : addD (.lst (fresh.map D.int)) (.lst [.int 0]) = some (.lst ((fresh ++ [0]).map D.int)) := by
        rw [add_lst (by simp; omega)]
        simp
      simp only [Bool.false_eq_true, if_false]
      simp only [tLstD, al, sSeq, sNil, sIf, sRet, sRetN, tVarD, tCD, tOpD, tOp1D, tCallD, tCallB, aNil, aCons, bVal, bNot, bCmp, bOr, tTupD, sAsg, hide_nil, fTup, fsCons, fsNil, fName, Option.bind_some, List.set_cons_zero, List.set_cons_succ, List.map_cons, List.map_nil, List.length_cons, List.length_nil, List.getElem?_cons_zero, List.getElem?_cons_succ, Nat.zero_add, Nat.reduceAdd, Option.some.injEq, exists_eq_left', true_and, D.bl.injEq, Bool.not_true, Bool.not_false, Bool.false_eq_true, if_false, if_true, lenD_tup, List.length_map, subD_int]
      refine ⟨by omega, one_int (by simp) (by simp; omega) (by omega) fun i hi => ⟨rfl, fin i ?_⟩⟩
      rcases List.mem_append.mp hi with hi | hi
      · exact fk i hi
      · rw [List.mem_singleton.mp hi]
        decide
  simp only [sAsgP, tAndD, tOrD, tLstD, ints_ne, ints_eq, Nat.zero_le, sSeq, sNil, sIf, sRet, sRetN, tVarD, tCD, tOpD, tOp1D, tCallD, tCallB, aNil, aCons, bVal, bNot, bCmp, bOr, tTupD, sAsg, hide_nil, fTup, fsCons, fsNil, fName, Option.bind_some, List.set_cons_zero, List.set_cons_succ, List.map_cons, List.map_nil, List.length_cons, List.length_nil, List.getElem?_cons_zero, List.getElem?_cons_succ, Nat.zero_add, Nat.reduceAdd, Option.some.injEq, exists_eq_left', true_and, D.bl.injEq, Bool.not_true, Bool.not_false, Bool.false_eq_true, if_false, if_true, lenD_tup, List.length_map, subD_int]
  cases hse : sames.isEmpty with
  | true =>
    simp only [Bool.not_true, Bool.false_eq_true, if_false]
    exact ⟨rfl, go false n (fun e => by cases e) (by omega) (by omega)⟩
  | false =>
    have hne : sames ≠ [] := fun e => by
      rw [e] at hse
      cases hse
    simp only [Bool.not_false, if_true]
    cases fresh.isEmpty with
    | true =>
      simp only [if_true]
      exact ⟨rfl, go true n (fun _ => hne) (by omega) (by omega)⟩
    | false =>
      simp only [Bool.false_eq_true, if_false]
      exact take_ok (by decide) (by decide) (by omega) fun r _ _ => ⟨_, rfl, rfl, go _ (n + 1) (fun _ => hne) (by omega) (by omega)⟩
/-! a part of the query -/
def partD (p : Int × List Int) : D := .tup [.int p.1, .tup (p.2.map D.int)]
def POk (m : Nat) (p : Int × List Int) : Prop := (0 ≤ p.1 ∧ p.1 < m) ∧ (1 ≤ p.2.length ∧ p.2.length ≤ 4) ∧ ∀ i ∈ p.2, 0 ≤ i ∧ i ≤ 15
def queryBody : TDS := (sSeq (sAsg [5, 4] (fName 7) (tCallD takeD (aCons (tVarD 0) (aCons (tCallB lenD (aCons (tVarD 1) aNil)) aNil)))) (sSeq (sAsg [5, 4] (fName 8) (tCallD T__law_draw_row (aCons (tVarD 0) (aCons (tOpD ixD (tVarD 1) (tVarD 7)) aNil)))) (sSeq (sOwn [5, 4] 9 (lLstD aNil)) (sSeq (sFor [9, 5, 4] (wAny (tVarD 8)) (fName 10) rowBody) (sAppP 4 (tTupD (aCons (tVarD 7) (aCons (tCallB tupleD (aCons (tVarD 9) aNil)) aNil))))))))
theorem h54 (y0 y1 y2 y3 y4 y5 y6 y7 y8 y9 y10 y11 y12 y13 y14 y15 y16 y17 y18 : Option D) : hide [5, 4] [y0, y1, y2, y3, y4, y5, y6, y7, y8, y9, y10, y11, y12, y13, y14, y15, y16, y17, y18] = [y0, y1, y2, y3, none, none, y6, y7, y8, y9, y10, y11, y12, y13, y14, y15, y16, y17, y18] := by
  simp [hide, hideFrom]
theorem h954 (y0 y1 y2 y3 y4 y5 y6 y7 y8 y9 y10 y11 y12 y13 y14 y15 y16 y17 y18 : Option D) : hide [9, 5, 4] [y0, y1, y2, y3, y4, y5, y6, y7, y8, y9, y10, y11, y12, y13, y14, y15, y16, y17, y18] = [y0, y1, y2, y3, none, none, y6, y7, y8, none, y10, y11, y12, y13, y14, y15, y16, y17, y18] := by
  simp [hide, hideFrom]
theorem h4 (y0 y1 y2 y3 y4 y5 y6 y7 y8 y9 y10 y11 y12 y13 y14 y15 y16 y17 y18 : Option D) : hide [4] [y0, y1, y2, y3, y4, y5, y6, y7, y8, y9, y10, y11, y12, y13, y14, y15, y16, y17, y18] = [y0, y1, y2, y3, none, y5, y6, y7, y8, y9, y10, y11, y12, y13, y14, y15, y16, y17, y18] := by
  simp [hide, hideFrom]
theorem m_queryBody {ts : List Tab} (hts : ∀ t ∈ ts, t.Ok) (h0 : 1 ≤ ts.length) (h4 : ts.length ≤ 4) {x2 x3 x6 x7 x8 x9 x10 x11 x12 x13 x14 x15 x16 x17 x18 : Option D} {ps : List (Int × List Int)} {ks : List (Int × Int)} (hk : KOk ks) (hkl : ks.length ≤ 50) (hpl : ps.length ≤ 100) {n : Nat} (hn : n + 20 ≤ NN) {De : DE}
    (h : ∀ (p : Int × List Int) (ks' : List (Int × Int)) (y7 y8 y9 y10 y11 y12 y13 y14 : Option D) (n' : Nat), POk ts.length p → KOk ks' → ks'.length ≤ ks.length + 4 → 1 ≤ ks'.length → n ≤ n' → n' ≤ n + 20 →
      De.nx [some .pen, some (.tup (ts.map tabD)), x2, x3, some (.lst ((ps ++ [p]).map partD)), some (.dct (dk ks')), x6, y7, y8, y9, y10, y11, y12, y13, y14, x15, x16, x17, x18] n') :
    queryBody De [some .pen, some (.tup (ts.map tabD)), x2, x3, some (.lst (ps.map partD)), some (.dct (dk ks)), x6, x7, x8, x9, x10, x11, x12, x13, x14, x15, x16, x17, x18] n := by
  have LL : LIM = 1000000 := rfl
  simp only [queryBody, h54, sch_len, sSeq, sNil, sIf, sRet, sRetN, tVarD, tCD, tOpD, tOp1D, tCallD, tCallB, aNil, aCons, bVal, bNot, bCmp, bOr, tTupD, sAsg, hide_nil, fTup, fsCons, fsNil, fName, Option.bind_some, List.set_cons_zero, List.set_cons_succ, List.map_cons, List.map_nil, List.length_cons, List.length_nil, List.getElem?_cons_zero, List.getElem?_cons_succ, Nat.zero_add, Nat.reduceAdd, Option.some.injEq, exists_eq_left', true_and, D.bl.injEq, Bool.not_true, Bool.not_false, Bool.false_eq_true, if_false, if_true, lenD_tup, List.length_map, subD_int]
  refine take_ok (m := ((ts.length : Nat) : Int)) (by omega) (by omega) (by omega) fun t t0 t1 => ?_
  have hx := tab_at (ts := ts) t0 t1
  simp only [hx, h54, sSeq, sNil, sIf, sRet, sRetN, tVarD, tCD, tOpD, tOp1D, tCallD, tCallB, aNil, aCons, bVal, bNot, bCmp, bOr, tTupD, sAsg, hide_nil, fTup, fsCons, fsNil, fName, Option.bind_some, List.set_cons_zero, List.set_cons_succ, List.map_cons, List.map_nil, List.length_cons, List.length_nil, List.getElem?_cons_zero, List.getElem?_cons_succ, Nat.zero_add, Nat.reduceAdd, Option.some.injEq, exists_eq_left', true_and, D.bl.injEq, Bool.not_true, Bool.not_false, Bool.false_eq_true, if_false, if_true, lenD_tup, List.length_map, subD_int]
  have hok := hts _ (ix_mem t0 t1)
  have hcl := hok.len
  refine m_draw_row hok (by omega) fun row n2 hrow r0 r1 => ?_
  simp only [sOwn, lLstD, h54, Nat.zero_le, sSeq, sNil, sIf, sRet, sRetN, tVarD, tCD, tOpD, tOp1D, tCallD, tCallB, aNil, aCons, bVal, bNot, bCmp, bOr, tTupD, sAsg, hide_nil, fTup, fsCons, fsNil, fName, Option.bind_some, List.set_cons_zero, List.set_cons_succ, List.map_cons, List.map_nil, List.length_cons, List.length_nil, List.getElem?_cons_zero, List.getElem?_cons_succ, Nat.zero_add, Nat.reduceAdd, Option.some.injEq, exists_eq_left', true_and, D.bl.injEq, Bool.not_true, Bool.not_false, Bool.false_eq_true, if_false, if_true, lenD_tup, List.length_map, subD_int]
  refine ⟨by simp, ?_⟩
  simp only [sFor, wAny, h954, sSeq, sNil, sIf, sRet, sRetN, tVarD, tCD, tOpD, tOp1D, tCallD, tCallB, aNil, aCons, bVal, bNot, bCmp, bOr, tTupD, sAsg, hide_nil, fTup, fsCons, fsNil, fName, Option.bind_some, List.set_cons_zero, List.set_cons_succ, List.map_cons, List.map_nil, List.length_cons, List.length_nil, List.getElem?_cons_zero, List.getElem?_cons_succ, Nat.zero_add, Nat.reduceAdd, Option.some.injEq, exists_eq_left', true_and, D.bl.injEq, Bool.not_true, Bool.not_false, Bool.false_eq_true, if_false, if_true, lenD_tup, List.length_map, subD_int]
  refine ⟨_, .inr rfl, ?_⟩
  refine forD_inv (all := row.map D.int) (fun i ρ n' => ∃ (names : List Int) (ks' : List (Int × Int)) (y10 y11 y12 y13 y14 : Option D), ρ = [some .pen, some (.tup (ts.map tabD)), x2, x3, some (.lst (ps.map partD)), some (.dct (dk ks')), x6, some (.int t), some (.tup (row.map D.int)), some (.lst (names.map D.int)), y10, y11, y12, y13, y14, x15, x16, x17, x18] ∧ KOk ks' ∧ ks'.length ≤ ks.length + i ∧ (1 ≤ i → 1 ≤ ks'.length) ∧ names.length = i ∧ (∀ j ∈ names, 0 ≤ j ∧ j ≤ 15) ∧ n2 ≤ n' ∧ n' ≤ n2 + 2 * i) ?_ ?_ _ 0 _ _ rfl (Nat.zero_le _) ⟨[], ks, _, _, _, _, _, rfl, hk, by omega, by omega, rfl, by simp, by omega, by omega⟩
  · rintro i d hd ρ n' ⟨names, ks', y10, y11, y12, y13, y14, rfl, k1, k2, k3, k4, k5, k6, k7⟩
    have hi := (List.getElem?_eq_some_iff.mp hd).1
    rw [List.length_map] at hi
    rw [List.getElem?_map, List.getElem?_eq_getElem hi] at hd
    simp only [Option.map_some, Option.some.injEq] at hd
    subst hd
    refine ⟨_, rfl, fun De' _ _ hnx _ => ?_⟩
    refine m_rowBody k1 (by omega) (by omega) (by omega) fun name ks2 z11 z12 z13 z14 n3 hname q1 q2 q3 q4 q5 => hnx _ _ ⟨names ++ [name], ks2, _, _, _, _, _, rfl, q1, by omega, fun _ => q3, by simp [k4], fun j hj => ?_, by omega, by omega⟩
    rcases List.mem_append.mp hj with hj | hj
    · exact k5 j hj
    · rw [List.mem_singleton.mp hj]
      exact hname
  · rintro ρ n' ⟨names, ks', y10, y11, y12, y13, y14, rfl, k1, k2, k3, k4, k5, k6, k7⟩
    rw [List.length_map] at k2 k3 k4 k7
    simp only [sAppP, tup_ints, D.lst.injEq, sSeq, sNil, sIf, sRet, sRetN, tVarD, tCD, tOpD, tOp1D, tCallD, tCallB, aNil, aCons, bVal, bNot, bCmp, bOr, tTupD, sAsg, hide_nil, fTup, fsCons, fsNil, fName, Option.bind_some, List.set_cons_zero, List.set_cons_succ, List.map_cons, List.map_nil, List.length_cons, List.length_nil, List.getElem?_cons_zero, List.getElem?_cons_succ, Nat.zero_add, Nat.reduceAdd, Option.some.injEq, exists_eq_left', true_and, D.bl.injEq, Bool.not_true, Bool.not_false, Bool.false_eq_true, if_false, if_true, lenD_tup, List.length_map, subD_int]
    refine ⟨by omega, ?_, by omega, ?_⟩
    · simp [pureD, pureDs, pure_ints]
    rw [show ps.map partD ++ [D.tup [.int t, .tup (names.map D.int)]] = (ps ++ [(t, names)]).map partD by simp [partD]]
    exact h (t, names) ks' _ _ _ _ _ _ _ _ _ ⟨⟨t0, t1⟩, ⟨by simp only; omega, by simp only; omega⟩, k5⟩ k1 (by omega) (k3 (by omega)) (by omega) (by omega)
end K10
set_option maxHeartbeats 8000000
namespace K10
open PySem PySem.Spec PyProof.Rows L2 DL
structure Qry where
  ps : List (Int × List Int)
  cs : List (Option Int × Option Int × Int)
  os : List Int
def qryD (r : Qry) : D := .tup [.tup (r.ps.map partD), .tup (r.cs.map conD), .tup (r.os.map D.int)]
structure Qry.Ok (m : Nat) (r : Qry) : Prop where
  pl : 1 ≤ r.ps.length ∧ r.ps.length ≤ 4
  p : ∀ p ∈ r.ps, POk m p
  cl : r.cs.length ≤ 8
  c : ∀ c ∈ r.cs, ConOk c
  ol : r.os.length ≤ 8
  o : ∀ i ∈ r.os, 0 ≤ i ∧ i ≤ 15
def qTail3 : TDS := (sSeq (sAsg [4] (fName 17) (tCallB tupleD (aCons (tComp (wRng1 (aCons (tCallD T__law_one_of (aCons (tVarD 0) (aCons (tLstD (aCons (tCD (.int 0)) (aCons (tCD (.int 1)) (aCons (tCD (.int 2)) (aCons (tCD (.int 3)) (aCons (tCD (.int 5)) (aCons (tCD (.int 6)) (aCons (tCD (.int 8)) aNil)))))))) aNil))) aNil)) (fName 6) bYes (tCallD T__law_one_of (aCons (tVarD 0) (aCons (tVarD 15) aNil))) [6]) aNil))) (sRet (tTupD (aCons (tCallB tupleD (aCons (tVarD 4) aNil)) (aCons (tCallB tupleD (aCons (tVarD 16) aNil)) (aCons (tVarD 17) aNil))))))
def qTail2 : TDS := (sSeq (sAsg [4] (fName 16) (tL (tCompL (wRng1 (aCons (tCallD takeD (aCons (tVarD 0) (aCons (tOpD addD (tVarD 3) (tCD (.int 1))) aNil))) aNil)) (fName 6) bYes (tCallD T__law_draw_constraint (aCons (tVarD 0) (aCons (tVarD 15) (aCons (tVarD 5) aNil)))) [6]))) qTail3)
theorem draw_query_eq : T__law_draw_query = fnD 4 19 (sSeq (sParN [] 4 5 (tL (lLstD aNil)) tNoDict) (sSeq (sFor [5, 4] (wRng1 (aCons (tOpD addD (tCD (.int 1)) (tCallD takeD (aCons (tVarD 0) (aCons (tVarD 2) aNil)))) aNil)) (fName 6) queryBody) (sSeq (sAsg [4] (fName 15) (tCallB sortedDD (aCons (tVarD 5) aNil))) qTail2))) := rfl
theorem m_qTail3 {us : List Int} (u0 : us ≠ []) (ul : us.length ≤ 100) (hu : ∀ i ∈ us, 0 ≤ i ∧ i ≤ 15) {ps : List (Int × List Int)} {cs : List (Option Int × Option Int × Int)} (hps : ps.length ≤ 100) (hcs : cs.length ≤ 100) {x0 x1 x2 x3 x5 x6 x7 x8 x9 x10 x11 x12 x13 x14 x17 x18 : Option D} (hx : x0 = some .pen) {n : Nat} (hn : n + 9 ≤ NN) {De : DE} {q : QD} (hr : De.rt = q)
    (h : ∀ (os : List Int) n', os.length ≤ 8 → (∀ i ∈ os, 0 ≤ i ∧ i ≤ 15) → n ≤ n' → n' ≤ n + 9 → q (.tup [.tup (ps.map partD), .tup (cs.map conD), .tup (os.map D.int)]) n') :
    qTail3 De [x0, x1, x2, x3, some (.lst (ps.map partD)), x5, x6, x7, x8, x9, x10, x11, x12, x13, x14, some (.lst (us.map D.int)), some (.lst (cs.map conD)), x17, x18] n := by
  subst hx
  have LL : LIM = 1000000 := rfl
  simp only [qTail3, h4, tComp, wRng1, tLstD, sSeq, sNil, sIf, sRet, sRetN, tVarD, tCD, tOpD, tOp1D, tCallD, tCallB, aNil, aCons, bVal, bNot, bCmp, bOr, tTupD, sAsg, hide_nil, fTup, fsCons, fsNil, fName, Option.bind_some, List.set_cons_zero, List.set_cons_succ, List.map_cons, List.map_nil, List.length_cons, List.length_nil, List.getElem?_cons_zero, List.getElem?_cons_succ, Nat.zero_add, Nat.reduceAdd, Option.some.injEq, exists_eq_left', true_and, D.bl.injEq, Bool.not_true, Bool.not_false, Bool.false_eq_true, if_false, if_true, lenD_tup, List.length_map, subD_int]
  refine ⟨by omega, one_ok (by simp) (by simp) (by omega) fun d hd => ?_⟩
  have : ∃ s : Int, d = .int s ∧ 0 ≤ s ∧ s ≤ 8 := by
    simp only [List.mem_cons, List.not_mem_nil, or_false] at hd
    rcases hd with rfl | rfl | rfl | rfl | rfl | rfl | rfl <;> exact ⟨_, rfl, by decide, by decide⟩
  obtain ⟨s, rfl, s0, s1⟩ := this
  have lr : (rangeD 0 s.toNat).length = s.toNat := by simp [rangeD]
  refine ⟨s, rfl, by omega, by omega, ?_⟩
  refine compD_inv (fun y => ∃ i : Int, y = .int i ∧ (0 ≤ i ∧ i ≤ 15)) 1 _ _ _ _ (fun d hd => ⟨_, rfl, fun n k hn' hk => ?_⟩) (by rw [lr]; omega) (by rw [lr]; simp only [List.length_nil]; omega) fun ys n' l1 l2 l3 l4 => ?_
  · simp only [wipeE, h4, sSeq, sNil, sIf, sRet, sRetN, tVarD, tCD, tOpD, tOp1D, tCallD, tCallB, aNil, aCons, bVal, bNot, bCmp, bOr, tTupD, sAsg, hide_nil, fTup, fsCons, fsNil, fName, Option.bind_some, List.set_cons_zero, List.set_cons_succ, List.map_cons, List.map_nil, List.length_cons, List.length_nil, List.getElem?_cons_zero, List.getElem?_cons_succ, Nat.zero_add, Nat.reduceAdd, Option.some.injEq, exists_eq_left', true_and, D.bl.injEq, Bool.not_true, Bool.not_false, Bool.false_eq_true, if_false, if_true, lenD_tup, List.length_map, subD_int]
    exact one_int u0 (by omega) (by omega) fun i hi => hk _ _ ⟨i, rfl, hu i hi⟩ (by omega) (by omega)
  · rw [lr] at l1 l4
    obtain ⟨os, rfl, ho⟩ := list_of l2
    rw [List.length_map] at l1
    have t1 : tupleD [.lst (ps.map partD)] = some (.tup (ps.map partD)) := rfl
    have t2 : tupleD [.lst (cs.map conD)] = some (.tup (cs.map conD)) := rfl
    rw [List.nil_append]
    simp only [tup_ints, t1, t2, hr, sSeq, sNil, sIf, sRet, sRetN, tVarD, tCD, tOpD, tOp1D, tCallD, tCallB, aNil, aCons, bVal, bNot, bCmp, bOr, tTupD, sAsg, hide_nil, fTup, fsCons, fsNil, fName, Option.bind_some, List.set_cons_zero, List.set_cons_succ, List.map_cons, List.map_nil, List.length_cons, List.length_nil, List.getElem?_cons_zero, List.getElem?_cons_succ, Nat.zero_add, Nat.reduceAdd, Option.some.injEq, exists_eq_left', true_and, D.bl.injEq, Bool.not_true, Bool.not_false, Bool.false_eq_true, if_false, if_true, lenD_tup, List.length_map, subD_int]
    exact ⟨by omega, h os _ (by omega) ho (by omega) (by omega)⟩
theorem m_qTail2 {us : List Int} (u0 : us ≠ []) (ul : us.length ≤ 100) (hu : ∀ i ∈ us, 0 ≤ i ∧ i ≤ 15) {ps : List (Int × List Int)} (hps : ps.length ≤ 100) {ks : List (Int × Int)} {most : Int} (hm : 0 ≤ most ∧ most ≤ 8) {x0 x1 x2 x3 x6 x7 x8 x9 x10 x11 x12 x13 x14 x16 x17 x18 : Option D} (hx : x0 = some .pen) (hx3 : x3 = some (.int most)) {n : Nat} (hn : n + 50 ≤ NN) {De : DE} {q : QD} (hr : De.rt = q)
    (h : ∀ (cs : List (Option Int × Option Int × Int)) (os : List Int) n', cs.length ≤ 8 → (∀ c ∈ cs, ConOk c) → os.length ≤ 8 → (∀ i ∈ os, 0 ≤ i ∧ i ≤ 15) → n ≤ n' → n' ≤ n + 50 → q (.tup [.tup (ps.map partD), .tup (cs.map conD), .tup (os.map D.int)]) n') :
    qTail2 De [x0, x1, x2, x3, some (.lst (ps.map partD)), some (.dct (dk ks)), x6, x7, x8, x9, x10, x11, x12, x13, x14, some (.lst (us.map D.int)), x16, x17, x18] n := by
  subst hx hx3
  have LL : LIM = 1000000 := rfl
  simp only [qTail2, h4, tL, tCompL, wRng1, addD_int, sSeq, sNil, sIf, sRet, sRetN, tVarD, tCD, tOpD, tOp1D, tCallD, tCallB, aNil, aCons, bVal, bNot, bCmp, bOr, tTupD, sAsg, hide_nil, fTup, fsCons, fsNil, fName, Option.bind_some, List.set_cons_zero, List.set_cons_succ, List.map_cons, List.map_nil, List.length_cons, List.length_nil, List.getElem?_cons_zero, List.getElem?_cons_succ, Nat.zero_add, Nat.reduceAdd, Option.some.injEq, exists_eq_left', true_and, D.bl.injEq, Bool.not_true, Bool.not_false, Bool.false_eq_true, if_false, if_true, lenD_tup, List.length_map, subD_int]
  refine take_ok (by omega) (by omega) (by omega) fun s s0 s1 => ?_
  have lr : (rangeD 0 s.toNat).length = s.toNat := by simp [rangeD]
  refine ⟨s, rfl, by omega, by omega, ?_⟩
  refine compD_inv (fun y => ∃ c, y = conD c ∧ ConOk c) 4 _ _ _ _ (fun d hd => ⟨_, rfl, fun n k hn' hk => ?_⟩) (by rw [lr]; omega) (by rw [lr]; simp only [List.length_nil]; omega) fun ys n' l1 l2 l3 l4 => ?_
  · simp only [wipeE, h4, sSeq, sNil, sIf, sRet, sRetN, tVarD, tCD, tOpD, tOp1D, tCallD, tCallB, aNil, aCons, bVal, bNot, bCmp, bOr, tTupD, sAsg, hide_nil, fTup, fsCons, fsNil, fName, Option.bind_some, List.set_cons_zero, List.set_cons_succ, List.map_cons, List.map_nil, List.length_cons, List.length_nil, List.getElem?_cons_zero, List.getElem?_cons_succ, Nat.zero_add, Nat.reduceAdd, Option.some.injEq, exists_eq_left', true_and, D.bl.injEq, Bool.not_true, Bool.not_false, Bool.false_eq_true, if_false, if_true, lenD_tup, List.length_map, subD_int]
    exact m_draw_constraint u0 (by omega) hu (by omega) fun c n' hc n0 n1 => hk _ _ ⟨c, rfl, hc⟩ n0 n1
  · rw [lr] at l1 l4
    obtain ⟨cs, rfl, hc⟩ := list_of l2
    rw [List.length_map] at l1
    rw [List.nil_append]
    exact m_qTail3 u0 ul hu hps (by omega) rfl (by omega) hr fun os n2 o1 o2 o3 o4 => h cs os n2 (by omega) hc o1 o2 (by omega) (by omega)
theorem m_draw_query {ts : List Tab} (hts : ∀ t ∈ ts, t.Ok) (h0 : 1 ≤ ts.length) (h4 : ts.length ≤ 4) {m most : Int} (hm : 0 < m ∧ m ≤ 4) (hmo : 0 ≤ most ∧ most ≤ 8) {n : Nat} {q : QD} (hn : n + 140 ≤ NN) (h : ∀ (r : Qry) n', r.Ok ts.length → n ≤ n' → n' ≤ n + 140 → q (qryD r) n') : T__law_draw_query [.pen, .tup (ts.map tabD), .int m, .int most] n q := by
  have LL : LIM = 1000000 := rfl
  rw [draw_query_eq]
  simp only [fnD, startE, List.replicate, List.cons_append, List.nil_append, Nat.reduceSub, sParN, tL, lLstD, tNoDict, Nat.zero_le, sSeq, sNil, sIf, sRet, sRetN, tVarD, tCD, tOpD, tOp1D, tCallD, tCallB, aNil, aCons, bVal, bNot, bCmp, bOr, tTupD, sAsg, hide_nil, fTup, fsCons, fsNil, fName, Option.bind_some, List.set_cons_zero, List.set_cons_succ, List.map_cons, List.map_nil, List.length_cons, List.length_nil, List.getElem?_cons_zero, List.getElem?_cons_succ, Nat.zero_add, Nat.reduceAdd, Option.some.injEq, exists_eq_left', true_and, D.bl.injEq, Bool.not_true, Bool.not_false, Bool.false_eq_true, if_false, if_true, lenD_tup, List.length_map, subD_int]
  refine ⟨by simp, ?_⟩
  simp only [sFor, wRng1, h54, sSeq, sNil, sIf, sRet, sRetN, tVarD, tCD, tOpD, tOp1D, tCallD, tCallB, aNil, aCons, bVal, bNot, bCmp, bOr, tTupD, sAsg, hide_nil, fTup, fsCons, fsNil, fName, Option.bind_some, List.set_cons_zero, List.set_cons_succ, List.map_cons, List.map_nil, List.length_cons, List.length_nil, List.getElem?_cons_zero, List.getElem?_cons_succ, Nat.zero_add, Nat.reduceAdd, Option.some.injEq, exists_eq_left', true_and, D.bl.injEq, Bool.not_true, Bool.not_false, Bool.false_eq_true, if_false, if_true, lenD_tup, List.length_map, subD_int]
  refine take_ok hm.1 (by omega) (by omega) fun s s0 s1 => ?_
  simp only [addD_int, sSeq, sNil, sIf, sRet, sRetN, tVarD, tCD, tOpD, tOp1D, tCallD, tCallB, aNil, aCons, bVal, bNot, bCmp, bOr, tTupD, sAsg, hide_nil, fTup, fsCons, fsNil, fName, Option.bind_some, List.set_cons_zero, List.set_cons_succ, List.map_cons, List.map_nil, List.length_cons, List.length_nil, List.getElem?_cons_zero, List.getElem?_cons_succ, Nat.zero_add, Nat.reduceAdd, Option.some.injEq, exists_eq_left', true_and, D.bl.injEq, Bool.not_true, Bool.not_false, Bool.false_eq_true, if_false, if_true, lenD_tup, List.length_map, subD_int]
  have lr : (rangeD 0 (1 + s).toNat).length = (1 + s).toNat := by simp [rangeD]
  refine ⟨1 + s, rfl, by omega, by omega, ?_⟩
  refine forD_inv (all := rangeD 0 (1 + s).toNat) (fun i ρ n' => ∃ (ps : List (Int × List Int)) (ks : List (Int × Int)) (y6 y7 y8 y9 y10 y11 y12 y13 y14 : Option D), ρ = [some .pen, some (.tup (ts.map tabD)), some (.int m), some (.int most), some (.lst (ps.map partD)), some (.dct (dk ks)), y6, y7, y8, y9, y10, y11, y12, y13, y14, none, none, none, none] ∧ KOk ks ∧ ks.length ≤ 4 * i ∧ (1 ≤ i → 1 ≤ ks.length) ∧ ps.length = i ∧ (∀ p ∈ ps, POk ts.length p) ∧ n + 1 ≤ n' ∧ n' ≤ n + 1 + 20 * i) ?_ ?_ _ 0 _ _ rfl (Nat.zero_le _) ⟨[], [], _, _, _, _, _, _, _, _, _, rfl, (fun p hp => by cases hp), by simp, by omega, rfl, by simp, by omega, by omega⟩
  · rintro i d hd ρ n' ⟨ps, ks, y6, y7, y8, y9, y10, y11, y12, y13, y14, rfl, k1, k2, k3, k4, k5, k6, k7⟩
    have hi := (List.getElem?_eq_some_iff.mp hd).1
    rw [lr] at hi
    refine ⟨_, rfl, fun De' _ _ hnx _ => ?_⟩
    refine m_queryBody hts h0 h4 k1 (by omega) (by omega) (by omega) fun p ks' z7 z8 z9 z10 z11 z12 z13 z14 n2 q1 q2 q3 q4 q5 q6 => hnx _ _ ⟨ps ++ [p], ks', _, _, _, _, _, _, _, _, _, rfl, q2, by omega, fun _ => q4, by simp [k4], fun p' hp => ?_, by omega, by omega⟩
    rcases List.mem_append.mp hp with hp | hp
    · exact k5 p' hp
    · rw [List.mem_singleton.mp hp]
      exact q1
  · rintro ρ n' ⟨ps, ks, y6, y7, y8, y9, y10, y11, y12, y13, y14, rfl, k1, k2, k3, k4, k5, k6, k7⟩
    rw [lr] at k2 k3 k4 k7
    have kl := k3 (by omega)
    have sd : sortedDD [.dct (dk ks)] = some (.lst ((sortI (ks.map (·.1))).map D.int)) := by
      show ((keysI (dk ks)).bind fun ns => if ns.length < 64 then some (D.lst ((sortI ns).map D.int)) else none) = _
      rw [keysI_dk]
      show (if (ks.map (·.1)).length < 64 then _ else none) = _
      rw [if_pos (by rw [List.length_map]; omega)]
    have sp := sortI_perm (ks.map (·.1))
    have sl := sp.length_eq
    rw [List.length_map] at sl
    simp only [K10.h4, sd, sSeq, sNil, sIf, sRet, sRetN, tVarD, tCD, tOpD, tOp1D, tCallD, tCallB, aNil, aCons, bVal, bNot, bCmp, bOr, tTupD, sAsg, hide_nil, fTup, fsCons, fsNil, fName, Option.bind_some, List.set_cons_zero, List.set_cons_succ, List.map_cons, List.map_nil, List.length_cons, List.length_nil, List.getElem?_cons_zero, List.getElem?_cons_succ, Nat.zero_add, Nat.reduceAdd, Option.some.injEq, exists_eq_left', true_and, D.bl.injEq, Bool.not_true, Bool.not_false, Bool.false_eq_true, if_false, if_true, lenD_tup, List.length_map, subD_int]
    refine m_qTail2 (us := sortI (ks.map (·.1))) (ps := ps) (n := n') (q := q) (fun e => ?_) (by omega) (fun i hi => ?_) (by omega) hmo rfl rfl (by omega) ?_ fun cs os n2 c1 c2 o1 o2 n0 n1 => h ⟨ps, cs, os⟩ n2 ⟨⟨by simp only; omega, by simp only; omega⟩, k5, c1, c2, o1, o2⟩ (by omega) (by omega)
    · rw [e] at sl
      simp at sl
      omega
    · have := sp.mem_iff.mp hi
      obtain ⟨p, hp, rfl⟩ := List.mem_map.mp this
      exact k1 p hp
    · rfl
end K10
set_option maxHeartbeats 8000000
namespace K10
open PySem PySem.Spec PyProof.Rows L2 DL
theorem any_mid {w1 w2 w' k : Nat} {pre post : List D} {z : D} (h1 : It w1 (k + 1) (.tup pre)) (h2 : It w2 (k + 1) (.tup post)) (hz : Any w' k z) : Any (w1 + w2 + w' + 5) (k + 1) (.tup (pre ++ z :: post)) := by
  have i1 : itDs pre = true := by simpa [itD] using h1.it
  have i2 : itDs post = true := by simpa [itD] using h2.it
  have := any_put2 (pre := pre) (post := post) (d := .int 0) (w := w1 + (4 + 1 + w2)) (k := k) (w' := w') (z := z) (by rw [itDs_append, i1]; simp only [itDs, i2, Bool.and_true, Bool.true_and]; exact it_int (by decide)) (VL.append h1.vd.tup (VL.cons (vd_tiny (by decide) k) h2.vd.tup)) hz
  exact ⟨this.1.mono (by omega) (Nat.le_refl _), this.2⟩
theorem Any.mono {w w' k k' : Nat} {d : D} (h : Any w k d) (h1 : w ≤ w') (h2 : k ≤ k') : Any w' k' d := ⟨h.1.mono h1 h2, h.2⟩
theorem any_snoc {w w' k : Nat} {pre : List D} {z : D} (h : It w (k + 1) (.tup pre)) (hz : Any w' k z) : Any (w + w' + 5) (k + 1) (.tup (pre ++ [z])) := (any_mid h (it_unit k) hz).mono (by omega) (Nat.le_refl _)
theorem any3_1 {w w' w'' k : Nat} {a b c : D} (h : Any w k a) (h' : It w' k b) (h'' : It w'' k c) : Any (w + w' + w'' + 10) (k + 1) (.tup [a, b, c]) :=
  (any_mid (pre := []) (post := [b, c]) (it_unit k) (it_tup2 h' h'') h).mono (by omega) (Nat.le_refl _)
theorem any3_2 {w w' w'' k : Nat} {a b c : D} (h : It w k a) (h' : Any w' k b) (h'' : It w'' k c) : Any (w + w' + w'' + 10) (k + 1) (.tup [a, b, c]) :=
  (any_mid (pre := [a]) (post := [c]) (it_one h) (it_one h'') h').mono (by omega) (Nat.le_refl _)
theorem any_pair {w w' k : Nat} {a b : D} (h : It w k a) (h' : Any w' k b) : Any (w + w' + 10) (k + 1) (.tup [a, b]) :=
  (any_mid (pre := [a]) (post := []) (it_one h) (it_unit k) h').mono (by omega) (Nat.le_refl _)
theorem any_lst {w k : Nat} {ds : List D} (h : It w (k + 1) (.tup ds)) : Any w (k + 1) (.lst ds) :=
  ⟨h.vd.tup.lst, .inl (by simpa [noD] using (it_no _ h.it).1)⟩
theorem any_lit {d : D} (h : vdB 200 3 d = true) (h2 : (noD d || nlD d) = true) : Any 200 3 d := by
  unfold vdB at h
  simp only [Bool.and_eq_true, decide_eq_true_eq] at h
  exact ⟨⟨h.1.1.1, h.1.1.2, h.1.2, h.2⟩, by simpa using h2⟩
theorem vd_22 {i : Int} (h : i.natAbs < 2 ^ 22) (k : Nat) : VD 22 k (.int i) := by
  have h0 := vd_int (i := i) (Nat.le_trans (Nat.le_of_lt h) (by decide)) k
  refine ⟨h0.lf, h0.sh, ?_, h0.dp⟩
  simp only [toPy, PyData.weight]
  split
  · omega
  · have : i.natAbs.log2 < 22 := by
      by_cases h1 : i.natAbs = 0
      · rw [h1]
        decide
      · exact (Nat.log2_lt h1).mpr h
    omega
theorem it_node {x : Option Int} (h : ∀ i, x = some i → 0 ≤ i ∧ i ≤ 15) (k : Nat) : It 4 k (nodeD x) := by
  cases x with
  | none => exact ⟨rfl, (vd_non k).mono (by omega) (Nat.le_refl _)⟩
  | some i =>
    have := h i rfl
    exact it_tiny this.1 (by omega) k
theorem it_con {c : Option Int × Option Int × Int} (h : ConOk c) : It 33 1 (conD c) := by
  obtain ⟨h1, h2, h3, h4⟩ := h
  have : It 22 0 (.int c.2.2) := ⟨it_int (by omega), vd_22 (by omega) 0⟩
  exact it_tup3 (it_node h1 0) (it_node h2 0) this
theorem it_part {m : Nat} (hm : m ≤ 4) {p : Int × List Int} (h : POk m p) : It 26 2 (partD p) := by
  obtain ⟨h1, h2, h3⟩ := h
  exact it_tup2 (it_tiny h1.1 (by omega) 1) (it_ints (L := 4) h2.2 fun i hi => by have := h3 i hi; omega)
theorem it_ps {m : Nat} (hm : m ≤ 4) {r : Qry} (h : r.Ok m) : It 108 3 (.tup (r.ps.map partD)) := it_map (L := 4) (w := 26) (k := 2) h.pl.2 fun p hp => it_part hm (h.p p hp)
theorem it_cs {m : Nat} {r : Qry} (h : r.Ok m) : It 272 3 (.tup (r.cs.map conD)) := (it_map (L := 8) (w := 33) (k := 1) h.cl fun c hc => it_con (h.c c hc)).mono (Nat.le_refl _) (by omega)
theorem it_os {m : Nat} {r : Qry} (h : r.Ok m) : It 40 3 (.tup (r.os.map D.int)) := (it_ints (L := 8) h.ol fun i hi => by have := h.o i hi; omega).mono (Nat.le_refl _) (by omega)
theorem it_qry {m : Nat} (hm : m ≤ 4) {r : Qry} (h : r.Ok m) : It 423 4 (qryD r) := it_tup3 (it_ps hm h) (it_cs h) (it_os h)
theorem cut_neg {α : Type} (xs : List α) (j : Nat) (hj : 1 ≤ j) : DL.cutL xs (some (-(j : Int))) none = xs.drop (xs.length - j) := by
  unfold DL.cutL
  have : HT.sIx xs.length 0 (some (-(j : Int))) = xs.length - j := by
    show (if (-(j : Int)) < 0 then (-(j : Int) + (xs.length : Int)).toNat else _) = _
    rw [if_pos (by omega)]
    omega
  rw [this]
  show (xs.drop (xs.length - j)).take (xs.length - (xs.length - j)) = _
  exact List.take_of_length_le (by rw [List.length_drop]; omega)
theorem cut_negHi {α : Type} (xs : List α) (j : Nat) (hj : 1 ≤ j) : DL.cutL xs none (some (-(j : Int))) = xs.take (xs.length - j) := by
  unfold DL.cutL
  have : HT.sIx xs.length xs.length (some (-(j : Int))) = xs.length - j := by
    show (if (-(j : Int)) < 0 then (-(j : Int) + (xs.length : Int)).toNat else _) = _
    rw [if_pos (by omega)]
    omega
  rw [this]
  show (xs.drop 0).take (xs.length - j - 0) = _
  rw [List.drop_zero, Nat.sub_zero]
theorem it_drop {w k : Nat} {ds : List D} (j : Nat) (h : It w (k + 1) (.tup ds)) : It w (k + 1) (.tup (ds.drop j)) := by
  have hi : itDs ds = true := by simpa [itD] using h.it
  have e : ds = ds.take j ++ ds.drop j := (List.take_append_drop j ds).symm
  have hv := h.vd.tup
  rw [e] at hv
  obtain ⟨w1, w2, _, h2, h3⟩ := VL.split hv
  rw [e, itDs_append, Bool.and_eq_true] at hi
  exact ⟨by simpa [itD] using hi.2, (h2.mono (by omega) (Nat.le_refl _)).tup⟩
theorem it_take {w k : Nat} {ds : List D} (j : Nat) (h : It w (k + 1) (.tup ds)) : It w (k + 1) (.tup (ds.take j)) := by
  have hi : itDs ds = true := by simpa [itD] using h.it
  have e : ds = ds.take j ++ ds.drop j := (List.take_append_drop j ds).symm
  have hv := h.vd.tup
  rw [e] at hv
  obtain ⟨w1, w2, h1, _, h3⟩ := VL.split hv
  rw [e, itDs_append, Bool.and_eq_true] at hi
  exact ⟨by simpa [itD] using hi.1, (h1.mono (by omega) (Nat.le_refl _)).tup⟩
theorem cut_itn {w k : Nat} {ds : List D} (lo hi : Option Int) (h : It w (k + 1) (.tup ds)) : It w (k + 1) (.tup (DL.cutL ds lo hi)) := it_take _ (it_drop _ h)
theorem mul_tup0 (ds : List D) (h : ds.length ≤ 1000) : mulD (.tup ds) (.int 0) = some (.tup []) := by
  unfold mulD orD mulID arC repT repL repZ
  simp [h]
theorem mul_lst (ds : List D) (j : Nat) (h1 : j ≤ 1000) (h : ds.length ≤ 1000) : mulD (.lst ds) (.int (j : Nat)) = some (.lst (List.replicate j ds).flatten) := by
  have : (0 : Int) ≤ (j : Int) ∧ (j : Int) ≤ 1000 ∧ ds.length ≤ 1000 := ⟨by omega, by omega, h⟩
  unfold mulD orD mulID arC repT repL
  simp [this]
end K10
set_option maxHeartbeats 8000000
namespace K10
open PySem PySem.Spec PyProof.Rows L2 DL
theorem ltD_int (a b : Int) : ltD (.int a) (.int b) = some (.bl (decide (a < b))) := rfl
theorem m_near {m : Nat} (hm : m ≤ 4) {r : Qry} (hr : r.Ok m) {n : Nat} {q : QD} (hn : n + 30 ≤ NN) (h : ∀ z n', Any 5000 20 z → n ≤ n' → n' ≤ n + 30 → q z n') : T__law_near [.pen, qryD r] n q := by
  have LL : LIM = 1000000 := rfl
  have iP := it_ps hm hr
  have iC := it_cs hr
  have iO := it_os hr
  have iQ := it_qry hm hr
  have hpl := hr.pl
  have hcl := hr.cl
  have hol := hr.ol
  simp only [T__law_near, fnD, startE, List.replicate, List.cons_append, List.nil_append, Nat.reduceSub, sSeq, sNil, sIf, sRet, sRetN, tVarD, tCD, tOpD, tOp1D, tCallD, tCallB, aNil, aCons, bVal, bNot, bCmp, bOr, tTupD, sAsg, hide_nil, fTup, fsCons, fsNil, fName, Option.bind_some, List.set_cons_zero, List.set_cons_succ, List.map_cons, List.map_nil, List.length_cons, List.length_nil, List.getElem?_cons_zero, List.getElem?_cons_succ, Nat.zero_add, Nat.reduceAdd, Option.some.injEq, exists_eq_left', true_and, D.bl.injEq, Bool.not_true, Bool.not_false, Bool.false_eq_true, if_false, if_true, lenD_tup, List.length_map, subD_int]
  rw [show qryD r = .tup [.tup (r.ps.map partD), .tup (r.cs.map conD), .tup (r.os.map D.int)] from rfl] at *
  simp only [sPar, sSeq, sNil, sIf, sRet, sRetN, tVarD, tCD, tOpD, tOp1D, tCallD, tCallB, aNil, aCons, bVal, bNot, bCmp, bOr, tTupD, sAsg, hide_nil, fTup, fsCons, fsNil, fName, Option.bind_some, List.set_cons_zero, List.set_cons_succ, List.map_cons, List.map_nil, List.length_cons, List.length_nil, List.getElem?_cons_zero, List.getElem?_cons_succ, Nat.zero_add, Nat.reduceAdd, Option.some.injEq, exists_eq_left', true_and, D.bl.injEq, Bool.not_true, Bool.not_false, Bool.false_eq_true, if_false, if_true, lenD_tup, List.length_map, subD_int]
  refine take_ok (by decide) (by decide) (by omega) fun way w0 w1 => ?_
  refine take_ok (m := ((r.ps.length : Nat) : Int)) (by omega) (by omega) (by omega) fun k k0 k1 => ?_
  refine ⟨_, _, rfl, ?_⟩
  have hq : ∀ z n', Any 5000 20 z → n + 2 ≤ n' → n' ≤ n + 30 → q z n' := fun z n' hz h1 h2 => h z n' hz (by omega) h2
  have ng : ∀ i : Int, negD (.int i) = some (.int (-i)) := fun i => rfl
  have pk : ixD (.tup (r.ps.map partD)) (.int k) = some (partD (ix r.ps k)) := by
    show atI (r.ps.map partD) k = _
    rw [at_ix k0 (by simpa using k1), ix_map k0 k1]
  have pok := hr.p _ (ix_mem k0 k1)
  have p0 : ixD (partD (ix r.ps k)) (.int 0) = some (.int (ix r.ps k).1) := rfl
  have p1 : ixD (partD (ix r.ps k)) (.int 1) = some (.tup ((ix r.ps k).2.map D.int)) := rfl
  generalize hR : ix r.ps k = p at pk pok p0 p1
  have hv := pok.2.1
  simp only [ltD_int, eqD_int, sSeq, sNil, sIf, sRet, sRetN, tVarD, tCD, tOpD, tOp1D, tCallD, tCallB, aNil, aCons, bVal, bNot, bCmp, bOr, tTupD, sAsg, hide_nil, fTup, fsCons, fsNil, fName, Option.bind_some, List.set_cons_zero, List.set_cons_succ, List.map_cons, List.map_nil, List.length_cons, List.length_nil, List.getElem?_cons_zero, List.getElem?_cons_succ, Nat.zero_add, Nat.reduceAdd, Option.some.injEq, exists_eq_left', true_and, D.bl.injEq, Bool.not_true, Bool.not_false, Bool.false_eq_true, if_false, if_true, lenD_tup, List.length_map, subD_int]
  have ways : way = 0 ∨ way = 1 ∨ way = 2 ∨ way = 3 ∨ way = 4 ∨ way = 5 ∨ way = 6 ∨ way = 7 := by omega
  rcases ways with rfl | rfl | rfl | rfl | rfl | rfl | rfl | rfl
  · -- bent
    simp only [Int.reduceLT, Int.reduceEq, decide_true, tIfD, eqD_int, sSeq, sNil, sIf, sRet, sRetN, tVarD, tCD, tOpD, tOp1D, tCallD, tCallB, aNil, aCons, bVal, bNot, bCmp, bOr, tTupD, sAsg, hide_nil, fTup, fsCons, fsNil, fName, Option.bind_some, List.set_cons_zero, List.set_cons_succ, List.map_cons, List.map_nil, List.length_cons, List.length_nil, List.getElem?_cons_zero, List.getElem?_cons_succ, Nat.zero_add, Nat.reduceAdd, Option.some.injEq, exists_eq_left', true_and, D.bl.injEq, Bool.not_true, Bool.not_false, Bool.false_eq_true, if_false, if_true, lenD_tup, List.length_map, subD_int]
    exact m_bent 12 4 423 _ _ _ (by decide) (by decide) (by decide) iQ (by omega) fun z n' hz h1 h2 => hq z n' (hz.mono (by omega) (by omega)) (by omega) (by omega)
  · simp only [Int.reduceLT, Int.reduceEq, decide_true, decide_false, tIfD, eqD_int, sSeq, sNil, sIf, sRet, sRetN, tVarD, tCD, tOpD, tOp1D, tCallD, tCallB, aNil, aCons, bVal, bNot, bCmp, bOr, tTupD, sAsg, hide_nil, fTup, fsCons, fsNil, fName, Option.bind_some, List.set_cons_zero, List.set_cons_succ, List.map_cons, List.map_nil, List.length_cons, List.length_nil, List.getElem?_cons_zero, List.getElem?_cons_succ, Nat.zero_add, Nat.reduceAdd, Option.some.injEq, exists_eq_left', true_and, D.bl.injEq, Bool.not_true, Bool.not_false, Bool.false_eq_true, if_false, if_true, lenD_tup, List.length_map, subD_int]
    exact m_off 12 4 423 _ _ _ (by decide) (by decide) (by decide) iQ (by omega) fun z n' hz h1 h2 => hq z n' (hz.mono (by omega) (by omega)) (by omega) (by omega)
  · -- a constraint more
    simp only [Int.reduceLT, Int.reduceEq, decide_true, decide_false, tLstD, ng, pk, p1, tSlD, oNone, oSome, Nat.zero_le, sSeq, sNil, sIf, sRet, sRetN, tVarD, tCD, tOpD, tOp1D, tCallD, tCallB, aNil, aCons, bVal, bNot, bCmp, bOr, tTupD, sAsg, hide_nil, fTup, fsCons, fsNil, fName, Option.bind_some, List.set_cons_zero, List.set_cons_succ, List.map_cons, List.map_nil, List.length_cons, List.length_nil, List.getElem?_cons_zero, List.getElem?_cons_succ, Nat.zero_add, Nat.reduceAdd, Option.some.injEq, exists_eq_left', true_and, D.bl.injEq, Bool.not_true, Bool.not_false, Bool.false_eq_true, if_false, if_true, lenD_tup, List.length_map, subD_int]
    have hvl : 0 < p.2.length := by omega
    have e0 : ixD (.tup (p.2.map D.int)) (.int 0) = some (.int (ix p.2 0)) := by
      show atI (p.2.map D.int) 0 = _
      rw [at_ix (by decide) (by simpa using hvl), ix_map (by decide) (by omega)]
    have e1 : ∃ v : Int, ixD (.tup (p.2.map D.int)) (.int (-1)) = some (.int v) ∧ v ∈ p.2 := by
      have hne : p.2 ≠ [] := List.length_pos_iff.mp hvl
      refine ⟨p.2.getLast hne, ?_, List.getLast_mem hne⟩
      have := last_int p.2.dropLast (p.2.getLast hne)
      rw [List.dropLast_concat_getLast] at this
      exact this
    obtain ⟨v1, e1, hv1⟩ := e1
    have b0 := pok.2.2 _ (ix_mem (xs := p.2) (i := 0) (by decide) (by omega))
    have b1 := pok.2.2 _ hv1
    refine ⟨by omega, by omega, by omega, by omega, by omega, by omega, by omega, by omega, one_ok (by simp) (by simp) (by omega) fun d hd => ?_⟩
    have : ∃ f : Int, d = .int f ∧ f.natAbs ≤ 4000001 := by
      simp only [List.mem_cons, List.not_mem_nil, or_false] at hd
      rcases hd with rfl | rfl | rfl | rfl <;> exact ⟨_, rfl, by decide⟩
    obtain ⟨f, rfl, hf⟩ := this
    refine ⟨_, e0, by omega, _, e1, by omega, by omega, _, mul_lst _ 3 (by decide) (by simp), _, add_lst (by simp; omega), one_ok (by simp) (by simp) (by omega) fun z hz => ?_⟩
    have hz : Any 200 3 z := by
      have vf := vd_int (i := f) (Nat.le_trans hf (by decide)) 0
      have v0 := vd_int (i := ix p.2 0) (by have : (ix p.2 0).natAbs ≤ 15 := by omega
                                            exact Nat.le_trans this (by decide)) 0
      have vl := vd_int (i := v1) (by have : v1.natAbs ≤ 15 := by omega
                                      exact Nat.le_trans this (by decide)) 0
      have c1 : Any 200 3 (.tup [.int (ix p.2 0), .non, .int f]) := ⟨(VL.cons v0 (VL.cons (vd_non 0) (VL.cons vf (VL.nil 0)))).tup.mono (by omega) (by omega), .inl rfl⟩
      have c2 : Any 200 3 (.tup [.non, .int v1, .int f]) := ⟨(VL.cons (vd_non 0) (VL.cons vl (VL.cons vf (VL.nil 0)))).tup.mono (by omega) (by omega), .inl rfl⟩
      simp only [List.cons_append, List.nil_append, List.mem_cons, List.mem_flatten, List.mem_replicate] at hz
      rcases hz with rfl | rfl | rfl | rfl | rfl | rfl | ⟨l, ⟨_, rfl⟩, hz⟩
      · exact any_lit (by decide +kernel) (by decide)
      · exact any_lit (by decide +kernel) (by decide)
      · exact any_lit (by decide +kernel) (by decide)
      · exact any_lit (by decide +kernel) (by decide)
      · exact any_lit (by decide +kernel) (by decide)
      · exact any_lit (by decide +kernel) (by decide)
      · simp only [List.mem_cons, List.not_mem_nil, or_false] at hz
        rcases hz with rfl | rfl
        · exact c1
        · exact c2
    refine ⟨by omega, _, add_tup (by simp; omega), -8, rfl, _, rfl, by omega, hq _ _ ?_ (by omega) (by omega)⟩
    have cn := cut_neg (r.cs.map conD ++ [z]) 8 (by decide)
    have cn' : DL.cutL (r.cs.map conD ++ [z]) (some (-8)) none = (r.cs.map conD).drop (r.cs.length + 1 - 8) ++ [z] := by
      refine cn.trans ?_
      rw [List.drop_append_of_le_length (by simp <;> omega)]
      simp
    rw [cn']
    exact (any3_2 (k := 4) (iP.mono (Nat.le_refl _) (by omega)) (any_snoc (k := 3) ((it_drop (k := 2) _ iC).mono (Nat.le_refl _) (by omega)) hz) (iO.mono (Nat.le_refl _) (by omega))).mono (by omega) (by omega)
  · -- an output more
    simp only [Int.reduceLT, Int.reduceEq, decide_true, decide_false, tLstD, ng, sSeq, sNil, sIf, sRet, sRetN, tVarD, tCD, tOpD, tOp1D, tCallD, tCallB, aNil, aCons, bVal, bNot, bCmp, bOr, tTupD, sAsg, hide_nil, fTup, fsCons, fsNil, fName, Option.bind_some, List.set_cons_zero, List.set_cons_succ, List.map_cons, List.map_nil, List.length_cons, List.length_nil, List.getElem?_cons_zero, List.getElem?_cons_succ, Nat.zero_add, Nat.reduceAdd, Option.some.injEq, exists_eq_left', true_and, D.bl.injEq, Bool.not_true, Bool.not_false, Bool.false_eq_true, if_false, if_true, lenD_tup, List.length_map, subD_int]
    refine ⟨by omega, one_ok (by simp) (by simp) (by omega) fun d hd => ?_⟩
    refine ⟨by omega, _, add_tup (by simp; omega), by omega, hq _ _ ?_ (by omega) (by omega)⟩
    have : Any 200 3 d := by
      simp only [List.mem_cons, List.not_mem_nil, or_false] at hd
      rcases hd with rfl | rfl | rfl | rfl | rfl | rfl | rfl <;> exact any_lit (by decide +kernel) (by decide)
    refine (any_table (k := 4) (iP.mono (Nat.le_refl _) (by omega)) (iC.mono (Nat.le_refl _) (by omega)) (any_snoc (k := 3) (iO.mono (Nat.le_refl _) (by omega)) this)).mono (by omega) (by omega)
  · -- the parts several times
    simp only [Int.reduceLT, Int.reduceEq, decide_true, decide_false, sSeq, sNil, sIf, sRet, sRetN, tVarD, tCD, tOpD, tOp1D, tCallD, tCallB, aNil, aCons, bVal, bNot, bCmp, bOr, tTupD, sAsg, hide_nil, fTup, fsCons, fsNil, fName, Option.bind_some, List.set_cons_zero, List.set_cons_succ, List.map_cons, List.map_nil, List.length_cons, List.length_nil, List.getElem?_cons_zero, List.getElem?_cons_succ, Nat.zero_add, Nat.reduceAdd, Option.some.injEq, exists_eq_left', true_and, D.bl.injEq, Bool.not_true, Bool.not_false, Bool.false_eq_true, if_false, if_true, lenD_tup, List.length_map, subD_int]
    refine take_ok (by decide) (by decide) (by omega) fun j j0 j1 => ?_
    by_cases hj : j = 0
    · subst hj
      refine ⟨_, mul_tup0 _ (by simp; omega), by omega, hq _ _ ((it_tup3 (it_unit 2) iC iO).any.mono (by omega) (by omega)) (by omega) (by omega)⟩
    · obtain ⟨j, rfl⟩ : ∃ j' : Nat, j = (j' : Int) := ⟨j.toNat, by omega⟩
      refine ⟨_, mul_tup _ j (by omega) (by omega) (by simp; omega), by omega, hq _ _ ((it_tup3 (it_rep (k := 2) iP j) iC iO).any.mono ?_ (by omega)) (by omega) (by omega)⟩
      have : j ≤ 5 := by omega
      have := Nat.mul_le_mul_left 108 this
      omega
  · -- constraints and outputs several times
    simp only [Int.reduceLT, Int.reduceEq, decide_true, decide_false, tSlD, oNone, oSome, sSeq, sNil, sIf, sRet, sRetN, tVarD, tCD, tOpD, tOp1D, tCallD, tCallB, aNil, aCons, bVal, bNot, bCmp, bOr, tTupD, sAsg, hide_nil, fTup, fsCons, fsNil, fName, Option.bind_some, List.set_cons_zero, List.set_cons_succ, List.map_cons, List.map_nil, List.length_cons, List.length_nil, List.getElem?_cons_zero, List.getElem?_cons_succ, Nat.zero_add, Nat.reduceAdd, Option.some.injEq, exists_eq_left', true_and, D.bl.injEq, Bool.not_true, Bool.not_false, Bool.false_eq_true, if_false, if_true, lenD_tup, List.length_map, subD_int]
    have m9 : mulD (.tup (r.cs.map conD)) (.int 9) = some (.tup (List.replicate 9 (r.cs.map conD)).flatten) := mul_tup _ 9 (by decide) (by decide) (by simp; omega)
    have m9' : mulD (.tup (r.os.map D.int)) (.int 9) = some (.tup (List.replicate 9 (r.os.map D.int)).flatten) := mul_tup _ 9 (by decide) (by decide) (by simp; omega)
    simp only [m9, sSeq, sNil, sIf, sRet, sRetN, tVarD, tCD, tOpD, tOp1D, tCallD, tCallB, aNil, aCons, bVal, bNot, bCmp, bOr, tTupD, sAsg, hide_nil, fTup, fsCons, fsNil, fName, Option.bind_some, List.set_cons_zero, List.set_cons_succ, List.map_cons, List.map_nil, List.length_cons, List.length_nil, List.getElem?_cons_zero, List.getElem?_cons_succ, Nat.zero_add, Nat.reduceAdd, Option.some.injEq, exists_eq_left', true_and, D.bl.injEq, Bool.not_true, Bool.not_false, Bool.false_eq_true, if_false, if_true, lenD_tup, List.length_map, subD_int]
    refine take_ok (by decide) (by decide) (by omega) fun j j0 j1 => ?_
    simp only [addD_int, D.int.injEq, m9', sSeq, sNil, sIf, sRet, sRetN, tVarD, tCD, tOpD, tOp1D, tCallD, tCallB, aNil, aCons, bVal, bNot, bCmp, bOr, tTupD, sAsg, hide_nil, fTup, fsCons, fsNil, fName, Option.bind_some, List.set_cons_zero, List.set_cons_succ, List.map_cons, List.map_nil, List.length_cons, List.length_nil, List.getElem?_cons_zero, List.getElem?_cons_succ, Nat.zero_add, Nat.reduceAdd, Option.some.injEq, exists_eq_left', true_and, D.bl.injEq, Bool.not_true, Bool.not_false, Bool.false_eq_true, if_false, if_true, lenD_tup, List.length_map, subD_int]
    refine ⟨_, rfl, take_ok (by decide) (by decide) (by omega) fun j' j0' j1' => ?_⟩
    simp only [addD_int, D.int.injEq, sSeq, sNil, sIf, sRet, sRetN, tVarD, tCD, tOpD, tOp1D, tCallD, tCallB, aNil, aCons, bVal, bNot, bCmp, bOr, tTupD, sAsg, hide_nil, fTup, fsCons, fsNil, fName, Option.bind_some, List.set_cons_zero, List.set_cons_succ, List.map_cons, List.map_nil, List.length_cons, List.length_nil, List.getElem?_cons_zero, List.getElem?_cons_succ, Nat.zero_add, Nat.reduceAdd, Option.some.injEq, exists_eq_left', true_and, D.bl.injEq, Bool.not_true, Bool.not_false, Bool.false_eq_true, if_false, if_true, lenD_tup, List.length_map, subD_int]
    refine ⟨_, rfl, by omega, hq _ _ ?_ (by omega) (by omega)⟩
    exact (it_tup3 iP (cut_itn (k := 2) _ _ (it_rep (k := 2) iC 9)) (cut_itn (k := 2) _ _ (it_rep (k := 2) iO 9))).any.mono (by omega) (by omega)
  · -- a part with another variable
    simp only [Int.reduceLT, Int.reduceEq, decide_true, decide_false, tLstD, ng, pk, p0, p1, tSlD, oNone, oSome, D.int.injEq, sSeq, sNil, sIf, sRet, sRetN, tVarD, tCD, tOpD, tOp1D, tCallD, tCallB, aNil, aCons, bVal, bNot, bCmp, bOr, tTupD, sAsg, hide_nil, fTup, fsCons, fsNil, fName, Option.bind_some, List.set_cons_zero, List.set_cons_succ, List.map_cons, List.map_nil, List.length_cons, List.length_nil, List.getElem?_cons_zero, List.getElem?_cons_succ, Nat.zero_add, Nat.reduceAdd, Option.some.injEq, exists_eq_left', true_and, D.bl.injEq, Bool.not_true, Bool.not_false, Bool.false_eq_true, if_false, if_true, lenD_tup, List.length_map, subD_int]
    refine ⟨_, rfl, by omega, one_ok (by simp) (by simp) (by omega) fun d hd => ?_⟩
    have hz : Any 200 3 d := by
      simp only [List.mem_cons, List.not_mem_nil, or_false] at hd
      rcases hd with rfl | rfl | rfl | rfl | rfl <;> exact any_lit (by decide +kernel) (by decide)
    obtain ⟨k, rfl⟩ : ∃ k' : Nat, k = (k' : Int) := ⟨k.toNat, by omega⟩
    have cl : (DL.cutL (p.2.map D.int) none (some (-1))).length ≤ 4 := by
      have := cut_negHi (p.2.map D.int) 1 (by decide)
      have e : DL.cutL (p.2.map D.int) none (some (-1)) = (p.2.map D.int).take ((p.2.map D.int).length - 1) := this
      rw [e, List.length_take, List.length_map]
      omega
    have c1 : ((k : Nat) : Int) + 1 = ((k + 1 : Nat) : Int) := by omega
    refine ⟨by omega, _, add_tup (by simp only [List.length_cons, List.length_nil]; omega), by omega, _, cut_lo _ k, by omega, _, add_tup (by simp; omega), _, addD_int _ _, _, rfl, _, by rw [c1]; exact cut_hi _ (k + 1), _, add_tup (by simp; omega), by omega, hq _ _ ?_ (by omega) (by omega)⟩
    have iV : It 20 1 (.tup (p.2.map D.int)) := it_ints (L := 4) hv.2 fun i hi => by
      have := pok.2.2 i hi
      omega
    have hp1 := pok.1
    have it0 : It 4 4 (.int p.1) := it_tiny hp1.1 (by omega) 4
    have aV : Any (20 + 200 + 5) 4 (.tup (DL.cutL (p.2.map D.int) none (some (-1)) ++ [d])) := any_snoc (k := 3) ((cut_itn (k := 0) _ _ iV).mono (Nat.le_refl _) (by omega)) hz
    have aP := any_pair it0 aV
    rw [List.append_assoc]
    have := any_mid (k := 5) ((it_take (k := 2) k iP).mono (Nat.le_refl _) (by omega)) ((it_drop (k := 2) (k + 1) iP).mono (Nat.le_refl _) (by omega)) aP
    exact (any3_1 this (iC.mono (Nat.le_refl _) (by omega)) (iO.mono (Nat.le_refl _) (by omega))).mono (by omega) (by omega)
  · -- other forms
    have lD : listD [.tup [.tup (r.ps.map partD), .tup (r.cs.map conD), .tup (r.os.map D.int)]] = some (.lst [.tup (r.ps.map partD), .tup (r.cs.map conD), .tup (r.os.map D.int)]) := rfl
    have lP : listD [.tup (r.ps.map partD)] = some (.lst (r.ps.map partD)) := rfl
    have au : addD (.tup [.tup (r.ps.map partD), .tup (r.cs.map conD), .tup (r.os.map D.int)]) (.tup [.tup []]) = some (.tup [.tup (r.ps.map partD), .tup (r.cs.map conD), .tup (r.os.map D.int), .tup []]) := add_tup (by simp; omega)
    have c2 : DL.cutD (.tup [.tup (r.ps.map partD), .tup (r.cs.map conD), .tup (r.os.map D.int)]) none (some 2) = some (.tup [.tup (r.ps.map partD), .tup (r.cs.map conD)]) := cut_lo _ 2
    simp only [Int.reduceLT, Int.reduceEq, decide_true, decide_false, tLstD, tNoDict, lD, lP, au, tSlD, oNone, oSome, D.int.injEq, c2, Nat.zero_le, sSeq, sNil, sIf, sRet, sRetN, tVarD, tCD, tOpD, tOp1D, tCallD, tCallB, aNil, aCons, bVal, bNot, bCmp, bOr, tTupD, sAsg, hide_nil, fTup, fsCons, fsNil, fName, Option.bind_some, List.set_cons_zero, List.set_cons_succ, List.map_cons, List.map_nil, List.length_cons, List.length_nil, List.getElem?_cons_zero, List.getElem?_cons_succ, Nat.zero_add, Nat.reduceAdd, Option.some.injEq, exists_eq_left', true_and, D.bl.injEq, Bool.not_true, Bool.not_false, Bool.false_eq_true, if_false, if_true, lenD_tup, List.length_map, subD_int]
    refine ⟨by omega, by omega, by omega, by omega, one_ok (by simp) (by simp) (by omega) fun z hz => hq _ _ ?_ (by omega) (by omega)⟩
    simp only [List.mem_cons, List.not_mem_nil, or_false] at hz
    rcases hz with rfl | rfl | rfl | rfl | rfl | rfl | rfl
    · exact (any_lst (k := 3) iQ).mono (by omega) (by omega)
    · exact (it_append (k := 3) iQ (it_one (k := 3) (it_unit 2))).any.mono (by omega) (by omega)
    · exact (it_tup2 iP iC).any.mono (by omega) (by omega)
    · exact (any3_1 (any_lst (k := 2) iP) iC iO).mono (by omega) (by omega)
    · exact ⟨(vd_non 20).mono (by omega) (by omega), .inl rfl⟩
    · exact ⟨(vd_dct 0).mono (by omega) (by omega), .inr rfl⟩
    · exact (it_tup3 (it_unit 2) (it_unit 2) (it_unit 2)).any.mono (by omega) (by omega)
end K10
set_option maxHeartbeats 8000000
namespace K10
open PySem PySem.Spec PyProof.Rows L2 DL
theorem ne_text (x : Str) : neD (.str x) (.str x) = some (.bl false) := by
  unfold neD
  split
  · simp [toPy, PyData.eqv]
  · simp [strB]
def lawOne : TDS := (sSeq (sAsg [] (fName 6) (tCallB reprF (aCons (tTupD (aCons (tVarD 3) (aCons (tVarD 5) aNil))) aNil))) (sIf (bOr (bNot (bVal (tCallD (T__law_same 12) (aCons (tCallD T_is_query (aCons (tVarD 3) (aCons (tVarD 5) aNil))) (aCons (tCallD T__law_is_query (aCons (tVarD 3) (aCons (tVarD 5) aNil))) aNil))))) (bCmp neD (tCallB reprF (aCons (tTupD (aCons (tVarD 3) (aCons (tVarD 5) aNil))) aNil)) (tVarD 6))) (sRet (tCD (.bl false))) sNil))
theorem m_lawOne {ts : List Tab} (h1 : 1 ≤ ts.length ∧ ts.length ≤ 4) (hF : ∀ t ∈ ts, Fine t) {d : D} (h : Any 5000 20 d) {De : DE} {x0 x1 x2 x4 x6 x7 : Option D} {n : Nat} (hn : ∀ x6, De.nx [x0, x1, x2, some (.tup (ts.map tabD)), x4, some d, x6, x7] n) : lawOne De [x0, x1, x2, some (.tup (ts.map tabD)), x4, some d, x6, x7] n := by
  have LL : LIM = 1000000 := rfl
  have ss : ∀ (a b : Bool) (n : Nat) (q : QD), T__law_same 12 [.bl a, .bl b] n q ↔ q (.bl (a == b)) n := fun a b n q => m_law_same 11 a b n q
  have it := it_sch (d := .tup (ts.map tabD)) ⟨ts, rfl, h1.1, h1.2, hF⟩
  have pr := any_pair (k := 20) (it.mono (Nat.le_refl _) (by omega)) h
  have rd := repD_ok pr.1 (by decide) (by decide) pr.2
  have rF : reprF [.tup [.tup (ts.map tabD), d]] = some (.str (toPy (.tup [.tup (ts.map tabD), d])).shown) := by
    simp [reprF, rd]
  have hts : ∀ t ∈ ts, t.Ok := fun t ht => (hF t ht).ok
  simp only [lawOne, rF, m_is_query hts h.2, m_law_is_query hts h.2, ss, ne_text, sSeq, sNil, sIf, sRet, sRetN, tVarD, tCD, tOpD, tOp1D, tCallD, tCallB, aNil, aCons, bVal, bNot, bCmp, bOr, tTupD, sAsg, hide_nil, fTup, fsCons, fsNil, fName, Option.bind_some, List.set_cons_zero, List.set_cons_succ, List.map_cons, List.map_nil, List.length_cons, List.length_nil, List.getElem?_cons_zero, List.getElem?_cons_succ, Nat.zero_add, Nat.reduceAdd, Option.some.injEq, exists_eq_left', true_and, D.bl.injEq, Bool.not_true, Bool.not_false, Bool.false_eq_true, if_false, if_true, lenD_tup, List.length_map, subD_int]
  have e : ∀ b : Bool, (b == b) = true := fun b => by cases b <;> rfl
  simp only [e, Bool.not_true, Bool.false_eq_true, if_false]
  exact ⟨by omega, by omega, hn _⟩
def lawBody : TDS := (sSeq (sAsg [] (fName 3) (tCallD T__law_draw_scheme (aCons (tVarD 1) (aCons (tCD (.int 3)) (aCons (tCD (.int 4)) aNil))))) (sSeq (sAsg [] (fName 4) (tCallD T__law_draw_query (aCons (tVarD 1) (aCons (tVarD 3) (aCons (tCD (.int 4)) (aCons (tCD (.int 8)) aNil)))))) (sFor [] (wAny (tOpD addD (tLstD (aCons (tVarD 4) aNil)) (tComp (wRng1 (aCons (tCD (.int 18)) aNil)) (fName 7) bYes (tCallD T__law_near (aCons (tVarD 1) (aCons (tVarD 4) aNil))) [7]))) (fName 5) lawOne)))
theorem law2_eq : T_law2 = sSeq (sFor [] (wRng1 (aCons (tCD (.int 5)) aNil)) (fName 2) lawBody) (sRet (tCD (.bl true))) := rfl
theorem m_lawBody {De : DE} {x0 x2 x3 x4 x5 x6 x7 : Option D} {n : Nat} (hn : n + 1000 ≤ NN) (h : ∀ (y3 y4 y5 y6 y7 : Option D) n', n ≤ n' → n' ≤ n + 1000 → De.nx [x0, some .pen, x2, y3, y4, y5, y6, y7] n') : lawBody De [x0, some .pen, x2, x3, x4, x5, x6, x7] n := by
  have LL : LIM = 1000000 := rfl
  simp only [lawBody, sSeq, sNil, sIf, sRet, sRetN, tVarD, tCD, tOpD, tOp1D, tCallD, tCallB, aNil, aCons, bVal, bNot, bCmp, bOr, tTupD, sAsg, hide_nil, fTup, fsCons, fsNil, fName, Option.bind_some, List.set_cons_zero, List.set_cons_succ, List.map_cons, List.map_nil, List.length_cons, List.length_nil, List.getElem?_cons_zero, List.getElem?_cons_succ, Nat.zero_add, Nat.reduceAdd, Option.some.injEq, exists_eq_left', true_and, D.bl.injEq, Bool.not_true, Bool.not_false, Bool.false_eq_true, if_false, if_true, lenD_tup, List.length_map, subD_int]
  refine m_draw_schemeG (by decide) (by decide) (by omega) fun d' n3 hd' a1 a2 => ?_
  obtain ⟨ts, rfl, t1, t2, t3⟩ := hd'
  refine m_draw_query (fun t ht => (t3 t ht).ok) t1 t2 (by decide) (by decide) (by omega) fun r n4 hr b1 b2 => ?_
  have lr : (rangeD 0 (18 : Int).toNat).length = 18 := rfl
  simp only [sFor, wAny, tLstD, tComp, wRng1, sSeq, sNil, sIf, sRet, sRetN, tVarD, tCD, tOpD, tOp1D, tCallD, tCallB, aNil, aCons, bVal, bNot, bCmp, bOr, tTupD, sAsg, hide_nil, fTup, fsCons, fsNil, fName, Option.bind_some, List.set_cons_zero, List.set_cons_succ, List.map_cons, List.map_nil, List.length_cons, List.length_nil, List.getElem?_cons_zero, List.getElem?_cons_succ, Nat.zero_add, Nat.reduceAdd, Option.some.injEq, exists_eq_left', true_and, D.bl.injEq, Bool.not_true, Bool.not_false, Bool.false_eq_true, if_false, if_true, lenD_tup, List.length_map, subD_int]
  refine ⟨by omega, 18, rfl, by decide, by decide, ?_⟩
  refine compD_inv (Any 5000 20) 30 _ _ _ _ (fun d hd => ⟨_, rfl, fun n k hn' hk => ?_⟩) (by rw [lr]; omega) (by rw [lr]; simp; omega) fun ys n' l1 l2 l3 l4 => ?_
  · simp only [wipeE, sSeq, sNil, sIf, sRet, sRetN, tVarD, tCD, tOpD, tOp1D, tCallD, tCallB, aNil, aCons, bVal, bNot, bCmp, bOr, tTupD, sAsg, hide_nil, fTup, fsCons, fsNil, fName, Option.bind_some, List.set_cons_zero, List.set_cons_succ, List.map_cons, List.map_nil, List.length_cons, List.length_nil, List.getElem?_cons_zero, List.getElem?_cons_succ, Nat.zero_add, Nat.reduceAdd, Option.some.injEq, exists_eq_left', true_and, D.bl.injEq, Bool.not_true, Bool.not_false, Bool.false_eq_true, if_false, if_true, lenD_tup, List.length_map, subD_int]
    exact m_near t2 hr hn' fun z n' hz h1 h2 => hk z n' hz h1 h2
  · rw [lr] at l1 l4
    rw [List.nil_append]
    refine ⟨_, add_lst (by simp; omega), _, .inl rfl, ?_⟩
    refine forD_inv (all := [qryD r] ++ ys) (fun i ρ n2 => ∃ y5 y6 y7, ρ = [x0, some .pen, x2, some (.tup (ts.map tabD)), some (qryD r), y5, y6, y7] ∧ n2 = n') ?_ ?_ _ 0 _ _ rfl (Nat.zero_le _) ⟨_, _, _, rfl, rfl⟩
    · rintro i d hd ρ n2 ⟨y5, y6, y7, rfl, rfl⟩
      have hva : Any 5000 20 d := by
        rcases List.mem_append.mp (List.mem_of_getElem? hd) with hm | hm
        · rw [List.mem_singleton.mp hm]
          exact (it_qry t2 hr).any.mono (by omega) (by omega)
        · exact l2 d hm
      exact ⟨_, rfl, fun De' _ _ hnx _ => m_lawOne ⟨t1, t2⟩ t3 hva fun x6 => hnx _ _ ⟨_, _, _, rfl, rfl⟩⟩
    · rintro ρ n2 ⟨y5, y6, y7, rfl, rfl⟩
      exact h _ _ _ _ _ _ (by omega) (by omega)
theorem m_law2 : T_law2 endLaw (penE 1 8) 0 := by
  have hp : penE 1 8 = [none, some .pen, none, none, none, none, none, none] := rfl
  have lr : (rangeD 0 (5 : Int).toNat).length = 5 := rfl
  have hN : NN = 1000000000 := rfl
  rw [law2_eq, hp]
  simp only [sFor, wRng1, sSeq, sNil, sIf, sRet, sRetN, tVarD, tCD, tOpD, tOp1D, tCallD, tCallB, aNil, aCons, bVal, bNot, bCmp, bOr, tTupD, sAsg, hide_nil, fTup, fsCons, fsNil, fName, Option.bind_some, List.set_cons_zero, List.set_cons_succ, List.map_cons, List.map_nil, List.length_cons, List.length_nil, List.getElem?_cons_zero, List.getElem?_cons_succ, Nat.zero_add, Nat.reduceAdd, Option.some.injEq, exists_eq_left', true_and, D.bl.injEq, Bool.not_true, Bool.not_false, Bool.false_eq_true, if_false, if_true, lenD_tup, List.length_map, subD_int]
  refine ⟨5, rfl, by decide, by decide, ?_⟩
  refine forD_inv (all := rangeD 0 (5 : Int).toNat) (fun i ρ n2 => ∃ x2 x3 x4 x5 x6 x7, ρ = [none, some .pen, x2, x3, x4, x5, x6, x7] ∧ n2 ≤ 1000 * i) ?_ ?_ _ 0 _ _ rfl (Nat.zero_le _) ⟨_, _, _, _, _, _, rfl, by omega⟩
  · rintro i d hd ρ n2 ⟨x2, x3, x4, x5, x6, x7, rfl, hn⟩
    have hi := (List.getElem?_eq_some_iff.mp hd).1
    rw [lr] at hi
    refine ⟨_, rfl, fun De _ _ hnx _ => ?_⟩
    refine m_lawBody (by omega) fun y3 y4 y5 y6 y7 n' h1 h2 => hnx _ _ ⟨_, _, _, _, _, _, rfl, by rw [Nat.mul_add]; omega⟩
  · rintro ρ n2 ⟨x2, x3, x4, x5, x6, x7, rfl, hn⟩
    rfl
theorem m_law1 {ns : List Int} (hns : ns.length ≤ 63) : T_law1 (endFirst 1 8) (startE 8 [.scr ns]) 0 := by
  simp only [T_law1, startE, List.replicate, List.cons_append, List.nil_append, Nat.reduceSub, sSeq, sNil, sIf, sRet, sRetN, tVarD, tCD, tOpD, tOp1D, tCallD, tCallB, aNil, aCons, bVal, bNot, bCmp, bOr, tTupD, sAsg, hide_nil, fTup, fsCons, fsNil, fName, Option.bind_some, List.set_cons_zero, List.set_cons_succ, List.map_cons, List.map_nil, List.length_cons, List.length_nil, List.getElem?_cons_zero, List.getElem?_cons_succ, Nat.zero_add, Nat.reduceAdd, Option.some.injEq, exists_eq_left', true_and, D.bl.injEq, Bool.not_true, Bool.not_false, Bool.false_eq_true, if_false, if_true, lenD_tup, List.length_map, subD_int]
  refine m_open hns fun cs hc => ?_
  exact ⟨rfl, rfl, cs, hc, rfl⟩
end K10
namespace K10
open PySem PySem.Spec PyProof.Rows L2 DL
set_option maxHeartbeats 8000000
def spLaw (K : PySem.W.Frag) : Sp := fun vs H Q _ => ∃ (a : Addr) (ns : List Int), vs = [.ref a] ∧ SqL K H a (ns.map V.int) ∧ ns.length ≤ 63 ∧ ∀ H', Q (.bl true) H'
theorem all_mk {l : PySem.W.OpenLaw} {w : World} {K : PySem.W.Frag} {h : Heap} {mg : Str → Option Value} {fa : Addr} (X : K.In h) (G : h.Ns mainGlobals mg) (hfa : mg "law" = some (.ref fa))
    {f_is_integer : Addr} {oc_is_integer kV_is_integer dc_is_integer pm_is_integer cd_is_integer ct_is_integer : Value} {od_is_integer an_is_integer : Option Addr} {sl_is_integer : Array (Option Value)}
    {f_lies_between : Addr} {oc_lies_between kV_lies_between dc_lies_between pm_lies_between cd_lies_between ct_lies_between : Value} {od_lies_between an_lies_between : Option Addr} {sl_lies_between : Array (Option Value)}
    {f_is_tuple_of : Addr} {oc_is_tuple_of kV_is_tuple_of dc_is_tuple_of pm_is_tuple_of cd_is_tuple_of ct_is_tuple_of : Value} {od_is_tuple_of an_is_tuple_of : Option Addr} {sl_is_tuple_of : Array (Option Value)}
    {f__is_side : Addr} {oc__is_side kV__is_side dc__is_side pm__is_side cd__is_side ct__is_side : Value} {od__is_side an__is_side : Option Addr} {sl__is_side : Array (Option Value)}
    {f_is_constraint : Addr} {oc_is_constraint kV_is_constraint dc_is_constraint pm_is_constraint cd_is_constraint ct_is_constraint : Value} {od_is_constraint an_is_constraint : Option Addr} {sl_is_constraint : Array (Option Value)}
    {f__is_variable : Addr} {oc__is_variable kV__is_variable dc__is_variable pm__is_variable cd__is_variable ct__is_variable : Value} {od__is_variable an__is_variable : Option Addr} {sl__is_variable : Array (Option Value)}
    {f__is_part : Addr} {oc__is_part kV__is_part dc__is_part pm__is_part cd__is_part ct__is_part : Value} {od__is_part an__is_part : Option Addr} {sl__is_part : Array (Option Value)}
    {f_is_query : Addr} {oc_is_query kV_is_query dc_is_query pm_is_query cd_is_query ct_is_query : Value} {od_is_query an_is_query : Option Addr} {sl_is_query : Array (Option Value)}
    {f__law_open : Addr} {oc__law_open kV__law_open dc__law_open pm__law_open cd__law_open ct__law_open : Value} {od__law_open an__law_open : Option Addr} {sl__law_open : Array (Option Value)}
    {f__law_spread : Addr} {oc__law_spread kV__law_spread dc__law_spread pm__law_spread cd__law_spread ct__law_spread : Value} {od__law_spread an__law_spread : Option Addr} {sl__law_spread : Array (Option Value)}
    {f__law_take : Addr} {oc__law_take kV__law_take dc__law_take pm__law_take cd__law_take ct__law_take : Value} {od__law_take an__law_take : Option Addr} {sl__law_take : Array (Option Value)}
    {f__law_same : Addr} {oc__law_same kV__law_same dc__law_same pm__law_same cd__law_same ct__law_same : Value} {od__law_same an__law_same : Option Addr} {sl__law_same : Array (Option Value)}
    {f__law_one_of : Addr} {oc__law_one_of kV__law_one_of dc__law_one_of pm__law_one_of cd__law_one_of ct__law_one_of : Value} {od__law_one_of an__law_one_of : Option Addr} {sl__law_one_of : Array (Option Value)}
    {f__law_between : Addr} {oc__law_between kV__law_between dc__law_between pm__law_between cd__law_between ct__law_between : Value} {od__law_between an__law_between : Option Addr} {sl__law_between : Array (Option Value)}
    {f__law_draw_bounds : Addr} {oc__law_draw_bounds kV__law_draw_bounds dc__law_draw_bounds pm__law_draw_bounds cd__law_draw_bounds ct__law_draw_bounds : Value} {od__law_draw_bounds an__law_draw_bounds : Option Addr} {sl__law_draw_bounds : Array (Option Value)}
    {f__law_draw_key : Addr} {oc__law_draw_key kV__law_draw_key dc__law_draw_key pm__law_draw_key cd__law_draw_key ct__law_draw_key : Value} {od__law_draw_key an__law_draw_key : Option Addr} {sl__law_draw_key : Array (Option Value)}
    {f__law_draw_reference : Addr} {oc__law_draw_reference kV__law_draw_reference dc__law_draw_reference pm__law_draw_reference cd__law_draw_reference ct__law_draw_reference : Value} {od__law_draw_reference an__law_draw_reference : Option Addr} {sl__law_draw_reference : Array (Option Value)}
    {f__law_draw_table : Addr} {oc__law_draw_table kV__law_draw_table dc__law_draw_table pm__law_draw_table cd__law_draw_table ct__law_draw_table : Value} {od__law_draw_table an__law_draw_table : Option Addr} {sl__law_draw_table : Array (Option Value)}
    {f__law_draw_scheme : Addr} {oc__law_draw_scheme kV__law_draw_scheme dc__law_draw_scheme pm__law_draw_scheme cd__law_draw_scheme ct__law_draw_scheme : Value} {od__law_draw_scheme an__law_draw_scheme : Option Addr} {sl__law_draw_scheme : Array (Option Value)}
    {f__law_draw_row : Addr} {oc__law_draw_row kV__law_draw_row dc__law_draw_row pm__law_draw_row cd__law_draw_row ct__law_draw_row : Value} {od__law_draw_row an__law_draw_row : Option Addr} {sl__law_draw_row : Array (Option Value)}
    {f__law_draw_constraint : Addr} {oc__law_draw_constraint kV__law_draw_constraint dc__law_draw_constraint pm__law_draw_constraint cd__law_draw_constraint ct__law_draw_constraint : Value} {od__law_draw_constraint an__law_draw_constraint : Option Addr} {sl__law_draw_constraint : Array (Option Value)}
    {f__law_draw_query : Addr} {oc__law_draw_query kV__law_draw_query dc__law_draw_query pm__law_draw_query cd__law_draw_query ct__law_draw_query : Value} {od__law_draw_query an__law_draw_query : Option Addr} {sl__law_draw_query : Array (Option Value)}
    {f__law_odd : Addr} {oc__law_odd kV__law_odd dc__law_odd pm__law_odd cd__law_odd ct__law_odd : Value} {od__law_odd an__law_odd : Option Addr} {sl__law_odd : Array (Option Value)}
    {f__law_bent : Addr} {oc__law_bent kV__law_bent dc__law_bent pm__law_bent cd__law_bent ct__law_bent : Value} {od__law_bent an__law_bent : Option Addr} {sl__law_bent : Array (Option Value)}
    {f__law_off : Addr} {oc__law_off kV__law_off dc__law_off pm__law_off cd__law_off ct__law_off : Value} {od__law_off an__law_off : Option Addr} {sl__law_off : Array (Option Value)}
    {f__law_is_constraint : Addr} {oc__law_is_constraint kV__law_is_constraint dc__law_is_constraint pm__law_is_constraint cd__law_is_constraint ct__law_is_constraint : Value} {od__law_is_constraint an__law_is_constraint : Option Addr} {sl__law_is_constraint : Array (Option Value)}
    {f__law_is_query : Addr} {oc__law_is_query kV__law_is_query dc__law_is_query pm__law_is_query cd__law_is_query ct__law_is_query : Value} {od__law_is_query an__law_is_query : Option Addr} {sl__law_is_query : Array (Option Value)}
    {f__law_near : Addr} {oc__law_near kV__law_near dc__law_near pm__law_near cd__law_near ct__law_near : Value} {od__law_near an__law_near : Option Addr} {sl__law_near : Array (Option Value)}
    {f_law : Addr} {oc_law kV_law dc_law pm_law cd_law ct_law : Value} {od_law an_law : Option Addr} {sl_law : Array (Option Value)}
    {tk_GREATEST_DIFFERENCE : Tok}
    {tk_GREATEST_VARIABLE : Tok}
    {tk_MOST_PARTS : Tok}
    (a_is_integer : PySem.W.nsIn K mainGlobals "is_integer" = some (some (.ref f_is_integer)))
    (l_is_integer : K.lookup f_is_integer = some ⟨oc_is_integer, od_is_integer, .func (PySem.W.fnOf "is_integer" "is_integer" (defArgs s_is_integer) (defBody s_is_integer) (defScope s_is_integer) .none kV_is_integer dc_is_integer pm_is_integer an_is_integer cd_is_integer ct_is_integer), sl_is_integer⟩)
    (c_is_integer : PySem.W.codeIn K cd_is_integer "is_integer" = true)
    (k_is_integer : PySem.W.keepIn K (.ref f_is_integer) = true)
    (a_lies_between : PySem.W.nsIn K mainGlobals "lies_between" = some (some (.ref f_lies_between)))
    (l_lies_between : K.lookup f_lies_between = some ⟨oc_lies_between, od_lies_between, .func (PySem.W.fnOf "lies_between" "lies_between" (defArgs s_lies_between) (defBody s_lies_between) (defScope s_lies_between) .none kV_lies_between dc_lies_between pm_lies_between an_lies_between cd_lies_between ct_lies_between), sl_lies_between⟩)
    (c_lies_between : PySem.W.codeIn K cd_lies_between "lies_between" = true)
    (k_lies_between : PySem.W.keepIn K (.ref f_lies_between) = true)
    (a_is_tuple_of : PySem.W.nsIn K mainGlobals "is_tuple_of" = some (some (.ref f_is_tuple_of)))
    (l_is_tuple_of : K.lookup f_is_tuple_of = some ⟨oc_is_tuple_of, od_is_tuple_of, .func (PySem.W.fnOf "is_tuple_of" "is_tuple_of" (defArgs s_is_tuple_of) (defBody s_is_tuple_of) (defScope s_is_tuple_of) .none kV_is_tuple_of dc_is_tuple_of pm_is_tuple_of an_is_tuple_of cd_is_tuple_of ct_is_tuple_of), sl_is_tuple_of⟩)
    (c_is_tuple_of : PySem.W.codeIn K cd_is_tuple_of "is_tuple_of" = true)
    (k_is_tuple_of : PySem.W.keepIn K (.ref f_is_tuple_of) = true)
    (a__is_side : PySem.W.nsIn K mainGlobals "_is_side" = some (some (.ref f__is_side)))
    (l__is_side : K.lookup f__is_side = some ⟨oc__is_side, od__is_side, .func (PySem.W.fnOf "_is_side" "_is_side" (defArgs s__is_side) (defBody s__is_side) (defScope s__is_side) .none kV__is_side dc__is_side pm__is_side an__is_side cd__is_side ct__is_side), sl__is_side⟩)
    (c__is_side : PySem.W.codeIn K cd__is_side "_is_side" = true)
    (k__is_side : PySem.W.keepIn K (.ref f__is_side) = true)
    (a_is_constraint : PySem.W.nsIn K mainGlobals "is_constraint" = some (some (.ref f_is_constraint)))
    (l_is_constraint : K.lookup f_is_constraint = some ⟨oc_is_constraint, od_is_constraint, .func (PySem.W.fnOf "is_constraint" "is_constraint" (defArgs s_is_constraint) (defBody s_is_constraint) (defScope s_is_constraint) .none kV_is_constraint dc_is_constraint pm_is_constraint an_is_constraint cd_is_constraint ct_is_constraint), sl_is_constraint⟩)
    (c_is_constraint : PySem.W.codeIn K cd_is_constraint "is_constraint" = true)
    (k_is_constraint : PySem.W.keepIn K (.ref f_is_constraint) = true)
    (a__is_variable : PySem.W.nsIn K mainGlobals "_is_variable" = some (some (.ref f__is_variable)))
    (l__is_variable : K.lookup f__is_variable = some ⟨oc__is_variable, od__is_variable, .func (PySem.W.fnOf "_is_variable" "_is_variable" (defArgs s__is_variable) (defBody s__is_variable) (defScope s__is_variable) .none kV__is_variable dc__is_variable pm__is_variable an__is_variable cd__is_variable ct__is_variable), sl__is_variable⟩)
    (c__is_variable : PySem.W.codeIn K cd__is_variable "_is_variable" = true)
    (k__is_variable : PySem.W.keepIn K (.ref f__is_variable) = true)
    (a__is_part : PySem.W.nsIn K mainGlobals "_is_part" = some (some (.ref f__is_part)))
    (l__is_part : K.lookup f__is_part = some ⟨oc__is_part, od__is_part, .func (PySem.W.fnOf "_is_part" "_is_part" (defArgs s__is_part) (defBody s__is_part) (defScope s__is_part) .none kV__is_part dc__is_part pm__is_part an__is_part cd__is_part ct__is_part), sl__is_part⟩)
    (c__is_part : PySem.W.codeIn K cd__is_part "_is_part" = true)
    (k__is_part : PySem.W.keepIn K (.ref f__is_part) = true)
    (a_is_query : PySem.W.nsIn K mainGlobals "is_query" = some (some (.ref f_is_query)))
    (l_is_query : K.lookup f_is_query = some ⟨oc_is_query, od_is_query, .func (PySem.W.fnOf "is_query" "is_query" (defArgs s_is_query) (defBody s_is_query) (defScope s_is_query) .none kV_is_query dc_is_query pm_is_query an_is_query cd_is_query ct_is_query), sl_is_query⟩)
    (c_is_query : PySem.W.codeIn K cd_is_query "is_query" = true)
    (k_is_query : PySem.W.keepIn K (.ref f_is_query) = true)
    (a__law_open : PySem.W.nsIn K mainGlobals "_law_open" = some (some (.ref f__law_open)))
    (l__law_open : K.lookup f__law_open = some ⟨oc__law_open, od__law_open, .func (PySem.W.fnOf "_law_open" "_law_open" (defArgs s__law_open) (defBody s__law_open) (defScope s__law_open) .none kV__law_open dc__law_open pm__law_open an__law_open cd__law_open ct__law_open), sl__law_open⟩)
    (c__law_open : PySem.W.codeIn K cd__law_open "_law_open" = true)
    (k__law_open : PySem.W.keepIn K (.ref f__law_open) = true)
    (a__law_spread : PySem.W.nsIn K mainGlobals "_law_spread" = some (some (.ref f__law_spread)))
    (l__law_spread : K.lookup f__law_spread = some ⟨oc__law_spread, od__law_spread, .func (PySem.W.fnOf "_law_spread" "_law_spread" (defArgs s__law_spread) (defBody s__law_spread) (defScope s__law_spread) .none kV__law_spread dc__law_spread pm__law_spread an__law_spread cd__law_spread ct__law_spread), sl__law_spread⟩)
    (c__law_spread : PySem.W.codeIn K cd__law_spread "_law_spread" = true)
    (k__law_spread : PySem.W.keepIn K (.ref f__law_spread) = true)
    (a__law_take : PySem.W.nsIn K mainGlobals "_law_take" = some (some (.ref f__law_take)))
    (l__law_take : K.lookup f__law_take = some ⟨oc__law_take, od__law_take, .func (PySem.W.fnOf "_law_take" "_law_take" (defArgs s__law_take) (defBody s__law_take) (defScope s__law_take) .none kV__law_take dc__law_take pm__law_take an__law_take cd__law_take ct__law_take), sl__law_take⟩)
    (c__law_take : PySem.W.codeIn K cd__law_take "_law_take" = true)
    (k__law_take : PySem.W.keepIn K (.ref f__law_take) = true)
    (a__law_same : PySem.W.nsIn K mainGlobals "_law_same" = some (some (.ref f__law_same)))
    (l__law_same : K.lookup f__law_same = some ⟨oc__law_same, od__law_same, .func (PySem.W.fnOf "_law_same" "_law_same" (defArgs s__law_same) (defBody s__law_same) (defScope s__law_same) .none kV__law_same dc__law_same pm__law_same an__law_same cd__law_same ct__law_same), sl__law_same⟩)
    (c__law_same : PySem.W.codeIn K cd__law_same "_law_same" = true)
    (k__law_same : PySem.W.keepIn K (.ref f__law_same) = true)
    (a__law_one_of : PySem.W.nsIn K mainGlobals "_law_one_of" = some (some (.ref f__law_one_of)))
    (l__law_one_of : K.lookup f__law_one_of = some ⟨oc__law_one_of, od__law_one_of, .func (PySem.W.fnOf "_law_one_of" "_law_one_of" (defArgs s__law_one_of) (defBody s__law_one_of) (defScope s__law_one_of) .none kV__law_one_of dc__law_one_of pm__law_one_of an__law_one_of cd__law_one_of ct__law_one_of), sl__law_one_of⟩)
    (c__law_one_of : PySem.W.codeIn K cd__law_one_of "_law_one_of" = true)
    (k__law_one_of : PySem.W.keepIn K (.ref f__law_one_of) = true)
    (a__law_between : PySem.W.nsIn K mainGlobals "_law_between" = some (some (.ref f__law_between)))
    (l__law_between : K.lookup f__law_between = some ⟨oc__law_between, od__law_between, .func (PySem.W.fnOf "_law_between" "_law_between" (defArgs s__law_between) (defBody s__law_between) (defScope s__law_between) .none kV__law_between dc__law_between pm__law_between an__law_between cd__law_between ct__law_between), sl__law_between⟩)
    (c__law_between : PySem.W.codeIn K cd__law_between "_law_between" = true)
    (k__law_between : PySem.W.keepIn K (.ref f__law_between) = true)
    (a__law_draw_bounds : PySem.W.nsIn K mainGlobals "_law_draw_bounds" = some (some (.ref f__law_draw_bounds)))
    (l__law_draw_bounds : K.lookup f__law_draw_bounds = some ⟨oc__law_draw_bounds, od__law_draw_bounds, .func (PySem.W.fnOf "_law_draw_bounds" "_law_draw_bounds" (defArgs s__law_draw_bounds) (defBody s__law_draw_bounds) (defScope s__law_draw_bounds) .none kV__law_draw_bounds dc__law_draw_bounds pm__law_draw_bounds an__law_draw_bounds cd__law_draw_bounds ct__law_draw_bounds), sl__law_draw_bounds⟩)
    (c__law_draw_bounds : PySem.W.codeIn K cd__law_draw_bounds "_law_draw_bounds" = true)
    (k__law_draw_bounds : PySem.W.keepIn K (.ref f__law_draw_bounds) = true)
    (a__law_draw_key : PySem.W.nsIn K mainGlobals "_law_draw_key" = some (some (.ref f__law_draw_key)))
    (l__law_draw_key : K.lookup f__law_draw_key = some ⟨oc__law_draw_key, od__law_draw_key, .func (PySem.W.fnOf "_law_draw_key" "_law_draw_key" (defArgs s__law_draw_key) (defBody s__law_draw_key) (defScope s__law_draw_key) .none kV__law_draw_key dc__law_draw_key pm__law_draw_key an__law_draw_key cd__law_draw_key ct__law_draw_key), sl__law_draw_key⟩)
    (c__law_draw_key : PySem.W.codeIn K cd__law_draw_key "_law_draw_key" = true)
    (k__law_draw_key : PySem.W.keepIn K (.ref f__law_draw_key) = true)
    (a__law_draw_reference : PySem.W.nsIn K mainGlobals "_law_draw_reference" = some (some (.ref f__law_draw_reference)))
    (l__law_draw_reference : K.lookup f__law_draw_reference = some ⟨oc__law_draw_reference, od__law_draw_reference, .func (PySem.W.fnOf "_law_draw_reference" "_law_draw_reference" (defArgs s__law_draw_reference) (defBody s__law_draw_reference) (defScope s__law_draw_reference) .none kV__law_draw_reference dc__law_draw_reference pm__law_draw_reference an__law_draw_reference cd__law_draw_reference ct__law_draw_reference), sl__law_draw_reference⟩)
    (c__law_draw_reference : PySem.W.codeIn K cd__law_draw_reference "_law_draw_reference" = true)
    (k__law_draw_reference : PySem.W.keepIn K (.ref f__law_draw_reference) = true)
    (a__law_draw_table : PySem.W.nsIn K mainGlobals "_law_draw_table" = some (some (.ref f__law_draw_table)))
    (l__law_draw_table : K.lookup f__law_draw_table = some ⟨oc__law_draw_table, od__law_draw_table, .func (PySem.W.fnOf "_law_draw_table" "_law_draw_table" (defArgs s__law_draw_table) (defBody s__law_draw_table) (defScope s__law_draw_table) .none kV__law_draw_table dc__law_draw_table pm__law_draw_table an__law_draw_table cd__law_draw_table ct__law_draw_table), sl__law_draw_table⟩)
    (c__law_draw_table : PySem.W.codeIn K cd__law_draw_table "_law_draw_table" = true)
    (k__law_draw_table : PySem.W.keepIn K (.ref f__law_draw_table) = true)
    (a__law_draw_scheme : PySem.W.nsIn K mainGlobals "_law_draw_scheme" = some (some (.ref f__law_draw_scheme)))
    (l__law_draw_scheme : K.lookup f__law_draw_scheme = some ⟨oc__law_draw_scheme, od__law_draw_scheme, .func (PySem.W.fnOf "_law_draw_scheme" "_law_draw_scheme" (defArgs s__law_draw_scheme) (defBody s__law_draw_scheme) (defScope s__law_draw_scheme) .none kV__law_draw_scheme dc__law_draw_scheme pm__law_draw_scheme an__law_draw_scheme cd__law_draw_scheme ct__law_draw_scheme), sl__law_draw_scheme⟩)
    (c__law_draw_scheme : PySem.W.codeIn K cd__law_draw_scheme "_law_draw_scheme" = true)
    (k__law_draw_scheme : PySem.W.keepIn K (.ref f__law_draw_scheme) = true)
    (a__law_draw_row : PySem.W.nsIn K mainGlobals "_law_draw_row" = some (some (.ref f__law_draw_row)))
    (l__law_draw_row : K.lookup f__law_draw_row = some ⟨oc__law_draw_row, od__law_draw_row, .func (PySem.W.fnOf "_law_draw_row" "_law_draw_row" (defArgs s__law_draw_row) (defBody s__law_draw_row) (defScope s__law_draw_row) .none kV__law_draw_row dc__law_draw_row pm__law_draw_row an__law_draw_row cd__law_draw_row ct__law_draw_row), sl__law_draw_row⟩)
    (c__law_draw_row : PySem.W.codeIn K cd__law_draw_row "_law_draw_row" = true)
    (k__law_draw_row : PySem.W.keepIn K (.ref f__law_draw_row) = true)
    (a__law_draw_constraint : PySem.W.nsIn K mainGlobals "_law_draw_constraint" = some (some (.ref f__law_draw_constraint)))
    (l__law_draw_constraint : K.lookup f__law_draw_constraint = some ⟨oc__law_draw_constraint, od__law_draw_constraint, .func (PySem.W.fnOf "_law_draw_constraint" "_law_draw_constraint" (defArgs s__law_draw_constraint) (defBody s__law_draw_constraint) (defScope s__law_draw_constraint) .none kV__law_draw_constraint dc__law_draw_constraint pm__law_draw_constraint an__law_draw_constraint cd__law_draw_constraint ct__law_draw_constraint), sl__law_draw_constraint⟩)
    (c__law_draw_constraint : PySem.W.codeIn K cd__law_draw_constraint "_law_draw_constraint" = true)
    (k__law_draw_constraint : PySem.W.keepIn K (.ref f__law_draw_constraint) = true)
    (a__law_draw_query : PySem.W.nsIn K mainGlobals "_law_draw_query" = some (some (.ref f__law_draw_query)))
    (l__law_draw_query : K.lookup f__law_draw_query = some ⟨oc__law_draw_query, od__law_draw_query, .func (PySem.W.fnOf "_law_draw_query" "_law_draw_query" (defArgs s__law_draw_query) (defBody s__law_draw_query) (defScope s__law_draw_query) .none kV__law_draw_query dc__law_draw_query pm__law_draw_query an__law_draw_query cd__law_draw_query ct__law_draw_query), sl__law_draw_query⟩)
    (c__law_draw_query : PySem.W.codeIn K cd__law_draw_query "_law_draw_query" = true)
    (k__law_draw_query : PySem.W.keepIn K (.ref f__law_draw_query) = true)
    (a__law_odd : PySem.W.nsIn K mainGlobals "_law_odd" = some (some (.ref f__law_odd)))
    (l__law_odd : K.lookup f__law_odd = some ⟨oc__law_odd, od__law_odd, .func (PySem.W.fnOf "_law_odd" "_law_odd" (defArgs s__law_odd) (defBody s__law_odd) (defScope s__law_odd) .none kV__law_odd dc__law_odd pm__law_odd an__law_odd cd__law_odd ct__law_odd), sl__law_odd⟩)
    (c__law_odd : PySem.W.codeIn K cd__law_odd "_law_odd" = true)
    (k__law_odd : PySem.W.keepIn K (.ref f__law_odd) = true)
    (a__law_bent : PySem.W.nsIn K mainGlobals "_law_bent" = some (some (.ref f__law_bent)))
    (l__law_bent : K.lookup f__law_bent = some ⟨oc__law_bent, od__law_bent, .func (PySem.W.fnOf "_law_bent" "_law_bent" (defArgs s__law_bent) (defBody s__law_bent) (defScope s__law_bent) .none kV__law_bent dc__law_bent pm__law_bent an__law_bent cd__law_bent ct__law_bent), sl__law_bent⟩)
    (c__law_bent : PySem.W.codeIn K cd__law_bent "_law_bent" = true)
    (k__law_bent : PySem.W.keepIn K (.ref f__law_bent) = true)
    (a__law_off : PySem.W.nsIn K mainGlobals "_law_off" = some (some (.ref f__law_off)))
    (l__law_off : K.lookup f__law_off = some ⟨oc__law_off, od__law_off, .func (PySem.W.fnOf "_law_off" "_law_off" (defArgs s__law_off) (defBody s__law_off) (defScope s__law_off) .none kV__law_off dc__law_off pm__law_off an__law_off cd__law_off ct__law_off), sl__law_off⟩)
    (c__law_off : PySem.W.codeIn K cd__law_off "_law_off" = true)
    (k__law_off : PySem.W.keepIn K (.ref f__law_off) = true)
    (a__law_is_constraint : PySem.W.nsIn K mainGlobals "_law_is_constraint" = some (some (.ref f__law_is_constraint)))
    (l__law_is_constraint : K.lookup f__law_is_constraint = some ⟨oc__law_is_constraint, od__law_is_constraint, .func (PySem.W.fnOf "_law_is_constraint" "_law_is_constraint" (defArgs s__law_is_constraint) (defBody s__law_is_constraint) (defScope s__law_is_constraint) .none kV__law_is_constraint dc__law_is_constraint pm__law_is_constraint an__law_is_constraint cd__law_is_constraint ct__law_is_constraint), sl__law_is_constraint⟩)
    (c__law_is_constraint : PySem.W.codeIn K cd__law_is_constraint "_law_is_constraint" = true)
    (k__law_is_constraint : PySem.W.keepIn K (.ref f__law_is_constraint) = true)
    (a__law_is_query : PySem.W.nsIn K mainGlobals "_law_is_query" = some (some (.ref f__law_is_query)))
    (l__law_is_query : K.lookup f__law_is_query = some ⟨oc__law_is_query, od__law_is_query, .func (PySem.W.fnOf "_law_is_query" "_law_is_query" (defArgs s__law_is_query) (defBody s__law_is_query) (defScope s__law_is_query) .none kV__law_is_query dc__law_is_query pm__law_is_query an__law_is_query cd__law_is_query ct__law_is_query), sl__law_is_query⟩)
    (c__law_is_query : PySem.W.codeIn K cd__law_is_query "_law_is_query" = true)
    (k__law_is_query : PySem.W.keepIn K (.ref f__law_is_query) = true)
    (a__law_near : PySem.W.nsIn K mainGlobals "_law_near" = some (some (.ref f__law_near)))
    (l__law_near : K.lookup f__law_near = some ⟨oc__law_near, od__law_near, .func (PySem.W.fnOf "_law_near" "_law_near" (defArgs s__law_near) (defBody s__law_near) (defScope s__law_near) .none kV__law_near dc__law_near pm__law_near an__law_near cd__law_near ct__law_near), sl__law_near⟩)
    (c__law_near : PySem.W.codeIn K cd__law_near "_law_near" = true)
    (k__law_near : PySem.W.keepIn K (.ref f__law_near) = true)
    (a_law : PySem.W.nsIn K mainGlobals "law" = some (some (.ref f_law)))
    (l_law : K.lookup f_law = some ⟨oc_law, od_law, .func (PySem.W.fnOf "law" "law" (defArgs s_law) (defBody s_law) (defScope s_law) .none kV_law dc_law pm_law an_law cd_law ct_law), sl_law⟩)
    (c_law : PySem.W.codeIn K cd_law "law" = true)
    (k_law : PySem.W.keepIn K (.ref f_law) = true)
    (a_GREATEST_DIFFERENCE : PySem.W.nsIn K mainGlobals "GREATEST_DIFFERENCE" = some (some (.int 4000000 tk_GREATEST_DIFFERENCE)))
    (a_GREATEST_VARIABLE : PySem.W.nsIn K mainGlobals "GREATEST_VARIABLE" = some (some (.int 15 tk_GREATEST_VARIABLE)))
    (a_MOST_PARTS : PySem.W.nsIn K mainGlobals "MOST_PARTS" = some (some (.int 4 tk_MOST_PARTS)))
    (z_len : PySem.W.nsIn K mainGlobals "len" = some none)
    (z_isinstance : PySem.W.nsIn K mainGlobals "isinstance" = some none)
    (z_tuple : PySem.W.nsIn K mainGlobals "tuple" = some none)
    (z_list : PySem.W.nsIn K mainGlobals "list" = some none)
    (z_enumerate : PySem.W.nsIn K mainGlobals "enumerate" = some none)
    (z_all : PySem.W.nsIn K mainGlobals "all" = some none)
    (z_any : PySem.W.nsIn K mainGlobals "any" = some none)
    (z_sorted : PySem.W.nsIn K mainGlobals "sorted" = some none)
    (z_set : PySem.W.nsIn K mainGlobals "set" = some none)
    (z_zip : PySem.W.nsIn K mainGlobals "zip" = some none)
    (z_int : PySem.W.nsIn K mainGlobals "int" = some none)
    (z_range : PySem.W.nsIn K mainGlobals "range" = some none)
    (z_min : PySem.W.nsIn K mainGlobals "min" = some none)
    (z_max : PySem.W.nsIn K mainGlobals "max" = some none)
    (z_repr : PySem.W.nsIn K mainGlobals "repr" = some none)
    (z_sum : PySem.W.nsIn K mainGlobals "sum" = some none)
    (z_str : PySem.W.nsIn K mainGlobals "str" = some none)
    (z_bool : PySem.W.nsIn K mainGlobals "bool" = some none)
    (z_dict : PySem.W.nsIn K mainGlobals "dict" = some none) :
    ∃ fd : FuncData, (∀ (s : Shared) (v : Value), BindsTo s fd ⟨[v], []⟩ [("script", v)]) ∧ ∀ base : Heap, K.In base → base.Ns mainGlobals mg → AtA l.prog w K mg base callerA fa fd ["script"] (spLaw K) := by
  have e := hfa.symm.trans (PySem.W.mg_of X G a_law)
  cases e
  have E_is_integer : Ent K mg "is_integer" s_is_integer ["value"] _ _ := ent_of l_is_integer c_is_integer k_is_integer (PySem.W.mg_of X G a_is_integer) fun _ _ _ _ _ _ us hl => match us, hl with | [_], _ => rfl
  have E_lies_between : Ent K mg "lies_between" s_lies_between ["value", "low", "high"] _ _ := ent_of l_lies_between c_lies_between k_lies_between (PySem.W.mg_of X G a_lies_between) fun _ _ _ _ _ _ us hl => match us, hl with | [_, _, _], _ => rfl
  have E_is_tuple_of : Ent K mg "is_tuple_of" s_is_tuple_of ["value", "many"] _ _ := ent_of l_is_tuple_of c_is_tuple_of k_is_tuple_of (PySem.W.mg_of X G a_is_tuple_of) fun _ _ _ _ _ _ us hl => match us, hl with | [_, _], _ => rfl
  have E__is_side : Ent K mg "_is_side" s__is_side ["value", "names"] _ _ := ent_of l__is_side c__is_side k__is_side (PySem.W.mg_of X G a__is_side) fun _ _ _ _ _ _ us hl => match us, hl with | [_, _], _ => rfl
  have E_is_constraint : Ent K mg "is_constraint" s_is_constraint ["value", "names"] _ _ := ent_of l_is_constraint c_is_constraint k_is_constraint (PySem.W.mg_of X G a_is_constraint) fun _ _ _ _ _ _ us hl => match us, hl with | [_, _], _ => rfl
  have E__is_variable : Ent K mg "_is_variable" s__is_variable ["value"] _ _ := ent_of l__is_variable c__is_variable k__is_variable (PySem.W.mg_of X G a__is_variable) fun _ _ _ _ _ _ us hl => match us, hl with | [_], _ => rfl
  have E__is_part : Ent K mg "_is_part" s__is_part ["scheme", "value"] _ _ := ent_of l__is_part c__is_part k__is_part (PySem.W.mg_of X G a__is_part) fun _ _ _ _ _ _ us hl => match us, hl with | [_, _], _ => rfl
  have E_is_query : Ent K mg "is_query" s_is_query ["scheme", "value"] _ _ := ent_of l_is_query c_is_query k_is_query (PySem.W.mg_of X G a_is_query) fun _ _ _ _ _ _ us hl => match us, hl with | [_, _], _ => rfl
  have E__law_open : Ent K mg "_law_open" s__law_open ["script"] _ _ := ent_of l__law_open c__law_open k__law_open (PySem.W.mg_of X G a__law_open) fun _ _ _ _ _ _ us hl => match us, hl with | [_], _ => rfl
  have E__law_spread : Ent K mg "_law_spread" s__law_spread ["cell", "at"] _ _ := ent_of l__law_spread c__law_spread k__law_spread (PySem.W.mg_of X G a__law_spread) fun _ _ _ _ _ _ us hl => match us, hl with | [_, _], _ => rfl
  have E__law_take : Ent K mg "_law_take" s__law_take ["pen", "amount"] _ _ := ent_of l__law_take c__law_take k__law_take (PySem.W.mg_of X G a__law_take) fun _ _ _ _ _ _ us hl => match us, hl with | [_, _], _ => rfl
  have E__law_same : Ent K mg "_law_same" s__law_same ["found", "due"] _ _ := ent_of l__law_same c__law_same k__law_same (PySem.W.mg_of X G a__law_same) fun _ _ _ _ _ _ us hl => match us, hl with | [_, _], _ => rfl
  have E__law_one_of : Ent K mg "_law_one_of" s__law_one_of ["pen", "some"] _ _ := ent_of l__law_one_of c__law_one_of k__law_one_of (PySem.W.mg_of X G a__law_one_of) fun _ _ _ _ _ _ us hl => match us, hl with | [_, _], _ => rfl
  have E__law_between : Ent K mg "_law_between" s__law_between ["value", "low", "high"] _ _ := ent_of l__law_between c__law_between k__law_between (PySem.W.mg_of X G a__law_between) fun _ _ _ _ _ _ us hl => match us, hl with | [_, _, _], _ => rfl
  have E__law_draw_bounds : Ent K mg "_law_draw_bounds" s__law_draw_bounds ["pen"] _ _ := ent_of l__law_draw_bounds c__law_draw_bounds k__law_draw_bounds (PySem.W.mg_of X G a__law_draw_bounds) fun _ _ _ _ _ _ us hl => match us, hl with | [_], _ => rfl
  have E__law_draw_key : Ent K mg "_law_draw_key" s__law_draw_key ["pen", "many"] _ _ := ent_of l__law_draw_key c__law_draw_key k__law_draw_key (PySem.W.mg_of X G a__law_draw_key) fun _ _ _ _ _ _ us hl => match us, hl with | [_, _], _ => rfl
  have E__law_draw_reference : Ent K mg "_law_draw_reference" s__law_draw_reference ["pen", "tables", "bounds"] _ _ := ent_of l__law_draw_reference c__law_draw_reference k__law_draw_reference (PySem.W.mg_of X G a__law_draw_reference) fun _ _ _ _ _ _ us hl => match us, hl with | [_, _, _], _ => rfl
  have E__law_draw_table : Ent K mg "_law_draw_table" s__law_draw_table ["pen", "tables", "columns"] _ _ := ent_of l__law_draw_table c__law_draw_table k__law_draw_table (PySem.W.mg_of X G a__law_draw_table) fun _ _ _ _ _ _ us hl => match us, hl with | [_, _, _], _ => rfl
  have E__law_draw_scheme : Ent K mg "_law_draw_scheme" s__law_draw_scheme ["pen", "many", "columns"] _ _ := ent_of l__law_draw_scheme c__law_draw_scheme k__law_draw_scheme (PySem.W.mg_of X G a__law_draw_scheme) fun _ _ _ _ _ _ us hl => match us, hl with | [_, _, _], _ => rfl
  have E__law_draw_row : Ent K mg "_law_draw_row" s__law_draw_row ["pen", "table"] _ _ := ent_of l__law_draw_row c__law_draw_row k__law_draw_row (PySem.W.mg_of X G a__law_draw_row) fun _ _ _ _ _ _ us hl => match us, hl with | [_, _], _ => rfl
  have E__law_draw_constraint : Ent K mg "_law_draw_constraint" s__law_draw_constraint ["pen", "variables", "numbers"] _ _ := ent_of l__law_draw_constraint c__law_draw_constraint k__law_draw_constraint (PySem.W.mg_of X G a__law_draw_constraint) fun _ _ _ _ _ _ us hl => match us, hl with | [_, _, _], _ => rfl
  have E__law_draw_query : Ent K mg "_law_draw_query" s__law_draw_query ["pen", "scheme", "parts", "most"] _ _ := ent_of l__law_draw_query c__law_draw_query k__law_draw_query (PySem.W.mg_of X G a__law_draw_query) fun _ _ _ _ _ _ us hl => match us, hl with | [_, _, _, _], _ => rfl
  have E__law_odd : Ent K mg "_law_odd" s__law_odd ["pen"] _ _ := ent_of l__law_odd c__law_odd k__law_odd (PySem.W.mg_of X G a__law_odd) fun _ _ _ _ _ _ us hl => match us, hl with | [_], _ => rfl
  have E__law_bent : Ent K mg "_law_bent" s__law_bent ["pen", "value"] _ _ := ent_of l__law_bent c__law_bent k__law_bent (PySem.W.mg_of X G a__law_bent) fun _ _ _ _ _ _ us hl => match us, hl with | [_, _], _ => rfl
  have E__law_off : Ent K mg "_law_off" s__law_off ["pen", "value"] _ _ := ent_of l__law_off c__law_off k__law_off (PySem.W.mg_of X G a__law_off) fun _ _ _ _ _ _ us hl => match us, hl with | [_, _], _ => rfl
  have E__law_is_constraint : Ent K mg "_law_is_constraint" s__law_is_constraint ["names", "value"] _ _ := ent_of l__law_is_constraint c__law_is_constraint k__law_is_constraint (PySem.W.mg_of X G a__law_is_constraint) fun _ _ _ _ _ _ us hl => match us, hl with | [_, _], _ => rfl
  have E__law_is_query : Ent K mg "_law_is_query" s__law_is_query ["scheme", "value"] _ _ := ent_of l__law_is_query c__law_is_query k__law_is_query (PySem.W.mg_of X G a__law_is_query) fun _ _ _ _ _ _ us hl => match us, hl with | [_, _], _ => rfl
  have E__law_near : Ent K mg "_law_near" s__law_near ["pen", "query"] _ _ := ent_of l__law_near c__law_near k__law_near (PySem.W.mg_of X G a__law_near) fun _ _ _ _ _ _ us hl => match us, hl with | [_, _], _ => rfl
  have E_law : Ent K mg "law" s_law ["script"] _ _ := ent_of l_law c_law k_law (PySem.W.mg_of X G a_law) fun _ _ _ _ _ _ us hl => match us, hl with | [_], _ => rfl
  have c_GREATEST_DIFFERENCE := PySem.W.mg_of X G a_GREATEST_DIFFERENCE
  have c_GREATEST_VARIABLE := PySem.W.mg_of X G a_GREATEST_VARIABLE
  have c_MOST_PARTS := PySem.W.mg_of X G a_MOST_PARTS
  have B : NoB mg := fun x hx => by
    simp only [List.mem_cons, List.not_mem_nil, or_false] at hx
    rcases hx with rfl | rfl | rfl | rfl | rfl | rfl | rfl | rfl | rfl | rfl | rfl | rfl | rfl | rfl | rfl | rfl | rfl | rfl | rfl
    · exact PySem.W.mg_none_of X G z_len
    · exact PySem.W.mg_none_of X G z_isinstance
    · exact PySem.W.mg_none_of X G z_tuple
    · exact PySem.W.mg_none_of X G z_list
    · exact PySem.W.mg_none_of X G z_enumerate
    · exact PySem.W.mg_none_of X G z_all
    · exact PySem.W.mg_none_of X G z_any
    · exact PySem.W.mg_none_of X G z_sorted
    · exact PySem.W.mg_none_of X G z_set
    · exact PySem.W.mg_none_of X G z_zip
    · exact PySem.W.mg_none_of X G z_int
    · exact PySem.W.mg_none_of X G z_range
    · exact PySem.W.mg_none_of X G z_min
    · exact PySem.W.mg_none_of X G z_max
    · exact PySem.W.mg_none_of X G z_repr
    · exact PySem.W.mg_none_of X G z_sum
    · exact PySem.W.mg_none_of X G z_str
    · exact PySem.W.mg_none_of X G z_bool
    · exact PySem.W.mg_none_of X G z_dict
  refine ⟨PySem.W.fnOf "law" "law" (defArgs s_law) (defBody s_law) (defScope s_law) .none kV_law dc_law pm_law an_law cd_law ct_law, fun s v => .of_eq rfl, fun base _ _ => ?_⟩
  have G_is_integer := ok_is_integer (P := l.prog) (w := w) (base := base) B   E_is_integer
  have G_lies_between := ok_lies_between (P := l.prog) (w := w) (base := base) B E_is_integer G_is_integer  E_lies_between
  have G_is_tuple_of := ok_is_tuple_of (P := l.prog) (w := w) (base := base) B   E_is_tuple_of
  have G__is_side := ok__is_side (P := l.prog) (w := w) (base := base) B   E__is_side
  have G_is_constraint := ok_is_constraint (P := l.prog) (w := w) (base := base) B E__is_side G__is_side E_is_tuple_of G_is_tuple_of E_lies_between G_lies_between c_GREATEST_DIFFERENCE E_is_constraint
  have G__is_variable := ok__is_variable (P := l.prog) (w := w) (base := base) B E_lies_between G_lies_between c_GREATEST_VARIABLE E__is_variable
  have G__is_part := ok__is_part (P := l.prog) (w := w) (base := base) B E__is_variable G__is_variable E_is_tuple_of G_is_tuple_of E_lies_between G_lies_between  E__is_part
  have G_is_query := ok_is_query (P := l.prog) (w := w) (base := base) B E__is_part G__is_part E__is_variable G__is_variable E_is_constraint G_is_constraint E_is_tuple_of G_is_tuple_of c_MOST_PARTS E_is_query
  have G__law_open := ok__law_open (P := l.prog) (w := w) (base := base) B   E__law_open
  have G__law_spread := ok__law_spread (P := l.prog) (w := w) (base := base) B   E__law_spread
  have G__law_take := ok__law_take (P := l.prog) (w := w) (base := base) B m_spread E__law_spread G__law_spread E__law_take.F
  have G__law_same := ok__law_same (P := l.prog) (w := w) (base := base) B   E__law_same 12
  have G__law_one_of := ok__law_one_of (P := l.prog) (w := w) (base := base) B E__law_take G__law_take  E__law_one_of
  have G__law_between := ok__law_between (P := l.prog) (w := w) (base := base) B   E__law_between
  have G__law_draw_bounds := ok__law_draw_bounds (P := l.prog) (w := w) (base := base) B E__law_one_of G__law_one_of E__law_take G__law_take  E__law_draw_bounds
  have G__law_draw_key := ok__law_draw_key (P := l.prog) (w := w) (base := base) B E__law_take G__law_take  E__law_draw_key
  have G__law_draw_reference := ok__law_draw_reference (P := l.prog) (w := w) (base := base) B E__law_one_of G__law_one_of  E__law_draw_reference
  have G__law_draw_table := ok__law_draw_table (P := l.prog) (w := w) (base := base) B E__law_draw_bounds G__law_draw_bounds E__law_draw_key G__law_draw_key E__law_draw_reference G__law_draw_reference E__law_one_of G__law_one_of E__law_take G__law_take  E__law_draw_table
  have G__law_draw_scheme := ok__law_draw_scheme (P := l.prog) (w := w) (base := base) B E__law_draw_table G__law_draw_table E__law_take G__law_take  E__law_draw_scheme
  have G__law_draw_row := ok__law_draw_row (P := l.prog) (w := w) (base := base) B E__law_take G__law_take  E__law_draw_row
  have G__law_draw_constraint := ok__law_draw_constraint (P := l.prog) (w := w) (base := base) B E__law_one_of G__law_one_of E__law_take G__law_take  E__law_draw_constraint
  have G__law_draw_query := ok__law_draw_query (P := l.prog) (w := w) (base := base) B E__law_draw_constraint G__law_draw_constraint E__law_draw_row G__law_draw_row E__law_one_of G__law_one_of E__law_take G__law_take  E__law_draw_query
  have G__law_odd := ok__law_odd (P := l.prog) (w := w) (base := base) B E__law_one_of G__law_one_of  E__law_odd
  have G__law_bent := ok__law_bent (P := l.prog) (w := w) (base := base) B E__law_odd G__law_odd E__law_take G__law_take  E__law_bent 12
  have G__law_off := ok__law_off (P := l.prog) (w := w) (base := base) B E__law_one_of G__law_one_of E__law_take G__law_take  E__law_off 12
  have G__law_is_constraint := ok__law_is_constraint (P := l.prog) (w := w) (base := base) B E__law_between G__law_between  E__law_is_constraint
  have G__law_is_query := ok__law_is_query (P := l.prog) (w := w) (base := base) B E__law_between G__law_between E__law_is_constraint G__law_is_constraint  E__law_is_query
  have G__law_near := ok__law_near (P := l.prog) (w := w) (base := base) B E__law_bent G__law_bent E__law_off G__law_off E__law_one_of G__law_one_of E__law_take G__law_take  E__law_near
  refine Fun.atA (k := 17) ⟨rfl, by decide, by decide⟩ E_law.F sc_law (fun vs H Q E h => ?_) (fun cdv s H vs Q E hr h => ?_)
  · obtain ⟨a, ns, rfl, _⟩ := h
    rfl
  · obtain ⟨a, ns, rfl, hS, hns, q⟩ := h
    have R := run_law (P := l.prog) (w := w) (base := base) B E__law_draw_query G__law_draw_query E__law_draw_scheme G__law_draw_scheme E__law_is_query G__law_is_query E__law_near G__law_near E__law_open G__law_open E__law_same G__law_same E_is_query G_is_query cdv s H E _ hr
    exact law_run (N := ["script", "pen", "turn", "scheme", "query", "value", "text", "again"]) (i := 1) (m := 8) (T1 := T_law1) (T2 := T_law2) R (by decide) (by decide) hS (m_law1 hns) m_law2 q
end K10
open PySem PySem.W PyProof.Rows
set_option maxHeartbeats 0 in
theorem PySem.Challenge.cw_watchzones_k10_queries_recognized_holds : PySem.Challenge.rw_watchzones_k10_queries_recognized.Holds := by
  w_on; o_law; k_head; (case hw => w_witness2)
  k_fill
  refine DL.walk_at (l := PySem.Challenge.rw_watchzones_k10_queries_recognized) (n := 63) (x := "script") (sp := fun w => K10.spLaw _) rfl (by decide) rfl (fun w h Y => PySem.W.kIn_of Y) ?F (fun _ _ a ns hl _ hS => ⟨a, ns, rfl, hS, hl, fun _ => rfl⟩)
  case F =>
    intro w mg fa h KX G hmg
    refine' K10.all_mk KX G hmg ?a_is_integer ?l_is_integer ?c_is_integer ?k_is_integer ?a_lies_between ?l_lies_between ?c_lies_between ?k_lies_between ?a_is_tuple_of ?l_is_tuple_of ?c_is_tuple_of ?k_is_tuple_of ?a__is_side ?l__is_side ?c__is_side ?k__is_side ?a_is_constraint ?l_is_constraint ?c_is_constraint ?k_is_constraint ?a__is_variable ?l__is_variable ?c__is_variable ?k__is_variable ?a__is_part ?l__is_part ?c__is_part ?k__is_part ?a_is_query ?l_is_query ?c_is_query ?k_is_query ?a__law_open ?l__law_open ?c__law_open ?k__law_open ?a__law_spread ?l__law_spread ?c__law_spread ?k__law_spread ?a__law_take ?l__law_take ?c__law_take ?k__law_take ?a__law_same ?l__law_same ?c__law_same ?k__law_same ?a__law_one_of ?l__law_one_of ?c__law_one_of ?k__law_one_of ?a__law_between ?l__law_between ?c__law_between ?k__law_between ?a__law_draw_bounds ?l__law_draw_bounds ?c__law_draw_bounds ?k__law_draw_bounds ?a__law_draw_key ?l__law_draw_key ?c__law_draw_key ?k__law_draw_key ?a__law_draw_reference ?l__law_draw_reference ?c__law_draw_reference ?k__law_draw_reference ?a__law_draw_table ?l__law_draw_table ?c__law_draw_table ?k__law_draw_table ?a__law_draw_scheme ?l__law_draw_scheme ?c__law_draw_scheme ?k__law_draw_scheme ?a__law_draw_row ?l__law_draw_row ?c__law_draw_row ?k__law_draw_row ?a__law_draw_constraint ?l__law_draw_constraint ?c__law_draw_constraint ?k__law_draw_constraint ?a__law_draw_query ?l__law_draw_query ?c__law_draw_query ?k__law_draw_query ?a__law_odd ?l__law_odd ?c__law_odd ?k__law_odd ?a__law_bent ?l__law_bent ?c__law_bent ?k__law_bent ?a__law_off ?l__law_off ?c__law_off ?k__law_off ?a__law_is_constraint ?l__law_is_constraint ?c__law_is_constraint ?k__law_is_constraint ?a__law_is_query ?l__law_is_query ?c__law_is_query ?k__law_is_query ?a__law_near ?l__law_near ?c__law_near ?k__law_near ?a_law ?l_law ?c_law ?k_law ?a_GREATEST_DIFFERENCE ?a_GREATEST_VARIABLE ?a_MOST_PARTS ?z_len ?z_isinstance ?z_tuple ?z_list ?z_enumerate ?z_all ?z_any ?z_sorted ?z_set ?z_zip ?z_int ?z_range ?z_min ?z_max ?z_repr ?z_sum ?z_str ?z_bool ?z_dict
    (case a_is_integer => k_is); (case l_is_integer => k_is); (case c_is_integer => k_is); (case k_is_integer => k_is)
    (case a_lies_between => k_is); (case l_lies_between => k_is); (case c_lies_between => k_is); (case k_lies_between => k_is)
    (case a_is_tuple_of => k_is); (case l_is_tuple_of => k_is); (case c_is_tuple_of => k_is); (case k_is_tuple_of => k_is)
    (case a__is_side => k_is); (case l__is_side => k_is); (case c__is_side => k_is); (case k__is_side => k_is)
    (case a_is_constraint => k_is); (case l_is_constraint => k_is); (case c_is_constraint => k_is); (case k_is_constraint => k_is)
    (case a__is_variable => k_is); (case l__is_variable => k_is); (case c__is_variable => k_is); (case k__is_variable => k_is)
    (case a__is_part => k_is); (case l__is_part => k_is); (case c__is_part => k_is); (case k__is_part => k_is)
    (case a_is_query => k_is); (case l_is_query => k_is); (case c_is_query => k_is); (case k_is_query => k_is)
    (case a__law_open => k_is); (case l__law_open => k_is); (case c__law_open => k_is); (case k__law_open => k_is)
    (case a__law_spread => k_is); (case l__law_spread => k_is); (case c__law_spread => k_is); (case k__law_spread => k_is)
    (case a__law_take => k_is); (case l__law_take => k_is); (case c__law_take => k_is); (case k__law_take => k_is)
    (case a__law_same => k_is); (case l__law_same => k_is); (case c__law_same => k_is); (case k__law_same => k_is)
    (case a__law_one_of => k_is); (case l__law_one_of => k_is); (case c__law_one_of => k_is); (case k__law_one_of => k_is)
    (case a__law_between => k_is); (case l__law_between => k_is); (case c__law_between => k_is); (case k__law_between => k_is)
    (case a__law_draw_bounds => k_is); (case l__law_draw_bounds => k_is); (case c__law_draw_bounds => k_is); (case k__law_draw_bounds => k_is)
    (case a__law_draw_key => k_is); (case l__law_draw_key => k_is); (case c__law_draw_key => k_is); (case k__law_draw_key => k_is)
    (case a__law_draw_reference => k_is); (case l__law_draw_reference => k_is); (case c__law_draw_reference => k_is); (case k__law_draw_reference => k_is)
    (case a__law_draw_table => k_is); (case l__law_draw_table => k_is); (case c__law_draw_table => k_is); (case k__law_draw_table => k_is)
    (case a__law_draw_scheme => k_is); (case l__law_draw_scheme => k_is); (case c__law_draw_scheme => k_is); (case k__law_draw_scheme => k_is)
    (case a__law_draw_row => k_is); (case l__law_draw_row => k_is); (case c__law_draw_row => k_is); (case k__law_draw_row => k_is)
    (case a__law_draw_constraint => k_is); (case l__law_draw_constraint => k_is); (case c__law_draw_constraint => k_is); (case k__law_draw_constraint => k_is)
    (case a__law_draw_query => k_is); (case l__law_draw_query => k_is); (case c__law_draw_query => k_is); (case k__law_draw_query => k_is)
    (case a__law_odd => k_is); (case l__law_odd => k_is); (case c__law_odd => k_is); (case k__law_odd => k_is)
    (case a__law_bent => k_is); (case l__law_bent => k_is); (case c__law_bent => k_is); (case k__law_bent => k_is)
    (case a__law_off => k_is); (case l__law_off => k_is); (case c__law_off => k_is); (case k__law_off => k_is)
    (case a__law_is_constraint => k_is); (case l__law_is_constraint => k_is); (case c__law_is_constraint => k_is); (case k__law_is_constraint => k_is)
    (case a__law_is_query => k_is); (case l__law_is_query => k_is); (case c__law_is_query => k_is); (case k__law_is_query => k_is)
    (case a__law_near => k_is); (case l__law_near => k_is); (case c__law_near => k_is); (case k__law_near => k_is)
    (case a_law => k_is); (case l_law => k_is); (case c_law => k_is); (case k_law => k_is)
    (case a_GREATEST_DIFFERENCE => k_is); (case a_GREATEST_VARIABLE => k_is); (case a_MOST_PARTS => k_is); (case z_len => k_is)
    (case z_isinstance => k_is); (case z_tuple => k_is); (case z_list => k_is); (case z_enumerate => k_is)
    (case z_all => k_is); (case z_any => k_is); (case z_sorted => k_is); (case z_set => k_is)
    (case z_zip => k_is); (case z_int => k_is); (case z_range => k_is); (case z_min => k_is)
    (case z_max => k_is); (case z_repr => k_is); (case z_sum => k_is); (case z_str => k_is)
    (case z_bool => k_is); (case z_dict => k_is)
