import PyProof.Rows.All
import Wide.All
import OpenK.AllK
import Wide.FinOn
import HandS.ForMost
import HandS.IsInst
import HandS.TupAny
import HandS.Wide
import HandS.SortInts
import HandS.Conv
import HandS.SetFor
import HandS.Style
import KE.GoesEnum
import HandS.SortOrd
import HandS.Zip
import HandS.TupMul
import PyProof.ListNew
import PyProof.ReprRoads
import HandS.RaiseMore
import HandS.Ends
import HandS.Head0
import HandS.Head1
import HandS.Head2
import HandS.HeadEnd
import HandS.HeadHook1
import PyProof.ReprLen
import PySem.Challenge.RW_watchzones_k01_schemes_recognized
set_option Elab.async false
set_option linter.all false
set_option maxRecDepth 100000
namespace DL
open PySem PySem.Spec PyProof.Rows L2

/-! ### data -/
inductive D where
  | non | bl (b : Bool) | int (i : Int) | str (x : Str) | tup (xs : List D) | lst (xs : List D) | dct (kvs : List (Key × D)) | pen | scr (ns : List Int)

abbrev Pn := Option (Addr × Addr)

mutual
def Rep (K : PySem.W.Frag) (pn : Pn) (G : Hp) (v : V) : D → Prop
  | .non => v = .non
  | .bl b => v = .bl b
  | .int i => v = .int i
  | .str x => v = .str x
  | .tup ds => ∃ a vs, v = .ref a ∧ SqT K G a vs ∧ Reps K pn G vs ds
  | .lst ds => ∃ a vs, v = .ref a ∧ G a = some (.lst vs) ∧ Reps K pn G vs ds
  | .dct kvs => ∃ a ws, v = .ref a ∧ G a = some (.dK ws) ∧ RepKV K pn G ws kvs
  | .pen => ∃ p c, pn = some (p, c) ∧ v = .ref p
  | .scr ns => ∃ a, v = .ref a ∧ SqL K G a (ns.map V.int)
def Reps (K : PySem.W.Frag) (pn : Pn) (G : Hp) (vs : List V) : List D → Prop
  | [] => vs = []
  | d :: ds => ∃ v r, vs = v :: r ∧ Rep K pn G v d ∧ Reps K pn G r ds
def RepKV (K : PySem.W.Frag) (pn : Pn) (G : Hp) (ws : List (Key × V)) : List (Key × D) → Prop
  | [] => ws = []
  | kd :: kds => ∃ v r, ws = (kd.1, v) :: r ∧ Rep K pn G v kd.2 ∧ RepKV K pn G r kds
end

def Sub (G H : Hp) : Prop := ∀ a o, G a = some o → H a = some o
theorem Sub.refl (H : Hp) : Sub H H := fun _ _ h => h
theorem Sub.trans {A B C : Hp} (h : Sub A B) (k : Sub B C) : Sub A C := fun a o e => k a o (h a o e)
theorem Sub.rd {G H : Hp} {a : Addr} {u : HO} (s : Sub G H) (h : Rd G a u) : Rd H a u := by
  rcases h with h | ⟨o, h⟩
  · exact .inl (s _ _ h)
  · exact .inr ⟨o, s _ _ h⟩
theorem Sub.sqT {K : PySem.W.Frag} {G H : Hp} {a : Addr} {xs : List V} (s : Sub G H) (h : SqT K G a xs) : SqT K H a xs := by
  rcases h with h | h
  · exact .inl (s.rd h)
  · exact .inr h
theorem Sub.sqL {K : PySem.W.Frag} {G H : Hp} {a : Addr} {xs : List V} (s : Sub G H) (h : SqL K G a xs) : SqL K H a xs := by
  rcases h with h | h
  · exact .inl (s.rd h)
  · exact .inr h
mutual
theorem Rep.mono {K : PySem.W.Frag} {pn : Pn} {G H : Hp} (s : Sub G H) : ∀ (d : D) (v : V), Rep K pn G v d → Rep K pn H v d
  | .non, v, h => h
  | .bl b, v, h => h
  | .int i, v, h => h
  | .str x, v, h => h
  | .tup ds, v, h => by
    obtain ⟨a, vs, e, h1, h2⟩ := h
    exact ⟨a, vs, e, s.sqT h1, Reps.mono s ds vs h2⟩
  | .lst ds, v, h => by
    obtain ⟨a, vs, e, h1, h2⟩ := h
    exact ⟨a, vs, e, s _ _ h1, Reps.mono s ds vs h2⟩
  | .dct kvs, v, h => by
    obtain ⟨a, ws, e, h1, h2⟩ := h
    exact ⟨a, ws, e, s _ _ h1, RepKV.mono s kvs ws h2⟩
  | .pen, v, h => h
  | .scr ns, v, h => by
    obtain ⟨a, e, h1⟩ := h
    exact ⟨a, e, s.sqL h1⟩
theorem Reps.mono {K : PySem.W.Frag} {pn : Pn} {G H : Hp} (s : Sub G H) : ∀ (ds : List D) (vs : List V), Reps K pn G vs ds → Reps K pn H vs ds
  | [], vs, h => h
  | d :: ds, vs, h => by
    obtain ⟨v, r, e, h1, h2⟩ := h
    exact ⟨v, r, e, Rep.mono s d v h1, Reps.mono s ds r h2⟩
theorem RepKV.mono {K : PySem.W.Frag} {pn : Pn} {G H : Hp} (s : Sub G H) : ∀ (kds : List (Key × D)) (ws : List (Key × V)), RepKV K pn G ws kds → RepKV K pn H ws kds
  | [], ws, h => h
  | (k, d) :: kds, ws, h => by
    obtain ⟨v, r, e, h1, h2⟩ := h
    exact ⟨v, r, e, Rep.mono s d v h1, RepKV.mono s kds r h2⟩
end

theorem Reps.length {K : PySem.W.Frag} {pn : Pn} {G : Hp} : ∀ {ds : List D} {vs : List V}, Reps K pn G vs ds → vs.length = ds.length
  | [], vs, h => by rw [show vs = [] from h]; rfl
  | d :: ds, vs, h => by
    obtain ⟨v, r, rfl, _, h2⟩ := h
    simp [Reps.length h2]
theorem Reps.get {K : PySem.W.Frag} {pn : Pn} {G : Hp} : ∀ {ds : List D} {vs : List V} {i : Nat} {d : D}, Reps K pn G vs ds → ds[i]? = some d → ∃ v, vs[i]? = some v ∧ Rep K pn G v d
  | [], _, _, _, _, e => by simp at e
  | d :: ds, vs, 0, _, h, e => by
    obtain ⟨v, r, rfl, h1, h2⟩ := h
    simp at e
    subst e
    exact ⟨v, rfl, h1⟩
  | d :: ds, vs, i + 1, _, h, e => by
    obtain ⟨v, r, rfl, h1, h2⟩ := h
    obtain ⟨w, e1, e2⟩ := Reps.get (i := i) h2 (by simpa using e)
    exact ⟨w, by simpa using e1, e2⟩
theorem Reps.get' {K : PySem.W.Frag} {pn : Pn} {G : Hp} : ∀ {ds : List D} {vs : List V} {i : Nat} {v : V}, Reps K pn G vs ds → vs[i]? = some v → ∃ d, ds[i]? = some d ∧ Rep K pn G v d
  | [], vs, _, _, h, e => by
    rw [show vs = [] from h] at e
    simp at e
  | d :: ds, vs, 0, _, h, e => by
    obtain ⟨v, r, rfl, h1, h2⟩ := h
    simp at e
    subst e
    exact ⟨d, rfl, h1⟩
  | d :: ds, vs, i + 1, _, h, e => by
    obtain ⟨v, r, rfl, h1, h2⟩ := h
    obtain ⟨w, e1, e2⟩ := Reps.get' (i := i) h2 (by simpa using e)
    exact ⟨w, by simpa using e1, e2⟩
theorem Reps.append {K : PySem.W.Frag} {pn : Pn} {G : Hp} : ∀ {ds es : List D} {vs ws : List V}, Reps K pn G vs ds → Reps K pn G ws es → Reps K pn G (vs ++ ws) (ds ++ es)
  | [], _, vs, _, h, k => by rw [show vs = [] from h]; exact k
  | d :: ds, _, vs, _, h, k => by
    obtain ⟨v, r, rfl, h1, h2⟩ := h
    exact ⟨v, _, rfl, h1, Reps.append h2 k⟩
theorem Reps.take {K : PySem.W.Frag} {pn : Pn} {G : Hp} : ∀ (n : Nat) {ds : List D} {vs : List V}, Reps K pn G vs ds → Reps K pn G (vs.take n) (ds.take n)
  | 0, _, vs, _ => by simp [Reps]
  | n + 1, [], vs, h => by rw [show vs = [] from h]; rfl
  | n + 1, d :: ds, vs, h => by
    obtain ⟨v, r, rfl, h1, h2⟩ := h
    exact ⟨v, _, rfl, h1, Reps.take n h2⟩
theorem Reps.drop {K : PySem.W.Frag} {pn : Pn} {G : Hp} : ∀ (n : Nat) {ds : List D} {vs : List V}, Reps K pn G vs ds → Reps K pn G (vs.drop n) (ds.drop n)
  | 0, _, vs, h => h
  | n + 1, [], vs, h => by rw [show vs = [] from h]; rfl
  | n + 1, d :: ds, vs, h => by
    obtain ⟨v, r, rfl, h1, h2⟩ := h
    exact Reps.drop n h2
theorem Reps.set {K : PySem.W.Frag} {pn : Pn} {G : Hp} {v : V} {d : D} (hv : Rep K pn G v d) : ∀ (n : Nat) {ds : List D} {vs : List V}, Reps K pn G vs ds → Reps K pn G (vs.set n v) (ds.set n d)
  | n, [], vs, h => by rw [show vs = [] from h]; rfl
  | 0, d' :: ds, vs, h => by
    obtain ⟨w, r, rfl, h1, h2⟩ := h
    exact ⟨v, r, rfl, hv, h2⟩
  | n + 1, d' :: ds, vs, h => by
    obtain ⟨w, r, rfl, h1, h2⟩ := h
    exact ⟨w, _, rfl, h1, Reps.set hv n h2⟩
theorem Reps.reverse {K : PySem.W.Frag} {pn : Pn} {G : Hp} : ∀ {ds : List D} {vs : List V}, Reps K pn G vs ds → Reps K pn G vs.reverse ds.reverse
  | [], vs, h => by rw [show vs = [] from h]; rfl
  | d :: ds, vs, h => by
    obtain ⟨v, r, rfl, h1, h2⟩ := h
    simp only [List.reverse_cons]
    exact Reps.append (Reps.reverse h2) ⟨v, [], rfl, h1, rfl⟩
theorem Reps.ints {K : PySem.W.Frag} {pn : Pn} {G : Hp} : ∀ {ns : List Int} {vs : List V}, Reps K pn G vs (ns.map D.int) ↔ vs = ns.map V.int
  | [], vs => by simp [Reps]
  | n :: ns, vs => by
    simp only [List.map_cons, Reps]
    constructor
    · rintro ⟨v, r, rfl, h1, h2⟩
      rw [Reps.ints.mp h2, show v = .int n from h1]
    · rintro rfl
      exact ⟨_, _, rfl, rfl, Reps.ints.mpr rfl⟩
theorem Reps.bls {K : PySem.W.Frag} {pn : Pn} {G : Hp} : ∀ {ns : List Bool} {vs : List V}, Reps K pn G vs (ns.map D.bl) ↔ vs = ns.map V.bl
  | [], vs => by simp [Reps]
  | n :: ns, vs => by
    simp only [List.map_cons, Reps]
    constructor
    · rintro ⟨v, r, rfl, h1, h2⟩
      rw [Reps.bls.mp h2, show v = .bl n from h1]
    · rintro rfl
      exact ⟨_, _, rfl, rfl, Reps.bls.mpr rfl⟩

/-! ### the frozen part grows by what is new -/
def ext (G H H' : Hp) : Hp := fun a => match G a with
  | some o => some o
  | none => match H a with
    | some _ => none
    | none => H' a
/-- all but the pen's own list stays -/
def Ex (pn : Pn) (H H' : Hp) : Prop := ∀ a o, H a = some o → (∀ p c, pn = some (p, c) → a ≠ p) → H' a = some o
theorem Ex.refl (pn : Pn) (H : Hp) : Ex pn H H := fun _ _ h _ => h
theorem Ex.trans {pn : Pn} {A B C : Hp} (h : Ex pn A B) (k : Ex pn B C) : Ex pn A C := fun a o e n => k a o (h a o e n) n
theorem Ex.new {pn : Pn} {H : Hp} {p : Addr} {o : HO} (h : H p = none) : Ex pn H (upd H p o) := fun a u e _ => by
  rw [upd_ne (ne_of_none e h)]
  exact e
theorem Ex.of_same {pn : Pn} {H H' : Hp} (h : Sub H H') : Ex pn H H' := fun a o e _ => h a o e

structure PenOk (H : Hp) (p c : Addr) (n : Nat) : Prop where
  lst : ∃ at_ rest : Int, H p = some (.lst [.ref c, .int at_, .int rest]) ∧ 0 ≤ at_ ∧ at_ ≤ n
  cells : ∃ ns : List Int, H c = some (.lst (ns.map .int)) ∧ ns.length ≤ 12
  ne : p ≠ c
/-- the pen, where there is one, is right, and no frozen thing -/
def Pst (pn : Pn) (G H : Hp) (n : Nat) : Prop := ∀ p c, pn = some (p, c) → PenOk H p c n ∧ G p = none ∧ G c = none

theorem ext_none {G H H' : Hp} {a : Addr} (h : G a = none) (k : H a = none) : ext G H H' a = H' a := by
  unfold ext
  rw [h, k]
theorem ext_some {G H H' : Hp} {a : Addr} {o : HO} (h : G a = some o) : ext G H H' a = some o := by
  unfold ext
  rw [h]
theorem ext_old {G H H' : Hp} {a : Addr} {o : HO} (h : G a = none) (k : H a = some o) : ext G H H' a = none := by
  unfold ext
  rw [h, k]
theorem sub_ext {G H H' : Hp} : Sub G (ext G H H') := fun a o h => ext_some h
theorem ext_sub {pn : Pn} {G H H' : Hp} {n : Nat} (s : Sub G H) (p : Pst pn G H n) (e : Ex pn H H') : Sub (ext G H H') H' := fun a o h => by
  cases g : G a with
  | some u =>
    rw [ext_some g] at h
    cases h
    exact e a _ (s a _ g) fun p' c' q z => by
      have := (p p' c' q).2.1
      rw [← z, g] at this
      cases this
  | none =>
    cases k : H a with
    | some u =>
      rw [ext_old g k] at h
      cases h
    | none =>
      rw [ext_none g k] at h
      exact h
theorem ext_ext {pn : Pn} {G H H1 H2 : Hp} {n m : Nat} (p : Pst pn G H n) (p1 : ∀ p c, pn = some (p, c) → PenOk H1 p c m) (e1 : Ex pn H H1) (e2 : Ex pn H1 H2) : ext (ext G H H1) H1 H2 = ext G H H2 := by
  funext a
  cases g : G a with
  | some u => rw [ext_some (ext_some g), ext_some g]
  | none =>
    cases k : H a with
    | some u =>
      rw [ext_old g k]
      cases k1 : H1 a with
      | some u1 => exact ext_old (ext_old g k) k1
      | none =>
        exfalso
        by_cases hp : ∀ p c, pn = some (p, c) → a ≠ p
        · rw [e1 a u k hp] at k1
          cases k1
        · apply hp
          intro p' c' q z
          obtain ⟨at_, r, h, _⟩ := (p1 p' c' q).lst
          rw [← z, k1] at h
          cases h
    | none =>
      rw [ext_none g k]
      cases k1 : H1 a with
      | some u1 =>
        rw [ext_some (o := u1) (by rw [ext_none g k]; exact k1)]
        refine (e2 a u1 k1 fun p' c' q z => ?_).symm
        obtain ⟨at_, r, h, _⟩ := (p p' c' q).1.lst
        rw [← z, k] at h
        cases h
      | none => rw [ext_none (by rw [ext_none g k]; exact k1) k1]

/-! ### the state of an expression, its end -/
abbrev Env := List (Option D)
abbrev QD := D → Nat → Prop
abbrev TD := Env → Nat → QD → Prop
abbrev TDs := Env → Nat → (List D → Nat → Prop) → Prop
abbrev TDb := Env → Nat → (Bool → Nat → Prop) → Prop

structure At (K : PySem.W.Frag) (pn : Pn) (G H : Hp) (σ : L2.St) (ρ : Env) (n : Nat) : Prop where
  sub : Sub G H
  pst : Pst pn G H n
  env : ∀ (i : Nat) (d : D), ρ[i]? = some (some d) → ∃ v, σ[i]? = some (some v) ∧ Rep K pn G v d
  len : σ.length = ρ.length

/-- what stands behind a step: frozen things grew, the pen may have moved -/
structure Go (pn : Pn) (G H H' : Hp) (n' : Nat) : Prop where
  ex : Ex pn H H'
  pen : ∀ p c, pn = some (p, c) → PenOk H' p c n'
def Post (K : PySem.W.Frag) (pn : Pn) (G H : Hp) (q : QD) : VK := fun v H' => ∃ d n', Go pn G H H' n' ∧ Rep K pn (ext G H H') v d ∧ q d n'
def PostS (K : PySem.W.Frag) (pn : Pn) (G H : Hp) (q : List D → Nat → Prop) : List V → Hp → Prop := fun vs H' => ∃ ds n', Go pn G H H' n' ∧ Reps K pn (ext G H H') vs ds ∧ q ds n'
def PostB (pn : Pn) (G H : Hp) (q : Bool → Nat → Prop) : Bool → Hp → Prop := fun b H' => ∃ n', Go pn G H H' n' ∧ q b n'

theorem Go.refl {pn : Pn} {G H : Hp} {n : Nat} (p : Pst pn G H n) : Go pn G H H n := ⟨Ex.refl pn H, fun a c e => (p a c e).1⟩
theorem Go.of_sub {pn : Pn} {G H H' : Hp} {n : Nat} (p : Pst pn G H n) (s : Sub H H') : Go pn G H H' n := ⟨.of_same s, fun a c e => by
  obtain ⟨⟨⟨x, y, h1, h2⟩, ⟨ns, h3⟩, h4⟩, _⟩ := p a c e
  exact ⟨⟨x, y, s _ _ h1, h2⟩, ⟨ns, s _ _ h3.1, h3.2⟩, h4⟩⟩
theorem Go.new {pn : Pn} {G H : Hp} {n : Nat} {p : Addr} {o : HO} (h : Pst pn G H n) (hp : H p = none) : Go pn G H (upd H p o) n := Go.of_sub h fun a u e => by
  rw [upd_ne (ne_of_none e hp)]
  exact e
theorem Go.trans {pn : Pn} {G G' H H1 H2 : Hp} {n1 n2 : Nat} (a : Go pn G H H1 n1) (b : Go pn G' H1 H2 n2) : Go pn G H H2 n2 := ⟨a.ex.trans b.ex, b.pen⟩
theorem ext_refl {G H : Hp} : ext G H H = G := by
  funext a
  cases g : G a with
  | some u => exact ext_some g
  | none =>
    cases k : H a with
    | some u => exact ext_old g k
    | none => rw [ext_none g k]; exact k
/-- the state behind a step -/
theorem At.go {K : PySem.W.Frag} {pn : Pn} {G H H' : Hp} {σ : L2.St} {ρ : Env} {n n' : Nat} (a : At K pn G H σ ρ n) (g : Go pn G H H' n') : At K pn (ext G H H') H' σ ρ n' := by
  refine ⟨ext_sub a.sub a.pst g.ex, fun p c e => ⟨g.pen p c e, ?_, ?_⟩, fun i d h => ?_, a.len⟩
  · obtain ⟨⟨⟨x, y, h1, _⟩, _, _⟩, h2, _⟩ := a.pst p c e
    exact ext_old h2 h1
  · obtain ⟨⟨_, ⟨ns, h1, _⟩, _⟩, _, h2⟩ := a.pst p c e
    exact ext_old h2 h1
  · obtain ⟨v, h1, h2⟩ := a.env i d h
    exact ⟨v, h1, Rep.mono sub_ext d v h2⟩
theorem At.ext_ext {K : PySem.W.Frag} {pn : Pn} {G H H1 H2 : Hp} {σ : L2.St} {ρ : Env} {n n1 n2 : Nat} {G' : Hp} (a : At K pn G H σ ρ n) (g1 : Go pn G H H1 n1) (g2 : Go pn G' H1 H2 n2) : ext (ext G H H1) H1 H2 = ext G H H2 :=
  DL.ext_ext a.pst g1.pen g1.ex g2.ex
theorem ext_new {G H : Hp} {p : Addr} {o : HO} (s : Sub G H) (h : H p = none) : ext G H (upd H p o) = upd G p o := by
  have gp : G p = none := by
    cases g : G p with
    | none => rfl
    | some u => rw [s _ _ g] at h; cases h
  funext a
  by_cases ha : a = p
  · subst ha
    rw [ext_none gp h, upd_same, upd_same]
  · rw [upd_ne ha]
    cases g : G a with
    | some u => exact ext_some g
    | none =>
      cases k : H a with
      | some u => exact ext_old g k
      | none => rw [ext_none g k, upd_ne ha]; exact k
theorem sub_new {G : Hp} {p : Addr} {o : HO} (h : G p = none) : Sub G (upd G p o) := fun a u e => by
  rw [upd_ne (ne_of_none e h)]
  exact e

/-! ### the judgements -/
def ED (X : Cx) (e : Expr) (T : TD) : Prop := ∃ t, PE X e t ∧ ∀ (σ : L2.St) (H G : Hp) (pn : Pn) (n : Nat) (ρ : Env) (q : QD), At X.K pn G H σ ρ n → T ρ n q →
  ∀ Q : VK, (∀ v H', Post X.K pn G H q v H' → Q v H') → t σ H Q
def BD (X : Cx) (e : Expr) (T : TDb) : Prop := ∃ t, PT X e t ∧ ∀ (σ : L2.St) (H G : Hp) (pn : Pn) (n : Nat) (ρ : Env) (q : Bool → Nat → Prop), At X.K pn G H σ ρ n → T ρ n q →
  ∀ Q : Bool → Hp → Prop, (∀ v H', PostB pn G H q v H' → Q v H') → t σ H Q
def AD (X : Cx) (es : List Expr) (T : TDs) : Prop := ∃ t, PA X es t ∧ ∀ (σ : L2.St) (H G : Hp) (pn : Pn) (n : Nat) (ρ : Env) (q : List D → Nat → Prop), At X.K pn G H σ ρ n → T ρ n q →
  ∀ Q : List V → Hp → Prop, (∀ v H', PostS X.K pn G H q v H' → Q v H') → t σ H Q

section
variable {X : Cx}

/-! ### names, constants -/
def tVarD (i : Nat) : TD := fun ρ n q => ∃ d, ρ[i]? = some (some d) ∧ q d n
theorem ed_var {i : Nat} {e : Expr} (h : PE X e (tVar i)) : ED X e (tVarD i) := by
  refine ⟨_, h, fun σ H G pn n ρ q a ⟨d, e, hq⟩ Q k => ?_⟩
  obtain ⟨v, h1, h2⟩ := a.env i d e
  exact ⟨v, h1, k v H ⟨d, n, Go.refl a.pst, by rw [ext_refl]; exact h2, hq⟩⟩
def tCD (d : D) : TD := fun _ n q => q d n
theorem ed_c {e : Expr} {v : V} {d : D} (h : PE X e (tC v)) (r : ∀ (pn : Pn) (G : Hp), Rep X.K pn G v d) : ED X e (tCD d) :=
  ⟨_, h, fun σ H G pn n ρ q a hq Q k => k v H ⟨d, n, Go.refl a.pst, r pn _, hq⟩⟩
theorem ed_int {i j pos} : ED X (.Constant (.int i) j pos) (tCD (.int i)) := ed_c pe_int fun _ _ => rfl
theorem ed_bl {i j pos} : ED X (.Constant (.bool i) j pos) (tCD (.bl i)) := ed_c pe_bl fun _ _ => rfl
theorem ed_str {i j pos} : ED X (.Constant (.str i) j pos) (tCD (.str i)) := ed_c pe_str fun _ _ => rfl
theorem ed_non {j pos} : ED X (.Constant .none j pos) (tCD .non) := ed_c pe_non fun _ _ => rfl

/-! ### an operation on two values, on one -/
/-- r does on the values what f does on the data -/
def Op2 (X : Cx) (r : R2) (f : D → D → Option D) : Prop := ∀ (G H : Hp) (pn : Pn) (n : Nat) (x y : V) (d e z : D), Sub G H → Pst pn G H n → Rep X.K pn G x d → Rep X.K pn G y e → f d e = some z →
  ∀ Q : VK, (∀ v H', Go pn G H H' n → Rep X.K pn (ext G H H') v z → Q v H') → r x y H Q
def tOpD (f : D → D → Option D) (Ta Tb : TD) : TD := fun ρ n q => Ta ρ n fun x n => Tb ρ n fun y n => ∃ z, f x y = some z ∧ q z n
theorem op2 {e : Expr} {a b : Expr} {Ta Tb : TD} {r : R2} {f : D → D → Option D} (mk : ∀ ta tb, PE X a ta → PE X b tb → PE X e (tOp r ta tb)) (h : Op2 X r f) (ha : ED X a Ta) (hb : ED X b Tb) : ED X e (tOpD f Ta Tb) := by
  obtain ⟨ta, pa, ka⟩ := ha
  obtain ⟨tb, pb, kb⟩ := hb
  refine ⟨_, mk _ _ pa pb, fun σ H G pn n ρ q A hT Q k => ?_⟩
  refine ka σ H G pn n ρ _ A hT _ fun x H1 ⟨d, n1, g1, r1, hT2⟩ => ?_
  have A1 := A.go g1
  refine kb σ H1 _ pn n1 ρ _ A1 hT2 _ fun y H2 ⟨e, n2, g2, r2, z, hz, hq⟩ => ?_
  have A2 := A1.go g2
  refine h _ H2 pn n2 x y d e z A2.sub A2.pst (Rep.mono sub_ext d x r1) r2 hz Q fun v H3 g3 r3 => k v H3 ⟨z, n2, (g1.trans g2).trans g3, ?_, hq⟩
  rw [A1.ext_ext g2 g3, A.ext_ext g1 (g2.trans g3)] at r3
  exact r3
/-- the answer needs no new thing -/
theorem Op2.val {r : R2} {f : D → D → Option D} (h : ∀ (G H : Hp) (pn : Pn) (x y : V) (d e z : D), Sub G H → Rep X.K pn G x d → Rep X.K pn G y e → f d e = some z → ∃ v, Rep X.K pn G v z ∧ ∀ Q : VK, Q v H → r x y H Q) : Op2 X r f :=
  fun G H pn n x y d e z s p r1 r2 hz Q k => by
    obtain ⟨v, r3, q⟩ := h G H pn x y d e z s r1 r2 hz
    exact q Q (k v H (Go.refl p) (by rw [ext_refl]; exact r3))
def orD (f f' : D → D → Option D) : D → D → Option D := fun d e => (f d e).or (f' d e)
theorem Op2.or {r r' : R2} {f f' : D → D → Option D} (h : Op2 X r f) (h' : Op2 X r' f') : Op2 X (fun x y H Q => r x y H Q ∨ r' x y H Q) (orD f f') :=
  fun G H pn n x y d e z s p r1 r2 hz Q k => by
    unfold orD at hz
    cases hf : f d e with
    | some w =>
      rw [hf, Option.some_or] at hz
      obtain rfl := Option.some.inj hz
      exact .inl (h G H pn n x y d e _ s p r1 r2 hf Q k)
    | none =>
      rw [hf, Option.none_or] at hz
      exact .inr (h' G H pn n x y d e z s p r1 r2 hz Q k)
theorem ed_bin {op : Operator} {a b : Expr} {pos : Pos} {Ta Tb : TD} {r : R2} {f : D → D → Option D} (o : OpR X (binaryOp op) r) (h : Op2 X r f) (ha : ED X a Ta) (hb : ED X b Tb) : ED X (.BinOp a op b pos) (tOpD f Ta Tb) :=
  op2 (fun _ _ pa pb => pe_op o pa pb) h ha hb
theorem ed_cmp {op : CmpOp} {a b : Expr} {pos : Pos} {Ta Tb : TD} {r : R2} {f : D → D → Option D} (o : OpR X (compareOp op) r) (hm : behindInMarks op b = false) (h : Op2 X r f) (ha : ED X a Ta) (hb : ED X b Tb) : ED X (.Compare a [op] [b] pos) (tOpD f Ta Tb) :=
  op2 (fun _ _ pa pb => pe_cmpR o pa pb hm) h ha hb
end
end DL
namespace DL
open PySem PySem.Spec PyProof.Rows L2
section
variable {X : Cx}

/-! ### a one-place operation -/
def Op1 (X : Cx) (r : V → Hp → VK → Prop) (f : D → Option D) : Prop := ∀ (G H : Hp) (pn : Pn) (n : Nat) (x : V) (d z : D), Sub G H → Pst pn G H n → Rep X.K pn G x d → f d = some z →
  ∀ Q : VK, (∀ v H', Go pn G H H' n → Rep X.K pn (ext G H H') v z → Q v H') → r x H Q
def tOp1D (f : D → Option D) (Ta : TD) : TD := fun ρ n q => Ta ρ n fun x n => ∃ z, f x = some z ∧ q z n
theorem op1 {e : Expr} {a : Expr} {Ta : TD} {r : V → Hp → VK → Prop} {f : D → Option D} (mk : ∀ ta, PE X a ta → PE X e (tUn r ta)) (h : Op1 X r f) (ha : ED X a Ta) : ED X e (tOp1D f Ta) := by
  obtain ⟨ta, pa, ka⟩ := ha
  refine ⟨_, mk _ pa, fun σ H G pn n ρ q A hT Q k => ?_⟩
  refine ka σ H G pn n ρ _ A hT _ fun x H1 ⟨d, n1, g1, r1, z, hz, hq⟩ => ?_
  have A1 := A.go g1
  refine h _ H1 pn n1 x d z A1.sub A1.pst r1 hz Q fun v H2 g2 r2 => k v H2 ⟨z, n1, g1.trans g2, ?_, hq⟩
  rw [A.ext_ext g1 g2] at r2
  exact r2

/-! ### tests -/
theorem bd_val {e : Expr} {T : TD} (h : ED X e T) (he : ∀ whole, isTrue e X.env whole = (do let v ← whole; standAt e.pos; holding [v] (truthy v)) := by intro _; rfl) :
    BD X e (fun ρ n q => T ρ n fun d n => ∃ b, d = .bl b ∧ q b n) := by
  obtain ⟨t, p, k⟩ := h
  refine ⟨_, pt_val p he, fun σ H G pn n ρ q A hT Q kq => ?_⟩
  refine k σ H G pn n ρ _ A hT _ fun v H1 ⟨d, n1, g1, r1, b, eb, hq⟩ => ?_
  subst eb
  exact ⟨b, r1, kq b H1 ⟨n1, g1, hq⟩⟩
theorem bd_cmp {op : CmpOp} {a b : Expr} {pos : Pos} {Ta Tb : TD} {r : R2} {f : D → D → Option D} (o : OpR X (compareOp op) r) (hm : behindInMarks op b = false) (h : Op2 X r f) (ha : ED X a Ta) (hb : ED X b Tb) :
    BD X (.Compare a [op] [b] pos) (fun ρ n q => tOpD f Ta Tb ρ n fun d n => ∃ b, d = .bl b ∧ q b n) := by
  obtain ⟨ta, pa, ka⟩ := ha
  obtain ⟨tb, pb, kb⟩ := hb
  obtain ⟨t, _, k⟩ := (op2 (X := X) (e := .Compare a [op] [b] pos) (fun _ _ pa pb => pe_cmpR o pa pb hm) h ⟨ta, pa, ka⟩ ⟨tb, pb, kb⟩ : ED X _ _)
  refine ⟨_, pt_cmpR o pa pb hm, fun σ H G pn n ρ q A hT Q kq => ?_⟩
  refine ka σ H G pn n ρ _ A hT _ fun x H1 ⟨d, n1, g1, r1, hT2⟩ => ?_
  have A1 := A.go g1
  refine kb σ H1 _ pn n1 ρ _ A1 hT2 _ fun y H2 ⟨e, n2, g2, r2, z, hz, c, hc, hq⟩ => ?_
  have A2 := A1.go g2
  subst hc
  refine h _ H2 pn n2 x y d e _ A2.sub A2.pst (Rep.mono sub_ext d x r1) r2 hz _ fun v H3 g3 r3 => ⟨c, r3, kq c H3 ⟨n2, (g1.trans g2).trans g3, hq⟩⟩
def bAnd (A B : TDb) : TDb := fun ρ n q => A ρ n fun b n => if b = true then B ρ n q else q false n
def bOr (A B : TDb) : TDb := fun ρ n q => A ρ n fun b n => if b = true then q true n else B ρ n q
def bNot (A : TDb) : TDb := fun ρ n q => A ρ n fun b n => q (!b) n
/-- a test, whatever its whole is -/
def WB (X : Cx) (e : Expr) (T : TDb) : Prop := ∃ t, PW X e t ∧ ∀ (σ : L2.St) (H G : Hp) (pn : Pn) (n : Nat) (ρ : Env) (q : Bool → Nat → Prop), At X.K pn G H σ ρ n → T ρ n q →
  ∀ Q : Bool → Hp → Prop, (∀ v H', PostB pn G H q v H' → Q v H') → t σ H Q
theorem bd_w {e : Expr} {T : TDb} (h : WB X e T) : BD X e T := by
  obtain ⟨t, p, k⟩ := h
  exact ⟨t, p.pt, k⟩
theorem wb_and1 {a : Expr} {pos : Pos} {A : TDb} (h : BD X a A) : WB X (.BoolOp .And [a] pos) A := by
  obtain ⟨t, p, k⟩ := h
  exact ⟨t, pw_and1 p, k⟩
theorem wb_or1 {a : Expr} {pos : Pos} {A : TDb} (h : BD X a A) : WB X (.BoolOp .Or [a] pos) A := by
  obtain ⟨t, p, k⟩ := h
  exact ⟨t, pw_or1 p, k⟩
theorem wb_and {a b : Expr} {rest : List Expr} {pos : Pos} {A B : TDb} (h : BD X a A) (h2 : WB X (.BoolOp .And (b :: rest) pos) B) : WB X (.BoolOp .And (a :: b :: rest) pos) (bAnd A B) := by
  obtain ⟨t, p, k⟩ := h
  obtain ⟨t2, p2, k2⟩ := h2
  refine ⟨_, pw_and p p2, fun σ H G pn n ρ q A hT Q kq => ?_⟩
  refine k σ H G pn n ρ _ A hT _ fun b H1 ⟨n1, g1, hq⟩ => ?_
  have A1 := A.go g1
  cases b with
  | true => exact k2 σ H1 _ pn n1 ρ _ A1 hq Q fun v H2 ⟨n2, g2, hq2⟩ => kq v H2 ⟨n2, g1.trans g2, hq2⟩
  | false => exact kq false H1 ⟨n1, g1, hq⟩
theorem wb_or {a b : Expr} {rest : List Expr} {pos : Pos} {A B : TDb} (h : BD X a A) (h2 : WB X (.BoolOp .Or (b :: rest) pos) B) : WB X (.BoolOp .Or (a :: b :: rest) pos) (bOr A B) := by
  obtain ⟨t, p, k⟩ := h
  obtain ⟨t2, p2, k2⟩ := h2
  refine ⟨_, pw_or p p2, fun σ H G pn n ρ q A hT Q kq => ?_⟩
  refine k σ H G pn n ρ _ A hT _ fun b H1 ⟨n1, g1, hq⟩ => ?_
  have A1 := A.go g1
  cases b with
  | false => exact k2 σ H1 _ pn n1 ρ _ A1 hq Q fun v H2 ⟨n2, g2, hq2⟩ => kq v H2 ⟨n2, g1.trans g2, hq2⟩
  | true => exact kq true H1 ⟨n1, g1, hq⟩
theorem bd_not {a : Expr} {pos : Pos} {A : TDb} (h : BD X a A) : BD X (.UnaryOp .Not a pos) (bNot A) := by
  obtain ⟨t, p, k⟩ := h
  refine ⟨_, pt_not p, fun σ H G pn n ρ q A hT Q kq => ?_⟩
  exact k σ H G pn n ρ _ A hT _ fun b H1 ⟨n1, g1, hq⟩ => kq _ H1 ⟨n1, g1, hq⟩

/-! ### values by tests: and, or, not, if .. else -/
def tAndD (Ta Tb : TD) : TD := fun ρ n q => Ta ρ n fun x n => ∃ b, x = .bl b ∧ if b = true then Tb ρ n q else q (.bl false) n
def tOrD (Ta Tb : TD) : TD := fun ρ n q => Ta ρ n fun x n => ∃ b, x = .bl b ∧ if b = true then q (.bl true) n else Tb ρ n q
def tNotD (Ta : TD) : TD := fun ρ n q => Ta ρ n fun x n => ∃ b, x = .bl b ∧ q (.bl (!b)) n
theorem ed_one {a : Expr} {op pos} {T : TD} (h : ED X a T) : ED X (.BoolOp op [a] pos) T := by
  obtain ⟨t, p, k⟩ := h
  exact ⟨t, pe_one p, k⟩
theorem post_trans {K : PySem.W.Frag} {pn : Pn} {G H H1 H2 : Hp} {σ : L2.St} {ρ : Env} {n n1 : Nat} {q : QD} {v : V} (A : At K pn G H σ ρ n) (g1 : Go pn G H H1 n1) (h : Post K pn (ext G H H1) H1 q v H2) : Post K pn G H q v H2 := by
  obtain ⟨d, n2, g2, r2, hq⟩ := h
  refine ⟨d, n2, g1.trans g2, ?_, hq⟩
  rw [A.ext_ext g1 g2] at r2
  exact r2
theorem ed_and {a b : Expr} {rest : List Expr} {pos : Pos} {Ta Tb : TD} (h : ED X a Ta) (h2 : ED X (.BoolOp .And (b :: rest) pos) Tb) : ED X (.BoolOp .And (a :: b :: rest) pos) (tAndD Ta Tb) := by
  obtain ⟨t, p, k⟩ := h
  obtain ⟨t2, p2, k2⟩ := h2
  refine ⟨_, pe_and p p2, fun σ H G pn n ρ q A hT Q kq => ?_⟩
  refine k σ H G pn n ρ _ A hT _ fun v H1 ⟨d, n1, g1, r1, b, eb, hq⟩ => ?_
  subst eb
  refine ⟨b, r1, ?_⟩
  have A1 := A.go g1
  cases b with
  | true => exact k2 σ H1 _ pn n1 ρ _ A1 hq Q fun v H2 hp => kq v H2 (post_trans A g1 hp)
  | false => exact kq _ H1 ⟨.bl false, n1, g1, rfl, hq⟩
theorem ed_or {a b : Expr} {rest : List Expr} {pos : Pos} {Ta Tb : TD} (h : ED X a Ta) (h2 : ED X (.BoolOp .Or (b :: rest) pos) Tb) : ED X (.BoolOp .Or (a :: b :: rest) pos) (tOrD Ta Tb) := by
  obtain ⟨t, p, k⟩ := h
  obtain ⟨t2, p2, k2⟩ := h2
  refine ⟨_, pe_or p p2, fun σ H G pn n ρ q A hT Q kq => ?_⟩
  refine k σ H G pn n ρ _ A hT _ fun v H1 ⟨d, n1, g1, r1, b, eb, hq⟩ => ?_
  subst eb
  refine ⟨b, r1, ?_⟩
  have A1 := A.go g1
  cases b with
  | false => exact k2 σ H1 _ pn n1 ρ _ A1 hq Q fun v H2 hp => kq v H2 (post_trans A g1 hp)
  | true => exact kq _ H1 ⟨.bl true, n1, g1, rfl, hq⟩
theorem ed_not {a : Expr} {pos : Pos} {Ta : TD} (h : ED X a Ta) : ED X (.UnaryOp .Not a pos) (tNotD Ta) := by
  obtain ⟨t, p, k⟩ := h
  refine ⟨_, pe_not p, fun σ H G pn n ρ q A hT Q kq => ?_⟩
  exact k σ H G pn n ρ _ A hT _ fun v H1 ⟨d, n1, g1, r1, b, e, hq⟩ => by
    subst e
    exact ⟨b, r1, kq _ H1 ⟨.bl (!b), n1, g1, rfl, hq⟩⟩
def tIfD (A : TDb) (Ta Tb : TD) : TD := fun ρ n q => A ρ n fun b n => if b = true then Ta ρ n q else Tb ρ n q
theorem ed_if {c a b : Expr} {pos : Pos} {A : TDb} {Ta Tb : TD} (hc : BD X c A) (ha : ED X a Ta) (hb : ED X b Tb) : ED X (.IfExp c a b pos) (tIfD A Ta Tb) := by
  obtain ⟨t, p, k⟩ := hc
  obtain ⟨t1, p1, k1⟩ := ha
  obtain ⟨t2, p2, k2⟩ := hb
  refine ⟨_, pe_ifExp p p1 p2, fun σ H G pn n ρ q A hT Q kq => ?_⟩
  refine k σ H G pn n ρ _ A hT _ fun b H1 ⟨n1, g1, hq⟩ => ?_
  have A1 := A.go g1
  cases b with
  | true => exact k1 σ H1 _ pn n1 ρ _ A1 hq Q fun v H2 hp => kq v H2 (post_trans A g1 hp)
  | false => exact k2 σ H1 _ pn n1 ρ _ A1 hq Q fun v H2 hp => kq v H2 (post_trans A g1 hp)

/-! ### chains a < b < c -/
def tChainD (f g : D → D → Option D) (Ta Tb Tc : TD) : TD := fun ρ n q => Ta ρ n fun x n => Tb ρ n fun y n => ∃ k, f x y = some (.bl k) ∧ if k = true then Tc ρ n fun z n => ∃ w, g y z = some w ∧ q w n else q (.bl false) n
theorem ed_chain {op op' : CmpOp} {a b c : Expr} {pos : Pos} {Ta Tb Tc : TD} {r r' : R2} {f g : D → D → Option D} (o : OpR X (compareOp op) r) (o' : OpR X (compareOp op') r') (h : Op2 X r f) (h' : Op2 X r' g) (ha : ED X a Ta) (hb : ED X b Tb) (hc : ED X c Tc)
    (hm : lastMarks [op, op'] [b, c] = false := by with_unfolding_all rfl) : ED X (.Compare a [op, op'] [b, c] pos) (tChainD f g Ta Tb Tc) := by
  obtain ⟨ta, pa, ka⟩ := ha
  obtain ⟨tb, pb, kb⟩ := hb
  obtain ⟨tc, pc, kc⟩ := hc
  refine ⟨_, pe_chain o o' pa pb pc hm, fun σ H G pn n ρ q A hT Q k => ?_⟩
  refine ka σ H G pn n ρ _ A hT _ fun x H1 ⟨d, n1, g1, r1, hT2⟩ => ?_
  have A1 := A.go g1
  refine kb σ H1 _ pn n1 ρ _ A1 hT2 _ fun y H2 ⟨e, n2, g2, r2, c, hz, hq⟩ => ?_
  have A2 := A1.go g2
  refine h _ H2 pn n2 x y d e _ A2.sub A2.pst (Rep.mono sub_ext d x r1) r2 hz _ fun v H3 g3 r3 => ⟨c, r3, ?_⟩
  have A3 := A2.go g3
  have g123 := (g1.trans g2).trans g3
  have e2 : ext (ext (ext G H H1) H1 H2) H2 H3 = ext G H H3 := by rw [A1.ext_ext g2 g3, A.ext_ext g1 (g2.trans g3)]
  cases c with
  | false => exact k _ H3 ⟨.bl false, n2, g123, rfl, hq⟩
  | true =>
    refine kc σ H3 _ pn n2 ρ _ A3 hq _ fun w H4 ⟨d4, n4, g4, r4, z, hz4, hq4⟩ => ?_
    have A4 := A3.go g4
    refine h' _ H4 pn n4 y w e d4 z A4.sub A4.pst (Rep.mono sub_ext e y (Rep.mono sub_ext e y r2)) r4 hz4 Q fun v5 H5 g5 r5 => k v5 H5 ⟨z, n4, (g123.trans g4).trans g5, ?_, hq4⟩
    rw [A3.ext_ext g4 g5] at r5
    rw [e2] at r5
    rw [A.ext_ext g123 (g4.trans g5)] at r5
    exact r5

/-! ### arguments, displays -/
def aNil : TDs := fun _ n q => q [] n
def aCons (Ta : TD) (Tr : TDs) : TDs := fun ρ n q => Ta ρ n fun x n => Tr ρ n fun xs n => q (x :: xs) n
theorem ad_nil : AD X [] aNil := ⟨_, pa_nil, fun σ H G pn n ρ q A hT Q k => k [] H ⟨[], n, Go.refl A.pst, rfl, hT⟩⟩
theorem ad_cons {e : Expr} {es : List Expr} {Ta : TD} {Tr : TDs} (h : ED X e Ta) (hr : AD X es Tr) (hs : starEach (e :: es) X.env = (false, eval e X.env) :: starEach es X.env := by rfl) : AD X (e :: es) (aCons Ta Tr) := by
  obtain ⟨t, p, k⟩ := h
  obtain ⟨t2, p2, k2⟩ := hr
  refine ⟨_, pa_cons p p2 hs, fun σ H G pn n ρ q A hT Q kq => ?_⟩
  refine k σ H G pn n ρ _ A hT _ fun v H1 ⟨d, n1, g1, r1, hq⟩ => ?_
  have A1 := A.go g1
  refine k2 σ H1 _ pn n1 ρ _ A1 hq _ fun vs H2 ⟨ds, n2, g2, r2, hq2⟩ => kq _ H2 ⟨d :: ds, n2, g1.trans g2, ?_, hq2⟩
  rw [A.ext_ext g1 g2] at r2
  refine ⟨v, vs, rfl, ?_, r2⟩
  have := Rep.mono (sub_ext (G := ext G H H1) (H := H1) (H' := H2)) d v r1
  rw [A.ext_ext g1 g2] at this
  exact this
def LIM : Nat := 1000000
theorem lim_le {n : Nat} (h : n ≤ LIM) : n ≤ sizeLine := Nat.le_trans h (by decide)
theorem lim_lt {n : Nat} (h : n ≤ LIM) : n < sizeLine := Nat.lt_of_le_of_lt h (by decide)
/-- a new thing is frozen at once -/
theorem ext_upd {pn : Pn} {G H H1 : Hp} {n : Nat} {K : PySem.W.Frag} {σ : L2.St} {ρ : Env} {n1 : Nat} {p : Addr} {o : HO} (A : At K pn G H σ ρ n) (g1 : Go pn G H H1 n1) (hp : H1 p = none) : ext G H (upd H1 p o) = upd (ext G H H1) p o := by
  have A1 := A.go g1
  rw [← A.ext_ext g1 (Go.new A1.pst hp), ext_new A1.sub hp]
theorem upd_sub {G : Hp} {p : Addr} {o : HO} {H : Hp} (s : Sub G H) (hp : H p = none) : Sub G (upd G p o) := sub_new (by
  cases g : G p with
  | none => rfl
  | some u => rw [s _ _ g] at hp; cases hp)
theorem ed_tup {es : List Expr} {x1 : Nat} {pos : Pos} {T : TDs} (h : AD X es T) : ED X (.Tuple es x1 pos) (fun ρ n q => T ρ n fun ds n => ds.length ≤ LIM ∧ q (.tup ds) n) := by
  obtain ⟨t, p, k⟩ := h
  refine ⟨_, pe_tup p, fun σ H G pn n ρ q A hT Q kq => ?_⟩
  refine k σ H G pn n ρ _ A hT _ fun vs H1 ⟨ds, n1, g1, r1, hl, hq⟩ => ⟨lim_le (by rw [Reps.length r1]; exact hl), fun a ha => ?_⟩
  have A1 := A.go g1
  refine kq _ _ ⟨.tup ds, n1, g1.trans (Go.new A1.pst ha), ⟨a, vs, rfl, SqT.of ?_, ?_⟩, hq⟩
  · rw [ext_upd A g1 ha, upd_same]
  · rw [ext_upd A g1 ha]
    exact Reps.mono (upd_sub A1.sub ha) _ _ r1
theorem ed_lst {es : List Expr} {pos : Pos} {T : TDs} (h : AD X es T) : ED X (.List es pos) (fun ρ n q => T ρ n fun ds n => ds.length ≤ LIM ∧ q (.lst ds) n) := by
  obtain ⟨t, p, k⟩ := h
  refine ⟨_, pe_lst p, fun σ H G pn n ρ q A hT Q kq => ?_⟩
  refine k σ H G pn n ρ _ A hT _ fun vs H1 ⟨ds, n1, g1, r1, hl, hq⟩ => ⟨lim_le (by rw [Reps.length r1]; exact hl), fun a ha => ?_⟩
  have A1 := A.go g1
  refine kq _ _ ⟨.lst ds, n1, g1.trans (Go.new A1.pst ha), ⟨a, vs, rfl, ?_, ?_⟩, hq⟩
  · rw [ext_upd A g1 ha, upd_same]
  · rw [ext_upd A g1 ha]
    exact Reps.mono (upd_sub A1.sub ha) _ _ r1

/-! ### a built-in called with values -/
def OpC (X : Cx) (r : List V → Hp → VK → Prop) (f : List D → Option D) : Prop := ∀ (G H : Hp) (pn : Pn) (n : Nat) (xs : List V) (ds : List D) (z : D), Sub G H → Pst pn G H n → Reps X.K pn G xs ds → f ds = some z →
  ∀ Q : VK, (∀ v H', Go pn G H H' n → Rep X.K pn (ext G H H') v z → Q v H') → r xs H Q
def tCallB (f : List D → Option D) (T : TDs) : TD := fun ρ n q => T ρ n fun xs n => ∃ z, f xs = some z ∧ q z n
theorem opc {e : Expr} {es : List Expr} {T : TDs} {r : List V → Hp → VK → Prop} {f : List D → Option D} (mk : ∀ t, PA X es t → PE X e (tCB r t)) (h : OpC X r f) (ha : AD X es T) : ED X e (tCallB f T) := by
  obtain ⟨t, p, k⟩ := ha
  refine ⟨_, mk _ p, fun σ H G pn n ρ q A hT Q kq => ?_⟩
  refine k σ H G pn n ρ _ A hT _ fun xs H1 ⟨ds, n1, g1, r1, z, hz, hq⟩ => ?_
  have A1 := A.go g1
  refine h _ H1 pn n1 xs ds z A1.sub A1.pst r1 hz Q fun v H2 g2 r2 => kq v H2 ⟨z, n1, g1.trans g2, ?_, hq⟩
  rw [A.ext_ext g1 g2] at r2
  exact r2
theorem OpC.val {r : List V → Hp → VK → Prop} {f : List D → Option D} (h : ∀ (G H : Hp) (pn : Pn) (xs : List V) (ds : List D) (z : D), Sub G H → Reps X.K pn G xs ds → f ds = some z → ∃ v, Rep X.K pn G v z ∧ ∀ Q : VK, Q v H → r xs H Q) : OpC X r f :=
  fun G H pn n xs ds z s p r1 hz Q k => by
    obtain ⟨v, r3, q⟩ := h G H pn xs ds z s r1 hz
    exact q Q (k v H (Go.refl p) (by rw [ext_refl]; exact r3))
theorem OpC.lst {r : List V → Hp → VK → Prop} {f : List D → Option D} (h : ∀ (G H : Hp) (pn : Pn) (xs : List V) (ds : List D) (z : D), Sub G H → Reps X.K pn G xs ds → f ds = some z → ∃ vs es, z = .lst es ∧ Reps X.K pn G vs es ∧ ∀ Q : VK, (∀ p, H p = none → Q (.ref p) (upd H p (.lst vs))) → r xs H Q) : OpC X r f :=
  fun G H pn n xs ds z s p r1 hz Q k => by
    obtain ⟨vs, es, rfl, r3, q⟩ := h G H pn xs ds z s r1 hz
    refine q Q fun a ha => k _ _ (Go.new p ha) ⟨a, vs, rfl, ?_, ?_⟩
    · rw [ext_new s ha, upd_same]
    · rw [ext_new s ha]
      exact Reps.mono (upd_sub s ha) _ _ r3
theorem OpC.tup {r : List V → Hp → VK → Prop} {f : List D → Option D} (h : ∀ (G H : Hp) (pn : Pn) (xs : List V) (ds : List D) (z : D), Sub G H → Reps X.K pn G xs ds → f ds = some z → ∃ vs es, z = .tup es ∧ Reps X.K pn G vs es ∧ ∀ Q : VK, (∀ p, H p = none → Q (.ref p) (upd H p (.tup vs))) → r xs H Q) : OpC X r f :=
  fun G H pn n xs ds z s p r1 hz Q k => by
    obtain ⟨vs, es, rfl, r3, q⟩ := h G H pn xs ds z s r1 hz
    refine q Q fun a ha => k _ _ (Go.new p ha) ⟨a, vs, rfl, SqT.of ?_, ?_⟩
    · rw [ext_new s ha, upd_same]
    · rw [ext_new s ha]
      exact Reps.mono (upd_sub s ha) _ _ r3
end
end DL
namespace DL
open PySem PySem.Spec PyProof.Rows L2

mutual
def toPy : D → PyData
  | .non => .none
  | .bl b => .bool b
  | .int i => .int i
  | .str x => .str x
  | .tup ds => .tuple (toPys ds)
  | .lst ds => .list (toPys ds)
  | .dct kvs => .dict []
  | .pen => .dict []
  | .scr _ => .dict []
def toPys : List D → List PyData
  | [] => []
  | d :: ds => toPy d :: toPys ds
end
/-- neither a dict nor the pen within -/
def okD (d : D) : Bool := SeqAt.shaped (toPy d)
mutual
theorem Rep.dp {K : PySem.W.Frag} {pn : Pn} {G : Hp} : ∀ (d : D) (v : V), (toPy d).canLay0 = true → Rep K pn G v d → Dp K G v (toPy d)
  | .non, v, _, h => by rw [show v = .non from h]; exact .non
  | .bl b, v, _, h => by rw [show v = .bl b from h]; exact .bl b
  | .int i, v, _, h => by rw [show v = .int i from h]; exact .int i
  | .str x, v, _, h => by rw [show v = .str x from h]; exact .str x
  | .tup ds, v, c, h => by
    obtain ⟨a, vs, rfl, h1, h2⟩ := h
    exact .tup h1 (Reps.dp ds vs (by simpa [toPy, PyData.canLay0] using c) h2)
  | .lst ds, v, c, h => by
    obtain ⟨a, vs, rfl, h1, h2⟩ := h
    exact .lst (SqL.of h1) (Reps.dp ds vs (by simpa [toPy, PyData.canLay0] using c) h2)
  | .dct kvs, v, c, h => by simp [toPy, PyData.canLay0] at c
  | .pen, v, c, h => by simp [toPy, PyData.canLay0] at c
  | .scr ns, v, c, h => by simp [toPy, PyData.canLay0] at c
theorem Reps.dp {K : PySem.W.Frag} {pn : Pn} {G : Hp} : ∀ (ds : List D) (vs : List V), PyData.canLayAll0 (toPys ds) = true → Reps K pn G vs ds → DpAll K G vs (toPys ds)
  | [], vs, _, h => by rw [show vs = [] from h]; exact .nil
  | d :: ds, vs, c, h => by
    obtain ⟨v, r, rfl, h1, h2⟩ := h
    have c' : (toPy d).canLay0 = true ∧ PyData.canLayAll0 (toPys ds) = true := by simpa [toPys, PyData.canLayAll0] using c
    exact .cons (Rep.dp d v c'.1 h1) (Reps.dp ds r c'.2 h2)
end
mutual
theorem Dp.sub {K : PySem.W.Frag} {G H : Hp} (s : Sub G H) : ∀ (e : PyData) (v : V), Dp K G v e → Dp K H v e
  | _, _, .non => .non
  | _, _, .bl b => .bl b
  | _, _, .int i => .int i
  | _, _, .str x => .str x
  | _, _, .lst h a => .lst (s.sqL h) (DpAll.sub s _ _ a)
  | _, _, .tup h a => .tup (s.sqT h) (DpAll.sub s _ _ a)
theorem DpAll.sub {K : PySem.W.Frag} {G H : Hp} (s : Sub G H) : ∀ (e : List PyData) (v : List V), DpAll K G v e → DpAll K H v e
  | _, _, .nil => .nil
  | _, _, .cons a b => .cons (Dp.sub s _ _ a) (DpAll.sub s _ _ b)
end
theorem canLay_of_ok {d : D} (h : okD d = true) : (toPy d).canLay0 = true := SeqAt.canLay_of_shaped h

section
variable {X : Cx}
/-! ### == and != of data -/
def strB (d e : D) : Option Bool := match d, e with
  | .str x, .str y => some (decide (x = y))
  | _, _ => none
def eqD (d e : D) : Option D := if okD d && okD e then some (.bl (PyData.eqv (toPy d) (toPy e))) else (strB d e).map D.bl
def neD (d e : D) : Option D := if okD d && okD e then some (.bl (!PyData.eqv (toPy d) (toPy e))) else (strB d e).map fun b => .bl (!b)
theorem strB_get {d e : D} {b : Bool} (h : strB d e = some b) : ∃ x y, d = .str x ∧ e = .str y ∧ b = decide (x = y) := by
  unfold strB at h
  split at h
  · cases h
    exact ⟨_, _, rfl, rfl, rfl⟩
  · cases h
theorem dec_str {x y : Str} : decide (V.str x = V.str y) = decide (x = y) := by
  by_cases h : x = y <;> simp [h]
theorem o2_eq : Op2 X (fun x y H Q => rEqD X.K x y H Q ∨ rEq x y H Q) eqD := .val fun G H pn x y d e z s r1 r2 hz => by
  unfold eqD at hz
  split at hz
  · rename_i c
    cases hz
    simp only [Bool.and_eq_true] at c
    exact ⟨_, rfl, fun Q q => .inl ⟨toPy d, toPy e, Dp.sub s _ _ (Rep.dp d x (canLay_of_ok c.1) r1), Dp.sub s _ _ (Rep.dp e y (canLay_of_ok c.2) r2), c.1, c.2, q⟩⟩
  · obtain ⟨b, hb, rfl⟩ := Option.map_eq_some_iff.mp hz
    obtain ⟨u, v, rfl, rfl, rfl⟩ := strB_get hb
    obtain rfl : x = .str u := r1
    obtain rfl : y = .str v := r2
    exact ⟨_, rfl, fun Q q => .inr ⟨rfl, by rw [dec_str]; exact q⟩⟩
theorem o2_ne : Op2 X (fun x y H Q => rNeD X.K x y H Q ∨ rNe x y H Q) neD := .val fun G H pn x y d e z s r1 r2 hz => by
  unfold neD at hz
  split at hz
  · rename_i c
    cases hz
    simp only [Bool.and_eq_true] at c
    exact ⟨_, rfl, fun Q q => .inl ⟨toPy d, toPy e, Dp.sub s _ _ (Rep.dp d x (canLay_of_ok c.1) r1), Dp.sub s _ _ (Rep.dp e y (canLay_of_ok c.2) r2), c.1, c.2, q⟩⟩
  · obtain ⟨b, hb, rfl⟩ := Option.map_eq_some_iff.mp hz
    obtain ⟨u, v, rfl, rfl, rfl⟩ := strB_get hb
    obtain rfl : x = .str u := r1
    obtain rfl : y = .str v := r2
    exact ⟨_, rfl, fun Q q => .inr ⟨rfl, by rw [dec_str]; exact q⟩⟩
/-! ### order of ints -/
def cmpI (p : Int → Int → Bool) : D → D → Option D
  | .int i, .int j => some (.bl (p i j))
  | _, _ => none
theorem rep_int {K : PySem.W.Frag} {pn : Pn} {G : Hp} {v : V} {i : Int} (h : Rep K pn G v (.int i)) : v = .int i := h
theorem o2_cmpI {p : Int → Int → Bool} : Op2 X (rI0 fun i j => .bl (p i j)) (cmpI p) := .val fun G H pn x y d e z s r1 r2 hz => by
  cases d <;> cases e <;> simp only [cmpI, Option.some.injEq, reduceCtorEq] at hz
  subst hz
  exact ⟨_, rfl, fun Q q => ⟨_, _, r1, r2, q⟩⟩
def ltD : D → D → Option D := cmpI fun i j => decide (i < j)
def leD : D → D → Option D := cmpI fun i j => decide (i ≤ j)
def gtD : D → D → Option D := cmpI fun i j => decide (j < i)
def geD : D → D → Option D := cmpI fun i j => decide (j ≤ i)
/-! ### is None -/
def isN : D → Bool
  | .non => true
  | _ => false
theorem rep_isN {K : PySem.W.Frag} {pn : Pn} {G : Hp} {v : V} : ∀ {d : D}, Rep K pn G v d → decide (v = .non) = isN d
  | .non, h => by rw [show v = .non from h]; rfl
  | .bl b, h => by rw [show v = .bl b from h]; rfl
  | .int b, h => by rw [show v = .int b from h]; rfl
  | .str b, h => by rw [show v = .str b from h]; rfl
  | .tup b, h => by obtain ⟨a, vs, rfl, _⟩ := h; rfl
  | .lst b, h => by obtain ⟨a, vs, rfl, _⟩ := h; rfl
  | .dct b, h => by obtain ⟨a, vs, rfl, _⟩ := h; rfl
  | .pen, h => by obtain ⟨a, vs, _, rfl⟩ := h; rfl
  | .scr ns, h => by obtain ⟨a, rfl, _⟩ := h; rfl
def isD : D → D → Option D
  | d, .non => some (.bl (isN d))
  | _, _ => none
def notD : D → D → Option D
  | d, .non => some (.bl (!isN d))
  | _, _ => none
theorem o2_is : Op2 X (fun x y H Q => y = .non ∧ Q (.bl (decide (x = .non))) H) isD := .val fun G H pn x y d e z s r1 r2 hz => by
  cases e <;> simp only [isD, Option.some.injEq, reduceCtorEq] at hz
  subst hz
  exact ⟨_, rfl, fun Q q => ⟨r2, by rw [rep_isN r1]; exact q⟩⟩
theorem o2_not : Op2 X (fun x y H Q => y = .non ∧ Q (.bl (!decide (x = .non))) H) notD := .val fun G H pn x y d e z s r1 r2 hz => by
  cases e <;> simp only [notD, Option.some.injEq, reduceCtorEq] at hz
  subst hz
  exact ⟨_, rfl, fun Q q => ⟨r2, by rw [rep_isN r1]; exact q⟩⟩
/-! ### in, not in, of flat things -/
def toV : D → V
  | .bl b => .bl b
  | .int i => .int i
  | .str x => .str x
  | _ => .non
def flatD : D → Bool
  | .non | .bl _ | .int _ | .str _ => true
  | _ => false
theorem rep_flat {K : PySem.W.Frag} {pn : Pn} {G : Hp} {v : V} : ∀ {d : D}, flatD d = true → Rep K pn G v d → v = toV d ∧ flatV v = true
  | .non, _, h => by rw [show v = .non from h]; exact ⟨rfl, rfl⟩
  | .bl b, _, h => by rw [show v = .bl b from h]; exact ⟨rfl, rfl⟩
  | .int b, _, h => by rw [show v = .int b from h]; exact ⟨rfl, rfl⟩
  | .str b, _, h => by rw [show v = .str b from h]; exact ⟨rfl, rfl⟩
theorem reps_flat {K : PySem.W.Frag} {pn : Pn} {G : Hp} : ∀ {ds : List D} {vs : List V}, ds.all flatD = true → Reps K pn G vs ds → vs = ds.map toV ∧ vs.all flatV = true
  | [], vs, _, h => by rw [show vs = [] from h]; exact ⟨rfl, rfl⟩
  | d :: ds, vs, c, h => by
    obtain ⟨v, r, rfl, h1, h2⟩ := h
    simp only [List.all_cons, Bool.and_eq_true] at c
    obtain ⟨e1, f1⟩ := rep_flat c.1 h1
    obtain ⟨e2, f2⟩ := reps_flat c.2 h2
    exact ⟨by rw [List.map_cons, ← e1, ← e2], by rw [List.all_cons, f1, f2]; rfl⟩
def inDs (x : D) (ds : List D) : Bool := inV (toV x) (ds.map toV)
def inD (neg : Bool) : D → D → Option D
  | x, .tup ds => if flatD x && ds.all flatD then some (.bl (if neg then !inDs x ds else inDs x ds)) else none
  | x, .lst ds => if flatD x && ds.all flatD then some (.bl (if neg then !inDs x ds else inDs x ds)) else none
  | _, _ => none
theorem o2_in {neg : Bool} : Op2 X (rIn X.K neg) (inD neg) := .val fun G H pn x y d e z s r1 r2 hz => by
  cases e with
  | tup ds =>
    simp only [inD] at hz
    split at hz
    · rename_i c
      cases hz
      simp only [Bool.and_eq_true] at c
      obtain ⟨a, vs, rfl, h1, h2⟩ := r2
      obtain ⟨e1, f1⟩ := rep_flat c.1 r1
      obtain ⟨e2, f2⟩ := reps_flat c.2 h2
      exact ⟨_, rfl, fun Q q => ⟨a, vs, rfl, .inr (s.sqT h1), f1, f2, by rw [e1, e2]; exact q⟩⟩
    · cases hz
  | lst ds =>
    simp only [inD] at hz
    split at hz
    · rename_i c
      cases hz
      simp only [Bool.and_eq_true] at c
      obtain ⟨a, vs, rfl, h1, h2⟩ := r2
      obtain ⟨e1, f1⟩ := rep_flat c.1 r1
      obtain ⟨e2, f2⟩ := reps_flat c.2 h2
      exact ⟨_, rfl, fun Q q => ⟨a, vs, rfl, .inl (SqL.of (s _ _ h1)), f1, f2, by rw [e1, e2]; exact q⟩⟩
    · cases hz
  | _ => cases hz
/-! ### sums: ints, tuples, lists -/
def arI (p : Int → Int → Int) : D → D → Option D
  | .int i, .int j => some (.int (p i j))
  | _, _ => none
def arC (C : Int → Int → Bool) (p : Int → Int → Int) : D → D → Option D
  | .int i, .int j => if C i j then some (.int (p i j)) else none
  | _, _ => none
theorem o2_arI {p : Int → Int → Int} : Op2 X (rI0 fun i j => .int (p i j)) (arI p) := .val fun G H pn x y d e z s r1 r2 hz => by
  cases d <;> cases e <;> simp only [arI, Option.some.injEq, reduceCtorEq] at hz
  subst hz
  exact ⟨_, rfl, fun Q q => ⟨_, _, r1, r2, q⟩⟩
theorem o2_arC {R : Int → Int → Prop} {C : Int → Int → Bool} {p : Int → Int → Int} (h : ∀ i j, C i j = true → R i j) : Op2 X (rI R fun i j => .int (p i j)) (arC C p) := .val fun G H pn x y d e z s r1 r2 hz => by
  cases d <;> cases e <;> simp only [arC, reduceCtorEq] at hz
  split at hz
  · rename_i c
    cases hz
    exact ⟨_, rfl, fun Q q => ⟨_, _, r1, r2, h _ _ c, q⟩⟩
  · cases hz
def catT : D → D → Option D
  | .tup xs, .tup ys => if xs.length + ys.length ≤ LIM then some (.tup (xs ++ ys)) else none
  | _, _ => none
def catL : D → D → Option D
  | .lst xs, .lst ys => if xs.length + ys.length ≤ LIM then some (.lst (xs ++ ys)) else none
  | _, _ => none
theorem o2_catT : Op2 X (rCatA X.K) catT := fun G H pn n x y d e z s p r1 r2 hz Q k => by
  cases d <;> cases e <;> simp only [catT, reduceCtorEq] at hz
  split at hz
  · rename_i c
    cases hz
    obtain ⟨a, vs, rfl, h1, h2⟩ := r1
    obtain ⟨b, ws, rfl, h3, h4⟩ := r2
    have l1 := Reps.length h2
    have l2 := Reps.length h4
    refine ⟨a, b, vs, ws, rfl, rfl, s.sqT h1, s.sqT h3, lim_le (by rw [l1, l2]; exact c), fun e => ?_, fun e e' => ?_, fun e e' q hq => ?_⟩
    · subst e
      rename_i xs ys
      have : xs = [] := List.eq_nil_of_length_eq_zero (by rw [← l1]; rfl)
      subst this
      exact k _ _ (Go.refl p) (by rw [ext_refl]; exact ⟨b, ws, rfl, h3, h4⟩)
    · subst e'
      rename_i xs ys
      have : ys = [] := List.eq_nil_of_length_eq_zero (by rw [← l2]; rfl)
      subst this
      exact k _ _ (Go.refl p) (by rw [ext_refl, List.append_nil]; exact ⟨a, vs, rfl, h1, h2⟩)
    · refine k _ _ (Go.new p hq) ⟨q, vs ++ ws, rfl, SqT.of ?_, ?_⟩
      · rw [ext_new s hq, upd_same]
      · rw [ext_new s hq]
        exact Reps.mono (upd_sub s hq) _ _ (Reps.append h2 h4)
  · cases hz
theorem o2_catL : Op2 X rCat catL := fun G H pn n x y d e z s p r1 r2 hz Q k => by
  cases d <;> cases e <;> simp only [catL, reduceCtorEq] at hz
  split at hz
  · rename_i c
    cases hz
    obtain ⟨a, vs, rfl, h1, h2⟩ := r1
    obtain ⟨b, ws, rfl, h3, h4⟩ := r2
    have l1 := Reps.length h2
    have l2 := Reps.length h4
    refine ⟨a, b, vs, ws, rfl, rfl, s _ _ h1, s _ _ h3, lim_le (by rw [l1, l2]; exact c), fun q hq => ?_⟩
    refine k _ _ (Go.new p hq) ⟨q, vs ++ ws, rfl, ?_, ?_⟩
    · rw [ext_new s hq, upd_same]
    · rw [ext_new s hq]
      exact Reps.mono (upd_sub s hq) _ _ (Reps.append h2 h4)
  · cases hz
def addD : D → D → Option D := orD (arI fun i j => i + j) (orD catT catL)
theorem ed_add {a b : Expr} {pos : Pos} {Ta Tb : TD} (ha : ED X a Ta) (hb : ED X b Tb) : ED X (.BinOp a .Add b pos) (tOpD addD Ta Tb) :=
  ed_bin (op_add.or (op_catA.or op_cat)) (o2_arI.or (o2_catT.or o2_catL)) ha hb
def subD : D → D → Option D := arI fun i j => i - j
theorem ed_sub {a b : Expr} {pos : Pos} {Ta Tb : TD} (ha : ED X a Ta) (hb : ED X b Tb) : ED X (.BinOp a .Sub b pos) (tOpD subD Ta Tb) := ed_bin op_sub o2_arI ha hb
def modD : D → D → Option D := arC (fun _ j => decide (j ≠ 0)) fun i j => i.fmod j
theorem ed_mod {a b : Expr} {pos : Pos} {Ta Tb : TD} (ha : ED X a Ta) (hb : ED X b Tb) : ED X (.BinOp a .Mod b pos) (tOpD modD Ta Tb) := ed_bin op_modN (o2_arC fun _ _ h => of_decide_eq_true h) ha hb
def fdivD : D → D → Option D := arC (fun _ j => decide (0 < j ∧ j < 1073741824)) fun i j => i / j
theorem ed_fdiv {a b : Expr} {pos : Pos} {Ta Tb : TD} (ha : ED X a Ta) (hb : ED X b Tb) : ED X (.BinOp a .FloorDiv b pos) (tOpD fdivD Ta Tb) := ed_bin op_fdiv (o2_arC fun i j h => show 0 < j ∧ j < 1073741824 from of_decide_eq_true h) ha hb
def powD : D → D → Option D := arC (fun i j => decide (0 ≤ j ∧ j ≤ 1000000 ∧ i.natAbs < 2 ^ 64)) fun i j => i ^ j.toNat
theorem ed_pow {a b : Expr} {pos : Pos} {Ta Tb : TD} (ha : ED X a Ta) (hb : ED X b Tb) : ED X (.BinOp a .Pow b pos) (tOpD powD Ta Tb) := ed_bin op_pow (o2_arC fun i j h => show 0 ≤ j ∧ j ≤ 1000000 ∧ i.natAbs < 2 ^ 64 from of_decide_eq_true h) ha hb
def mulID : D → D → Option D := arC (fun i j => decide ((-(2 ^ 64) < i ∧ i < 2 ^ 64) ∨ (-(2 ^ 64) < j ∧ j < 2 ^ 64))) fun i j => i * j
theorem ed_mulI {a b : Expr} {pos : Pos} {Ta Tb : TD} (ha : ED X a Ta) (hb : ED X b Tb) : ED X (.BinOp a .Mult b pos) (tOpD mulID Ta Tb) := ed_bin op_mul (o2_arC fun i j h => show (-(2 ^ 64) < i ∧ i < 2 ^ 64) ∨ (-(2 ^ 64) < j ∧ j < 2 ^ 64) from of_decide_eq_true h) ha hb
def negD : D → Option D
  | .int i => some (.int (-i))
  | _ => none
theorem ed_neg {a : Expr} {pos : Pos} {Ta : TD} (ha : ED X a Ta) : ED X (.UnaryOp .USub a pos) (tOp1D negD Ta) := op1 (fun _ p => pe_un un_neg p) (fun G H pn n x d z s p r hz Q k => by
  cases d <;> simp only [negD, Option.some.injEq, reduceCtorEq] at hz
  subst hz
  exact ⟨_, r, k _ _ (Go.refl p) rfl⟩) ha

/-! ### comparisons as values -/
theorem ed_lt {a b : Expr} {pos : Pos} {Ta Tb : TD} (ha : ED X a Ta) (hb : ED X b Tb) : ED X (.Compare a [.Lt] [b] pos) (tOpD ltD Ta Tb) := ed_cmp op_lt (nomark _) o2_cmpI ha hb
theorem ed_le {a b : Expr} {pos : Pos} {Ta Tb : TD} (ha : ED X a Ta) (hb : ED X b Tb) : ED X (.Compare a [.LtE] [b] pos) (tOpD leD Ta Tb) := ed_cmp op_le (nomark _) o2_cmpI ha hb
theorem ed_gt {a b : Expr} {pos : Pos} {Ta Tb : TD} (ha : ED X a Ta) (hb : ED X b Tb) : ED X (.Compare a [.Gt] [b] pos) (tOpD gtD Ta Tb) := ed_cmp op_gt (nomark _) o2_cmpI ha hb
theorem ed_ge {a b : Expr} {pos : Pos} {Ta Tb : TD} (ha : ED X a Ta) (hb : ED X b Tb) : ED X (.Compare a [.GtE] [b] pos) (tOpD geD Ta Tb) := ed_cmp op_ge (nomark _) o2_cmpI ha hb
theorem ed_eq {k : Nat} (hr : Room k X.A) {a b : Expr} {pos : Pos} {Ta Tb : TD} (ha : ED X a Ta) (hb : ED X b Tb) : ED X (.Compare a [.Eq] [b] pos) (tOpD eqD Ta Tb) := ed_cmp ((op_eqD hr.units).or op_eq) (nomark _) o2_eq ha hb
theorem ed_ne {k : Nat} (hr : Room k X.A) {a b : Expr} {pos : Pos} {Ta Tb : TD} (ha : ED X a Ta) (hb : ED X b Tb) : ED X (.Compare a [.NotEq] [b] pos) (tOpD neD Ta Tb) := ed_cmp ((op_neD hr.units).or op_ne) (nomark _) o2_ne ha hb
theorem ed_is {a b : Expr} {pos : Pos} {Ta Tb : TD} (ha : ED X a Ta) (hb : ED X b Tb) : ED X (.Compare a [.Is] [b] pos) (tOpD isD Ta Tb) := ed_cmp op_isN (nomark _) o2_is ha hb
theorem ed_isnot {a b : Expr} {pos : Pos} {Ta Tb : TD} (ha : ED X a Ta) (hb : ED X b Tb) : ED X (.Compare a [.IsNot] [b] pos) (tOpD notD Ta Tb) := ed_cmp op_notN (nomark _) o2_not ha hb
theorem ed_in {a b : Expr} {pos : Pos} {Ta Tb : TD} (ha : ED X a Ta) (hb : ED X b Tb) (hm : behindInMarks .In b = false := by rfl) : ED X (.Compare a [.In] [b] pos) (tOpD (inD false) Ta Tb) := ed_cmp op_in_seq hm o2_in ha hb
theorem ed_notin {a b : Expr} {pos : Pos} {Ta Tb : TD} (ha : ED X a Ta) (hb : ED X b Tb) (hm : behindInMarks .NotIn b = false := by rfl) : ED X (.Compare a [.NotIn] [b] pos) (tOpD (inD true) Ta Tb) := ed_cmp op_notIn_seq hm o2_in ha hb

/-! ### items, slices -/
def ixD : D → D → Option D
  | .tup ds, .int i => atI ds i
  | .lst ds, .int i => atI ds i
  | _, _ => none
theorem Reps.at {K : PySem.W.Frag} {pn : Pn} {G : Hp} {ds : List D} {vs : List V} {i : Int} {d : D} (h : Reps K pn G vs ds) (e : atI ds i = some d) : ∃ v, atI vs i = some v ∧ Rep K pn G v d := by
  unfold atI at e ⊢
  rw [Reps.length h]
  cases hx : ixN ds.length i with
  | none => rw [hx] at e; cases e
  | some j =>
    rw [hx] at e
    exact Reps.get h e
theorem o2_ix : Op2 X (rIx X.K) ixD := .val fun G H pn x y d e z s r1 r2 hz => by
  cases d <;> cases e <;> simp only [ixD, reduceCtorEq] at hz
  · obtain ⟨a, vs, rfl, h1, h2⟩ := r1
    obtain ⟨v, h3, h4⟩ := Reps.at h2 hz
    exact ⟨v, h4, fun Q q => .inr (.inl ⟨a, vs, _, v, rfl, r2, s.sqT h1, h3, q⟩)⟩
  · obtain ⟨a, vs, rfl, h1, h2⟩ := r1
    obtain ⟨v, h3, h4⟩ := Reps.at h2 hz
    exact ⟨v, h4, fun Q q => .inl ⟨a, vs, _, v, rfl, r2, SqL.of (s _ _ h1), h3, q⟩⟩
theorem ed_ix {a b : Expr} {pos : Pos} {Ta Tb : TD} (ha : ED X a Ta) (hb : ED X b Tb) (hs : PlainIx b := by exact fun _ _ => rfl) : ED X (.Subscript a b pos) (tOpD ixD Ta Tb) := op2 (fun _ _ pa pb => pe_ix ix_seq pa pb hs) o2_ix ha hb

abbrev TDo := Env → Nat → (Option Int → Nat → Prop) → Prop
def OD (X : Cx) (e : Option Expr) (T : TDo) : Prop := ∃ t, PO X e t ∧ ∀ (σ : L2.St) (H G : Hp) (pn : Pn) (n : Nat) (ρ : Env) (q : Option Int → Nat → Prop), At X.K pn G H σ ρ n → T ρ n q →
  ∀ Q : Option Int → Hp → Prop, (∀ o H' n', Go pn G H H' n' → q o n' → Q o H') → t σ H Q
def oNone : TDo := fun _ n q => q none n
def oSome (T : TD) : TDo := fun ρ n q => T ρ n fun d n => ∃ i, d = .int i ∧ q (some i) n
theorem od_none : OD X none oNone := ⟨_, po_none, fun σ H G pn n ρ q A hT Q k => k none H n (Go.refl A.pst) hT⟩
theorem od_some {e : Expr} {T : TD} (h : ED X e T) : OD X (some e) (oSome T) := by
  obtain ⟨t, p, k⟩ := h
  refine ⟨_, po_some p, fun σ H G pn n ρ q A hT Q kq => ?_⟩
  refine k σ H G pn n ρ _ A hT _ fun v H1 ⟨d, n1, g1, r1, i, e, hq⟩ => ?_
  subst e
  exact ⟨i, r1, kq _ H1 n1 g1 hq⟩
def cutL {α : Type} (xs : List α) (lo hi : Option Int) : List α := (xs.drop (HT.sIx xs.length 0 lo)).take (HT.sIx xs.length xs.length hi - HT.sIx xs.length 0 lo)
def cutD : D → Option Int → Option Int → Option D
  | .tup ds, lo, hi => some (.tup (cutL ds lo hi))
  | .lst ds, lo, hi => some (.lst (cutL ds lo hi))
  | .scr ns, lo, hi => some (.lst (cutL (ns.map D.int) lo hi))
  | _, _, _ => none
theorem Reps.cut {K : PySem.W.Frag} {pn : Pn} {G : Hp} {ds : List D} {vs : List V} (h : Reps K pn G vs ds) (lo hi : Option Int) : Reps K pn G (cutV vs lo hi) (cutL ds lo hi) := by
  unfold cutV cutL
  rw [Reps.length h]
  exact Reps.take _ (Reps.drop _ h)
def tSlD (Ta : TD) (Tl Th : TDo) : TD := fun ρ n q => Ta ρ n fun x n => Tl ρ n fun l n => Th ρ n fun u n => ∃ z, cutD x l u = some z ∧ q z n
theorem ed_slice {e : Expr} {lo hi : Option Expr} {p2 pos : Pos} {Ta : TD} {Tl Th : TDo} (h : ED X e Ta) (hl : OD X lo Tl) (hh : OD X hi Th) : ED X (.Subscript e (.Slice lo hi none p2) pos) (tSlD Ta Tl Th) := by
  obtain ⟨t, p, k⟩ := h
  obtain ⟨t1, p1, k1⟩ := hl
  obtain ⟨t2, p2', k2⟩ := hh
  refine ⟨_, pe_slice (sl_list.or sl_tupA) p p1 p2', fun σ H G pn n ρ q A hT Q kq => ?_⟩
  refine k σ H G pn n ρ _ A hT _ fun v H1 ⟨d, n1, g1, r1, hq1⟩ => ?_
  have A1 := A.go g1
  refine k1 σ H1 _ pn n1 ρ _ A1 hq1 _ fun l H2 n2 g2 hq2 => ?_
  have A2 := A1.go g2
  refine k2 σ H2 _ pn n2 ρ _ A2 hq2 _ fun u H3 n3 g3 ⟨z, hz, hq3⟩ => ?_
  have A3 := A2.go g3
  have g123 := (g1.trans g2).trans g3
  have e3 : ext (ext (ext G H H1) H1 H2) H2 H3 = ext G H H3 := by rw [A1.ext_ext g2 g3, A.ext_ext g1 (g2.trans g3)]
  have r3 := Rep.mono (sub_ext (G := ext (ext G H H1) H1 H2) (H := H2) (H' := H3)) d v (Rep.mono sub_ext d v r1)
  rw [e3] at r3 A3
  cases d with
  | tup ds =>
    obtain rfl := Option.some.inj hz
    obtain ⟨a, vs, rfl, h1, h2⟩ := r3
    refine .inr ⟨a, vs, rfl, A3.sub.sqT h1, fun w => ?_, fun w p hp => ?_⟩
    · refine kq _ _ ⟨.tup (cutL ds l u), n3, g123, ⟨a, vs, rfl, h1, ?_⟩, hq3⟩
      have := Reps.cut h2 l u
      rw [show cutV vs l u = vs by unfold cutV; rw [w.1, w.2]; simp] at this
      exact this
    · refine kq _ _ ⟨.tup (cutL ds l u), n3, g123.trans (Go.new A3.pst hp), ⟨p, cutV vs l u, rfl, SqT.of ?_, ?_⟩, hq3⟩
      · rw [ext_upd A g123 hp, upd_same]
      · rw [ext_upd A g123 hp]
        exact Reps.mono (upd_sub A3.sub hp) _ _ (Reps.cut h2 l u)
  | lst ds =>
    obtain rfl := Option.some.inj hz
    obtain ⟨a, vs, rfl, h1, h2⟩ := r3
    refine .inl ⟨a, vs, rfl, SqL.of (A3.sub _ _ h1), fun p hp => ?_⟩
    refine kq _ _ ⟨.lst (cutL ds l u), n3, g123.trans (Go.new A3.pst hp), ⟨p, cutV vs l u, rfl, ?_, ?_⟩, hq3⟩
    · rw [ext_upd A g123 hp, upd_same]
    · rw [ext_upd A g123 hp]
      exact Reps.mono (upd_sub A3.sub hp) _ _ (Reps.cut h2 l u)
  | scr ns =>
    obtain rfl := Option.some.inj hz
    obtain ⟨a, rfl, h1⟩ := r3
    refine .inl ⟨a, ns.map V.int, rfl, A3.sub.sqL h1, fun p hp => ?_⟩
    refine kq _ _ ⟨.lst (cutL (ns.map D.int) l u), n3, g123.trans (Go.new A3.pst hp), ⟨p, cutV (ns.map V.int) l u, rfl, ?_, ?_⟩, hq3⟩
    · rw [ext_upd A g123 hp, upd_same]
    · exact Reps.cut (Reps.ints.mpr rfl) l u
  | _ => cases hz
end
end DL
namespace DL
open PySem PySem.Spec PyProof.Rows L2

/-- none of these names is the module's own -/
def NoB (mg : Str → Option Value) : Prop := ∀ x ∈ (["len", "isinstance", "tuple", "list", "enumerate", "all", "any", "sorted", "set", "zip", "int", "range", "min", "max", "repr", "sum", "str", "bool", "dict"] : List Str), mg x = none

section
variable {X : Cx}
/-! ### len -/
def lenD : List D → Option D
  | [.tup ds] => some (.int ds.length)
  | [.lst ds] => some (.int ds.length)
  | _ => none
theorem reps1 {K : PySem.W.Frag} {pn : Pn} {G : Hp} {d : D} {vs : List V} (h : Reps K pn G vs [d]) : ∃ v, vs = [v] ∧ Rep K pn G v d := by
  obtain ⟨v, r, rfl, h1, h2⟩ := h
  rw [show r = [] from h2]
  exact ⟨v, rfl, h1⟩
theorem reps2 {K : PySem.W.Frag} {pn : Pn} {G : Hp} {d e : D} {vs : List V} (h : Reps K pn G vs [d, e]) : ∃ v w, vs = [v, w] ∧ Rep K pn G v d ∧ Rep K pn G w e := by
  obtain ⟨v, r, rfl, h1, h2⟩ := h
  obtain ⟨w, rfl, h3⟩ := reps1 h2
  exact ⟨v, w, rfl, h1, h3⟩
theorem oc_len : OpC X (fun xs H Q => ∃ p ys, xs = [.ref p] ∧ (SqL X.K H p ys ∨ SqT X.K H p ys) ∧ Q (.int ys.length) H) lenD := .val fun G H pn xs ds z s r hz => by
  rcases ds with _ | ⟨d, _ | ⟨e, ds⟩⟩
  · cases hz
  · obtain ⟨v, rfl, h1⟩ := reps1 r
    cases d <;> simp only [lenD, Option.some.injEq, reduceCtorEq] at hz
    · subst hz
      obtain ⟨a, vs, rfl, h2, h3⟩ := h1
      exact ⟨.int vs.length, by rw [Reps.length h3]; rfl, fun Q q => ⟨a, vs, rfl, .inr (s.sqT h2), q⟩⟩
    · subst hz
      obtain ⟨a, vs, rfl, h2, h3⟩ := h1
      exact ⟨.int vs.length, by rw [Reps.length h3]; rfl, fun Q q => ⟨a, vs, rfl, .inl (SqL.of (s _ _ h2)), q⟩⟩
  · cases d <;> cases hz
theorem ed_len {e : Expr} {p pos : Pos} {T : TDs} (B : NoB X.mg) (hg : Gl X "len") (h : AD X [e] T) (he : starEach [e] X.env = (false, eval e X.env) :: starEach [] X.env := by rfl) : ED X (.Call (.Name "len" p) [e] [] pos) (tCallB lenD T) :=
  opc (fun _ pa => pe_callB call_len_seq hg (B _ (by decide)) PySem.boot_len pa (he := he)) oc_len h
/-! ### all, any, sum -/
def blsOf : List D → Option (List Bool)
  | [] => some []
  | .bl b :: ds => (blsOf ds).map (b :: ·)
  | _ :: _ => none
theorem blsOf_eq : ∀ {ds : List D} {bs : List Bool}, blsOf ds = some bs → ds = bs.map D.bl
  | [], bs, h => by cases h; rfl
  | d :: ds, bs, h => by
    cases d <;> simp only [blsOf, Option.map_eq_some_iff, reduceCtorEq] at h
    obtain ⟨r, h1, rfl⟩ := h
    rw [blsOf_eq h1]
    rfl
def intsOf : List D → Option (List Int)
  | [] => some []
  | .int b :: ds => (intsOf ds).map (b :: ·)
  | _ :: _ => none
theorem intsOf_eq : ∀ {ds : List D} {bs : List Int}, intsOf ds = some bs → ds = bs.map D.int
  | [], bs, h => by cases h; rfl
  | d :: ds, bs, h => by
    cases d <;> simp only [intsOf, Option.map_eq_some_iff, reduceCtorEq] at h
    obtain ⟨r, h1, rfl⟩ := h
    rw [intsOf_eq h1]
    rfl
theorem blsOf_map : ∀ bs : List Bool, blsOf (bs.map D.bl) = some bs
  | [] => rfl
  | b :: bs => by simp [blsOf, blsOf_map bs]
theorem intsOf_map : ∀ bs : List Int, intsOf (bs.map D.int) = some bs
  | [] => rfl
  | b :: bs => by simp [intsOf, intsOf_map bs]
def allD : List D → Option D
  | [.lst ds] => (blsOf ds).map fun bs => .bl (bs.all id)
  | _ => none
def anyD : List D → Option D
  | [.lst ds] => (blsOf ds).map fun bs => .bl (bs.any id)
  | _ => none
def sumD : List D → Option D
  | [.lst ds] => (intsOf ds).map fun bs => .int bs.sum
  | _ => none
theorem oc_all : OpC X (rAll X.K) allD := .val fun G H pn xs ds z s r hz => by
  rcases ds with _ | ⟨d, _ | ⟨e, ds⟩⟩
  · cases hz
  · obtain ⟨v, rfl, h1⟩ := reps1 r
    cases d <;> simp only [allD, Option.map_eq_some_iff, reduceCtorEq] at hz
    obtain ⟨bs, hb, rfl⟩ := hz
    obtain ⟨a, vs, rfl, h2, h3⟩ := h1
    rw [blsOf_eq hb] at h3
    rw [Reps.bls.mp h3] at h2
    exact ⟨_, rfl, fun Q q => ⟨a, bs, rfl, SqL.of (s _ _ h2), q⟩⟩
  · cases d <;> cases hz
theorem oc_any : OpC X (rAny X.K) anyD := .val fun G H pn xs ds z s r hz => by
  rcases ds with _ | ⟨d, _ | ⟨e, ds⟩⟩
  · cases hz
  · obtain ⟨v, rfl, h1⟩ := reps1 r
    cases d <;> simp only [anyD, Option.map_eq_some_iff, reduceCtorEq] at hz
    obtain ⟨bs, hb, rfl⟩ := hz
    obtain ⟨a, vs, rfl, h2, h3⟩ := h1
    rw [blsOf_eq hb] at h3
    rw [Reps.bls.mp h3] at h2
    exact ⟨_, rfl, fun Q q => ⟨a, bs, rfl, SqL.of (s _ _ h2), q⟩⟩
  · cases d <;> cases hz
theorem oc_sum : OpC X (rSum X.K) sumD := .val fun G H pn xs ds z s r hz => by
  rcases ds with _ | ⟨d, _ | ⟨e, ds⟩⟩
  · cases hz
  · obtain ⟨v, rfl, h1⟩ := reps1 r
    cases d <;> simp only [sumD, Option.map_eq_some_iff, reduceCtorEq] at hz
    obtain ⟨bs, hb, rfl⟩ := hz
    obtain ⟨a, vs, rfl, h2, h3⟩ := h1
    rw [intsOf_eq hb] at h3
    rw [Reps.ints.mp h3] at h2
    exact ⟨_, rfl, fun Q q => ⟨a, bs, rfl, SqL.of (s _ _ h2), q⟩⟩
  · cases d <;> cases hz
theorem ed_all {e : Expr} {p pos : Pos} {T : TDs} (B : NoB X.mg) (hc : X.calm = true) (hg : Gl X "all") (h : AD X [e] T) (he : starEach [e] X.env = (false, eval e X.env) :: starEach [] X.env := by rfl) : ED X (.Call (.Name "all" p) [e] [] pos) (tCallB allD T) :=
  opc (fun _ pa => pe_callB (cr_all hc) hg (B _ (by decide)) (by decide +kernel) pa (he := he)) oc_all h
theorem ed_any {e : Expr} {p pos : Pos} {T : TDs} (B : NoB X.mg) (hc : X.calm = true) (hg : Gl X "any") (h : AD X [e] T) (he : starEach [e] X.env = (false, eval e X.env) :: starEach [] X.env := by rfl) : ED X (.Call (.Name "any" p) [e] [] pos) (tCallB anyD T) :=
  opc (fun _ pa => pe_callB (cr_any hc) hg (B _ (by decide)) (by decide +kernel) pa (he := he)) oc_any h
theorem ed_sum {e : Expr} {p pos : Pos} {T : TDs} (B : NoB X.mg) (hc : X.calm = true) (hg : Gl X "sum") (h : AD X [e] T) (he : starEach [e] X.env = (false, eval e X.env) :: starEach [] X.env := by rfl) : ED X (.Call (.Name "sum" p) [e] [] pos) (tCallB sumD T) :=
  opc (fun _ pa => pe_callB (cr_sum hc) hg (B _ (by decide)) (by decide +kernel) pa (he := he)) oc_sum h
/-! ### list, tuple, int, min, max -/
def listD : List D → Option D
  | [.lst ds] => some (.lst ds)
  | [.tup ds] => some (.lst ds)
  | _ => none
theorem oc_list : OpC X (fun xs H Q => ∃ p ys, xs = [.ref p] ∧ (SqL X.K H p ys ∨ SqT X.K H p ys) ∧ ∀ l, H l = none → Q (.ref l) (upd H l (.lst ys))) listD := .lst fun G H pn xs ds z s r hz => by
  rcases ds with _ | ⟨d, _ | ⟨e, ds⟩⟩
  · cases hz
  · obtain ⟨v, rfl, h1⟩ := reps1 r
    cases d <;> simp only [listD, Option.some.injEq, reduceCtorEq] at hz
    · subst hz
      obtain ⟨a, vs, rfl, h2, h3⟩ := h1
      exact ⟨vs, _, rfl, h3, fun Q q => ⟨a, vs, rfl, .inr (s.sqT h2), q⟩⟩
    · subst hz
      obtain ⟨a, vs, rfl, h2, h3⟩ := h1
      exact ⟨vs, _, rfl, h3, fun Q q => ⟨a, vs, rfl, .inl (SqL.of (s _ _ h2)), q⟩⟩
  · cases d <;> cases hz
theorem ed_list {e : Expr} {p pos : Pos} {T : TDs} (B : NoB X.mg) (hg : Gl X "list") (h : AD X [e] T) (he : starEach [e] X.env = (false, eval e X.env) :: starEach [] X.env := by rfl) : ED X (.Call (.Name "list" p) [e] [] pos) (tCallB listD T) :=
  opc (fun _ pa => pe_callTy call_list_of hg (B _ (by decide)) (by decide +kernel) pa (he := he)) oc_list h
def tupleD : List D → Option D
  | [.lst ds] => some (.tup ds)
  | [.tup ds] => some (.tup ds)
  | _ => none
theorem oc_tuple : OpC X (fun xs H Q => ∃ p ys, xs = [.ref p] ∧ ((SqL X.K H p ys ∧ ∀ l, H l = none → Q (.ref l) (upd H l (.tup ys))) ∨ (SqT X.K H p ys ∧ Q (.ref p) H))) tupleD := fun G H pn n xs ds z s p r hz Q k => by
  rcases ds with _ | ⟨d, _ | ⟨e, ds⟩⟩
  · cases hz
  · obtain ⟨v, rfl, h1⟩ := reps1 r
    cases d <;> simp only [tupleD, Option.some.injEq, reduceCtorEq] at hz
    · subst hz
      obtain ⟨a, vs, rfl, h2, h3⟩ := h1
      exact ⟨a, vs, rfl, .inr ⟨s.sqT h2, k _ _ (Go.refl p) (by rw [ext_refl]; exact ⟨a, vs, rfl, h2, h3⟩)⟩⟩
    · subst hz
      obtain ⟨a, vs, rfl, h2, h3⟩ := h1
      refine ⟨a, vs, rfl, .inl ⟨SqL.of (s _ _ h2), fun l hl => k _ _ (Go.new p hl) ⟨l, vs, rfl, SqT.of ?_, ?_⟩⟩⟩
      · rw [ext_new s hl, upd_same]
      · rw [ext_new s hl]
        exact Reps.mono (upd_sub s hl) _ _ h3
  · cases d <;> cases hz
theorem ed_tuple {e : Expr} {p pos : Pos} {T : TDs} (B : NoB X.mg) (hg : Gl X "tuple") (h : AD X [e] T) (he : starEach [e] X.env = (false, eval e X.env) :: starEach [] X.env := by rfl) : ED X (.Call (.Name "tuple" p) [e] [] pos) (tCallB tupleD T) :=
  opc (fun _ pa => pe_callTy call_tuple_of hg (B _ (by decide)) (by decide +kernel) pa (he := he)) oc_tuple h
def intD : List D → Option D
  | [.int i] => some (.int i)
  | [.bl b] => some (.int (if b then 1 else 0))
  | _ => none
theorem oc_int : OpC X (fun xs H Q => (∃ i, xs = [.int i] ∧ Q (.int i) H) ∨ ∃ k, xs = [.bl k] ∧ Q (.int (if k then 1 else 0)) H) intD := .val fun G H pn xs ds z s r hz => by
  rcases ds with _ | ⟨d, _ | ⟨e, ds⟩⟩
  · cases hz
  · obtain ⟨v, rfl, h1⟩ := reps1 r
    cases d <;> simp only [intD, Option.some.injEq, reduceCtorEq] at hz
    · subst hz
      exact ⟨_, rfl, fun Q q => .inr ⟨_, by rw [show v = _ from h1], q⟩⟩
    · subst hz
      exact ⟨_, rfl, fun Q q => .inl ⟨_, by rw [show v = _ from h1], q⟩⟩
  · cases d <;> cases hz
theorem ed_intC {e : Expr} {p pos : Pos} {T : TDs} (B : NoB X.mg) (hg : Gl X "int") (h : AD X [e] T) (he : starEach [e] X.env = (false, eval e X.env) :: starEach [] X.env := by rfl) : ED X (.Call (.Name "int" p) [e] [] pos) (tCallB intD T) :=
  opc (fun _ pa => pe_callTy call_int1 hg (B _ (by decide)) (by decide +kernel) pa (he := he)) oc_int h
def min2D : List D → Option D
  | [.int i, .int j] => some (.int (if j < i then j else i))
  | _ => none
def max2D : List D → Option D
  | [.int i, .int j] => some (.int (if j > i then j else i))
  | _ => none
theorem oc_min : OpC X (fun xs H Q => ∃ i j, xs = [.int i, .int j] ∧ Q (.int (if j < i then j else i)) H) min2D := .val fun G H pn xs ds z s r hz => by
  rcases ds with _ | ⟨d, _ | ⟨e, _ | ⟨f, ds⟩⟩⟩
  · cases hz
  · cases d <;> cases hz
  · obtain ⟨v, w, rfl, h1, h2⟩ := reps2 r
    cases d <;> cases e <;> simp only [min2D, Option.some.injEq, reduceCtorEq] at hz
    subst hz
    exact ⟨_, rfl, fun Q q => ⟨_, _, by rw [show v = _ from h1, show w = _ from h2], q⟩⟩
  · cases d <;> cases e <;> cases hz
theorem oc_max : OpC X (fun xs H Q => ∃ i j, xs = [.int i, .int j] ∧ Q (.int (if j > i then j else i)) H) max2D := .val fun G H pn xs ds z s r hz => by
  rcases ds with _ | ⟨d, _ | ⟨e, _ | ⟨f, ds⟩⟩⟩
  · cases hz
  · cases d <;> cases hz
  · obtain ⟨v, w, rfl, h1, h2⟩ := reps2 r
    cases d <;> cases e <;> simp only [max2D, Option.some.injEq, reduceCtorEq] at hz
    subst hz
    exact ⟨_, rfl, fun Q q => ⟨_, _, by rw [show v = _ from h1, show w = _ from h2], q⟩⟩
  · cases d <;> cases e <;> cases hz
theorem ed_min2 {a b : Expr} {p pos : Pos} {T : TDs} (B : NoB X.mg) (hc : X.calm = true) (hg : Gl X "min") (h : AD X [a, b] T) (he : starEach [a, b] X.env = (false, eval a X.env) :: starEach [b] X.env := by rfl) (hpl : (backTo pos (starEach [b] X.env)).any (·.1) = false := by rfl) : ED X (.Call (.Name "min" p) [a, b] [] pos) (tCallB min2D T) :=
  opc (fun _ pa => pe_callB (call_min2 hc) hg (B _ (by decide)) (by decide +kernel) pa (he := he) (hpl := hpl)) oc_min h
theorem ed_max2 {a b : Expr} {p pos : Pos} {T : TDs} (B : NoB X.mg) (hc : X.calm = true) (hg : Gl X "max") (h : AD X [a, b] T) (he : starEach [a, b] X.env = (false, eval a X.env) :: starEach [b] X.env := by rfl) (hpl : (backTo pos (starEach [b] X.env)).any (·.1) = false := by rfl) : ED X (.Call (.Name "max" p) [a, b] [] pos) (tCallB max2D T) :=
  opc (fun _ pa => pe_callB (call_max2 hc) hg (B _ (by decide)) (by decide +kernel) pa (he := he) (hpl := hpl)) oc_max h
/-! ### sorted of a list of ints -/
def sortI (ns : List Int) : List Int := ns.mergeSort (fun a b => decide (a ≤ b))
def sortedD : List D → Option D
  | [.lst ds] => (intsOf ds).map fun ns => .lst ((sortI ns).map D.int)
  | _ => none
theorem sortI_perm (ns : List Int) : (sortI ns).Perm ns := List.mergeSort_perm _ _
theorem sortI_sorted (ns : List Int) : (sortI ns).Pairwise (· ≤ ·) := by
  have := List.pairwise_mergeSort (le := fun a b : Int => decide (a ≤ b)) (fun a b c h1 h2 => by simp only [decide_eq_true_eq] at *; omega) (fun a b => by simp only [Bool.or_eq_true, decide_eq_true_eq]; omega) ns
  exact this.imp fun h => of_decide_eq_true h
theorem sorted_uniq : ∀ {a b : List Int}, a.Perm b → a.Pairwise (· ≤ ·) → b.Pairwise (· ≤ ·) → a = b := fun {a b} h1 h2 h3 =>
  h1.eq_of_pairwise (fun x y _ _ h k => by omega) h2 h3
theorem oc_sorted : OpC X (rSortedI X.K) sortedD := .lst fun G H pn xs ds z s r hz => by
  rcases ds with _ | ⟨d, _ | ⟨e, ds⟩⟩
  · cases hz
  · obtain ⟨v, rfl, h1⟩ := reps1 r
    cases d <;> simp only [sortedD, Option.map_eq_some_iff, reduceCtorEq] at hz
    obtain ⟨ns, hb, rfl⟩ := hz
    obtain ⟨a, vs, rfl, h2, h3⟩ := h1
    rw [intsOf_eq hb] at h3
    rw [Reps.ints.mp h3] at h2
    refine ⟨(sortI ns).map .int, _, rfl, Reps.ints.mpr rfl, fun Q q => ⟨a, ns, rfl, SqL.of (s _ _ h2), fun ns' p hp hs hn => ?_⟩⟩
    rw [sorted_uniq (hp.trans (sortI_perm ns).symm) hs (sortI_sorted ns)]
    exact q p hn
  · cases d <;> cases hz
theorem ed_sorted {e : Expr} {p pos : Pos} {T : TDs} (B : NoB X.mg) (hg : Gl X "sorted") (h : AD X [e] T) (he : starEach [e] X.env = (false, eval e X.env) :: starEach [] X.env := by rfl) : ED X (.Call (.Name "sorted" p) [e] [] pos) (tCallB sortedD T) :=
  opc (fun _ pa => pe_callB cr_sortedI hg (B _ (by decide)) (by decide +kernel) pa (he := he)) oc_sorted h
/-! ### isinstance(e, T) -/
def tyN : D → String
  | .non => "NoneType"
  | .bl _ => "bool"
  | .int _ => "int"
  | .str _ => "str"
  | .tup _ => "tuple"
  | .lst _ => "list"
  | .dct _ => "dict"
  | .pen => "list"
  | .scr _ => "list"
def isTy (T : String) (d : D) : Bool := tyN d == T || (T == "int" && tyN d == "bool")
def kindsOk (T : String) : Bool := ["NoneType", "bool", "int", "str", "tuple", "list", "dict"].all fun n => kitB n T == some (n == T || (T == "int" && n == "bool"))
theorem rep_ty {K : PySem.W.Frag} {pn : Pn} {G H : Hp} (s : Sub G H) (n : Nat) (p : Pst pn G H n) : ∀ {d : D} {v : V}, Rep K pn G v d → TyX K H v (.type (tyN d)) ∧ tyN d ∈ ["NoneType", "bool", "int", "str", "tuple", "list", "dict"]
  | .non, v, h => by rw [show v = .non from h]; exact ⟨.base .non, by decide⟩
  | .bl b, v, h => by rw [show v = .bl b from h]; exact ⟨.base (.bl b), by simp [tyN]⟩
  | .int b, v, h => by rw [show v = .int b from h]; exact ⟨.base (.int b), by simp [tyN]⟩
  | .str b, v, h => by rw [show v = .str b from h]; exact ⟨.base (.str b), by simp [tyN]⟩
  | .tup ds, v, h => by
    obtain ⟨a, vs, rfl, h1, _⟩ := h
    refine ⟨?_, by simp [tyN]⟩
    rcases s.sqT h1 with (q | ⟨o, q⟩) | ⟨o, its, m, q, c, _⟩
    · exact .base (.tup q)
    · exact .fTuple q
    · exact .kTuple q c
  | .lst ds, v, h => by
    obtain ⟨a, vs, rfl, h1, _⟩ := h
    exact ⟨.base (.lst (s _ _ h1)), by simp [tyN]⟩
  | .dct kvs, v, h => by
    obtain ⟨a, vs, rfl, h1, _⟩ := h
    exact ⟨.base (.dK (s _ _ h1)), by simp [tyN]⟩
  | .pen, v, h => by
    obtain ⟨a, c, e, rfl⟩ := h
    obtain ⟨x, y, h1, _⟩ := (p a c e).1.lst
    exact ⟨.base (.lst h1), by simp [tyN]⟩
  | .scr ns, v, h => by
    obtain ⟨a, rfl, h1⟩ := h
    refine ⟨?_, by simp [tyN]⟩
    rcases s.sqL h1 with (q | ⟨o, q⟩) | ⟨o, its, m, q, c, _⟩
    · exact .base (.lst q)
    · exact .base (.frz q)
    · exact .kList q c
def tIsi (T : String) (Ta : TD) : TD := fun ρ n q => Ta ρ n fun d n => q (.bl (isTy T d)) n
theorem ed_isi {T : String} {x : Str} {e : Expr} {p p2 pos : Pos} {Ta : TD} (B : NoB X.mg) (hk : kindsOk T = true) (hg : Gl X "isinstance") (hg2 : Gl X x) (hm2 : x ∈ (["len", "isinstance", "tuple", "list", "enumerate", "all", "any", "sorted", "set", "zip", "int", "range", "min", "max", "repr", "sum", "str", "bool", "dict"] : List Str)) (hv2 : bootBuiltins x = some (.type T)) (h : ED X e Ta) (hn : x ≠ "__name__" := by decide) (hd : (x == ("__debug__" : Str)) = false := by decide)
    (he : starEach [e, .Name x p2] X.env = (false, eval e X.env) :: starEach [.Name x p2] X.env := by rfl) (he2 : starEach [.Name x p2] X.env = (false, eval (.Name x p2) X.env) :: starEach [] X.env := by rfl) (hpl : (backTo pos (starEach [.Name x p2] X.env)).any (·.1) = false := by rfl) :
    ED X (.Call (.Name "isinstance" p) [e, .Name x p2] [] pos) (tIsi T Ta) := by
  obtain ⟨t, pe, k⟩ := h
  refine ⟨_, pe_callB call_isi hg (B _ (by decide)) (by decide +kernel) (pa_cons pe (pa_cons (pe_bltn (v := .ty T) hg2 (B _ hm2) hv2 rfl hn hd) pa_nil he2) he) (he := he) (hpl := hpl), fun σ H G pn n ρ q A hT Q kq => ?_⟩
  refine k σ H G pn n ρ _ A hT _ fun v H1 ⟨d, n1, g1, r1, hq⟩ => ?_
  have A1 := A.go g1
  obtain ⟨t1, m1⟩ := rep_ty A1.sub n1 A1.pst r1
  have hk2 : kitB (tyN d) T = some (isTy T d) := by
    unfold kindsOk at hk
    rw [List.all_eq_true] at hk
    exact eq_of_beq (hk _ m1)
  exact ⟨v, .ty T, _, _, _, rfl, .ty T, t1, kit_ty hk2, kq _ H1 ⟨.bl (isTy T d), n1, g1, rfl, hq⟩⟩
end
end DL
namespace DL
open PySem PySem.Spec PyProof.Rows L2

/-! ### calls of the program's own defs -/
abbrev FT := List D → Nat → QD → Prop
/-- a def's promise over data -/
def lift (K : PySem.W.Frag) (np : Nat) (T : FT) : Sp := fun vs H Q _ => vs.length = np ∧ ∃ (pn : Pn) (G : Hp) (n : Nat) (ds : List D) (q : QD), Sub G H ∧ Pst pn G H n ∧ Reps K pn G vs ds ∧ T ds n q ∧ ∀ v H', Post K pn G H q v H' → Q v H'
def tCallD (T : FT) (Ta : TDs) : TD := fun ρ n q => Ta ρ n fun ds n => T ds n q
section
variable {X : Cx}
theorem ed_call {x : Str} {f : Addr} {fd : FuncData} {ps : List Str} {k : Nat} {T : FT} {p pos : Pos} {e : Expr} {es : List Expr} {Ta : TDs} (F : FnOk X.prog X.w X.K X.mg X.base CX0 k f fd ps (lift X.K (es.length + 1) T)) (hr : Room k X.A) (hg : Gl X x) (hm : X.mg x = some (.ref f)) (hk : PySem.W.keepIn X.K (.ref f) = true) (hb : Binds X.K fd ps [])
    (ha : AD X (e :: es) Ta) (hl : ∀ ds n q, T ds n q → ds.length = es.length + 1) (hdb : (x == ("__debug__" : Str)) = false := by decide) (he : starEach (e :: es) X.env = (false, eval e X.env) :: starEach es X.env := by rfl) (hpl : (backTo pos (starEach es X.env)).any (·.1) = false := by rfl) :
    ED X (.Call (.Name x p) (e :: es) [] pos) (tCallD T Ta) := by
  obtain ⟨t, pa, k⟩ := ha
  refine ⟨_, pe_call F hr hg hm hk hb .nil pass0 pa hdb he hpl, fun σ H G pn n ρ q A hT Q kq => ?_⟩
  refine k σ H G pn n ρ _ A hT _ fun vs H1 ⟨ds, n1, g1, r1, hq⟩ => ?_
  have A1 := A.go g1
  refine ⟨by rw [List.append_nil, Reps.length r1, hl _ _ _ hq], pn, _, n1, ds, q, A1.sub, A1.pst, by rw [List.append_nil]; exact r1, hq, fun v H2 hp => kq v H2 (post_trans A g1 hp)⟩

/-! ### what is walked -/
structure Walks (K : PySem.W.Frag) (pn : Pn) (J : It) (G : Hp) (ds : List D) : Prop where
  go : ∀ i H, Sub G H → i < ds.length → J.go i H
  yld : ∀ i H x H', Sub G H → J.yld i H x H' → Sub H H' ∧ ∀ d, ds[i]? = some d → ∀ G1, Sub G G1 → Sub G1 H → Rep K pn (ext G1 H H') x d
  stop : ∀ i H, Sub G H → ds.length ≤ i → J.stop i H
def WD (X : Cx) (tg iter : Expr) (T : TDs) : Prop := ∃ wi, PI X tg iter wi ∧ ∀ (σ : L2.St) (H G : Hp) (pn : Pn) (n : Nat) (ρ : Env) (q : List D → Nat → Prop), At X.K pn G H σ ρ n → T ρ n q →
  ∀ R : It → Hp → Prop, (∀ J ds n' H', Go pn G H H' n' → q ds n' → Walks X.K pn J (ext G H H') ds → R J H') → wi σ H R
def wSeq (Ta : TD) : TDs := fun ρ n q => Ta ρ n fun d n => ∃ ds, (d = .lst ds) ∧ q ds n
def wTup (Ta : TD) : TDs := fun ρ n q => Ta ρ n fun d n => ∃ ds, (d = .tup ds) ∧ q ds n
theorem walks_lst {K : PySem.W.Frag} {pn : Pn} {G : Hp} {a : Addr} {vs : List V} {ds : List D} (h : G a = some (.lst vs)) (r : Reps K pn G vs ds) : Walks K pn (Itl K a) G ds := by
  refine ⟨fun i H s hi => ?_, fun i H x H' s y => ?_, fun i H s hi => ?_⟩
  · have : i < vs.length := by rw [Reps.length r]; exact hi
    exact ⟨vs, vs[i], SqL.of (s _ _ h), List.getElem?_eq_getElem this⟩
  · obtain ⟨rfl, y⟩ := y
    refine ⟨Sub.refl _, fun d hd G1 s1 s2 => ?_⟩
    obtain ⟨v, h1, h2⟩ := Reps.get r hd
    have h3 := y vs (SqL.of (s _ _ h))
    rw [h1] at h3
    cases h3
    rw [ext_refl]
    exact Rep.mono s1 _ _ h2
  · exact ⟨vs, SqL.of (s _ _ h), by rw [Reps.length r]; exact hi⟩
theorem walks_tup {K : PySem.W.Frag} {pn : Pn} {G : Hp} {a : Addr} {vs : List V} {ds : List D} (h : SqT K G a vs) (r : Reps K pn G vs ds) : Walks K pn (Itt K a) G ds := by
  refine ⟨fun i H s hi => ?_, fun i H x H' s y => ?_, fun i H s hi => ?_⟩
  · have : i < vs.length := by rw [Reps.length r]; exact hi
    exact ⟨vs, vs[i], s.sqT h, List.getElem?_eq_getElem this⟩
  · obtain ⟨rfl, y⟩ := y
    refine ⟨Sub.refl _, fun d hd G1 s1 s2 => ?_⟩
    obtain ⟨v, h1, h2⟩ := Reps.get r hd
    have h3 := y vs (s.sqT h)
    rw [h1] at h3
    cases h3
    rw [ext_refl]
    exact Rep.mono s1 _ _ h2
  · exact ⟨vs, s.sqT h, by rw [Reps.length r]; exact hi⟩
theorem wd_lst {tg e : Expr} {T : TD} (h : ED X e T) : WD X tg e (wSeq T) := by
  obtain ⟨t, p, k⟩ := h
  refine ⟨_, pi_list p, fun σ H G pn n ρ q A hT R kr => ?_⟩
  refine k σ H G pn n ρ _ A hT _ fun v H1 ⟨d, n1, g1, r1, ds, e, hq⟩ => ?_
  subst e
  obtain ⟨a, vs, rfl, h1, h2⟩ := r1
  have A1 := A.go g1
  exact ⟨a, rfl, ⟨vs, SqL.of (A1.sub _ _ h1)⟩, kr _ ds n1 H1 g1 hq (walks_lst h1 h2)⟩
theorem wd_tup {tg e : Expr} {T : TD} (h : ED X e T) : WD X tg e (wTup T) := by
  obtain ⟨t, p, k⟩ := h
  refine ⟨_, pi_tup p, fun σ H G pn n ρ q A hT R kr => ?_⟩
  refine k σ H G pn n ρ _ A hT _ fun v H1 ⟨d, n1, g1, r1, ds, e, hq⟩ => ?_
  subst e
  obtain ⟨a, vs, rfl, h1, h2⟩ := r1
  have A1 := A.go g1
  exact ⟨a, rfl, ⟨vs, A1.sub.sqT h1⟩, kr _ ds n1 H1 g1 hq (walks_tup h1 h2)⟩
def rangeD (lo : Int) (n : Nat) : List D := (List.range n).map fun (i : Nat) => .int (lo + (i : Int))
theorem walks_rng {K : PySem.W.Frag} {pn : Pn} {G : Hp} {lo : Int} {n : Nat} : Walks K pn (Itr lo n) G (rangeD lo n) := by
  have hl : (rangeD lo n).length = n := by simp [rangeD]
  refine ⟨fun i H s hi => by rw [hl] at hi; exact hi, fun i H x H' s y => ?_, fun i H s hi => by rw [hl] at hi; exact hi⟩
  obtain ⟨rfl, rfl⟩ := y
  refine ⟨Sub.refl _, fun d hd G1 s1 s2 => ?_⟩
  unfold rangeD at hd
  rw [List.getElem?_map] at hd
  by_cases hi : i < n
  · rw [List.getElem?_range hi] at hd
    cases hd
    rfl
  · rw [List.getElem?_eq_none (by simpa using hi)] at hd
    cases hd
def wRng1 (Ta : TDs) : TDs := fun ρ n q => Ta ρ n fun ds n => ∃ j : Int, ds = [.int j] ∧ -(2 ^ 62) ≤ j ∧ j < 2 ^ 62 ∧ q (rangeD 0 j.toNat) n
def wRng2 (Ta : TDs) : TDs := fun ρ n q => Ta ρ n fun ds n => ∃ i j : Int, ds = [.int i, .int j] ∧ (-(2 ^ 62) ≤ i ∧ i < 2 ^ 62 ∧ -(2 ^ 62) ≤ j ∧ j < 2 ^ 62) ∧ q (rangeD i (j - i).toNat) n
theorem wd_rng1 {tg a : Expr} {Ta : TDs} {p pos : Pos} (B : NoB X.mg) (hg : Gl X "range") (ha : AD X [a] Ta) (hs : starEach [a] X.env = [(false, eval a X.env)] := by rfl) : WD X tg (.Call (.Name "range" p) [a] [] pos) (wRng1 Ta) := by
  obtain ⟨t, pa, k⟩ := ha
  refine ⟨_, pi_range1 hg (B _ (by decide)) pa hs, fun σ H G pn n ρ q A hT R kr => ?_⟩
  refine k σ H G pn n ρ _ A hT _ fun vs H1 ⟨ds, n1, g1, r1, j, e, b1, b2, hq⟩ => ?_
  subst e
  obtain ⟨v, rfl, h1⟩ := reps1 r1
  exact ⟨j, by rw [show v = .int j from h1], b1, b2, kr _ _ n1 H1 g1 hq walks_rng⟩
theorem wd_rng2 {tg a b : Expr} {Ta : TDs} {p pos : Pos} (B : NoB X.mg) (hg : Gl X "range") (ha : AD X [a, b] Ta) (hs : starEach [a, b] X.env = [(false, eval a X.env), (false, eval b X.env)] := by rfl) (hs2 : starEach [b] X.env = [(false, eval b X.env)] := by rfl) : WD X tg (.Call (.Name "range" p) [a, b] [] pos) (wRng2 Ta) := by
  obtain ⟨t, pa, k⟩ := ha
  refine ⟨_, pi_range2 hg (B _ (by decide)) pa hs hs2, fun σ H G pn n ρ q A hT R kr => ?_⟩
  refine k σ H G pn n ρ _ A hT _ fun vs H1 ⟨ds, n1, g1, r1, i, j, e, b1, hq⟩ => ?_
  subst e
  obtain ⟨v, w, rfl, h1, h2⟩ := reps2 r1
  exact ⟨i, j, by rw [show v = .int i from h1, show w = .int j from h2], b1, kr _ _ n1 H1 g1 hq walks_rng⟩
/-- pairs of a number and an item, of two items -/
def enumD : Nat → List D → List D
  | _, [] => []
  | i, d :: ds => .tup [.int (i : Nat), d] :: enumD (i + 1) ds
theorem enumD_get : ∀ (ds : List D) (k i : Nat), (enumD k ds)[i]? = (ds[i]?).map fun d => .tup [.int ((k + i : Nat)), d]
  | [], k, i => by simp [enumD]
  | d :: ds, k, 0 => by simp [enumD]
  | d :: ds, k, i + 1 => by
    simp only [enumD, List.getElem?_cons_succ]
    rw [enumD_get ds (k + 1) i, show k + 1 + i = k + (i + 1) by omega]
theorem enumD_len : ∀ (ds : List D) (k : Nat), (enumD k ds).length = ds.length
  | [], k => rfl
  | d :: ds, k => by simp [enumD, enumD_len ds (k + 1)]
def wEnumL (Ta : TDs) : TDs := fun ρ n q => Ta ρ n fun as n => ∃ ds, as = [.lst ds] ∧ q (enumD 0 ds) n
theorem wd_enumL {e : Expr} {Ta : TDs} {p pos tpos : Pos} {elts : List Expr} {kk : Nat} (B : NoB X.mg) (hg : Gl X "enumerate") (ha : AD X [e] Ta) (hs : starEach [e] X.env = [(false, eval e X.env)] := by rfl) : WD X (.Tuple elts kk tpos) (.Call (.Name "enumerate" p) [e] [] pos) (wEnumL Ta) := by
  obtain ⟨t, pa, k⟩ := ha
  refine ⟨_, pi_enum hg (B _ (by decide)) pa hs, fun σ H G pn n ρ q A hT R kr => ?_⟩
  refine k σ H G pn n ρ _ A hT _ fun vs H1 ⟨as, n1, g1, r1, ds, e, hq⟩ => ?_
  subst e
  obtain ⟨v, rfl, h1⟩ := reps1 r1
  obtain ⟨a, ws, rfl, h2, h3⟩ := h1
  have A1 := A.go g1
  refine ⟨a, ws, rfl, SqL.of (A1.sub _ _ h2), kr _ _ n1 H1 g1 hq ⟨fun i H s hi => ?_, fun i H x H' s y => ?_, fun i H s hi => ?_⟩⟩
  · rw [enumD_len] at hi
    have : i < ws.length := by rw [Reps.length h3]; exact hi
    exact ⟨ws, ws[i], SqL.of (s _ _ h2), List.getElem?_eq_getElem this⟩
  · obtain ⟨T, y, rfl, hT, rfl, hy⟩ := y
    have hs : Sub H (upd H T (.tup [.int (i : Nat), y])) := fun a u e => by
      rw [upd_ne (ne_of_none e hT)]
      exact e
    refine ⟨hs, fun d hd G1 s1 s2 => ?_⟩
    rw [enumD_get] at hd
    cases hd' : ds[i]? with
    | none => rw [hd'] at hd; cases hd
    | some d' =>
      rw [hd'] at hd
      cases hd
      obtain ⟨v, h4, h5⟩ := Reps.get h3 hd'
      have h6 := hy ws (SqL.of (s _ _ h2))
      rw [h4] at h6
      cases h6
      rw [ext_new s2 hT]
      exact ⟨T, _, rfl, SqT.of upd_same, .int (i : Nat), _, rfl, by rw [show 0 + i = i by omega]; rfl, _, [], rfl, Rep.mono (upd_sub s2 hT) _ _ (Rep.mono s1 _ _ h5), rfl⟩
  · rw [enumD_len] at hi
    exact ⟨ws, SqL.of (s _ _ h2), by rw [Reps.length h3]; exact hi⟩

/-! ### targets -/
/-- the slots but those at O stand for their data -/
def EnvOk (K : PySem.W.Frag) (pn : Pn) (G : Hp) (O : List Nat) (σ : L2.St) (ρ : Env) : Prop := ∀ (i : Nat) (d : D), i ∉ O → ρ[i]? = some (some d) → ∃ v, σ[i]? = some (some v) ∧ Rep K pn G v d
structure TgRun (K : PySem.W.Frag) (g : TG) (f : D → Env → Option Env) (ts : List Nat) : Prop where
  run : ∀ (σ : L2.St) (H G : Hp) (pn : Pn) (O : List Nat) (v : V) (d : D) (ρ ρ' : Env), Sub G H → Rep K pn G v d → f d ρ = some ρ' → EnvOk K pn G O σ ρ → σ.length = ρ.length →
    ∀ Q : L2.St → Hp → Prop, (∀ σ', EnvOk K pn G (O.filter (· ∉ ts)) σ' ρ' → σ'.length = σ.length → ρ'.length = ρ.length → (∀ i, i ∉ ts → σ'[i]? = σ[i]? ∧ ρ'[i]? = ρ[i]?) → Q σ' H) → g v σ H Q
def fName (i : Nat) : D → Env → Option Env := fun d ρ => some (ρ.set i (some d))
theorem EnvOk.set {K : PySem.W.Frag} {pn : Pn} {G : Hp} {O : List Nat} {σ : L2.St} {ρ : Env} {v : V} {d : D} (i : Nat) (env : EnvOk K pn G O σ ρ) (r : Rep K pn G v d) (len : σ.length = ρ.length) : EnvOk K pn G (O.filter (· ∉ [i])) (σ.set i (some v)) (ρ.set i (some d)) := fun j d' hO hd => by
  by_cases hij : i = j
  · subst hij
    have hi : i < ρ.length := by
      have := (List.getElem?_eq_some_iff.mp hd).1
      simpa using this
    rw [List.getElem?_set_self hi] at hd
    cases hd
    exact ⟨v, List.getElem?_set_self (by omega), r⟩
  · rw [List.getElem?_set_ne hij] at hd
    have hO' : j ∉ O := fun z => hO (List.mem_filter.mpr ⟨z, by simpa using fun e => hij e.symm⟩)
    obtain ⟨w, h1, h2⟩ := env j d' hO' hd
    exact ⟨w, by rw [List.getElem?_set_ne hij]; exact h1, h2⟩
theorem tr_name {K : PySem.W.Frag} (i : Nat) : TgRun K (gName i) (fName i) [i] := by
  refine ⟨fun σ H G pn O v d ρ ρ' s r e env len Q k => ?_⟩
  cases e
  refine k (σ.set i (some v)) (env.set i r len) (by simp) (by simp) fun j hj => ?_
  have : i ≠ j := fun e => hj (by simp [e])
  exact ⟨List.getElem?_set_ne this, List.getElem?_set_ne this⟩
structure TgsRun (K : PySem.W.Frag) (g : TGs) (f : List D → Env → Option Env) (ts : List Nat) : Prop where
  run : ∀ (σ : L2.St) (H G : Hp) (pn : Pn) (O : List Nat) (vs : List V) (ds : List D) (ρ ρ' : Env), Sub G H → Reps K pn G vs ds → f ds ρ = some ρ' → EnvOk K pn G O σ ρ → σ.length = ρ.length →
    ∀ Q : L2.St → Hp → Prop, (∀ σ', EnvOk K pn G (O.filter (· ∉ ts)) σ' ρ' → σ'.length = σ.length → ρ'.length = ρ.length → (∀ i, i ∉ ts → σ'[i]? = σ[i]? ∧ ρ'[i]? = ρ[i]?) → Q σ' H) → g vs σ H Q
def fsNil : List D → Env → Option Env
  | [], ρ => some ρ
  | _ :: _, _ => none
def fsCons (f : D → Env → Option Env) (fs : List D → Env → Option Env) : List D → Env → Option Env
  | d :: ds, ρ => (f d ρ).bind (fs ds)
  | [], _ => none
theorem trs_nil {K : PySem.W.Frag} : TgsRun K gNil fsNil [] := by
  refine ⟨fun σ H G pn O vs ds ρ ρ' s r e env len Q k => ?_⟩
  cases ds with
  | nil =>
    cases e
    exact ⟨r, k σ (fun i d hi => env i d fun z => hi (List.mem_filter.mpr ⟨z, by simp⟩)) rfl rfl fun i _ => ⟨rfl, rfl⟩⟩
  | cons d ds => cases e
theorem trs_cons {K : PySem.W.Frag} {g : TG} {gs : TGs} {f : D → Env → Option Env} {fs : List D → Env → Option Env} {ts us : List Nat} (h1 : TgRun K g f ts) (h2 : TgsRun K gs fs us) : TgsRun K (gCons g gs) (fsCons f fs) (ts ++ us) := by
  refine ⟨fun σ H G pn O vs ds ρ ρ' s r e env len Q k => ?_⟩
  cases ds with
  | nil => cases e
  | cons d ds =>
    obtain ⟨v, w, rfl, r1, r2⟩ := r
    unfold fsCons at e
    obtain ⟨ρ1, e1, e2⟩ := Option.bind_eq_some_iff.mp e
    refine ⟨v, w, rfl, h1.run σ H G pn O v d ρ ρ1 s r1 e1 env len _ fun σ1 env1 l1 l2 same1 => ?_⟩
    refine h2.run σ1 H G pn _ w ds ρ1 ρ' s r2 e2 env1 (by omega) Q fun σ2 env2 l3 l4 same2 => ?_
    refine k σ2 (fun i d hi => env2 i d fun z => hi ?_) (by omega) (by omega) fun i hi => ?_
    · simp only [List.mem_filter, decide_eq_true_eq, List.mem_append, not_or] at z ⊢
      exact ⟨z.1.1, z.1.2, z.2⟩
    · simp only [List.mem_append, not_or] at hi
      exact ⟨(same2 i hi.2).1.trans (same1 i hi.1).1, (same2 i hi.2).2.trans (same1 i hi.1).2⟩
def fTup (k : Nat) (fs : List D → Env → Option Env) : D → Env → Option Env
  | .tup ds, ρ => if ds.length = k then fs ds ρ else none
  | _, _ => none
theorem tr_tup {K : PySem.W.Frag} {gs : TGs} {fs : List D → Env → Option Env} {ts : List Nat} (m : Nat) (h : TgsRun K gs fs ts) : TgRun K (gTup K m gs) (fTup m fs) ts := by
  refine ⟨fun σ H G pn O v d ρ ρ' s r e env len Q k => ?_⟩
  cases d <;> simp only [fTup, reduceCtorEq] at e
  split at e
  · rename_i hm
    obtain ⟨a, vs, rfl, h1, h2⟩ := r
    exact ⟨a, vs, rfl, s.sqT h1, by rw [Reps.length h2]; exact hm, h.run σ H G pn O vs _ ρ ρ' s h2 e env len Q k⟩
  · cases e
end
end DL
namespace DL
open PySem PySem.Spec PyProof.Rows L2

/-! ### comprehensions -/
def wipeE (ρ : Env) : List Nat → Env
  | [] => ρ
  | v :: vs => (wipeE ρ vs).set v none
theorem wipe_len (σ : L2.St) : ∀ vs, (wipe σ vs).length = σ.length := wipe_length σ
theorem wipeE_len (ρ : Env) : ∀ vs, (wipeE ρ vs).length = ρ.length
  | [] => rfl
  | v :: vs => by unfold wipeE; rw [List.length_set, wipeE_len ρ vs]
theorem wipe_get (σ : L2.St) : ∀ (vs : List Nat) (i : Nat), (wipe σ vs)[i]? = if i ∈ vs ∧ i < σ.length then some none else σ[i]?
  | [], i => by simp [wipe]
  | v :: vs, i => by
    unfold wipe
    by_cases h : v = i
    · subst h
      by_cases hl : v < σ.length
      · rw [List.getElem?_set_self (by rw [wipe_len]; exact hl), if_pos ⟨List.mem_cons_self, hl⟩]
      · rw [List.getElem?_eq_none (by rw [List.length_set, wipe_len]; omega), if_neg (fun z => hl z.2), List.getElem?_eq_none (by omega)]
    · rw [List.getElem?_set_ne h, wipe_get σ vs i]
      have : (i ∈ v :: vs ∧ i < σ.length) ↔ (i ∈ vs ∧ i < σ.length) := by
        rw [List.mem_cons]
        constructor
        · rintro ⟨a | a, b⟩
          · exact absurd a.symm h
          · exact ⟨a, b⟩
        · rintro ⟨a, b⟩
          exact ⟨.inr a, b⟩
      simp only [this]
theorem wipeE_get (σ : Env) : ∀ (vs : List Nat) (i : Nat), (wipeE σ vs)[i]? = if i ∈ vs ∧ i < σ.length then some none else σ[i]?
  | [], i => by simp [wipeE]
  | v :: vs, i => by
    unfold wipeE
    by_cases h : v = i
    · subst h
      by_cases hl : v < σ.length
      · rw [List.getElem?_set_self (by rw [wipeE_len]; exact hl), if_pos ⟨List.mem_cons_self, hl⟩]
      · rw [List.getElem?_eq_none (by rw [List.length_set, wipeE_len]; omega), if_neg (fun z => hl z.2), List.getElem?_eq_none (by omega)]
    · rw [List.getElem?_set_ne h, wipeE_get σ vs i]
      have : (i ∈ v :: vs ∧ i < σ.length) ↔ (i ∈ vs ∧ i < σ.length) := by
        rw [List.mem_cons]
        constructor
        · rintro ⟨a | a, b⟩
          · exact absurd a.symm h
          · exact ⟨a, b⟩
        · rintro ⟨a, b⟩
          exact ⟨.inr a, b⟩
      simp only [this]
theorem At.wiped {K : PySem.W.Frag} {pn : Pn} {G H : Hp} {σ : L2.St} {ρ : Env} {n : Nat} (A : At K pn G H σ ρ n) (vs : List Nat) : At K pn G H (wipe σ vs) (wipeE ρ vs) n := by
  refine ⟨A.sub, A.pst, fun i d h => ?_, by rw [wipe_len, wipeE_len]; exact A.len⟩
  rw [wipeE_get] at h
  split at h
  · cases h
  · rename_i c
    obtain ⟨v, h1, h2⟩ := A.env i d h
    refine ⟨v, ?_, h2⟩
    rw [wipe_get, if_neg (by rw [A.len]; exact c)]
    exact h1
theorem wipe_same {σ σ' : L2.St} {vs ts : List Nat} (hl : σ'.length = (wipe σ vs).length) (hs : ∀ i, i ∉ ts → σ'[i]? = (wipe σ vs)[i]?) (sub : ∀ i ∈ ts, i ∈ vs) : wipe σ' vs = wipe σ vs := by
  apply List.ext_getElem?
  intro i
  rw [wipe_get]
  rw [wipe_len] at hl
  by_cases h : i ∈ vs
  · by_cases hi : i < σ.length
    · rw [if_pos ⟨h, by omega⟩, wipe_get, if_pos ⟨h, hi⟩]
    · rw [if_neg (fun z => hi (by omega)), wipe_get, if_neg (fun z => hi z.2), List.getElem?_eq_none (by omega), List.getElem?_eq_none (by omega)]
  · rw [if_neg (fun z => h z.1)]
    exact hs i fun z => h (sub i z)

/-- the frozen part while a list grows at D -/
def Fz (G H : Hp) (D : Addr) (H' : Hp) : Hp := fun a => if a = D then none else ext G H H' a
theorem Fz_D {G H H' : Hp} {D : Addr} : Fz G H D H' D = none := by unfold Fz; rw [if_pos rfl]
theorem Fz_ne {G H H' : Hp} {D a : Addr} (h : a ≠ D) : Fz G H D H' a = ext G H H' a := by unfold Fz; rw [if_neg h]
theorem Fz_upd {G H H' : Hp} {D : Addr} {o : HO} : Fz G H D (upd H' D o) = Fz G H D H' := by
  funext a
  by_cases h : a = D
  · subst h
    rw [Fz_D, Fz_D]
  · rw [Fz_ne h, Fz_ne h]
    unfold ext
    rw [upd_ne h]
theorem Fz_ext {pn : Pn} {G H H1 H2 : Hp} {D : Addr} {n m : Nat} {o : HO} (p : Pst pn G H n) (p1 : ∀ p c, pn = some (p, c) → PenOk H1 p c m) (e1 : Ex pn H H1) (e2 : Ex pn H1 H2) (hD : H1 D = some o) : ext (Fz G H D H1) H1 H2 = Fz G H D H2 := by
  funext a
  by_cases h : a = D
  · subst h
    rw [ext_old Fz_D hD, Fz_D]
  · rw [Fz_ne h, ← ext_ext p p1 e1 e2]
    unfold ext
    rw [Fz_ne h]
    rfl
theorem Fz_sub {pn : Pn} {G H H' : Hp} {D : Addr} {n : Nat} (s : Sub G H) (p : Pst pn G H n) (e : Ex pn H H') : Sub (Fz G H D H') H' := fun a o h => by
  by_cases hd : a = D
  · subst hd
    rw [Fz_D] at h
    cases h
  · rw [Fz_ne hd] at h
    exact ext_sub s p e a o h
theorem Fz_le {G H H' : Hp} {D : Addr} (s : Sub G H) (hD : H D = none) : Sub G (Fz G H D H') := fun a o h => by
  have : a ≠ D := fun z => by
    subst z
    rw [s _ _ h] at hD
    cases hD
  rw [Fz_ne this]
  exact ext_some h
theorem Fz_ext_le {G H H' : Hp} {D : Addr} : Sub (Fz G H D H') (ext G H H') := fun a o h => by
  by_cases hd : a = D
  · subst hd
    rw [Fz_D] at h
    cases h
  · rw [Fz_ne hd] at h
    exact h
def compD (f : D → Env → Option Env) (tt : TDb) (Te : TD) : List D → List D → Env → Nat → (List D → Nat → Prop) → Prop
  | [], acc, _, n, q => q acc n
  | d :: ds, acc, ρ, n, q => ∃ ρ', f d ρ = some ρ' ∧ tt ρ' n fun b n => if b = true then Te ρ' n fun y n => acc.length < LIM ∧ compD f tt Te ds (acc ++ [y]) ρ n q else compD f tt Te ds acc ρ n q
def tComp (Tw : TDs) (f : D → Env → Option Env) (tt : TDb) (Te : TD) (vs : List Nat) : TD := fun ρ n q => Tw ρ n fun ds n => compD f tt Te ds [] (wipeE ρ vs) n fun acc n => q (.lst acc) n
/-- the tests behind the for -/
def TsD (X : Cx) (ifs : List Expr) (T : TDb) : Prop := ∃ t, PTs X ifs t ∧ ∀ (σ : L2.St) (H G : Hp) (pn : Pn) (n : Nat) (ρ : Env) (q : Bool → Nat → Prop), At X.K pn G H σ ρ n → T ρ n q →
  ∀ Q : Bool → Hp → Prop, (∀ v H', PostB pn G H q v H' → Q v H') → t σ H Q
def bYes : TDb := fun _ n q => q true n
theorem ts_nil {X : Cx} : TsD X [] bYes := ⟨_, pts_nil, fun σ H G pn n ρ q A hT Q k => k true H ⟨n, Go.refl A.pst, hT⟩⟩
theorem ts_one {X : Cx} {c : Expr} {T : TDb} (h : BD X c T) : TsD X [c] T := by
  obtain ⟨t, p, k⟩ := h
  exact ⟨t, pts_one p, k⟩

/-! ### one transformer for a judgement, in every block -/
def can (K : PySem.W.Frag) (T : TD) : TE := fun σ H Q => ∃ (G : Hp) (pn : Pn) (n : Nat) (ρ : Env) (q : QD), At K pn G H σ ρ n ∧ T ρ n q ∧ ∀ v H', Post K pn G H q v H' → Q v H'
def canB (K : PySem.W.Frag) (T : TDb) : TT := fun σ H Q => ∃ (G : Hp) (pn : Pn) (n : Nat) (ρ : Env) (q : Bool → Nat → Prop), At K pn G H σ ρ n ∧ T ρ n q ∧ ∀ v H', PostB pn G H q v H' → Q v H'
theorem ed_can {X : Cx} {e : Expr} {T : TD} (h : ED X e T) : PE X e (can X.K T) := by
  obtain ⟨t, p, k⟩ := h
  exact ⟨fun pins s σ H Q I ⟨G, pn, n, ρ, q, A, hT, hQ⟩ => p.run pins s σ H Q I (k σ H G pn n ρ q A hT Q hQ)⟩
theorem ts_can {X : Cx} {e : List Expr} {T : TDb} (h : TsD X e T) : PTs X e (canB X.K T) := by
  obtain ⟨t, p, k⟩ := h
  exact ⟨fun pins s σ H Q I ⟨G, pn, n, ρ, q, A, hT, hQ⟩ => p.run pins s σ H Q I (k σ H G pn n ρ q A hT Q hQ)⟩
theorem bd_can {X : Cx} {e : Expr} {T : TDb} (h : BD X e T) : PT X e (canB X.K T) := by
  obtain ⟨t, p, k⟩ := h
  exact ⟨fun pins s σ H Q I ⟨G, pn, n, ρ, q, A, hT, hQ⟩ => p.run pins s σ H Q I (k σ H G pn n ρ q A hT Q hQ)⟩

theorem Go.sub {pn : Pn} {G H H1 H2 : Hp} {n : Nat} (g : Go pn G H H1 n) (s : Sub H1 H2) : Go pn G H H2 n := ⟨g.ex.trans (.of_same s), fun a c e => by
  obtain ⟨⟨x, y, h1, h2⟩, ⟨ns, h3⟩, h4⟩ := g.pen a c e
  exact ⟨⟨x, y, s _ _ h1, h2⟩, ⟨ns, s _ _ h3.1, h3.2⟩, h4⟩⟩
/-- the turn of a comprehension: the state with the list at Dd -/
structure Lc (K : PySem.W.Frag) (pn : Pn) (G H : Hp) (Dd : Addr) (Hh : Hp) (acc : List D) (n' : Nat) : Prop where
  go : Go pn G H Hh n'
  ls : ∃ vs, Hh Dd = some (.lst vs) ∧ Reps K pn (Fz G H Dd Hh) vs acc
theorem lc_ed {K : PySem.W.Frag} {f : D → Env → Option Env} {tt : TDb} {Te : TD} {g : TG} {ts vs : List Nat} (hr : TgRun K g f ts) (sub : ∀ i ∈ ts, i ∈ vs) {pn : Pn} {G H : Hp} {σ : L2.St} {ρ : Env} {n : Nat} (A : At K pn G H σ ρ n) {J : It} {ds : List D} (w : Walks K pn J G ds)
    {q : List D → Nat → Prop} (hq : compD f tt Te ds [] (wipeE ρ vs) n q) {Dd : Addr} (hD : H Dd = none) {Q : Hp → Prop} (kq : ∀ Hh acc n', Lc K pn G H Dd Hh acc n' → q acc n' → Q Hh) :
    ∃ W : Nat → Nat → Hp → Prop, (∃ m, W 0 m (upd H Dd (.lst []))) ∧ ∀ i m H, W i m H →
  (J.stop i H ∧ Q H) ∨ (J.go i H ∧ ∃ Nx : Hp → Prop, (∀ H', Nx H' → ∃ m', m' < m ∧ W (i + 1) m' H') ∧ ∀ x H', J.yld i H x H' → g x (wipe σ vs) H' fun σ2 H2 => wipe σ2 vs = wipe σ vs ∧ canB K tt σ2 H2 fun b H3 =>
    if b = true then can K Te σ2 H3 fun y H4 => ∃ acc, H4 Dd = some (.lst acc) ∧ acc.length < sizeLine ∧ Nx (upd H4 Dd (.lst (acc ++ [y]))) else Nx H3) := by
  have gD : G Dd = none := by
    cases z : G Dd with
    | none => rfl
    | some u => rw [A.sub _ _ z] at hD; cases hD
  have npD : ∀ p c, pn = some (p, c) → Dd ≠ p := fun p c e z => by
    obtain ⟨x, y, h1, _⟩ := (A.pst p c e).1.lst
    rw [← z, hD] at h1
    cases h1
  refine ⟨fun i m Hh => ∃ acc n', m = ds.length - i ∧ i ≤ ds.length ∧ Lc K pn G H Dd Hh acc n' ∧ compD f tt Te (ds.drop i) acc (wipeE ρ vs) n' q, ⟨ds.length, [], n, by simp, Nat.zero_le _, ⟨Go.new A.pst hD, [], upd_same, rfl⟩, hq⟩, ?_⟩
  rintro i m Hh ⟨acc, n', rfl, hi, L, hc⟩
  obtain ⟨us, hus, rus⟩ := L.ls
  have sF : Sub G (Fz G H Dd Hh) := Fz_le A.sub hD
  have sFH : Sub (Fz G H Dd Hh) Hh := Fz_sub A.sub A.pst L.go.ex
  by_cases hlt : i < ds.length
  · refine .inr ⟨w.go i Hh (sF.trans sFH) hlt, fun H' => ∃ acc n', Lc K pn G H Dd H' acc n' ∧ compD f tt Te (ds.drop (i + 1)) acc (wipeE ρ vs) n' q, fun H' ⟨a, k, l, c⟩ => ⟨ds.length - (i + 1), by omega, a, k, rfl, hlt, l, c⟩, fun x H1 y => ?_⟩
    obtain ⟨s1, y1⟩ := w.yld i Hh x H1 (sF.trans sFH) y
    rw [show ds.drop i = ds[i] :: ds.drop (i + 1) from List.drop_eq_getElem_cons hlt] at hc
    obtain ⟨ρ', hf, htt⟩ := hc
    -- the item
    have r1 := y1 ds[i] (List.getElem?_eq_getElem hlt) _ sF sFH
    have g1 : Go pn G H H1 n' := L.go.sub s1
    have e1 : ext (Fz G H Dd Hh) Hh H1 = Fz G H Dd H1 := Fz_ext A.pst L.go.pen L.go.ex (.of_same s1) hus
    rw [e1] at r1
    have sF1 : Sub (Fz G H Dd H1) H1 := Fz_sub A.sub A.pst g1.ex
    have Aw := A.wiped vs
    have hus1 : H1 Dd = some (.lst us) := s1 _ _ hus
    refine hr.run (wipe σ vs) H1 (Fz G H Dd H1) pn [] x ds[i] (wipeE ρ vs) ρ' sF1 r1 hf (fun j d _ h => ?_) Aw.len _ fun σ' env' l1 l2 same => ?_
    · obtain ⟨v, h1, h2⟩ := Aw.env j d h
      exact ⟨v, h1, Rep.mono (Fz_le A.sub hD) _ _ h2⟩
    refine ⟨wipe_same l1 (fun j hj => (same j hj).1) sub, ?_⟩
    have pstF : ∀ (H2 : Hp) (k : Nat), Go pn G H H2 k → Pst pn (Fz G H Dd H2) H2 k := fun H2 k g2 p c e => by
      refine ⟨g2.pen p c e, ?_, ?_⟩
      · rw [Fz_ne (fun z => npD p c e z.symm)]
        obtain ⟨x, y, h1, _⟩ := (A.pst p c e).1.lst
        exact ext_old (A.pst p c e).2.1 h1
      · obtain ⟨ns, h1, _⟩ := (A.pst p c e).1.cells
        have : c ≠ Dd := fun z => by rw [z, hD] at h1; cases h1
        rw [Fz_ne this]
        exact ext_old (A.pst p c e).2.2 h1
    have A1 : At K pn (Fz G H Dd H1) H1 σ' ρ' n' := ⟨sF1, pstF H1 n' g1, fun i d h => env' i d (by simp) h, by rw [l1, l2]; exact Aw.len⟩
    refine ⟨Fz G H Dd H1, pn, n', ρ', _, A1, htt, fun b H2 ⟨n2, g2, hb⟩ => ?_⟩
    have e2 : ext (Fz G H Dd H1) H1 H2 = Fz G H Dd H2 := Fz_ext A.pst g1.pen g1.ex g2.ex hus1
    have g12 : Go pn G H H2 n2 := g1.trans g2
    have A2 := A1.go g2
    rw [e2] at A2
    have hus2 : H2 Dd = some (.lst us) := g2.ex _ _ hus1 npD
    have rus2 : Reps K pn (Fz G H Dd H2) us acc := by
      refine Reps.mono (fun a o h => ?_) _ _ rus
      by_cases ha : a = Dd
      · subst ha
        rw [Fz_D] at h
        cases h
      · rw [Fz_ne ha] at h ⊢
        have := ext_sub (A.go L.go).sub (A.go L.go).pst ((Ex.of_same s1).trans g2.ex)
        have z : ext (ext G H Hh) Hh H2 a = some o := ext_some h
        rw [ext_ext A.pst L.go.pen L.go.ex ((Ex.of_same s1).trans g2.ex)] at z
        exact z
    cases b with
    | false =>
      exact ⟨acc, n2, ⟨g12, us, hus2, rus2⟩, hb⟩
    | true =>
      refine ⟨Fz G H Dd H2, pn, n2, ρ', _, A2, hb, fun y H3 ⟨d, n3, g3, r3, hl, hc⟩ => ?_⟩
      have e3 : ext (Fz G H Dd H2) H2 H3 = Fz G H Dd H3 := Fz_ext A.pst g12.pen g12.ex g3.ex hus2
      rw [e3] at r3
      have hus3 : H3 Dd = some (.lst us) := g3.ex _ _ hus2 npD
      have g123 := g12.trans g3
      have rus3 : Reps K pn (Fz G H Dd H3) us acc := by
        refine Reps.mono (fun a o h => ?_) _ _ rus2
        have z : ext (Fz G H Dd H2) H2 H3 a = some o := ext_some h
        rw [e3] at z
        exact z
      refine ⟨us, hus3, by rw [Reps.length rus]; exact Nat.lt_of_lt_of_le hl (lim_le (Nat.le_refl _)), acc ++ [d], n3, ⟨⟨fun a o h np => ?_, fun p c e => ?_⟩, us ++ [y], upd_same, ?_⟩, hc⟩
      · have : a ≠ Dd := fun z => by rw [z, hD] at h; cases h
        rw [upd_ne this]
        exact g123.ex a o h np
      · obtain ⟨⟨x, z, h1, h2⟩, ⟨ns, h3⟩, h4⟩ := g123.pen p c e
        obtain ⟨ns0, h0, _⟩ := (A.pst p c e).1.cells
        have n1 : p ≠ Dd := fun z => npD p c e z.symm
        have n2 : c ≠ Dd := fun z => by rw [z, hD] at h0; cases h0
        exact ⟨⟨x, z, by rw [upd_ne n1]; exact h1, h2⟩, ⟨ns, by rw [upd_ne n2]; exact h3.1, h3.2⟩, h4⟩
      · rw [Fz_upd]
        exact Reps.append rus3 ⟨y, [], rfl, r3, rfl⟩
  · refine .inl ⟨w.stop i Hh (sF.trans sFH) (by omega), kq Hh acc n' L ?_⟩
    rw [List.drop_eq_nil_of_le (by omega)] at hc
    exact hc
theorem ed_lc {X : Cx} {elt tg iter : Expr} {ifs : List Expr} {scope : Scope} {own : List (Str × Nat)} {pos : Pos} {Tw : TDs} {f : D → Env → Option Env} {tt : TDb} {Te : TD} {g : TG} {ts : List Nat} (hc : X.calm = true) (hN : X.N.Nodup) (hw : WD X tg iter Tw) (ok : BlkOk X.N X.env.scope scope own)
    (hr : TgRun X.K g f ts) (hg : ∀ (s : Shared) (H : Hp) (C : Addr) (cl : List (Str × Addr)) (fp : List Addr), PG (X.blk s H scope (compEnvC scope cl C X.env) fp) tg g) (ht : ∀ (s : Shared) (H : Hp) (C : Addr) (cl : List (Str × Addr)) (fp : List Addr), TsD (X.blk s H scope (compEnvC scope cl C X.env) fp) ifs tt)
    (he : ∀ (s : Shared) (H : Hp) (C : Addr) (cl : List (Str × Addr)) (fp : List Addr), ED (X.blk s H scope (compEnvC scope cl C X.env) fp) elt Te) (sub : ∀ i ∈ ts, i ∈ own.map (·.2) := by decide) (hs : ∀ x, foldedSetIterable iter X.env x = pure x := by intro _; rfl) :
    ED X (.ListComp elt [⟨tg, iter, ifs, 0⟩] scope pos) (tComp Tw f tt Te (own.map (·.2))) := by
  obtain ⟨wi, pi, kw⟩ := hw
  refine ⟨_, pe_lc (tt := canB X.K tt) (te := can X.K Te) hc hN pi ok hg (fun s H C cl fp => ts_can (ht s H C cl fp)) (fun s H C cl fp => ed_can (he s H C cl fp)) hs, fun σ H G pn n ρ q A hT Q kq => ?_⟩
  refine kw σ H G pn n ρ _ A hT _ fun J ds n1 H1 g1 hq w => ?_
  intro Dd hD
  have A1 := A.go g1
  refine lc_ed hr sub A1 w hq hD fun Hh acc n' L hq' => kq _ _ ⟨.lst acc, n', g1.trans L.go, ?_, hq'⟩
  obtain ⟨us, h1, h2⟩ := L.ls
  refine ⟨Dd, us, rfl, ?_, Reps.mono ?_ _ _ h2⟩
  · rw [← A.ext_ext g1 L.go]
    rw [ext_none ?_ hD]
    · exact h1
    · cases z : ext G H H1 Dd with
      | none => rfl
      | some u => rw [A1.sub _ _ z] at hD; cases hD
  · rw [← A.ext_ext g1 L.go]
    exact Fz_ext_le
end DL
namespace DL
open PySem PySem.Spec PyProof.Rows L2

/-! ### the state of a statement -/
structure OwnAt (K : PySem.W.Frag) (pn : Pn) (H0 G H : Hp) (σ : L2.St) (ρ : Env) (i : Nat) (a : Addr) : Prop where
  ex : ∃ ds vs, ρ[i]? = some (some (.lst ds)) ∧ σ[i]? = some (some (.ref a)) ∧ H a = some (.lst vs) ∧ Reps K pn G vs ds
  noG : G a = none
  noH : H0 a = none
structure Sat (K : PySem.W.Frag) (pn : Pn) (G0 H0 G H : Hp) (σ : L2.St) (ρ : Env) (O : List Nat) (n : Nat) : Prop where
  sub : Sub G H
  g0 : Sub G0 G
  fr : ∀ a o, G a = some o → G0 a = some o ∨ H0 a = none
  ex : Ex pn H0 H
  pst : Pst pn G H n
  p0 : ∀ p c, pn = some (p, c) → (∃ o, H0 p = some o) ∧ ∃ o, H0 c = some o
  own : ∃ A : Nat → Addr, (∀ i ∈ O, OwnAt K pn H0 G H σ ρ i (A i)) ∧ ∀ i ∈ O, ∀ j ∈ O, A i = A j → i = j
  env : EnvOk K pn G O σ ρ
  len : σ.length = ρ.length
/-- the slots at O are not to be read -/
def hideFrom (O : List Nat) : Nat → Env → Env
  | _, [] => []
  | k, d :: ρ => (if k ∈ O then none else d) :: hideFrom O (k + 1) ρ
def hide (O : List Nat) (ρ : Env) : Env := hideFrom O 0 ρ
theorem hideFrom_get (O : List Nat) : ∀ (ρ : Env) (k i : Nat), (hideFrom O k ρ)[i]? = (ρ[i]?).map fun d => if k + i ∈ O then none else d
  | [], k, i => by simp [hideFrom]
  | d :: ρ, k, 0 => by simp [hideFrom]
  | d :: ρ, k, i + 1 => by
    simp only [hideFrom, List.getElem?_cons_succ]
    rw [hideFrom_get O ρ (k + 1) i, show k + 1 + i = k + (i + 1) by omega]
theorem hide_get {O : List Nat} {ρ : Env} {i : Nat} {d : D} (h : (hide O ρ)[i]? = some (some d)) : i ∉ O ∧ ρ[i]? = some (some d) := by
  unfold hide at h
  rw [hideFrom_get] at h
  cases e : ρ[i]? with
  | none => rw [e] at h; cases h
  | some x =>
    rw [e] at h
    simp only [Option.map_some, Option.some.injEq, Nat.zero_add] at h
    split at h
    · cases h
    · rename_i c
      exact ⟨c, by rw [h]⟩
theorem hideFrom_len (O : List Nat) : ∀ (ρ : Env) (k : Nat), (hideFrom O k ρ).length = ρ.length
  | [], k => rfl
  | d :: ρ, k => by simp [hideFrom, hideFrom_len O ρ (k + 1)]
theorem hide_len (O : List Nat) (ρ : Env) : (hide O ρ).length = ρ.length := hideFrom_len O ρ 0

section
variable {K : PySem.W.Frag} {pn : Pn} {G0 H0 G H : Hp} {σ : L2.St} {ρ : Env} {O : List Nat} {n : Nat}
theorem Sat.pne (S : Sat K pn G0 H0 G H σ ρ O n) {a : Addr} (h : H0 a = none) : ∀ p c, pn = some (p, c) → a ≠ p ∧ a ≠ c := fun p c e => by
  obtain ⟨⟨o, h1⟩, ⟨o', h2⟩⟩ := S.p0 p c e
  refine ⟨fun z => ?_, fun z => ?_⟩
  · rw [← z, h] at h1; cases h1
  · rw [← z, h] at h2; cases h2
/-- an expression's state: the lists at O'' stay one's own; behind it -/
theorem Sat.step (S : Sat K pn G0 H0 G H σ ρ O n) (O'' : List Nat) (hO : ∀ i ∈ O'', i ∈ O) : ∃ Ge : Hp, Sub G Ge ∧ (∀ a o, Ge a = some o → G a = some o ∨ ∃ vs, o = .lst vs) ∧ At K pn Ge H σ (hide O'' ρ) n ∧
    ∀ (H' G' : Hp) (n' : Nat), Go pn Ge H H' n' → Sub Ge G' → Sub G' (ext Ge H H') → Sat K pn G0 H0 G' H' σ ρ O'' n' := by
  classical
  obtain ⟨A, own, inj⟩ := S.own
  let Ge : Hp := fun a => match G a with
    | some o => some o
    | none => if ∃ i ∈ O, i ∉ O'' ∧ A i = a then H a else none
  have ge1 : ∀ {a o}, G a = some o → Ge a = some o := fun {a o} h => by
    show (match G a with
      | some o => some o
      | none => if ∃ i ∈ O, i ∉ O'' ∧ A i = a then H a else none) = some o
    rw [h]
  have ge2 : ∀ {a o}, Ge a = some o → G a = some o ∨ (G a = none ∧ H a = some o ∧ ∃ i ∈ O, i ∉ O'' ∧ A i = a) := fun {a o} h => by
    have h : (match G a with
      | some o => some o
      | none => if ∃ i ∈ O, i ∉ O'' ∧ A i = a then H a else none) = some o := h
    cases g : G a with
    | some u => rw [g] at h; exact .inl h
    | none =>
      rw [g] at h
      simp only at h
      split at h
      · rename_i c
        exact .inr ⟨rfl, h, c⟩
      · cases h
  have ge3 : ∀ {i}, i ∈ O → i ∉ O'' → ∀ {o}, H (A i) = some o → Ge (A i) = some o := fun {i} hi hn {o} h => by
    show (match G (A i) with
      | some o => some o
      | none => if ∃ j ∈ O, j ∉ O'' ∧ A j = A i then H (A i) else none) = some o
    rw [(own i hi).noG]
    simp only
    rw [if_pos ⟨i, hi, hn, rfl⟩]
    exact h
  have gH : Sub Ge H := fun a o h => by
    rcases ge2 h with h | h
    · exact S.sub _ _ h
    · exact h.2.1
  have gp : ∀ p c, pn = some (p, c) → Ge p = none ∧ Ge c = none := fun p c e => by
    obtain ⟨_, h1, h2⟩ := S.pst p c e
    constructor
    · cases z : Ge p with
      | none => rfl
      | some o =>
        rcases ge2 z with h | ⟨_, _, i, hi, _, hA⟩
        · rw [h1] at h; cases h
        · exact absurd hA (S.pne (own i hi).noH p c e).1
    · cases z : Ge c with
      | none => rfl
      | some o =>
        rcases ge2 z with h | ⟨_, _, i, hi, _, hA⟩
        · rw [h2] at h; cases h
        · exact absurd hA (S.pne (own i hi).noH p c e).2
  have hsub : Sub G Ge := fun a o h => ge1 h
  refine ⟨Ge, hsub, fun a o h => (ge2 h).elim .inl fun ⟨_, hh, i, hi, _, hA⟩ => .inr (by
    obtain ⟨ds, vs, _, _, e3, _⟩ := (own i hi).ex
    rw [← hA, e3] at hh
    exact ⟨vs, (Option.some.inj hh).symm⟩), ⟨gH, fun p c e => ⟨(S.pst p c e).1, gp p c e⟩, fun i d h => ?_, by rw [hide_len]; exact S.len⟩, fun H' G' n' g h1 h2 => ?_⟩
  · obtain ⟨hn, h⟩ := hide_get h
    by_cases hi : i ∈ O
    · obtain ⟨ds, vs, e1, e2, e3, e4⟩ := (own i hi).ex
      rw [e1] at h
      cases h
      exact ⟨_, e2, A i, vs, rfl, ge3 hi hn e3, Reps.mono hsub _ _ e4⟩
    · obtain ⟨v, e1, e2⟩ := S.env i d hi h
      exact ⟨v, e1, Rep.mono hsub _ _ e2⟩
  · have pe : Pst pn Ge H n := fun p c e => ⟨(S.pst p c e).1, gp p c e⟩
    have hE : Sub (ext Ge H H') H' := ext_sub gH pe g.ex
    refine ⟨h2.trans hE, (S.g0.trans hsub).trans h1, fun a o h => ?_, S.ex.trans g.ex, fun p c e => ?_, S.p0, ⟨A, fun i hi => ?_, fun i hi j hj => inj i (hO i hi) j (hO j hj)⟩, fun i d hi h => ?_, S.len⟩
    · have h := h2 _ _ h
      cases z : Ge a with
      | some u =>
        rw [ext_some z] at h
        cases h
        rcases ge2 z with h | ⟨_, _, i, hi, _, hA⟩
        · exact S.fr _ _ h
        · exact .inr (by rw [← hA]; exact (own i hi).noH)
      | none =>
        cases z2 : H a with
        | some u => rw [ext_old z z2] at h; cases h
        | none =>
          refine .inr ?_
          cases z3 : H0 a with
          | none => rfl
          | some u =>
            by_cases hp : ∀ p c, pn = some (p, c) → a ≠ p
            · rw [S.ex a u z3 hp] at z2; cases z2
            · exfalso
              apply hp
              intro p c e q
              obtain ⟨x, y, hx, _⟩ := (S.pst p c e).1.lst
              rw [← q, z2] at hx
              cases hx
    · refine ⟨g.pen p c e, ?_, ?_⟩
      · cases z : G' p with
        | none => rfl
        | some u =>
          have z := h2 _ _ z
          obtain ⟨x, y, hx, _⟩ := (S.pst p c e).1.lst
          rw [ext_old (gp p c e).1 hx] at z
          cases z
      · cases z : G' c with
        | none => rfl
        | some u =>
          have z := h2 _ _ z
          obtain ⟨ns, hx, _⟩ := (S.pst p c e).1.cells
          rw [ext_old (gp p c e).2 hx] at z
          cases z
    · obtain ⟨ds, vs, e1, e2, e3, e4⟩ := (own i (hO i hi)).ex
      refine ⟨⟨ds, vs, e1, e2, g.ex _ _ e3 fun p c e => (S.pne (own i (hO i hi)).noH p c e).1, Reps.mono (hsub.trans h1) _ _ e4⟩, ?_, (own i (hO i hi)).noH⟩
      cases z : G' (A i) with
      | none => rfl
      | some u =>
        have z := h2 _ _ z
        have : Ge (A i) = none := by
          cases z5 : Ge (A i) with
          | none => rfl
          | some w =>
            rcases ge2 z5 with h | ⟨_, _, j, hj, hn, hA⟩
            · rw [(own i (hO i hi)).noG] at h; cases h
            · exact absurd (inj j hj i (hO i hi) hA ▸ hi) hn
        rw [ext_old this e3] at z
        cases z
    · by_cases hiO : i ∈ O
      · obtain ⟨ds, vs, e1, e2, e3, e4⟩ := (own i hiO).ex
        rw [e1] at h
        cases h
        exact ⟨_, e2, A i, vs, rfl, h1 _ _ (ge3 hiO hi e3), Reps.mono (hsub.trans h1) _ _ e4⟩
      · obtain ⟨v, e1, e2⟩ := S.env i d hiO h
        exact ⟨v, e1, Rep.mono (hsub.trans h1) _ _ e2⟩
/-- fewer lists of one's own -/
theorem Sat.weak (S : Sat K pn G0 H0 G H σ ρ O n) (O'' : List Nat) (hO : ∀ i ∈ O'', i ∈ O) : ∃ G', Sub G G' ∧ Sat K pn G0 H0 G' H σ ρ O'' n := by
  obtain ⟨Ge, h1, _, A, k⟩ := S.step O'' hO
  exact ⟨Ge, h1, k H Ge n (Go.refl A.pst) (Sub.refl _) (by rw [ext_refl]; exact Sub.refl _)⟩
/-- a name is given a frozen thing -/
theorem Sat.set (S : Sat K pn G0 H0 G H σ ρ O n) {σ' : L2.St} {ρ' : Env} {ts : List Nat} (env : EnvOk K pn G (O.filter (· ∉ ts)) σ' ρ') (l1 : σ'.length = σ.length) (l2 : ρ'.length = ρ.length) (same : ∀ i, i ∉ ts → σ'[i]? = σ[i]? ∧ ρ'[i]? = ρ[i]?) :
    Sat K pn G0 H0 G H σ' ρ' (O.filter (· ∉ ts)) n := by
  obtain ⟨A, own, inj⟩ := S.own
  refine ⟨S.sub, S.g0, S.fr, S.ex, S.pst, S.p0, ⟨A, fun i hi => ?_, fun i hi j hj => inj i (List.mem_filter.mp hi).1 j (List.mem_filter.mp hj).1⟩, env, by rw [l1, l2]; exact S.len⟩
  obtain ⟨h1, h2⟩ := List.mem_filter.mp hi
  have h2 : i ∉ ts := of_decide_eq_true h2
  obtain ⟨⟨ds, vs, e1, e2, e3⟩, e4, e5⟩ := own i h1
  exact ⟨⟨ds, vs, by rw [(same i h2).2]; exact e1, by rw [(same i h2).1]; exact e2, e3⟩, e4, e5⟩
/-- a name is given a list that is one's own -/
theorem Sat.setOwn (S : Sat K pn G0 H0 G H σ ρ O n) {a : Addr} {vs : List V} {ds : List D} (i : Nat) (ha : H a = some (.lst vs)) (hG : G a = none) (h0 : H0 a = none) (hr : Reps K pn G vs ds) (hn : ∀ j ∈ O, ∀ b, OwnAt K pn H0 G H σ ρ j b → b ≠ a) (hi : i < ρ.length) :
    Sat K pn G0 H0 G H (σ.set i (some (.ref a))) (ρ.set i (some (.lst ds))) (i :: O.filter (· ∉ [i])) n := by
  obtain ⟨A, own, inj⟩ := S.own
  have ne : ∀ {j}, j ∈ O.filter (· ∉ [i]) → j ∈ O ∧ j ≠ i := fun {j} h => by
    obtain ⟨h1, h2⟩ := List.mem_filter.mp h
    exact ⟨h1, by simpa using h2⟩
  refine ⟨S.sub, S.g0, S.fr, S.ex, S.pst, S.p0, ⟨fun j => if j = i then a else A j, fun j hj => ?_, fun j hj k hk e => ?_⟩, fun j d hj hd => ?_, by simp [S.len]⟩
  · rcases List.mem_cons.mp hj with rfl | hj
    · dsimp only
      rw [if_pos rfl]
      exact ⟨⟨ds, vs, List.getElem?_set_self hi, List.getElem?_set_self (by rw [S.len]; exact hi), ha, hr⟩, hG, h0⟩
    · obtain ⟨h1, h2⟩ := ne hj
      dsimp only
      rw [if_neg h2]
      obtain ⟨⟨es, ws, e1, e2, e3⟩, e4, e5⟩ := own j h1
      exact ⟨⟨es, ws, by rw [List.getElem?_set_ne (Ne.symm h2)]; exact e1, by rw [List.getElem?_set_ne (Ne.symm h2)]; exact e2, e3⟩, e4, e5⟩
  · dsimp only at e
    by_cases hji : j = i
    · by_cases hki : k = i
      · rw [hji, hki]
      · rw [if_pos hji, if_neg hki] at e
        rcases List.mem_cons.mp hk with hk | hk
        · exact absurd hk hki
        · exact absurd e.symm (hn k (ne hk).1 _ (own k (ne hk).1))
    · rcases List.mem_cons.mp hj with hj | hj
      · exact absurd hj hji
      · by_cases hki : k = i
        · rw [if_neg hji, if_pos hki] at e
          exact absurd e (hn j (ne hj).1 _ (own j (ne hj).1))
        · rw [if_neg hji, if_neg hki] at e
          rcases List.mem_cons.mp hk with hk | hk
          · exact absurd hk hki
          · exact inj j (ne hj).1 k (ne hk).1 e
  · have hji : j ≠ i := fun z => hj (by rw [z]; exact List.mem_cons_self)
    rw [List.getElem?_set_ne (Ne.symm hji)] at hd
    have : j ∉ O := fun z => hj (List.mem_cons_of_mem _ (List.mem_filter.mpr ⟨z, by simpa using hji⟩))
    obtain ⟨w, h1, h2⟩ := S.env j d this hd
    exact ⟨w, by rw [List.getElem?_set_ne (Ne.symm hji)]; exact h1, h2⟩
/-- a list of one's own is changed -/
theorem Sat.mut (S : Sat K pn G0 H0 G H σ ρ O n) {i : Nat} (hi : i ∈ O) {es : List D} {a : Addr} {vs ws : List V} (hs : σ[i]? = some (some (.ref a))) (ho : H a = some (.lst vs)) (hG : G a = none) (h0 : H0 a = none) (hr : Reps K pn G ws es) (hl : i < ρ.length) :
    Sat K pn G0 H0 G (upd H a (.lst ws)) σ (ρ.set i (some (.lst es))) O n := by
  obtain ⟨A, own, inj⟩ := S.own
  have hA : A i = a := by
    obtain ⟨ds', vs', e1, e2, _⟩ := (own i hi).ex
    rw [hs] at e2
    cases e2
    rfl
  have ne : ∀ b o, G b = some o → b ≠ a := fun b o h z => by rw [z, hG] at h; cases h
  refine ⟨fun b o h => by rw [upd_ne (ne b o h)]; exact S.sub b o h, S.g0, S.fr, fun b o h np => ?_, fun p c e => ?_, S.p0, ⟨A, fun j hj => ?_, inj⟩, fun j d hj hd => ?_, by simp [S.len]⟩
  · have : b ≠ a := fun z => by rw [z, h0] at h; cases h
    rw [upd_ne this]
    exact S.ex b o h np
  · obtain ⟨⟨⟨x, y, h1, h2⟩, ⟨ns, h3⟩, h4⟩, h5⟩ := S.pst p c e
    have := S.pne h0 p c e
    exact ⟨⟨⟨x, y, by rw [upd_ne (Ne.symm this.1)]; exact h1, h2⟩, ⟨ns, by rw [upd_ne (Ne.symm this.2)]; exact h3.1, h3.2⟩, h4⟩, h5⟩
  · obtain ⟨⟨es', ws', e1, e2, e3, e4⟩, e5, e6⟩ := own j hj
    by_cases hji : j = i
    · subst hji
      exact ⟨⟨es, ws, List.getElem?_set_self hl, e2, by rw [hA, upd_same], hr⟩, e5, e6⟩
    · have : A j ≠ a := fun z => hji (inj j hj i hi (z.trans hA.symm))
      exact ⟨⟨es', ws', by rw [List.getElem?_set_ne (Ne.symm hji)]; exact e1, e2, by rw [upd_ne this]; exact e3, e4⟩, e5, e6⟩
  · have hji : j ≠ i := fun z => hj (z ▸ hi)
    rw [List.getElem?_set_ne (Ne.symm hji)] at hd
    exact S.env j d hj hd
end
end DL
namespace DL
open PySem PySem.Spec PyProof.Rows L2

/-! ### data without lists -/
mutual
def pureD : D → Bool
  | .tup ds => pureDs ds
  | .lst _ | .dct _ | .pen | .scr _ => false
  | .non | .bl _ | .int _ | .str _ => true
def pureDs : List D → Bool
  | [] => true
  | d :: ds => pureD d && pureDs ds
end
def TupLe (G G' : Hp) : Prop := ∀ a xs, Rd G a (.tup xs) → Rd G' a (.tup xs)
mutual
theorem Rep.pure {K : PySem.W.Frag} {pn : Pn} {G G' : Hp} (t : TupLe G G') : ∀ (d : D) (v : V), pureD d = true → Rep K pn G v d → Rep K pn G' v d
  | .non, v, _, h => h
  | .bl b, v, _, h => h
  | .int i, v, _, h => h
  | .str x, v, _, h => h
  | .tup ds, v, p, h => by
    obtain ⟨a, vs, e, h1, h2⟩ := h
    refine ⟨a, vs, e, ?_, Reps.pure t ds vs (by simpa [pureD] using p) h2⟩
    rcases h1 with h1 | h1
    · exact .inl (t _ _ h1)
    · exact .inr h1
  | .lst ds, v, p, h => by simp [pureD] at p
  | .dct kvs, v, p, h => by simp [pureD] at p
  | .pen, v, p, h => by simp [pureD] at p
  | .scr ns, v, p, h => by simp [pureD] at p
theorem Reps.pure {K : PySem.W.Frag} {pn : Pn} {G G' : Hp} (t : TupLe G G') : ∀ (ds : List D) (vs : List V), pureDs ds = true → Reps K pn G vs ds → Reps K pn G' vs ds
  | [], vs, _, h => h
  | d :: ds, vs, p, h => by
    obtain ⟨v, r, e, h1, h2⟩ := h
    have p' : pureD d = true ∧ pureDs ds = true := by simpa [pureDs] using p
    exact ⟨v, r, e, Rep.pure t d v p'.1 h1, Reps.pure t ds r p'.2 h2⟩
end
theorem hideFrom_nil : ∀ (ρ : Env) (k : Nat), hideFrom [] k ρ = ρ
  | [], _ => rfl
  | d :: ρ, k => by simp [hideFrom, hideFrom_nil ρ (k + 1)]
theorem hide_nil (ρ : Env) : hide [] ρ = ρ := hideFrom_nil ρ 0
section
variable {K : PySem.W.Frag} {pn : Pn} {G0 H0 G H : Hp} {σ : L2.St} {ρ : Env} {O : List Nat} {n : Nat}
/-- an expression whose value has no list: every list stays one's own. a: an address whose object is left out of the frozen part -/
theorem Sat.stepP (S : Sat K pn G0 H0 G H σ ρ O n) : ∃ Ge : Hp, Sub G Ge ∧ At K pn Ge H σ ρ n ∧ ∀ (H' : Hp) (n' : Nat), Go pn Ge H H' n' →
    ∃ Gf : Hp, Sub G Gf ∧ Sub Gf H ∧ (∀ G', Sub Gf G' → Sub G' (ext Gf H H') → Sat K pn G0 H0 G' H' σ ρ O n') ∧ TupLe (ext Ge H H') (ext Gf H H') ∧ (∀ a, H a = none → TupLe (Fz Ge H a H') (Fz Gf H a H')) := by
  obtain ⟨Ge, s1, l1, A, _⟩ := S.step [] (fun _ h => nomatch h)
  rw [hide_nil] at A
  refine ⟨Ge, s1, A, fun H' n' g => ?_⟩
  obtain ⟨Gf, s2, l2, A2, k2⟩ := S.step O (fun _ h => h)
  have ht : ∀ a u, (∀ vs, u ≠ HO.lst vs) → ext Ge H H' a = some u → ext Gf H H' a = some u := fun a u hu h => by
    cases z : Ge a with
    | some w =>
      rw [ext_some z] at h
      cases h
      rcases l1 a _ z with q | ⟨vs, q⟩
      · exact ext_some (s2 _ _ q)
      · exact absurd q (hu vs)
    | none =>
      cases z2 : H a with
      | some w => rw [ext_old z z2] at h; cases h
      | none =>
        rw [ext_none z z2] at h
        rw [ext_none ?_ z2]
        · exact h
        · cases z3 : Gf a with
          | none => rfl
          | some w => rw [A2.sub _ _ z3] at z2; cases z2
  refine ⟨Gf, s2, A2.sub, fun G' h1 h2 => k2 H' G' n' ⟨g.ex, g.pen⟩ h1 h2, fun a xs h => ?_, fun b _ a xs h => ?_⟩
  · rcases h with h | ⟨o, h⟩
    · exact .inl (ht _ _ (fun vs z => nomatch z) h)
    · exact .inr ⟨o, ht _ _ (fun vs z => nomatch z) h⟩
  · have nb : ∀ {u}, Fz Ge H b H' a = some u → a ≠ b := fun {u} h z => by
      subst z
      rw [Fz_D] at h
      cases h
    rcases h with h | ⟨o, h⟩
    · have := nb h
      rw [Fz_ne this] at h
      exact .inl (by rw [Fz_ne this]; exact ht _ _ (fun vs z => nomatch z) h)
    · have := nb h
      rw [Fz_ne this] at h
      exact .inr ⟨o, by rw [Fz_ne this]; exact ht _ _ (fun vs z => nomatch z) h⟩
/-- what was frozen in a def's body is new to its caller -/
theorem Sat.out (S : Sat K pn G0 H0 G H σ ρ O n) : Sub G (ext G0 H0 H) := fun a o h => by
  rcases S.fr a o h with q | q
  · exact ext_some q
  · cases z : G0 a with
    | some u =>
      have := S.g0 _ _ z
      rw [h] at this
      cases this
      exact ext_some z
    | none =>
      rw [ext_none z q]
      exact S.sub _ _ h
end

/-! ### the ends of a statement -/
structure DE where
  nx : Env → Nat → Prop
  rt : QD
  bk : Env → Nat → Prop
  ct : Env → Nat → Prop
abbrev TDS := DE → Env → Nat → Prop
structure EndsOk (K : PySem.W.Frag) (pn : Pn) (G0 H0 G : Hp) (Ol O' : List Nat) (Dd : DE) (E : Ends) : Prop where
  nx : ∀ σ H G' ρ n, Sub G G' → Sat K pn G0 H0 G' H σ ρ O' n → Dd.nx ρ n → E.nx σ H
  rt : ∀ v H, Post K pn G0 H0 Dd.rt v H → E.rt v H
  bk : ∀ σ H G' ρ n, Sub G G' → Sat K pn G0 H0 G' H σ ρ Ol n → Dd.bk ρ n → E.bk σ H
  ct : ∀ σ H G' ρ n, Sub G G' → Sat K pn G0 H0 G' H σ ρ Ol n → Dd.ct ρ n → E.ct σ H
def RunS (K : PySem.W.Frag) (t : TS) (Ol O O' : List Nat) (T : TDS) : Prop := ∀ (σ : L2.St) (H G G0 H0 : Hp) (pn : Pn) (n : Nat) (ρ : Env) (Dd : DE), Sat K pn G0 H0 G H σ ρ O n → T Dd ρ n → ∀ E : Ends, EndsOk K pn G0 H0 G Ol O' Dd E → t E σ H
def S1 (X : Cx) (Ol O : List Nat) (st : Stmt) (O' : List Nat) (T : TDS) : Prop := ∃ t, PS X st t ∧ RunS X.K t Ol O O' T
def SD (X : Cx) (Ol O : List Nat) (st : List Stmt) (O' : List Nat) (T : TDS) : Prop := ∃ t, PSs X st t ∧ RunS X.K t Ol O O' T
/-- a transformer gives data; gives a list of one's own -/
def ER (K : PySem.W.Frag) (t : TE) (T : TD) : Prop := ∀ (σ : L2.St) (H G : Hp) (pn : Pn) (n : Nat) (ρ : Env) (q : QD), At K pn G H σ ρ n → T ρ n q → ∀ Q : VK, (∀ v H', Post K pn G H q v H' → Q v H') → t σ H Q
def LR (K : PySem.W.Frag) (t : TE) (T : TDs) : Prop := ∀ (σ : L2.St) (H G : Hp) (pn : Pn) (n : Nat) (ρ : Env) (q : List D → Nat → Prop), At K pn G H σ ρ n → T ρ n q → ∀ Q : VK, (∀ a Hh ds n', H a = none → Lc K pn G H a Hh ds n' → q ds n' → Q (.ref a) Hh) → t σ H Q
def LD (X : Cx) (e : Expr) (T : TDs) : Prop := ∃ t, PE X e t ∧ LR X.K t T
section
variable {X : Cx} {Ol O O' O'' : List Nat}
def sNil : TDS := fun Dd ρ n => Dd.nx ρ n
def sSeq (T U : TDS) : TDS := fun Dd ρ n => T { Dd with nx := U Dd } ρ n
theorem s_nil : SD X Ol O [] O sNil := ⟨_, pss_nil, fun σ H G G0 H0 pn n ρ Dd S hT E k => k.nx σ H G ρ n (Sub.refl _) S hT⟩
theorem run_seq {K : PySem.W.Frag} {t u : TS} {O1 : List Nat} {T U : TDS} (k1 : RunS K t Ol O O1 T) (k2 : RunS K u Ol O1 O' U) : RunS K (tSeq t u) Ol O O' (sSeq T U) := fun σ H G G0 H0 pn n ρ Dd S hT E k =>
  k1 σ H G G0 H0 pn n ρ _ S hT _ ⟨fun σ1 H1 G1 ρ1 n1 s S1 h1 => k2 σ1 H1 G1 G0 H0 pn n1 ρ1 Dd S1 h1 E ⟨fun σ2 H2 G2 ρ2 n2 s2 => k.nx σ2 H2 G2 ρ2 n2 (s.trans s2), k.rt, fun σ2 H2 G2 ρ2 n2 s2 => k.bk σ2 H2 G2 ρ2 n2 (s.trans s2), fun σ2 H2 G2 ρ2 n2 s2 => k.ct σ2 H2 G2 ρ2 n2 (s.trans s2)⟩, k.rt, k.bk, k.ct⟩
theorem s_cons {st : Stmt} {rest : List Stmt} {O1 : List Nat} {T U : TDS} (h1 : S1 X Ol O st O1 T) (h2 : SD X Ol O1 rest O' U) : SD X Ol O (st :: rest) O' (sSeq T U) := by
  obtain ⟨t, p, k⟩ := h1
  obtain ⟨u, p2, k2⟩ := h2
  exact ⟨_, pss_cons p p2, run_seq k k2⟩
theorem s_one {st : Stmt} {T : TDS} (h1 : S1 X Ol O st O' T) : SD X Ol O [st] O' T := by
  obtain ⟨t, p, k⟩ := h1
  exact ⟨_, pss_one p, k⟩
/-- at the end fewer lists of one's own -/
theorem s_weak {st : List Stmt} {T : TDS} (h1 : SD X Ol O st O' T) (hO : ∀ i ∈ O'', i ∈ O') : SD X Ol O st O'' T := by
  obtain ⟨t, p, k⟩ := h1
  refine ⟨t, p, fun σ H G G0 H0 pn n ρ Dd S hT E ke => k σ H G G0 H0 pn n ρ Dd S hT E ⟨fun σ1 H1 G1 ρ1 n1 s S1 h => ?_, ke.rt, ke.bk, ke.ct⟩⟩
  obtain ⟨G2, s2, S2⟩ := S1.weak O'' hO
  exact ke.nx σ1 H1 G2 ρ1 n1 (s.trans s2) S2 h
/-- never reached behind a return -/
theorem s_any {st : List Stmt} {T : TDS} (h1 : SD X Ol O st O' (fun Dd => T Dd)) (hT : ∀ (D1 D2 : DE) ρ n, D1.rt = D2.rt → D1.bk = D2.bk → D1.ct = D2.ct → T D1 ρ n → T D2 ρ n) : SD X Ol O st O'' T := by
  obtain ⟨t, p, k⟩ := h1
  refine ⟨t, p, fun σ H G G0 H0 pn n ρ Dd S hT' E ke => k σ H G G0 H0 pn n ρ { Dd with nx := fun _ _ => False } S (hT Dd _ ρ n rfl rfl rfl hT') E ⟨fun _ _ _ _ _ _ _ h => h.elim, ke.rt, ke.bk, ke.ct⟩⟩

/-! ### assignments -/
def sAsg (O'' : List Nat) (f : D → Env → Option Env) (Te : TD) : TDS := fun Dd ρ n => Te (hide O'' ρ) n fun d n => ∃ ρ', f d ρ = some ρ' ∧ Dd.nx ρ' n
def sAsgP (f : D → Env → Option Env) (Te : TD) : TDS := fun Dd ρ n => Te ρ n fun d n => pureD d = true ∧ ∃ ρ', f d ρ = some ρ' ∧ Dd.nx ρ' n
theorem run_asg {K : PySem.W.Frag} {t : TE} {g : TG} {f : D → Env → Option Env} {ts : List Nat} {Te : TD} (O'' : List Nat) (k : ER K t Te) (tr : TgRun K g f ts) (hO : ∀ i ∈ O'', i ∈ O) : RunS K (tAsg t g) Ol O (O''.filter (· ∉ ts)) (sAsg O'' f Te) := by
  intro σ H G G0 H0 pn n ρ Dd S hT E ke
  obtain ⟨Ge, s1, _, A, st⟩ := S.step O'' hO
  refine k σ H Ge pn n _ _ A hT _ fun v H1 ⟨d, n1, g1, r1, ρ', hf, hq⟩ => ?_
  have S1 := st H1 _ n1 g1 sub_ext (Sub.refl _)
  refine tr.run σ H1 _ pn O'' v d ρ ρ' S1.sub r1 hf S1.env S1.len _ fun σ' env' l1 l2 same => ?_
  exact ke.nx σ' H1 _ ρ' n1 (s1.trans sub_ext) (S1.set env' l1 l2 same) hq
theorem run_asgP {K : PySem.W.Frag} {t : TE} {g : TG} {f : D → Env → Option Env} {ts : List Nat} {Te : TD} (k : ER K t Te) (tr : TgRun K g f ts) : RunS K (tAsg t g) Ol O (O.filter (· ∉ ts)) (sAsgP f Te) := by
  intro σ H G G0 H0 pn n ρ Dd S hT E ke
  obtain ⟨Ge, s1, A, st⟩ := S.stepP
  refine k σ H Ge pn n _ _ A hT _ fun v H1 ⟨d, n1, g1, r1, hp, ρ', hf, hq⟩ => ?_
  obtain ⟨Gf, s2, _, mk, tl, _⟩ := st H1 n1 g1
  have S1 := mk _ sub_ext (Sub.refl _)
  refine tr.run σ H1 _ pn O v d ρ ρ' S1.sub (Rep.pure tl d v hp r1) hf S1.env S1.len _ fun σ' env' l1 l2 same => ?_
  exact ke.nx σ' H1 _ ρ' n1 (s2.trans sub_ext) (S1.set env' l1 l2 same) hq
def sOwn (O'' : List Nat) (i : Nat) (Te : TDs) : TDS := fun Dd ρ n => Te (hide O'' ρ) n fun ds n => i < ρ.length ∧ Dd.nx (ρ.set i (some (.lst ds))) n
def sOwnP (i : Nat) (Te : TDs) : TDS := fun Dd ρ n => Te ρ n fun ds n => pureDs ds = true ∧ i < ρ.length ∧ Dd.nx (ρ.set i (some (.lst ds))) n
theorem run_own {K : PySem.W.Frag} {t : TE} {Te : TDs} {i : Nat} (O'' : List Nat) (k : LR K t Te) (hO : ∀ i ∈ O'', i ∈ O) : RunS K (tAsg t (gName i)) Ol O (i :: O''.filter (· ∉ [i])) (sOwn O'' i Te) := by
  intro σ H G G0 H0 pn n ρ Dd S hT E ke
  obtain ⟨Ge, s1, _, A, st⟩ := S.step O'' hO
  refine k σ H Ge pn n _ _ A hT _ fun a H1 ds n1 ha L ⟨hi, hq⟩ => ?_
  obtain ⟨vs, hv, rv⟩ := L.ls
  have S1 := st H1 (Fz Ge H a H1) n1 L.go (Fz_le A.sub ha) Fz_ext_le
  have h0 : H0 a = none := by
    cases z : H0 a with
    | none => rfl
    | some u =>
      exfalso
      by_cases hp : ∀ p c, pn = some (p, c) → a ≠ p
      · rw [S.ex a u z hp] at ha; cases ha
      · apply hp
        intro p c e q
        obtain ⟨x, y, hx, _⟩ := (S.pst p c e).1.lst
        rw [← q, ha] at hx
        cases hx
  refine ke.nx _ H1 _ _ n1 (s1.trans (Fz_le A.sub ha)) (S1.setOwn i hv Fz_D h0 rv (fun j hj b hb z => ?_) hi) hq
  obtain ⟨es, ws, e1, e2, e3, _⟩ := hb.ex
  obtain ⟨B, own, _⟩ := S.own
  obtain ⟨es', ws', f1, f2, f3, _⟩ := (own j (hO j hj)).ex
  rw [e2] at f2
  cases f2
  rw [z, ha] at f3
  cases f3
theorem run_ownP {K : PySem.W.Frag} {t : TE} {Te : TDs} {i : Nat} (k : LR K t Te) : RunS K (tAsg t (gName i)) Ol O (i :: O.filter (· ∉ [i])) (sOwnP i Te) := by
  intro σ H G G0 H0 pn n ρ Dd S hT E ke
  obtain ⟨Ge, s1, A, st⟩ := S.stepP
  refine k σ H Ge pn n _ _ A hT _ fun a H1 ds n1 ha L ⟨hp, hi, hq⟩ => ?_
  obtain ⟨vs, hv, rv⟩ := L.ls
  obtain ⟨Gf, s2, sfH, mk, _, tl⟩ := st H1 n1 L.go
  have S1 := mk (Fz Gf H a H1) (Fz_le sfH ha) Fz_ext_le
  have h0 : H0 a = none := by
    cases z : H0 a with
    | none => rfl
    | some u =>
      exfalso
      by_cases hp : ∀ p c, pn = some (p, c) → a ≠ p
      · rw [S.ex a u z hp] at ha; cases ha
      · apply hp
        intro p c e q
        obtain ⟨x, y, hx, _⟩ := (S.pst p c e).1.lst
        rw [← q, ha] at hx
        cases hx
  refine ke.nx _ H1 _ _ n1 (s2.trans (Fz_le sfH ha)) (S1.setOwn i hv Fz_D h0 (Reps.pure (tl a ha) _ _ hp rv) (fun j hj b hb z => ?_) hi) hq
  obtain ⟨es, ws, e1, e2, e3, _⟩ := hb.ex
  obtain ⟨B, own, _⟩ := S.own
  obtain ⟨es', ws', f1, f2, f3, _⟩ := (own j hj).ex
  rw [e2] at f2
  cases f2
  rw [z, ha] at f3
  cases f3
theorem s_asg {st : Stmt} {e : Expr} {g : TG} {f : D → Env → Option Env} {ts : List Nat} {Te : TD} (O'' : List Nat) (mk : ∀ te, PE X e te → PS X st (tAsg te g)) (h : ED X e Te) (tr : TgRun X.K g f ts) (hO : ∀ i ∈ O'', i ∈ O := by decide) : S1 X Ol O st (O''.filter (· ∉ ts)) (sAsg O'' f Te) := by
  obtain ⟨t, p, k⟩ := h
  exact ⟨_, mk _ p, run_asg O'' k tr hO⟩
theorem s_asgP {st : Stmt} {e : Expr} {g : TG} {f : D → Env → Option Env} {ts : List Nat} {Te : TD} (mk : ∀ te, PE X e te → PS X st (tAsg te g)) (h : ED X e Te) (tr : TgRun X.K g f ts) : S1 X Ol O st (O.filter (· ∉ ts)) (sAsgP f Te) := by
  obtain ⟨t, p, k⟩ := h
  exact ⟨_, mk _ p, run_asgP k tr⟩
theorem s_own {st : Stmt} {e : Expr} {i : Nat} {Te : TDs} (O'' : List Nat) (mk : ∀ te, PE X e te → PS X st (tAsg te (gName i))) (h : LD X e Te) (hO : ∀ i ∈ O'', i ∈ O := by decide) : S1 X Ol O st (i :: O''.filter (· ∉ [i])) (sOwn O'' i Te) := by
  obtain ⟨t, p, k⟩ := h
  exact ⟨_, mk _ p, run_own O'' k hO⟩
theorem s_ownP {st : Stmt} {e : Expr} {i : Nat} {Te : TDs} (mk : ∀ te, PE X e te → PS X st (tAsg te (gName i))) (h : LD X e Te) : S1 X Ol O st (i :: O.filter (· ∉ [i])) (sOwnP i Te) := by
  obtain ⟨t, p, k⟩ := h
  exact ⟨_, mk _ p, run_ownP k⟩

/-! ### return, if -/
def sRet (Te : TD) : TDS := fun Dd ρ n => Te ρ n Dd.rt
theorem s_ret {e : Expr} {pos : Pos} {Te : TD} (h : ED X e Te) : S1 X Ol O (.Return (some e) pos) O' (sRet Te) := by
  obtain ⟨t, p, k⟩ := h
  refine ⟨_, ps_ret p, fun σ H G G0 H0 pn n ρ Dd S hT E ke => ?_⟩
  obtain ⟨Ge, s1, _, A, st⟩ := S.step [] (fun _ h => nomatch h)
  rw [hide_nil] at A
  refine k σ H Ge pn n _ _ A hT _ fun v H1 ⟨d, n1, g1, r1, hq⟩ => ke.rt v H1 ?_
  have S1 := st H1 _ n1 g1 sub_ext (Sub.refl _)
  exact ⟨d, n1, ⟨S1.ex, g1.pen⟩, Rep.mono S1.out d v r1, hq⟩
def sRetN : TDS := fun Dd _ n => Dd.rt .non n
theorem s_retN {pos : Pos} : S1 X Ol O (.Return none pos) O' sRetN :=
  ⟨_, ps_retN, fun σ H G G0 H0 pn n ρ Dd S hT E ke => ke.rt _ H ⟨.non, n, ⟨S.ex, fun p c e => (S.pst p c e).1⟩, rfl, hT⟩⟩
def sIf (A : TDb) (T U : TDS) : TDS := fun Dd ρ n => A ρ n fun b n => if b = true then T Dd ρ n else U Dd ρ n
theorem s_if {c : Expr} {a b : List Stmt} {pos : Pos} {A : TDb} {T U : TDS} (hc : BD X c A) (ha : SD X Ol O a O' T) (hb : SD X Ol O b O' U) : S1 X Ol O (.If c a b pos) O' (sIf A T U) := by
  obtain ⟨t, p, k⟩ := hc
  obtain ⟨t1, p1, k1⟩ := ha
  obtain ⟨t2, p2, k2⟩ := hb
  refine ⟨_, ps_if p p1 p2, fun σ H G G0 H0 pn n ρ Dd S hT E ke => ?_⟩
  obtain ⟨Ge, s1, A1, st⟩ := S.stepP
  refine k σ H Ge pn n _ _ A1 hT _ fun bb H1 ⟨n1, g1, hq⟩ => ?_
  obtain ⟨Gf, s2, _, mk, _, _⟩ := st H1 n1 g1
  have S1 := mk _ sub_ext (Sub.refl _)
  have ke1 : EndsOk X.K pn G0 H0 (ext Gf H H1) Ol O' Dd E := ⟨fun σ2 H2 G2 ρ2 n2 s => ke.nx σ2 H2 G2 ρ2 n2 ((s2.trans sub_ext).trans s), ke.rt, fun σ2 H2 G2 ρ2 n2 s => ke.bk σ2 H2 G2 ρ2 n2 ((s2.trans sub_ext).trans s), fun σ2 H2 G2 ρ2 n2 s => ke.ct σ2 H2 G2 ρ2 n2 ((s2.trans sub_ext).trans s)⟩
  cases bb with
  | true => exact k1 σ H1 _ G0 H0 pn n1 ρ Dd S1 hq E ke1
  | false => exact k2 σ H1 _ G0 H0 pn n1 ρ Dd S1 hq E ke1
end
end DL
namespace DL
open PySem PySem.Spec PyProof.Rows L2
section
variable {X : Cx} {Ol O O' O'' : List Nat}
/-! ### lists that are made -/
theorem LR.of_new {K : PySem.W.Frag} {t : TE} {T : TDs} (h : ∀ (σ : L2.St) (H G : Hp) (pn : Pn) (n : Nat) (ρ : Env) (q : List D → Nat → Prop), At K pn G H σ ρ n → T ρ n q → ∀ Q : VK,
    (∀ vs ds H1 n1 p, Go pn G H H1 n1 → Reps K pn (ext G H H1) vs ds → q ds n1 → H1 p = none → Q (.ref p) (upd H1 p (.lst vs))) → t σ H Q) : LR K t T := fun σ H G pn n ρ q A hT Q k => by
  refine h σ H G pn n ρ q A hT Q fun vs ds H1 n1 p g1 r hq hp => ?_
  have A1 := A.go g1
  have hH : H p = none := by
    cases z : H p with
    | none => rfl
    | some u =>
      exfalso
      by_cases hpp : ∀ a c, pn = some (a, c) → p ≠ a
      · rw [g1.ex p u z hpp] at hp; cases hp
      · apply hpp
        intro a c e w
        obtain ⟨x, y, hx, _⟩ := (g1.pen a c e).lst
        rw [← w, hp] at hx
        cases hx
  refine k p _ ds n1 hH ⟨g1.trans (Go.new A1.pst hp), vs, upd_same, ?_⟩ hq
  rw [Fz_upd]
  refine Reps.mono (fun a o h => ?_) _ _ r
  have : a ≠ p := fun z => by
    subst z
    rw [A1.sub _ _ h] at hp
    cases hp
  rw [Fz_ne this]
  exact h
theorem ld_lst {es : List Expr} {pos : Pos} {T : TDs} (h : AD X es T) : LD X (.List es pos) (fun ρ n q => T ρ n fun ds n => ds.length ≤ LIM ∧ q ds n) := by
  obtain ⟨t, p, k⟩ := h
  refine ⟨_, pe_lst p, LR.of_new fun σ H G pn n ρ q A hT Q kq => ?_⟩
  exact k σ H G pn n ρ _ A hT _ fun vs H1 ⟨ds, n1, g1, r1, hl, hq⟩ => ⟨lim_le (by rw [Reps.length r1]; exact hl), fun a ha => kq vs ds H1 n1 a g1 r1 hq ha⟩
def ldList (Ta : TDs) : TDs := fun ρ n q => Ta ρ n fun as n => ∃ ds, (as = [.lst ds] ∨ as = [.tup ds]) ∧ q ds n
theorem ld_list {e : Expr} {p pos : Pos} {T : TDs} (B : NoB X.mg) (hg : Gl X "list") (h : AD X [e] T) (he : starEach [e] X.env = (false, eval e X.env) :: starEach [] X.env := by rfl) : LD X (.Call (.Name "list" p) [e] [] pos) (ldList T) := by
  obtain ⟨t, pa, k⟩ := h
  refine ⟨_, pe_callTy call_list_of hg (B _ (by decide)) (by decide +kernel) pa (he := he), LR.of_new fun σ H G pn n ρ q A hT Q kq => ?_⟩
  refine k σ H G pn n ρ _ A hT _ fun vs H1 ⟨as, n1, g1, r1, ds, hd, hq⟩ => ?_
  have A1 := A.go g1
  rcases hd with rfl | rfl
  · obtain ⟨v, rfl, h1⟩ := reps1 r1
    obtain ⟨a, ws, rfl, h2, h3⟩ := h1
    exact ⟨a, ws, rfl, .inl (SqL.of (A1.sub _ _ h2)), fun l hl => kq ws ds H1 n1 l g1 h3 hq hl⟩
  · obtain ⟨v, rfl, h1⟩ := reps1 r1
    obtain ⟨a, ws, rfl, h2, h3⟩ := h1
    exact ⟨a, ws, rfl, .inr (A1.sub.sqT h2), fun l hl => kq ws ds H1 n1 l g1 h3 hq hl⟩
def ldAdd (Ta Tb : TD) : TDs := fun ρ n q => Ta ρ n fun x n => Tb ρ n fun y n => ∃ xs ys, x = .lst xs ∧ y = .lst ys ∧ xs.length + ys.length ≤ LIM ∧ q (xs ++ ys) n
theorem ld_add {a b : Expr} {pos : Pos} {Ta Tb : TD} (ha : ED X a Ta) (hb : ED X b Tb) : LD X (.BinOp a .Add b pos) (ldAdd Ta Tb) := by
  obtain ⟨ta, pa, ka⟩ := ha
  obtain ⟨tb, pb, kb⟩ := hb
  refine ⟨_, pe_op op_cat pa pb, LR.of_new fun σ H G pn n ρ q A hT Q kq => ?_⟩
  refine ka σ H G pn n ρ _ A hT _ fun x H1 ⟨d, n1, g1, r1, hT2⟩ => ?_
  have A1 := A.go g1
  refine kb σ H1 _ pn n1 ρ _ A1 hT2 _ fun y H2 ⟨e, n2, g2, r2, xs, ys, h1, h2, hl, hq⟩ => ?_
  subst h1 h2
  have A2 := A1.go g2
  have r1 := Rep.mono (sub_ext (G := ext G H H1) (H := H1) (H' := H2)) _ _ r1
  rw [A.ext_ext g1 g2] at r1 r2 A2
  obtain ⟨a, vs, rfl, h3, h4⟩ := r1
  obtain ⟨b, ws, rfl, h5, h6⟩ := r2
  exact ⟨a, b, vs, ws, rfl, rfl, A2.sub _ _ h3, A2.sub _ _ h5, lim_le (by rw [Reps.length h4, Reps.length h6]; exact hl), fun p hp => kq _ _ H2 n2 p (g1.trans g2) (Reps.append h4 h6) hq hp⟩
def tCompL (Tw : TDs) (f : D → Env → Option Env) (tt : TDb) (Te : TD) (vs : List Nat) : TDs := fun ρ n q => Tw ρ n fun ds n => compD f tt Te ds [] (wipeE ρ vs) n q
theorem lr_comp {K : PySem.W.Frag} {wi : TI} {Tw : TDs} {f : D → Env → Option Env} {tt : TDb} {Te : TD} {g : TG} {ts vs : List Nat} (hr : TgRun K g f ts) (sub : ∀ i ∈ ts, i ∈ vs)
    (kw : ∀ (σ : L2.St) (H G : Hp) (pn : Pn) (n : Nat) (ρ : Env) (q : List D → Nat → Prop), At K pn G H σ ρ n → Tw ρ n q → ∀ R : It → Hp → Prop, (∀ J ds n' H', Go pn G H H' n' → q ds n' → Walks K pn J (ext G H H') ds → R J H') → wi σ H R) :
    LR K (tLc wi g (canB K tt) (can K Te) vs) (tCompL Tw f tt Te vs) := fun σ H G pn n ρ q A hT Q kq => by
  refine kw σ H G pn n ρ _ A hT _ fun J ds n1 H1 g1 hq w => ?_
  intro Dd hD
  have A1 := A.go g1
  have hH : H Dd = none := by
    cases z : H Dd with
    | none => rfl
    | some u =>
      exfalso
      by_cases hpp : ∀ a c, pn = some (a, c) → Dd ≠ a
      · rw [g1.ex Dd u z hpp] at hD; cases hD
      · apply hpp
        intro a c e w
        obtain ⟨x, y, hx, _⟩ := (g1.pen a c e).lst
        rw [← w, hD] at hx
        cases hx
  refine lc_ed hr sub A1 w hq hD fun Hh acc n' L hq' => kq Dd Hh acc n' hH ⟨g1.trans L.go, ?_⟩ hq'
  obtain ⟨us, h1, h2⟩ := L.ls
  refine ⟨us, h1, Reps.mono (fun a o h => ?_) _ _ h2⟩
  by_cases ha : a = Dd
  · subst ha
    rw [Fz_D] at h
    cases h
  · rw [Fz_ne ha] at h ⊢
    rw [A.ext_ext g1 L.go] at h
    exact h
theorem ld_lc {elt tg iter : Expr} {ifs : List Expr} {scope : Scope} {own : List (Str × Nat)} {pos : Pos} {Tw : TDs} {f : D → Env → Option Env} {tt : TDb} {Te : TD} {g : TG} {ts : List Nat} (hc : X.calm = true) (hN : X.N.Nodup) (hw : WD X tg iter Tw) (ok : BlkOk X.N X.env.scope scope own)
    (hr : TgRun X.K g f ts) (hg : ∀ (s : Shared) (H : Hp) (C : Addr) (cl : List (Str × Addr)) (fp : List Addr), PG (X.blk s H scope (compEnvC scope cl C X.env) fp) tg g) (ht : ∀ (s : Shared) (H : Hp) (C : Addr) (cl : List (Str × Addr)) (fp : List Addr), TsD (X.blk s H scope (compEnvC scope cl C X.env) fp) ifs tt)
    (he : ∀ (s : Shared) (H : Hp) (C : Addr) (cl : List (Str × Addr)) (fp : List Addr), ED (X.blk s H scope (compEnvC scope cl C X.env) fp) elt Te) (sub : ∀ i ∈ ts, i ∈ own.map (·.2) := by decide) (hs : ∀ x, foldedSetIterable iter X.env x = pure x := by intro _; rfl) :
    LD X (.ListComp elt [⟨tg, iter, ifs, 0⟩] scope pos) (tCompL Tw f tt Te (own.map (·.2))) := by
  obtain ⟨wi, pi, kw⟩ := hw
  exact ⟨_, pe_lc (tt := canB X.K tt) (te := can X.K Te) hc hN pi ok hg (fun s H C cl fp => ts_can (ht s H C cl fp)) (fun s H C cl fp => ed_can (he s H C cl fp)) hs, lr_comp hr sub kw⟩
theorem LR.er {K : PySem.W.Frag} {t : TE} {T : TDs} (h : LR K t T) : ER K t (fun ρ n q => T ρ n fun ds n => q (.lst ds) n) := fun σ H G pn n ρ q A hT Q k => by
  refine h σ H G pn n ρ _ A hT Q fun a Hh ds n' ha L hq => k _ Hh ⟨.lst ds, n', L.go, ?_, hq⟩
  obtain ⟨us, h1, h2⟩ := L.ls
  refine ⟨a, us, rfl, ?_, Reps.mono Fz_ext_le _ _ h2⟩
  rw [ext_none ?_ ha]
  · exact h1
  · cases z : G a with
    | none => rfl
    | some u =>
      rw [A.sub _ _ z] at ha
      cases ha
/-- y = [..] on one line -/
theorem ps_lcSet {i : Nat} {y : Str} {py : Pos} {elt tg iter : Expr} {ifs : List Expr} {scope : Scope} {own : List (Str × Nat)} {pos spos : Pos} {Tw : TDs} {f : D → Env → Option Env} {tt : TDb} {Te : TD} {g : TG} {ts : List Nat} (hc : X.calm = true) (hN : X.N.Nodup) (hy : X.N[i]? = some y) (hyl : X.env.scope.names.lookup y = some .local)
    (hsw : swapsWith (.ListComp elt [⟨tg, iter, ifs, 0⟩] scope pos) (some (.Name y py)) spos.line X.env = pure true) (hw : WD X tg iter Tw) (ok : BlkOk X.N X.env.scope scope own)
    (hr : TgRun X.K g f ts) (hg : ∀ (s : Shared) (H : Hp) (C : Addr) (cl : List (Str × Addr)) (fp : List Addr), PG (X.blk s H scope (compEnvC scope cl C X.env) fp) tg g) (ht : ∀ (s : Shared) (H : Hp) (C : Addr) (cl : List (Str × Addr)) (fp : List Addr), TsD (X.blk s H scope (compEnvC scope cl C X.env) fp) ifs tt)
    (he : ∀ (s : Shared) (H : Hp) (C : Addr) (cl : List (Str × Addr)) (fp : List Addr), ED (X.blk s H scope (compEnvC scope cl C X.env) fp) elt Te) (sub : ∀ i ∈ ts, i ∈ own.map (·.2) := by decide) (hs : ∀ x, foldedSetIterable iter X.env x = pure x := by intro _; rfl) :
    ∃ t, PS X (.Assign [.Name y py] (.ListComp elt [⟨tg, iter, ifs, 0⟩] scope pos) spos) (tAsg t (gName i)) ∧ LR X.K t (tCompL Tw f tt Te (own.map (·.2))) := by
  obtain ⟨wi, pi, kw⟩ := hw
  exact ⟨_, ps_setLc (tt := canB X.K tt) (te := can X.K Te) hc hN hy hyl hsw pi ok hg (fun s H C cl fp => ts_can (ht s H C cl fp)) (fun s H C cl fp => ed_can (he s H C cl fp)) hs, lr_comp hr sub kw⟩
theorem s_ownT {st : Stmt} {i : Nat} {Te : TDs} (O'' : List Nat) (h : ∃ t, PS X st (tAsg t (gName i)) ∧ LR X.K t Te) (hO : ∀ i ∈ O'', i ∈ O := by decide) : S1 X Ol O st (i :: O''.filter (· ∉ [i])) (sOwn O'' i Te) := by
  obtain ⟨t, p, k⟩ := h
  exact ⟨_, p, run_own O'' k hO⟩
theorem s_ownPT {st : Stmt} {i : Nat} {Te : TDs} (h : ∃ t, PS X st (tAsg t (gName i)) ∧ LR X.K t Te) : S1 X Ol O st (i :: O.filter (· ∉ [i])) (sOwnP i Te) := by
  obtain ⟨t, p, k⟩ := h
  exact ⟨_, p, run_ownP k⟩
def tL (T : TDs) : TD := fun ρ n q => T ρ n fun ds n => q (.lst ds) n
theorem s_asgT {st : Stmt} {i : Nat} {Te : TDs} (O'' : List Nat) (h : ∃ t, PS X st (tAsg t (gName i)) ∧ LR X.K t Te) (hO : ∀ i ∈ O'', i ∈ O := by decide) : S1 X Ol O st (O''.filter (· ∉ [i])) (sAsg O'' (fName i) (tL Te)) := by
  obtain ⟨t, p, k⟩ := h
  exact ⟨_, p, run_asg O'' k.er (tr_name i) hO⟩

/-! ### a, b = x, y -/
def sPar (O'' : List Nat) (i j : Nat) (Ta : TDs) : TDS := fun Dd ρ n => Ta (hide O'' ρ) n fun ds n => ∃ d e, ds = [d, e] ∧ Dd.nx ((ρ.set i (some d)).set j (some e)) n
theorem s_par {st : Stmt} {es : List Expr} {i j : Nat} {Ta : TDs} (O'' : List Nat) (mk : ∀ ta, PA X es ta → PS X st (tPar i j ta)) (h : AD X es Ta) (hO : ∀ i ∈ O'', i ∈ O := by decide) : S1 X Ol O st ((O''.filter (· ∉ [i])).filter (· ∉ [j])) (sPar O'' i j Ta) := by
  obtain ⟨t, p, k⟩ := h
  refine ⟨_, mk _ p, fun σ H G G0 H0 pn n ρ Dd S hT E ke => ?_⟩
  obtain ⟨Ge, s1, _, A, st⟩ := S.step O'' hO
  refine k σ H Ge pn n _ _ A hT _ fun vs H1 ⟨ds, n1, g1, r1, d, e, hd, hq⟩ => ?_
  subst hd
  obtain ⟨v, w, rfl, r2, r3⟩ := reps2 r1
  have S1 := st H1 _ n1 g1 sub_ext (Sub.refl _)
  refine ⟨v, w, rfl, ?_⟩
  have same : ∀ (i : Nat) {α : Type} (l : List α) (x : α) (k : Nat), k ∉ [i] → (l.set i x)[k]? = l[k]? := fun i α l x k hk => List.getElem?_set_ne fun e => hk (by simp [e])
  have S2 := S1.set (ts := [i]) (S1.env.set i r2 S1.len) (by simp) (by simp) fun k hk => ⟨same i _ _ k hk, same i _ _ k hk⟩
  have S3 := S2.set (ts := [j]) (S2.env.set j r3 S2.len) (by simp) (by simp) fun k hk => ⟨same j _ _ k hk, same j _ _ k hk⟩
  exact ke.nx _ H1 _ _ n1 (s1.trans sub_ext) S3 hq

/-! ### a list of one's own changed -/
def sApp (O'' : List Nat) (i : Nat) (Te : TD) : TDS := fun Dd ρ n => Te (hide O'' ρ) n fun d n => ∃ ds, ρ[i]? = some (some (.lst ds)) ∧ ds.length < LIM ∧ Dd.nx (ρ.set i (some (.lst (ds ++ [d])))) n
theorem s_app {st : Stmt} {e : Expr} {i : Nat} {Te : TD} (O'' : List Nat) (mk : ∀ te, PE X e te → PS X st (tDrop (tBM X.K "list" rAppend (tVar i) (tCons te tNil)))) (h : ED X e Te) (hi : i ∈ O'' := by decide) (hO : ∀ i ∈ O'', i ∈ O := by decide) : S1 X Ol O st O'' (sApp O'' i Te) := by
  obtain ⟨t, p, k⟩ := h
  refine ⟨_, mk _ p, fun σ H G G0 H0 pn n ρ Dd S hT E ke => ?_⟩
  obtain ⟨Ge, s1, _, A, st⟩ := S.step O'' hO
  obtain ⟨B, own, _⟩ := S.own
  obtain ⟨ds0, vs0, f1, f2, f3, f4⟩ := (own i (hO i hi)).ex
  refine ⟨_, f2, .inl ⟨rfl, _, .inl (.inl f3)⟩, ?_⟩
  refine k σ H Ge pn n _ _ A hT _ fun v H1 ⟨d, n1, g1, r1, ds, hd, hl, hq⟩ => ?_
  have S1 := st H1 _ n1 g1 sub_ext (Sub.refl _)
  obtain ⟨B1, own1, _⟩ := S1.own
  obtain ⟨⟨ds1, vs1, e1, e2, e3, e4⟩, e5, e6⟩ := own1 i hi
  rw [f2] at e2
  have hB : B i = B1 i := by
    injection e2 with e2
    injection e2 with e2
    injection e2
  rw [hd] at e1
  cases e1
  rw [hB]
  refine ⟨_, vs1, v, rfl, rfl, e3, lim_lt (by rw [Reps.length e4]; omega), ?_⟩
  have hlen : i < ρ.length := by
    obtain ⟨q, _⟩ := List.getElem?_eq_some_iff.mp hd
    exact q
  exact ke.nx _ _ _ _ n1 (s1.trans sub_ext) (S1.mut hi (by rw [f2, hB]) e3 e5 e6 (Reps.append e4 (show Reps X.K pn _ [v] [d] from ⟨v, [], rfl, r1, rfl⟩)) hlen) hq
def sAppP (i : Nat) (Te : TD) : TDS := fun Dd ρ n => Te ρ n fun d n => pureD d = true ∧ ∃ ds, ρ[i]? = some (some (.lst ds)) ∧ ds.length < LIM ∧ Dd.nx (ρ.set i (some (.lst (ds ++ [d])))) n
theorem s_appP {st : Stmt} {e : Expr} {i : Nat} {Te : TD} (mk : ∀ te, PE X e te → PS X st (tDrop (tBM X.K "list" rAppend (tVar i) (tCons te tNil)))) (h : ED X e Te) (hi : i ∈ O := by decide) : S1 X Ol O st O (sAppP i Te) := by
  obtain ⟨t, p, k⟩ := h
  refine ⟨_, mk _ p, fun σ H G G0 H0 pn n ρ Dd S hT E ke => ?_⟩
  obtain ⟨Ge, s1, A, st⟩ := S.stepP
  obtain ⟨B, own, _⟩ := S.own
  obtain ⟨ds0, vs0, f1, f2, f3, f4⟩ := (own i hi).ex
  refine ⟨_, f2, .inl ⟨rfl, _, .inl (.inl f3)⟩, ?_⟩
  refine k σ H Ge pn n _ _ A hT _ fun v H1 ⟨d, n1, g1, r1, hp, ds, hd, hl, hq⟩ => ?_
  obtain ⟨Gf, s2, _, mk2, tl, _⟩ := st H1 n1 g1
  have S1 := mk2 _ sub_ext (Sub.refl _)
  obtain ⟨B1, own1, _⟩ := S1.own
  obtain ⟨⟨ds1, vs1, e1, e2, e3, e4⟩, e5, e6⟩ := own1 i hi
  rw [f2] at e2
  have hB : B i = B1 i := by
    injection e2 with e2
    injection e2 with e2
    injection e2
  rw [hd] at e1
  cases e1
  rw [hB]
  refine ⟨_, vs1, v, rfl, rfl, e3, lim_lt (by rw [Reps.length e4]; omega), ?_⟩
  have hlen : i < ρ.length := by
    obtain ⟨q, _⟩ := List.getElem?_eq_some_iff.mp hd
    exact q
  exact ke.nx _ _ _ _ n1 (s2.trans sub_ext) (S1.mut hi (by rw [f2, hB]) e3 e5 e6 (Reps.append e4 (show Reps X.K pn _ [v] [d] from ⟨v, [], rfl, Rep.pure tl _ _ hp r1, rfl⟩)) hlen) hq
def sRem (i : Nat) (Te : TD) : TDS := fun Dd ρ n => Te ρ n fun d n => ∃ (ns : List Int) (k : Int), d = .int k ∧ ρ[i]? = some (some (.lst (ns.map D.int))) ∧ k ∈ ns ∧ Dd.nx (ρ.set i (some (.lst ((ns.erase k).map D.int)))) n
def sSet (i : Nat) (Te Ti : TD) : TDS := fun Dd ρ n => Te ρ n fun d n => Ti ρ n fun z n => pureD d = true ∧ ∃ ds k j, z = .int k ∧ ρ[i]? = some (some (.lst ds)) ∧ ixN ds.length k = some j ∧ Dd.nx (ρ.set i (some (.lst (ds.set j d)))) n
theorem s_set {st : Stmt} {e ix : Expr} {i : Nat} {Te Ti : TD} (mk : ∀ te ti, PE X e te → PE X ix ti → PS X st (tAsg te (gSub (tVar i) ti rSetL))) (h : ED X e Te) (h2 : ED X ix Ti) (hi : i ∈ O := by decide) : S1 X Ol O st O (sSet i Te Ti) := by
  obtain ⟨t, p, k⟩ := h
  obtain ⟨t2, p2, k2⟩ := h2
  refine ⟨_, mk _ _ p p2, fun σ H G G0 H0 pn n ρ Dd S hT E ke => ?_⟩
  obtain ⟨Ge, s1, A, st⟩ := S.stepP
  refine k σ H Ge pn n _ _ A hT _ fun v H1 ⟨d, n1, g1, r1, hT2⟩ => ?_
  have A1 := A.go g1
  obtain ⟨B, own, _⟩ := S.own
  obtain ⟨ds0, vs0, f1, f2, f3, f4⟩ := (own i hi).ex
  refine ⟨_, f2, ?_⟩
  refine k2 σ H1 _ pn n1 _ _ A1 hT2 _ fun w H2 ⟨z, n2, g2, r2, hp, ds, kk, j, hz, hd, hj, hq⟩ => ?_
  subst hz
  obtain ⟨Gf, s2, _, mk2, tl, _⟩ := st H2 n2 (g1.trans g2)
  have S1 := mk2 _ sub_ext (Sub.refl _)
  obtain ⟨B1, own1, _⟩ := S1.own
  obtain ⟨⟨ds1, vs1, e1, e2, e3, e4⟩, e5, e6⟩ := own1 i hi
  rw [f2] at e2
  have hB : B i = B1 i := by
    injection e2 with e2
    injection e2 with e2
    injection e2
  rw [hd] at e1
  cases e1
  have rv := Rep.mono (sub_ext (G := ext Ge H H1) (H := H1) (H' := H2)) _ _ r1
  rw [A.ext_ext g1 g2] at rv
  rw [hB]
  refine ⟨_, vs1, kk, j, rfl, r2, e3, by rw [Reps.length e4]; exact hj, ?_⟩
  have hlen : i < ρ.length := by
    obtain ⟨q, _⟩ := List.getElem?_eq_some_iff.mp hd
    exact q
  exact ke.nx _ _ _ _ n2 (s2.trans sub_ext) (S1.mut hi (by rw [f2, hB]) e3 e5 e6 (Reps.set (Rep.pure tl _ _ hp rv) j e4) hlen) hq

/-! ### for -/
def forD (f : D → Env → Option Env) (Tb : TDS) (Dd : DE) : List D → Env → Nat → Prop
  | [], ρ, n => Dd.nx ρ n
  | d :: ds, ρ, n => ∃ ρ', f d ρ = some ρ' ∧ Tb { nx := forD f Tb Dd ds, rt := Dd.rt, bk := Dd.nx, ct := forD f Tb Dd ds } ρ' n
def sFor (O'' : List Nat) (Tw : TDs) (f : D → Env → Option Env) (Tb : TDS) : TDS := fun Dd ρ n => Tw (hide O'' ρ) n fun ds n => forD f Tb Dd ds ρ n
theorem s_for {tg iter : Expr} {body : List Stmt} {pos : Pos} {g : TG} {f : D → Env → Option Env} {ts : List Nat} {Tw : TDs} {Tb : TDS} (O'' Ob : List Nat) (hp : PassesOwn (model X.prog X.w) X.A X.env X.xe) (hc : X.calm = true) (hw : WD X tg iter Tw) (hg : PG X tg g) (tr : TgRun X.K g f ts) (hb : SD X O'' O'' body Ob Tb) (hfs : ∀ x, foldedSetIterable iter X.env x = pure x := by intro _; rfl)
    (hO : ∀ i ∈ O'', i ∈ O := by decide) (hts : ∀ i ∈ ts, i ∉ O'' := by decide) (hOb : ∀ i ∈ O'', i ∈ Ob := by decide) : S1 X Ol O (.For tg iter body [] pos) O'' (sFor O'' Tw f Tb) := by
  obtain ⟨wi, pi, kw⟩ := hw
  obtain ⟨tb, pb, kb⟩ := hb
  refine ⟨_, ps_for hp hc pi hg pb hfs, fun σ H G G0 H0 pn n ρ Dd S hT E ke => ?_⟩
  obtain ⟨Ge, s1, _, A, st⟩ := S.step O'' hO
  refine kw σ H Ge pn n _ _ A hT _ fun J ds n1 H1 g1 hq w => ?_
  have S1 := st H1 _ n1 g1 sub_ext (Sub.refl _)
  have filt : O''.filter (· ∉ ts) = O'' := List.filter_eq_self.mpr fun i hi => decide_eq_true fun z => hts i z hi
  refine ⟨fun i m σ' H' => ∃ ρ' n' G', m = ds.length - i ∧ i ≤ ds.length ∧ Sat X.K pn G0 H0 G' H' σ' ρ' O'' n' ∧ Sub (ext Ge H H1) G' ∧ forD f Tb Dd (ds.drop i) ρ' n', ⟨ds.length, ρ, n1, _, by simp, Nat.zero_le _, S1, Sub.refl _, hq⟩, ?_⟩
  rintro i m σ' H' ⟨ρ', n', G', rfl, hi, S2, sG, hf⟩
  by_cases hlt : i < ds.length
  · refine .inr ⟨w.go i H' (sG.trans S2.sub) hlt, fun σ3 H3 => ∃ ρ3 n3 G3, Sat X.K pn G0 H0 G3 H3 σ3 ρ3 O'' n3 ∧ Sub (ext Ge H H1) G3 ∧ forD f Tb Dd (ds.drop (i + 1)) ρ3 n3, fun σ3 H3 ⟨a, b, c, x, y, z⟩ => ⟨ds.length - (i + 1), by omega, a, b, c, rfl, hlt, x, y, z⟩, fun x H3 y => ?_⟩
    obtain ⟨s3, y3⟩ := w.yld i H' x H3 (sG.trans S2.sub) y
    rw [show ds.drop i = ds[i] :: ds.drop (i + 1) from List.drop_eq_getElem_cons hlt] at hf
    obtain ⟨ρ4, hρ, hb4⟩ := hf
    obtain ⟨Gx, sx, _, Ax, stx⟩ := S2.step O'' (fun _ h => h)
    have gx : Go pn Gx H' H3 n' := Go.of_sub Ax.pst s3
    have S3 := stx H3 _ n' gx sub_ext (Sub.refl _)
    have r3 := y3 ds[i] (List.getElem?_eq_getElem hlt) Gx (sG.trans sx) Ax.sub
    refine tr.run σ' H3 _ pn O'' x ds[i] ρ' ρ4 S3.sub r3 hρ S3.env S3.len _ fun σ5 env5 l1 l2 same => ?_
    have S5 := S3.set env5 l1 l2 same
    rw [filt] at S5
    have sG5 : Sub (ext Ge H H1) (ext Gx H' H3) := (sG.trans sx).trans sub_ext
    refine kb σ5 H3 _ G0 H0 pn n' ρ4 _ S5 hb4 _ ⟨fun σ6 H6 G6 ρ6 n6 s6 S6 h6 => ?_, ke.rt, fun σ6 H6 G6 ρ6 n6 s6 S6 h6 => ?_, fun σ6 H6 G6 ρ6 n6 s6 S6 h6 => ?_⟩
    · obtain ⟨G7, s7, S7⟩ := S6.weak O'' hOb
      exact ⟨ρ6, n6, G7, S7, (sG5.trans s6).trans s7, h6⟩
    · exact ke.nx σ6 H6 G6 ρ6 n6 (((s1.trans sub_ext).trans sG5).trans s6) S6 h6
    · exact ⟨ρ6, n6, G6, S6, sG5.trans s6, h6⟩
  · refine .inl ⟨w.stop i H' (sG.trans S2.sub) (by omega), ?_⟩
    rw [List.drop_eq_nil_of_le (by omega)] at hf
    exact ke.nx σ' H' G' ρ' n' ((s1.trans sub_ext).trans sG) S2 hf
def sBreak : TDS := fun Dd ρ n => Dd.bk ρ n
def sCont : TDS := fun Dd ρ n => Dd.ct ρ n
theorem s_break {pos : Pos} (hO : ∀ i ∈ Ol, i ∈ O := by decide) : S1 X Ol O (.Break pos) O' sBreak := ⟨_, ps_break, fun σ H G G0 H0 pn n ρ Dd S hT E ke => by
  obtain ⟨G7, s7, S7⟩ := S.weak Ol hO
  exact ke.bk σ H G7 ρ n s7 S7 hT⟩
theorem s_cont {pos : Pos} (hO : ∀ i ∈ Ol, i ∈ O := by decide) : S1 X Ol O (.Continue pos) O' sCont := ⟨_, ps_continue, fun σ H G G0 H0 pn n ρ Dd S hT E ke => by
  obtain ⟨G7, s7, S7⟩ := S.weak Ol hO
  exact ke.ct σ H G7 ρ n s7 S7 hT⟩
end

/-! ### a def -/
def startE (m : Nat) (ds : List D) : Env := ds.map some ++ List.replicate (m - ds.length) none
/-- what a def's body is worth over data -/
def fnD (np m : Nat) (T : TDS) : FT := fun ds n q => ds.length = np ∧ T { nx := fun _ n => q .non n, rt := q, bk := fun _ _ => False, ct := fun _ _ => False } (startE m ds) n
theorem env_start {K : PySem.W.Frag} {pn : Pn} {G : Hp} {N : List Str} : ∀ {ds : List D} {vs : List V}, Reps K pn G vs ds → EnvOk K pn G [] (start N vs) (startE N.length ds) := fun {ds vs} r i d _ h => by
  unfold startE at h
  unfold L2.start
  have hl := Reps.length r
  by_cases hi : i < ds.length
  · rw [List.getElem?_append_left (by simpa using hi), List.getElem?_map] at h
    cases e : ds[i]? with
    | none => rw [e] at h; cases h
    | some d' =>
      rw [e] at h
      cases h
      obtain ⟨v, h1, h2⟩ := Reps.get r e
      exact ⟨v, by rw [List.getElem?_append_left (by simp; omega), List.getElem?_map, h1]; rfl, h2⟩
  · rw [List.getElem?_append_right (by simp; omega)] at h
    rw [List.getElem?_replicate] at h
    split at h
    · cases h
    · cases h
theorem fn_D {P : Program} {w : World} {K : PySem.W.Frag} {mg : Str → Option Value} {base : Heap} {x qual : Str} {st : Stmt} {f : Addr} {fd : FuncData} {N ps : List Str} {k : Nat} {T : TDS} (np m : Nat) (hm : N.length = m) (hnp : ps.length = np) (hle : np ≤ m) (F : Fun K x qual st f fd) (S : FnScope N ps (defScope st))
    (hbody : ∀ (cdv : Value) (A : Around) (outer : List PySem.Env) (s : Shared) (H : Hp) (E : XK), Room k (A.deeper (envOfC qual (defScope st) s.heap.objs.size f cdv)) →
      ∃ O', SD (cxOf CX0 P w K mg base N qual (defScope st) f cdv A outer s H E).nox [] [] (defBody st) O' T) : FnOk P w K mg base CX0 (k + 1) f fd ps (lift K np (fnD np m T)) := by
  refine F.ok S (fun vs H Q E h => by rw [hnp]; exact h.1) (fun cdv A outer s H vs Q E hr h => ?_)
  obtain ⟨hl, pn, G, n, ds, q, sG, hp, r, ⟨hds, hT⟩, kq⟩ := h
  obtain ⟨O', t, p, run⟩ := hbody cdv A outer s H E hr
  refine ⟨t, p, run (start N vs) H G G H pn n (startE m ds) _ ⟨sG, Sub.refl _, fun a o h => .inl h, Ex.refl _ _, hp, fun a c e => ?_, ⟨fun _ => 0, ⟨fun i hi => absurd hi (by simp), fun i hi => absurd hi (by simp)⟩⟩, by rw [← hm]; exact env_start r, ?_⟩ hT _ ⟨fun σ1 H1 G1 ρ1 n1 s1 S1 h1 => ?_, fun v H1 h1 => kq v H1 h1, fun _ _ _ _ _ _ _ h => h.elim, fun _ _ _ _ _ _ _ h => h.elim⟩⟩
  · obtain ⟨⟨⟨x, y, h1, _⟩, ⟨ns, h2, _⟩, _⟩, _⟩ := hp a c e
    exact ⟨⟨_, h1⟩, ⟨_, h2⟩⟩
  · unfold L2.start startE
    simp only [List.length_append, List.length_map, List.length_replicate]
    omega
  · exact kq _ H1 ⟨.non, n1, ⟨S1.ex, fun a c e => (S1.pst a c e).1⟩, rfl, h1⟩
end DL
namespace DL
open PySem PySem.Spec PyProof.Rows L2
section
variable {X : Cx} {Ol O O' O'' : List Nat}
def tTupD (T : TDs) : TD := fun ρ n q => T ρ n fun ds n => ds.length ≤ LIM ∧ q (.tup ds) n
def tLstD (T : TDs) : TD := fun ρ n q => T ρ n fun ds n => ds.length ≤ LIM ∧ q (.lst ds) n
def lLstD (T : TDs) : TDs := fun ρ n q => T ρ n fun ds n => ds.length ≤ LIM ∧ q ds n
def bVal (T : TD) : TDb := fun ρ n q => T ρ n fun d n => ∃ b, d = .bl b ∧ q b n
def bCmp (f : D → D → Option D) (Ta Tb : TD) : TDb := fun ρ n q => tOpD f Ta Tb ρ n fun d n => ∃ b, d = .bl b ∧ q b n
theorem ed_tupT {es : List Expr} {x1 : Nat} {pos : Pos} {T : TDs} (h : AD X es T) : ED X (.Tuple es x1 pos) (tTupD T) := ed_tup h
theorem ed_lstT {es : List Expr} {pos : Pos} {T : TDs} (h : AD X es T) : ED X (.List es pos) (tLstD T) := ed_lst h
theorem ld_lstT {es : List Expr} {pos : Pos} {T : TDs} (h : AD X es T) : LD X (.List es pos) (lLstD T) := ld_lst h
theorem bd_valT {e : Expr} {T : TD} (h : ED X e T) (he : ∀ whole, isTrue e X.env whole = (do let v ← whole; standAt e.pos; holding [v] (truthy v)) := by intro _; rfl) : BD X e (bVal T) := bd_val h he
theorem bd_cmpT {op : CmpOp} {a b : Expr} {pos : Pos} {Ta Tb : TD} {r : R2} {f : D → D → Option D} (o : OpR X (compareOp op) r) (hm : behindInMarks op b = false) (h : Op2 X r f) (ha : ED X a Ta) (hb : ED X b Tb) : BD X (.Compare a [op] [b] pos) (bCmp f Ta Tb) := bd_cmp o hm h ha hb
def bChain (f g : D → D → Option D) (Ta Tb Tc : TD) : TDb := fun ρ n q => Ta ρ n fun x n => Tb ρ n fun y n => ∃ k, f x y = some (.bl k) ∧ if k = true then Tc ρ n fun z n => ∃ w, g y z = some (.bl w) ∧ q w n else q false n
theorem bd_chain {op op' : CmpOp} {a b c : Expr} {pos : Pos} {Ta Tb Tc : TD} {r r' : R2} {f g : D → D → Option D} (o : OpR X (compareOp op) r) (o' : OpR X (compareOp op') r') (h : Op2 X r f) (h' : Op2 X r' g) (ha : ED X a Ta) (hb : ED X b Tb) (hc : ED X c Tc)
    (hm : lastMarks [op, op'] [b, c] = false := by with_unfolding_all rfl) : BD X (.Compare a [op, op'] [b, c] pos) (bChain f g Ta Tb Tc) := by
  obtain ⟨ta, pa, ka⟩ := ha
  obtain ⟨tb, pb, kb⟩ := hb
  obtain ⟨tc, pc, kc⟩ := hc
  refine ⟨_, pt_chain o o' pa pb pc hm, fun σ H G pn n ρ q A hT Q k => ?_⟩
  refine ka σ H G pn n ρ _ A hT _ fun x H1 ⟨d, n1, g1, r1, hT2⟩ => ?_
  have A1 := A.go g1
  refine kb σ H1 _ pn n1 ρ _ A1 hT2 _ fun y H2 ⟨e, n2, g2, r2, c, hz, hq⟩ => ?_
  have A2 := A1.go g2
  refine h _ H2 pn n2 x y d e _ A2.sub A2.pst (Rep.mono sub_ext d x r1) r2 hz _ fun v H3 g3 r3 => ⟨c, r3, ?_⟩
  have A3 := A2.go g3
  have g123 := (g1.trans g2).trans g3
  cases c with
  | false => exact ⟨false, rfl, k _ H3 ⟨n2, g123, hq⟩⟩
  | true =>
    refine kc σ H3 _ pn n2 ρ _ A3 hq _ fun w H4 ⟨d4, n4, g4, r4, z, hz4, hq4⟩ => ?_
    have A4 := A3.go g4
    exact h' _ H4 pn n4 y w e d4 _ A4.sub A4.pst (Rep.mono sub_ext e y (Rep.mono sub_ext e y r2)) r4 hz4 _ fun v5 H5 g5 r5 => ⟨z, r5, k z H5 ⟨n4, (g123.trans g4).trans g5, hq4⟩⟩
/-! ### a list or a tuple, walked -/
def wAny (Ta : TD) : TDs := fun ρ n q => Ta ρ n fun d n => ∃ ds, (d = .lst ds ∨ d = .tup ds) ∧ q ds n
theorem wd_seq {tg e : Expr} {T : TD} (h : ED X e T) : WD X tg e (wAny T) := by
  have hp := ed_can h
  -- both walks over one evaluation
  refine ⟨fun σ H R => ∃ (G : Hp) (pn : Pn) (n : Nat) (ρ : DL.Env) (q : List D → Nat → Prop), At X.K pn G H σ ρ n ∧ wAny T ρ n q ∧ ∀ J ds n' H', Go pn G H H' n' → q ds n' → Walks X.K pn J (ext G H H') ds → R J H', ⟨fun pins s σ H R I ⟨G, pn, n, ρ, q, A, hT, kr⟩ => ?_⟩, fun σ H G pn n ρ q A hT R kr => ⟨G, pn, n, ρ, q, A, hT, kr⟩⟩
  refine thn (hp.run pins s σ H (fun v H1 => ∃ ds n1, Go pn G H H1 n1 ∧ q ds n1 ∧ (Rep X.K pn (ext G H H1) v (.lst ds) ∨ Rep X.K pn (ext G H H1) v (.tup ds))) I ⟨G, pn, n, ρ, _, A, hT, fun v H1 ⟨d, n1, g1, r1, ds, hd, hq⟩ => ⟨ds, n1, g1, hq, by
    rcases hd with rfl | rfl
    · exact .inl r1
    · exact .inr r1⟩⟩) fun u s1 ⟨v, H1, I1, ru, ds, n1, g1, hq, hr⟩ => ?_
  have A1 := A.go g1
  rcases hr with hr | hr
  · obtain ⟨a, vs, rfl, h1, h2⟩ := hr
    obtain rfl : u = Value.ref a := ru
    obtain ⟨its, rv, pl, hz⟩ := I1.list (SqL.of (A1.sub _ _ h1))
    refine wpAny_pyIter_list pl.isList ⟨s1.heap.objs.size, [s1.heap.objs.size], _, _, H1, rfl, I1.kept (t' := s1.toks) (fun b o e => Heap.get?_push_of_some _ e), turn_list a _, ⟨_, Heap.get?_push_size _ rfl, rfl, rfl⟩, fun b hb => ?_, kr _ ds n1 H1 g1 hq (walks_lst h1 h2)⟩
    obtain rfl : b = s1.heap.objs.size := by simpa using hb
    exact I1.fpOk (Nat.le_refl _) (I1.hok.fresh (Nat.le_refl _))
  · obtain ⟨a, vs, rfl, h1, h2⟩ := hr
    obtain rfl : u = Value.ref a := ru
    obtain ⟨its, rv, pl, hz⟩ := I1.tuple (A1.sub.sqT h1)
    refine wpAny_pyIter_tuple (show s1.heap.IsTuple a its.toArray from pl) ⟨s1.heap.objs.size, [s1.heap.objs.size], _, _, H1, rfl, I1.kept (t' := s1.toks) (fun b o e => Heap.get?_push_of_some _ e), turn_tuple a _, ⟨_, Heap.get?_push_size _ rfl, rfl, rfl⟩, fun b hb => ?_, kr _ ds n1 H1 g1 hq (walks_tup h1 h2)⟩
    obtain rfl : b = s1.heap.objs.size := by simpa using hb
    exact I1.fpOk (Nat.le_refl _) (I1.hok.fresh (Nat.le_refl _))
/-! ### list(range(..)) -/
def tList_range1 (Ta : TDs) : TD := fun ρ n q => Ta ρ n fun ds n => ∃ j : Int, ds = [.int j] ∧ 0 ≤ j ∧ j ≤ LIM ∧ q (.lst (rangeD 0 j.toNat)) n
def tList_range2 (Ta : TDs) : TD := fun ρ n q => Ta ρ n fun ds n => ∃ i j : Int, ds = [.int i, .int j] ∧ 0 ≤ i ∧ i ≤ LIM ∧ 0 ≤ j ∧ j ≤ LIM ∧ q (.lst (rangeD i (j - i).toNat)) n
def lList_range1 (Ta : TDs) : TDs := fun ρ n q => Ta ρ n fun ds n => ∃ j : Int, ds = [.int j] ∧ 0 ≤ j ∧ j ≤ LIM ∧ q (rangeD 0 j.toNat) n
def lList_range2 (Ta : TDs) : TDs := fun ρ n q => Ta ρ n fun ds n => ∃ i j : Int, ds = [.int i, .int j] ∧ 0 ≤ i ∧ i ≤ LIM ∧ 0 ≤ j ∧ j ≤ LIM ∧ q (rangeD i (j - i).toNat) n
theorem rgV_rep {K : PySem.W.Frag} {pn : Pn} {G : Hp} {i j : Int} : Reps K pn G (rgV i j) (rangeD i (j - i).toNat) := by
  have h1 : rangeD i (j - i).toNat = ((List.range (j - i).toNat).map fun (k : Nat) => i + (k : Int)).map D.int := by
    unfold rangeD
    rw [List.map_map]
    rfl
  have h2 : rgV i j = ((List.range (j - i).toNat).map fun (k : Nat) => i + (k : Int)).map V.int := by
    unfold rgV
    rw [List.map_map]
    rfl
  rw [h1, h2]
  exact Reps.ints.mpr rfl
theorem rgOk_lim {i j : Int} (h0 : 0 ≤ i) (h1 : i ≤ LIM) (h2 : 0 ≤ j) (h3 : j ≤ LIM) : RgOk i j := by
  have : (LIM : Int) = 1000000 := rfl
  exact RgOk.of_le h0 (by omega) (by omega) h2
theorem ad1 {a : Expr} {Ta : TD} (h : ED X a Ta) : True := trivial
theorem ld_list_range1 {a : Expr} {Ta : TD} {p p2 q pos : Pos} (B : NoB X.mg) (hc : X.calm = true) (hg : Gl X "list") (hg2 : Gl X "range") (h : ED X a Ta) (na : starEach [a] X.env = (false, eval a X.env) :: starEach [] X.env := by rfl)
    (nb : starEach [.Call (.Name "range" p2) [a] [] q] X.env = (false, eval (.Call (.Name "range" p2) [a] [] q) X.env) :: starEach [] X.env := by rfl) : LD X (.Call (.Name "list" p) [.Call (.Name "range" p2) [a] [] q] [] pos) (lList_range1 (aCons Ta aNil)) := by
  obtain ⟨t, pa, k⟩ := h
  refine ⟨_, pe_listRg hc hg (B _ (by decide)) (prg_1 hg2 (B _ (by decide)) pa na) nb, LR.of_new fun σ H G pn n ρ q A hT Q kq => ?_⟩
  refine k σ H G pn n ρ _ A hT _ fun v H1 ⟨d, n1, g1, r1, j, hd, h0, h1, hq⟩ => ?_
  cases hd
  refine ⟨j, r1, rgOk_lim (by omega) (by omega) h0 h1, fun p hp => kq _ _ H1 n1 p g1 rgV_rep ?_ hp⟩
  rw [show j - 0 = j by omega]
  exact hq
theorem ld_list_range2 {a b : Expr} {Ta Tb : TD} {p p2 q pos : Pos} (B : NoB X.mg) (hc : X.calm = true) (hg : Gl X "list") (hg2 : Gl X "range") (h : ED X a Ta) (h2 : ED X b Tb) (na : starEach [a, b] X.env = (false, eval a X.env) :: starEach [b] X.env := by rfl) (na2 : starEach [b] X.env = (false, eval b X.env) :: starEach [] X.env := by rfl) (npl : (backTo q (starEach [b] X.env)).any (·.1) = false := by rfl)
    (nb : starEach [.Call (.Name "range" p2) [a, b] [] q] X.env = (false, eval (.Call (.Name "range" p2) [a, b] [] q) X.env) :: starEach [] X.env := by rfl) : LD X (.Call (.Name "list" p) [.Call (.Name "range" p2) [a, b] [] q] [] pos) (lList_range2 (aCons Ta (aCons Tb aNil))) := by
  obtain ⟨t, pa, k⟩ := h
  obtain ⟨t2, pa2, k2⟩ := h2
  refine ⟨_, pe_listRg hc hg (B _ (by decide)) (prg_2 hg2 (B _ (by decide)) pa pa2 na na2 npl) nb, LR.of_new fun σ H G pn n ρ q A hT Q kq => ?_⟩
  refine k σ H G pn n ρ _ A hT _ fun v H1 ⟨d, n1, g1, r1, hT2⟩ => ?_
  have A1 := A.go g1
  refine k2 σ H1 _ pn n1 ρ _ A1 hT2 _ fun w H2 ⟨e, n2, g2, r2, i, j, hd, b1, b2, b3, b4, hq⟩ => ?_
  cases hd
  exact ⟨i, j, r1, r2, rgOk_lim b1 b2 b3 b4, fun p hp => kq _ _ H2 n2 p (g1.trans g2) rgV_rep hq hp⟩
theorem LD.ed {e : Expr} {T : TDs} (h : LD X e T) : ED X e (tL T) := by
  obtain ⟨t, p, k⟩ := h
  exact ⟨t, p, k.er⟩
theorem s_rem {st : Stmt} {e : Expr} {i : Nat} {Te : TD} (mk : ∀ te, PE X e te → PS X st (tDrop (tBM X.K "list" rRemI (tVar i) (tCons te tNil)))) (h : ED X e Te) (hi : i ∈ O := by decide) : S1 X Ol O st O (sRem i Te) := by
  obtain ⟨t, p, k⟩ := h
  refine ⟨_, mk _ p, fun σ H G G0 H0 pn n ρ Dd S hT E ke => ?_⟩
  obtain ⟨Ge, s1, A, st⟩ := S.stepP
  obtain ⟨B, own, _⟩ := S.own
  obtain ⟨ds0, vs0, f1, f2, f3, f4⟩ := (own i hi).ex
  refine ⟨_, f2, .inl ⟨rfl, _, .inl (.inl f3)⟩, ?_⟩
  refine k σ H Ge pn n _ _ A hT _ fun v H1 ⟨d, n1, g1, r1, ns, kk, hd, hρ, hm, hq⟩ => ?_
  subst hd
  obtain ⟨Gf, s2, _, mk2, tl, _⟩ := st H1 n1 g1
  have S1 := mk2 _ sub_ext (Sub.refl _)
  obtain ⟨B1, own1, _⟩ := S1.own
  obtain ⟨⟨ds1, vs1, e1, e2, e3, e4⟩, e5, e6⟩ := own1 i hi
  rw [f2] at e2
  have hB : B i = B1 i := by
    injection e2 with e2
    injection e2 with e2
    injection e2
  rw [hρ] at e1
  cases e1
  rw [hB]
  have hv := Reps.ints.mp e4
  subst hv
  obtain ⟨j, hj, hmin⟩ : ∃ j : Nat, ns[j]? = some kk ∧ (∀ m : Nat, m < j → ns[m]? ≠ some kk) ∧ ns.eraseIdx j = ns.erase kk := by
    have hlt : ns.findIdx (· == kk) < ns.length := List.findIdx_lt_length_of_exists ⟨kk, hm, by simp⟩
    refine ⟨ns.idxOf kk, ?_, fun m hmj e => ?_, ?_⟩
    · show ns[ns.findIdx (· == kk)]? = some kk
      rw [List.getElem?_eq_getElem hlt]
      have := List.findIdx_getElem (w := hlt)
      simpa using this
    · have hlt : m < ns.length := (List.getElem?_eq_some_iff.mp e).1
      have := List.not_of_lt_findIdx (p := (· == kk)) (xs := ns) hmj
      have e' : ns[m] = kk := (List.getElem?_eq_some_iff.mp e).2
      simp [e'] at this
    · exact (List.erase_eq_eraseIdx_of_idxOf rfl).symm
  refine ⟨_, ns, kk, j, rfl, by rw [show v = V.int kk from r1], e3, hj, hmin.1, ?_⟩
  have hlen : i < ρ.length := by
    obtain ⟨q, _⟩ := List.getElem?_eq_some_iff.mp hρ
    exact q
  rw [hmin.2]
  exact ke.nx _ _ _ _ n1 (s2.trans sub_ext) (S1.mut hi (by rw [f2, hB]) e3 e5 e6 (Reps.ints.mpr rfl) hlen) hq
end
end DL
namespace DL
open PySem PySem.Spec PyProof.Rows L2
/-- a def of the text as it stands behind the top -/
structure Ent (K : PySem.W.Frag) (mg : Str → Option Value) (x : Str) (st : Stmt) (ps : List Str) (f : Addr) (fd : FuncData) : Prop where
  F : Fun K x x st f fd
  b : Binds K fd ps []
  g : mg x = some (.ref f)
end DL
namespace DL
open PySem PySem.Spec PyProof.Rows L2
/-- a draw: some number below the amount -/
def takeD : FT := fun ds n q => ∃ m : Int, ds = [.pen, .int m] ∧ 0 < m ∧ m < 1073741824 ∧ n < 1000000000 ∧ ∀ k : Int, 0 ≤ k → k < m → q (.int k) (n + 1)
theorem takeD_len : ∀ ds n q, takeD ds n q → ds.length = 2 := fun ds n q ⟨m, h, _⟩ => by rw [h]; rfl
/-- what the draw asks of the def that spreads a cell -/
def SpreadOk (T : FT) : Prop := ∀ (c a : Int) (n : Nat) (q : QD), 0 ≤ a → a < 1000000000 → (∀ i : Int, q (.int i) n) → T [.int c, .int a] n q
end DL
namespace DL
open PySem PySem.Spec PyProof.Rows L2
set_option maxHeartbeats 2000000
theorem meets_enum1 {v : Value} {o : Obj} {H : Heap → Prop} (B : Begins v o H) :
    Meets (Builtin.«enumerate.__new__» ⟨[.type "enumerate", v], []⟩) (fun _ R s => H s.heap ∧
      R (.ok (.ret (.ref (s.heap.push o).objs.size))) { s with heap := (s.heap.push o).push { cls := .type "enumerate", data := .fields #[.none, .bool false, .ref s.heap.objs.size, rawInt 0, .none, .none] } }) :=
  .of_wp fun prog w A R s h => by
    obtain ⟨hp, g, d, tk, os⟩ := s
    obtain ⟨h1, h⟩ := h
    have hsub := sub_enumerate
    have q1 : ∀ {A' : Around} {E : Value → Shared → Prop} {Q : Value → Shared → Prop}, Q (.ref hp.objs.size) ⟨hp.push o, g, d, tk, os⟩ → wpAny (model prog w) A' (pyIter v) Q E ⟨hp, g, d, tk, os⟩ := fun q => B.iter prog w _ _ ⟨hp, g, d, tk, os⟩ _ h1 q
    wp_walk using q1
    refine wpAny_stack_any fun st => wpAny_pure ?_
    split
    · rename_i c _ _ _ _ _
      cases (c == Value.type "enumerate") <;> (wp_walk using q1; exact ⟨_, rfl, h⟩)
    · wp_walk using q1
      exact ⟨_, rfl, h⟩
section
variable {prog : Program} {w : World} {A : Around} {E : Value → Shared → Prop} {s : Shared}
theorem enum1 {v : Value} {o : Obj} {H : Heap → Prop} {Q : Value → Shared → Prop} (B : Begins v o H) (h1 : H s.heap)
    (h : ∀ h', IsEnum h' (s.heap.objs.size + 1) s.heap.objs.size 0 .none → h'.get? s.heap.objs.size = some o → (∀ b o, s.heap.get? b = some o → h'.get? b = some o) → Q (.ref (s.heap.objs.size + 1)) { s with heap := h' }) :
    wpAny (model prog w) A (call (.type "enumerate") [v]) Q E s := by
  refine callType_new F.called_enumerate (by decide) (F.typeCall_enumerate_1 _) (F.newCall_enumerate_1 _) (fun obj => F.args_object_init_2 obj _) F.entry_enumerate_new (meets_enum1 B) ⟨h1, ?_⟩
  have hz : (s.heap.push o).objs.size = s.heap.objs.size + 1 := Heap.size_push ..
  show _ ∧ _
  rw [hz]
  have he : IsEnum ((s.heap.push o).push { cls := .type "enumerate", data := .fields #[.none, .bool false, .ref s.heap.objs.size, rawInt 0, .none, .none] }) (s.heap.objs.size + 1) s.heap.objs.size 0 .none := by
    have z := Heap.get?_push_size (s.heap.push o) (o := { cls := .type "enumerate", data := .fields #[.none, .bool false, .ref s.heap.objs.size, rawInt 0, .none, .none] }) rfl
    rw [hz] at z
    exact z
  exact ⟨⟨_, he, rfl⟩, h _ he (Heap.get?_push_of_some _ (Heap.get?_push_size _ B.free)) fun b o x => Heap.get?_push_of_some _ (Heap.get?_push_of_some _ x)⟩
end
/-- a tuple as it stands at each turn, in new pairs with the turn's number -/
def IteT (K : PySem.W.Frag) (a : Addr) : It :=
  ⟨fun i H => ∃ (xs : List V) (x : V), SqT K H a xs ∧ xs[i]? = some x, fun i H v H' => ∃ T x, v = .ref T ∧ H T = none ∧ H' = upd H T (.tup [.int (i : Nat), x]) ∧ ∀ xs, SqT K H a xs → xs[i]? = some x, fun i H => ∃ xs : List V, SqT K H a xs ∧ xs.length ≤ i⟩
theorem tuple_ne {h : Heap} {a b : Addr} {items : Array Value} (t : IsTup h a items) {o : Obj} (e : h.get? b = some o) (c : o.cls ≠ .type "tuple") : a ≠ b := fun z => by
  obtain ⟨o', h1, h2, _⟩ := t
  rw [z, e] at h1
  cases h1
  exact c h2
theorem turn_enumT {P : Program} {w : World} {K : PySem.W.Frag} {elts : List Expr} {kk : Nat} {tpos : Pos} (a e it : Addr) :
    Turn P w K (.Tuple elts kk tpos) (IteT K a) [e, it] e (fun i h => (∃ old, IsEnum h e it ((i : Nat) : Int) old) ∧ h.IsTupleIter it a i ∧ e ≠ it) where
  mem := by simp
  obj := fun i h st b hb => by
    obtain ⟨⟨old, he⟩, ⟨o, ho, hc, hd⟩, _⟩ := st
    rcases (show b = e ∨ b = it by simpa using hb) with z | z
    · rw [z]
      exact ⟨_, he, fun v q => nomatch q⟩
    · rw [z]
      exact ⟨o, ho, fun v q => by rw [hd] at q; cases q⟩
  keep := fun i h h' st k => by
    obtain ⟨⟨old, he⟩, hi, hne⟩ := st
    exact ⟨⟨old, k e (by simp) _ he⟩, hi.at fun o q => k it (by simp) o q, hne⟩
  item := by
    intro X hP hw hK hc i pins s σ H E I hf st hg
    subst hP hw hK
    obtain ⟨⟨old, he⟩, hit, hne⟩ := st
    obtain ⟨xs, x, hq, hx⟩ := hg
    obtain ⟨its, rv, p, hz⟩ := I.tuple hq
    obtain ⟨u, hu, ru⟩ := rv.get hx
    have hel : e < s.heap.objs.size := Heap.lt_size he
    obtain ⟨oi, ho1, ho2, ho3⟩ := id hit
    have hil : it < s.heap.objs.size := Heap.lt_size ho1
    have nai : a ≠ it := tuple_ne p ho1 (by rw [ho2]; decide)
    have nae : a ≠ e := tuple_ne p he (show Value.type "enumerate" ≠ .type "tuple" by decide)
    have hlt : i < its.toArray.size := by
      rw [List.size_toArray]
      exact (List.getElem?_eq_some_iff.mp hu).1
    refine wpAny_pyNext_enum_itemD (Draws.tuple (A := X.A.in1) (I.ok.hd hc) it a nai its.toArray) he ⟨hit, p⟩ hlt hne (by simp [hne, Ne.symm nae]) fun y h' tk hy ho hit' hT hsz hk => ?_
    obtain rfl : y = u := by
      rw [List.getElem?_toArray, hu] at hy
      exact (Option.some.inj hy).symm
    refine ⟨_, rfl, wpAny_letOwnedTupleGo_enum (s := { s with heap := h', toks := tk + 1 }) ho fun h'' he' sb => ?_⟩
    have hT2 : h''.get? s.heap.objs.size = some { cls := .type "tuple", data := .seq #[.int i tk, y] } := (sb.2 _ (Nat.ne_of_gt hel)).trans hT
    have new : ObjOk X.prog X.w (upd H s.heap.objs.size (.tup [.int (i : Nat), x])) h'' s.heap.objs.size (.tup [.int (i : Nat), x]) :=
      ⟨by show 2 ≤ sizeLine; decide, [.int i tk, y], .cons ⟨_, rfl⟩ (.cons ru .nil), ⟨_, hT2, rfl, _, rfl⟩⟩
    have I1 : Inv X pins σ (upd H s.heap.objs.size (.tup [.int (i : Nat), x])) { s with heap := h'', toks := tk + 1 } :=
      I.turnedNew (ch := [e, it]) (fun b ob hb q => (sb.2 b (fun z => hb (by simp [z]))).trans (hk b ob (fun z => hb (by simp [z])) (fun z => hb (by simp [z])) q)) hf (Nat.le_refl _) new
    refine ⟨.ref s.heap.objs.size, _, I1, rfl, ⟨_, x, rfl, I.hok.fresh (Nat.le_refl _), rfl, fun ys hy => by rw [I.tuple_inj hy hq]; exact hx⟩, ⟨⟨y, ?_⟩, hit'.1.at fun o q => (sb.2 it (Ne.symm hne)).trans q, hne⟩, fun b hb => ?_⟩
    · rw [show ((i + 1 : Nat) : Int) = (i : Int) + 1 by omega]
      exact he'
    · have hb' : b < s.heap.objs.size := by
        rcases (show b = e ∨ b = it by simpa using hb) with z | z
        · rw [z]; exact hel
        · rw [z]; exact hil
      rw [upd_ne (Nat.ne_of_lt hb')]
      exact (hf b hb).1
  done := by
    intro X hP hw hK hc i pins s σ H E I hf st hg
    subst hP hw hK
    obtain ⟨⟨old, he⟩, hit, hne⟩ := st
    obtain ⟨xs, hq, hx⟩ := hg
    obtain ⟨its, rv, p, hz⟩ := I.tuple hq
    obtain ⟨f0, f1, f2, f3, f4, f5⟩ := hf it (by simp)
    have hl := rv.length
    obtain ⟨oi, ho1, ho2, ho3⟩ := id hit
    have nai : a ≠ it := tuple_ne p ho1 (by rw [ho2]; decide)
    -- beyond the end nothing is drawn either
    unfold pyNext
    have hT : s.TypeIs (.ref e) "enumerate" := ⟨_, he, rfl⟩
    refine wpAny_bind (wpAny_attempt (wpAny_callSpecial?_slot (name := Str.ofString "__next__") hT F.slot_enumerate_next (wpAny_call_entry F.slot_enumerate_next hT F.entry_enumerate_next ?_ (F.args_enumerate_next_1 _))))
    show wpAny _ _ (field (.ref e) 2 >>= _) _ _ _
    refine wpAny_bind (wpAny_field he rfl (x := .ref it) rfl ?_)
    refine wpAny_bind (wpAny_nextOf_tuple_end (I.ok.hd hc) hit p (by simp; omega) fun h' x he' hx' => ?_)
    obtain ⟨o, ho, hc'⟩ := hx'
    refine wpAny_bind (wpAny_isInstance (T := "StopIteration") (b := true) ⟨o, ho, hc'⟩ isSubtype_stop ?_)
    exact wpAny_pure ⟨rfl, I.turned (t' := s.toks) (fun b o hb q => he' b o hb q) f0 f1 f3 f4 f5⟩
  self := fun A i s Q E st h => let ⟨⟨_, he⟩, _⟩ := st; wpAny_pyIter_enum he h
def iEnumA (K : PySem.W.Frag) (ta : TA) : TI := fun σ H R => ta σ H fun vs H1 => ∃ a xs, vs = [.ref a] ∧ ((SqL K H1 a xs ∧ R (Ite K a) H1) ∨ (SqT K H1 a xs ∧ R (IteT K a) H1))
theorem pi_enumA {X : Cx} {e : Expr} {ta : TA} {p pos tpos : Pos} {elts : List Expr} {kk : Nat} (hg : Gl X "enumerate") (hm : X.mg "enumerate" = none) (ha : PA X [e] ta) (hs : starEach [e] X.env = [(false, eval e X.env)] := by rfl) :
    PI X (.Tuple elts kk tpos) (.Call (.Name "enumerate" p) [e] [] pos) (iEnumA X.K ta) := by
  refine ⟨fun pins s σ H R I h => ?_⟩
  refine Call_ (ld_blt I hg hm boot_enumerate (PyProof.Rows.callWith_type1 (thn (ha.run pos pins s σ H _ I h) fun us s1 ⟨vs, H1, I1, r1, q1⟩ => ?_) hs rfl))
  obtain ⟨a, xs, rfl, q⟩ := q1
  obtain rfl := Vals.ref1 r1
  have fresh : ∀ b, b ∈ [s1.heap.objs.size + 1, s1.heap.objs.size] → FpOk X pins H1 b := fun b hb => by
    have hle : s1.heap.objs.size ≤ b := by
      rcases (show b = s1.heap.objs.size + 1 ∨ b = s1.heap.objs.size by simpa using hb) with z | z <;> omega
    exact I1.fpOk hle (I1.hok.fresh hle)
  rcases q with ⟨hq, q⟩ | ⟨hq, q⟩
  · obtain ⟨its, rv, p', hz⟩ := I1.list hq
    refine enum1 (begins_list a its.toArray) p'.isList fun h' he hit hk => wpAny_pyIter_enum he ?_
    exact ⟨s1.heap.objs.size + 1, [s1.heap.objs.size + 1, s1.heap.objs.size], _, _, H1, rfl, I1.kept (t' := s1.toks) hk, turn_enum a (s1.heap.objs.size + 1) s1.heap.objs.size, ⟨⟨.none, he⟩, ⟨_, hit, rfl, rfl⟩, Nat.succ_ne_self _⟩, fresh, q⟩
  · obtain ⟨its, rv, p', hz⟩ := I1.tuple hq
    refine enum1 (begins_tuple a its.toArray) p' fun h' he hit hk => wpAny_pyIter_enum he ?_
    exact ⟨s1.heap.objs.size + 1, [s1.heap.objs.size + 1, s1.heap.objs.size], _, _, H1, rfl, I1.kept (t' := s1.toks) hk, turn_enumT a (s1.heap.objs.size + 1) s1.heap.objs.size, ⟨⟨.none, he⟩, ⟨_, hit, rfl, rfl⟩, Nat.succ_ne_self _⟩, fresh, q⟩
section
variable {X : Cx}
theorem walks_enumL {K : PySem.W.Frag} {pn : Pn} {G : Hp} {a : Addr} {ws : List V} {ds : List D} (h2 : G a = some (.lst ws)) (h3 : Reps K pn G ws ds) : Walks K pn (Ite K a) G (enumD 0 ds) := by
  refine ⟨fun i H s hi => ?_, fun i H x H' s y => ?_, fun i H s hi => ?_⟩
  · rw [enumD_len] at hi
    have : i < ws.length := by rw [Reps.length h3]; exact hi
    exact ⟨ws, ws[i], SqL.of (s _ _ h2), List.getElem?_eq_getElem this⟩
  · obtain ⟨T, y, rfl, hT, rfl, hy⟩ := y
    refine ⟨fun a u e => by rw [upd_ne (ne_of_none e hT)]; exact e, fun d hd G1 s1 s2 => ?_⟩
    rw [enumD_get] at hd
    cases hd' : ds[i]? with
    | none => rw [hd'] at hd; cases hd
    | some d' =>
      rw [hd'] at hd
      cases hd
      obtain ⟨v, h4, h5⟩ := Reps.get h3 hd'
      have h6 := hy ws (SqL.of (s _ _ h2))
      rw [h4] at h6
      cases h6
      rw [ext_new s2 hT]
      exact ⟨T, _, rfl, SqT.of upd_same, .int (i : Nat), _, rfl, by rw [show 0 + i = i by omega]; rfl, _, [], rfl, Rep.mono (upd_sub s2 hT) _ _ (Rep.mono s1 _ _ h5), rfl⟩
  · rw [enumD_len] at hi
    exact ⟨ws, SqL.of (s _ _ h2), by rw [Reps.length h3]; exact hi⟩
theorem walks_enumT {K : PySem.W.Frag} {pn : Pn} {G : Hp} {a : Addr} {ws : List V} {ds : List D} (h2 : SqT K G a ws) (h3 : Reps K pn G ws ds) : Walks K pn (IteT K a) G (enumD 0 ds) := by
  refine ⟨fun i H s hi => ?_, fun i H x H' s y => ?_, fun i H s hi => ?_⟩
  · rw [enumD_len] at hi
    have : i < ws.length := by rw [Reps.length h3]; exact hi
    exact ⟨ws, ws[i], s.sqT h2, List.getElem?_eq_getElem this⟩
  · obtain ⟨T, y, rfl, hT, rfl, hy⟩ := y
    refine ⟨fun a u e => by rw [upd_ne (ne_of_none e hT)]; exact e, fun d hd G1 s1 s2 => ?_⟩
    rw [enumD_get] at hd
    cases hd' : ds[i]? with
    | none => rw [hd'] at hd; cases hd
    | some d' =>
      rw [hd'] at hd
      cases hd
      obtain ⟨v, h4, h5⟩ := Reps.get h3 hd'
      have h6 := hy ws (s.sqT h2)
      rw [h4] at h6
      cases h6
      rw [ext_new s2 hT]
      exact ⟨T, _, rfl, SqT.of upd_same, .int (i : Nat), _, rfl, by rw [show 0 + i = i by omega]; rfl, _, [], rfl, Rep.mono (upd_sub s2 hT) _ _ (Rep.mono s1 _ _ h5), rfl⟩
  · rw [enumD_len] at hi
    exact ⟨ws, s.sqT h2, by rw [Reps.length h3]; exact hi⟩
def wEnum (Ta : TDs) : TDs := fun ρ n q => Ta ρ n fun as n => ∃ ds, (as = [.lst ds] ∨ as = [.tup ds]) ∧ q (enumD 0 ds) n
theorem wd_enum {e : Expr} {Ta : TDs} {p pos tpos : Pos} {elts : List Expr} {kk : Nat} (B : NoB X.mg) (hg : Gl X "enumerate") (ha : AD X [e] Ta) (hs : starEach [e] X.env = [(false, eval e X.env)] := by rfl) : WD X (.Tuple elts kk tpos) (.Call (.Name "enumerate" p) [e] [] pos) (wEnum Ta) := by
  obtain ⟨t, pa, k⟩ := ha
  refine ⟨_, pi_enumA hg (B _ (by decide)) pa hs, fun σ H G pn n ρ q A hT R kr => ?_⟩
  refine k σ H G pn n ρ _ A hT _ fun vs H1 ⟨as, n1, g1, r1, ds, hd, hq⟩ => ?_
  have A1 := A.go g1
  rcases hd with rfl | rfl
  · obtain ⟨v, rfl, h1⟩ := reps1 r1
    obtain ⟨a, ws, rfl, h2, h3⟩ := h1
    exact ⟨a, ws, rfl, .inl ⟨SqL.of (A1.sub _ _ h2), kr _ _ n1 H1 g1 hq (walks_enumL h2 h3)⟩⟩
  · obtain ⟨v, rfl, h1⟩ := reps1 r1
    obtain ⟨a, ws, rfl, h2, h3⟩ := h1
    exact ⟨a, ws, rfl, .inr ⟨A1.sub.sqT h2, kr _ _ n1 H1 g1 hq (walks_enumT h2 h3)⟩⟩
end
end DL
namespace DL
open PySem PySem.Spec PyProof.Rows L2
set_option maxHeartbeats 2000000
section
variable {prog : Program} {w : World} {A : Around} {E : Value → Shared → Prop} {s : Shared}
theorem collect_tup {l : Addr} {vs : List Value} {Q : List Value → Shared → Prop} (hl : s.heap.IsTuple l vs.toArray)
    (h : Q vs { s with heap := (s.heap.push (seqObj "list" #[] 0)).update s.heap.objs.size (Obj.mapSeq (· ++ vs.toArray)) }) (hsz : vs.length ≤ sizeLine) : wpAny (model prog w) A (collect (.ref l)) Q E s := by
  obtain ⟨o, ho, hc, n, hd⟩ := id hl
  unfold collect
  refine wpAny_bind (wpAny_runValue (codeAny_builtin entry_proto_collect' ?_))
  show wpAny _ _ (do again (.builtin "list.__iadd__" ⟨[← newList [], .ref l], []⟩)) _ _ s
  refine wpAny_bind (wpAny_newList (wpAny_pure ⟨Code.quiet_builtin _ (by decide +kernel), codeAny_builtin entry_list_iadd' ?_⟩))
  show wpAny _ _ (Builtin.List.listExtendWith (.ref s.heap.objs.size) (.ref l) (.ref s.heap.objs.size)) _ _ { s with heap := s.heap.push (seqObj "list" #[] 0) }
  unfold Builtin.List.listExtendWith
  have ho' : (s.heap.push (seqObj "list" #[] 0)).get? l = some o := Heap.get?_push_of_some _ ho
  refine wpAny_bind (wpAny_typeOf (T := "tuple") ⟨o, ho', hc⟩ ?_)
  rw [if_pos (by rw [show (Value.type "tuple" == Value.type "tuple") = true from rfl]; simp)]
  refine wpAny_bind (listItems_at ho' hd ?_)
  refine wpAny_bind (listItems_at (xs := #[]) (n := 0) (Heap.get?_push_size _ rfl) rfl ?_)
  rw [if_neg (by simp)]
  refine wpAny_bind (listUpdate_at (xs := #[]) (n := 0) (Heap.get?_push_size _ rfl) rfl ?_ (Nat.zero_le _) (by show (#[] ++ vs.toArray).size ≤ sizeLine + 1; simp only [Array.size_append, List.size_toArray, List.length_nil]; omega))
  refine wpAny_pure ?_
  show wpAny (model prog w) A (do
      let o ← load s.heap.objs.size
      match o.data with
      | .seq xs _ => pure xs.toList
      | _ => unsupported "internal:collect") Q E { s with heap := (s.heap.push (seqObj "list" #[] 0)).update s.heap.objs.size (Obj.mapSeq (· ++ vs.toArray)) }
  refine wpAny_bind (wpAny_load (get?_update_seq (Heap.get?_push_size _ rfl) _) ?_)
  show wpAny _ _ (pure ((#[] : Array Value) ++ vs.toArray).toList) Q E _
  rw [show ((#[] : Array Value) ++ vs.toArray).toList = vs by simp]
  exact wpAny_pure h
open SrtO in
theorem sorted_tup {l : Addr} {vs : List Value} {ltv : Value → Value → Bool} {Q : Value → Shared → Prop} (O : Swo ltv) (hl : s.heap.IsTuple l vs.toArray) (hz : vs.length ≤ sizeLine)
    (hS : 2 ≤ vs.length → ∀ (h₁ : Heap) (a : Addr), h₁.get? a = some (seqObj "list" vs.toArray 0) → (∀ b o, s.heap.get? b = some o → b ≠ a ∧ h₁.get? b = some o) → SortableO prog w A.in1.in1 { s with heap := h₁ } a vs ltv)
    (h : ∀ out : List Value, Srtd ltv out → Stb ltv out vs → Q (.ref (s.heap.objs.size + 1)) { s with heap := sortedAll s.heap vs out.toArray }) :
    wpAny (model prog w) A (call (.builtin "sorted") [.ref l]) Q E s := by
  refine Calls.call_function_entry kind_sorted plain_sorted entry_sorted (args_sorted1 _) ?_
  unfold Builtin.«sorted»
  refine wpAny_bind (m := checkCount "sorted" 1 1 _) (wpAny_pure ?_)
  refine wpAny_bind (collect_tup hl ?_ hz)
  refine wpAny_bind (wpAny_newList ?_ hz)
  have hsz : ((s.heap.push (seqObj "list" #[] 0)).update s.heap.objs.size (Obj.mapSeq (· ++ vs.toArray))).objs.size = s.heap.objs.size + 1 := by
    rw [Heap.size_update, size_push']
  have hoL : (((s.heap.push (seqObj "list" #[] 0)).update s.heap.objs.size (Obj.mapSeq (· ++ vs.toArray))).push (seqObj "list" vs.toArray 0)).get? (s.heap.objs.size + 1) = some (seqObj "list" vs.toArray 0) := by
    rw [← hsz]
    exact Heap.get?_push_size _ rfl
  have keep : ∀ b o, s.heap.get? b = some o → b ≠ s.heap.objs.size + 1 ∧ (((s.heap.push (seqObj "list" #[] 0)).update s.heap.objs.size (Obj.mapSeq (· ++ vs.toArray))).push (seqObj "list" vs.toArray 0)).get? b = some o := fun b o q => by
    have hlt : b < s.heap.objs.size := Heap.lt_size q
    refine ⟨Nat.ne_of_lt (Nat.lt_succ_of_lt hlt), Heap.get?_push_of_some _ ?_⟩
    rw [Heap.get?_update_ne _ _ _ _ (Nat.ne_of_lt hlt)]
    exact Heap.get?_push_of_some _ q
  show wpAny _ _ _ _ _ { s with heap := ((s.heap.push (seqObj "list" #[] 0)).update s.heap.objs.size (Obj.mapSeq (· ++ vs.toArray))).push (seqObj "list" vs.toArray 0) }
  rw [hsz]
  refine wpAny_bind (wpAny_holding (wpAny_call_entry slot_list_sort ⟨_, hoL, rfl⟩ entry_list_sort (list_sort_ord O hoL hz (fun h2 => hS h2 _ _ hoL keep) fun out hs hb => ⟨_, rfl, ?_⟩) (args_list_sort _)))
  exact wpAny_pure ⟨_, rfl, h out hs hb⟩
end
section
variable {X : Cx}
def rSortedT (K : PySem.W.Frag) : List V → Hp → VK → Prop := fun vs H Q => ∃ (a : Addr) (ns : List Int), vs = [V.ref a] ∧ SqT K H a (ns.map V.int) ∧
  ∀ (ns' : List Int) (p : Addr), ns'.Perm ns → ns'.Pairwise (· ≤ ·) → H p = none → Q (.ref p) (upd H p (.lst (ns'.map V.int)))
theorem cr_sortedT : CallR X (.builtin "sorted") (rSortedT X.K) := by
  intro pins s σ H vs us Q I r h
  obtain ⟨a, ns, rfl, hs, q⟩ := h
  obtain ⟨its, rv, hl, hz⟩ := I.tuple hs
  rw [Vals.ref1 r]
  have hi := rv.ints
  refine sorted_tup SrtO.swo_int hl (by rw [← rv.length]; exact hz) (fun h2 h₁ a' _ _ => SrtO.ints_sortable hi h2) fun out h1 h2 => ?_
  obtain ⟨k1, k2, k3⟩ := SrtO.ints_out hi h1 h2
  obtain ⟨ep, he'⟩ := PyProof.Rows.sortedAll_at s.heap its out.toArray
  have hlen : ((out.map SrtO.iv).map V.int).length ≤ sizeLine := by
    rw [List.length_map, k2.length_eq]
    rw [List.length_map] at hz
    exact hz
  exact ⟨.ref _, upd H (s.heap.objs.size + 1) (.lst ((out.map SrtO.iv).map V.int)), I.laid (t' := s.toks) (fun _ _ => PyProof.Rows.sortedAll_old) (Nat.le_succ _) ⟨hlen, out, ep, vals_of_ints k1, he'⟩, rfl, q _ _ k2 k3 (I.hok.fresh (Nat.le_succ _))⟩
def sortedAD : List D → Option D
  | [.lst ds] => (intsOf ds).map fun ns => .lst ((sortI ns).map D.int)
  | [.tup ds] => (intsOf ds).map fun ns => .lst ((sortI ns).map D.int)
  | _ => none
theorem oc_sortedA : OpC X (fun xs H Q => rSortedI X.K xs H Q ∨ rSortedT X.K xs H Q) sortedAD := .lst fun G H pn xs ds z s r hz => by
  rcases ds with _ | ⟨d, _ | ⟨e, ds⟩⟩
  · cases hz
  · obtain ⟨v, rfl, h1⟩ := reps1 r
    cases d <;> simp only [sortedAD, Option.map_eq_some_iff, reduceCtorEq] at hz
    all_goals
      obtain ⟨ns, hb, rfl⟩ := hz
      obtain ⟨a, vs, rfl, h2, h3⟩ := h1
      rw [intsOf_eq hb] at h3
      rw [Reps.ints.mp h3] at h2
    · refine ⟨(sortI ns).map .int, _, rfl, Reps.ints.mpr rfl, fun Q q => .inr ⟨a, ns, rfl, s.sqT h2, fun ns' p hp hs hn => ?_⟩⟩
      rw [sorted_uniq (hp.trans (sortI_perm ns).symm) hs (sortI_sorted ns)]
      exact q p hn
    · refine ⟨(sortI ns).map .int, _, rfl, Reps.ints.mpr rfl, fun Q q => .inl ⟨a, ns, rfl, SqL.of (s _ _ h2), fun ns' p hp hs hn => ?_⟩⟩
      rw [sorted_uniq (hp.trans (sortI_perm ns).symm) hs (sortI_sorted ns)]
      exact q p hn
  · cases d <;> cases hz
theorem ed_sortedA {e : Expr} {p pos : Pos} {T : TDs} (B : NoB X.mg) (hg : Gl X "sorted") (h : AD X [e] T) (he : starEach [e] X.env = (false, eval e X.env) :: starEach [] X.env := by rfl) : ED X (.Call (.Name "sorted" p) [e] [] pos) (tCallB sortedAD T) :=
  opc (fun _ pa => pe_callB (cr_sortedI.or cr_sortedT) hg (B _ (by decide)) (by decide +kernel) pa (he := he)) oc_sortedA h
end
end DL
namespace DL
open PySem PySem.Spec PyProof.Rows L2
set_option maxHeartbeats 2000000
/-- how many different ones -/
def dist : List Int → Nat
  | [] => 0
  | x :: xs => if x ∈ xs then dist xs else dist xs + 1
theorem dist_of : ∀ (ns l : List Int), l.Nodup → (∀ k, k ∈ l ↔ k ∈ ns) → l.length = dist ns
  | [], l, _, h => by
    cases l with
    | nil => rfl
    | cons x r => exact absurd ((h x).mp List.mem_cons_self) (by simp)
  | x :: xs, l, nd, h => by
    unfold dist
    split
    · rename_i hx
      exact dist_of xs l nd fun k => (h k).trans ⟨fun z => by
        rcases List.mem_cons.mp z with rfl | z
        · exact hx
        · exact z, fun z => List.mem_cons_of_mem _ z⟩
    · rename_i hx
      have hm : x ∈ l := (h x).mpr List.mem_cons_self
      have := dist_of xs (l.erase x) (nd.erase x) fun k => by
        rw [nd.mem_erase_iff, h k, List.mem_cons]
        constructor
        · rintro ⟨a, b | b⟩
          · exact absurd b a
          · exact b
        · intro z
          exact ⟨fun e => hx (e ▸ z), .inr z⟩
      rw [List.length_erase_of_mem hm] at this
      have : 0 < l.length := List.length_pos_of_mem hm
      omega
def tLenSetT (K : PySem.W.Frag) (ta : TE) : TE := fun σ H Q => ta σ H fun x H1 => ∃ (l : Addr) (ns : List Int), x = .ref l ∧ SqT K H1 l (ns.map V.int) ∧ ns.length ≤ 4000 ∧ Q (.int (dist ns : Nat)) H1
theorem pe_lenSetT {X : Cx} {a : Expr} {ta : TE} {p p2 q pos : Pos} (hg : Gl X "len") (hm : X.mg "len" = none) (hg2 : Gl X "set") (hm2 : X.mg "set" = none) (ha : PE X a ta) (hc : X.calm = true)
    (na : starEach [a] X.env = (false, eval a X.env) :: starEach [] X.env := by rfl) (nb : starEach [.Call (.Name "set" p2) [a] [] q] X.env = (false, eval (.Call (.Name "set" p2) [a] [] q) X.env) :: starEach [] X.env := by rfl) : PE X (.Call (.Name "len" p) [.Call (.Name "set" p2) [a] [] q] [] pos) (tLenSetT X.K ta) := by
  refine ⟨fun pins s σ H Q I h => ?_⟩
  refine Call_ (ld_blt I hg hm boot_len ?_)
  refine PyProof.Rows.callWith_builtin1 (PyProof.Rows.args_cons ?_ nb) nb rfl
  refine Call_ (ld_blt I hg2 hm2 boot_set ?_)
  refine PyProof.Rows.callWith_type1 (PyProof.Rows.args_cons (thn (ha.run pins s σ H _ I h) fun v s1 ⟨x, H1, I1, r1, q1⟩ => PyProof.Rows.args_nil ?_) na) na rfl
  obtain ⟨l, ns, rfl, hq, hl, q1⟩ := q1
  obtain rfl : v = Value.ref l := r1
  obtain ⟨its, r, pl, hz⟩ := I1.tuple hq
  refine call_set_tupI ns (I1.ok.hd hc) pl (by simpa using RZ.intsAre_vals r) (by unfold scanBound; omega) fun h' tk c hS hc' hk => ?_
  refine PyProof.Rows.args_nil ?_
  obtain ⟨o, es, ep, t, ho, hex, hd, g, nd, hmem, hb, hf, hn, _⟩ := hS
  have I2 : Inv X pins σ H1 { s1 with heap := h', toks := tk } := I1.kept hk
  have hlen : es.size = dist ns := by
    have := dist_of ns _ nd fun k => by
      have := hmem k
      simp only [decide_eq_true_eq] at this
      exact this.symm
    rw [List.length_map, Array.length_toList] at this
    exact this
  exact call_len_set ho hex hd hf (by unfold scanBound at hb; omega) ⟨.int (dist ns : Nat), H1, I2.tok _, ⟨_, by rw [hlen]⟩, q1⟩
def lensetD : D → Option D
  | .tup ds => (intsOf ds).bind fun ns => if ns.length ≤ 4000 then some (.int (dist ns : Nat)) else none
  | _ => none
section
variable {X : Cx}
theorem ed_lenset {a : Expr} {Ta : TD} {p p2 q pos : Pos} (B : NoB X.mg) (hc : X.calm = true) (hg : Gl X "len") (hg2 : Gl X "set") (h : ED X a Ta) (na : starEach [a] X.env = (false, eval a X.env) :: starEach [] X.env := by rfl)
    (nb : starEach [.Call (.Name "set" p2) [a] [] q] X.env = (false, eval (.Call (.Name "set" p2) [a] [] q) X.env) :: starEach [] X.env := by rfl) : ED X (.Call (.Name "len" p) [.Call (.Name "set" p2) [a] [] q] [] pos) (tOp1D lensetD Ta) := by
  obtain ⟨t, pa, k⟩ := h
  refine ⟨_, pe_lenSetT hg (B _ (by decide)) hg2 (B _ (by decide)) pa hc na nb, fun σ H G pn n ρ q A hT Q kq => ?_⟩
  refine k σ H G pn n ρ _ A hT _ fun v H1 ⟨d, n1, g1, r1, z, hz, hq⟩ => ?_
  have A1 := A.go g1
  cases d <;> simp only [lensetD, reduceCtorEq] at hz
  obtain ⟨ns, hns, h2⟩ := Option.bind_eq_some_iff.mp hz
  split at h2
  · rename_i hlim
    cases h2
    obtain ⟨a, vs, rfl, h3, h4⟩ := r1
    rw [intsOf_eq hns] at h4
    rw [Reps.ints.mp h4] at h3
    exact ⟨a, ns, rfl, A1.sub.sqT h3, hlim, kq _ H1 ⟨.int (dist ns : Nat), n1, g1, rfl, hq⟩⟩
  · cases h2
/-! ### isinstance(e, (int, str)) -/
def tIsiIS (Ta : TD) : TD := fun ρ n q => Ta ρ n fun d n => q (.bl (isTy "int" d || isTy "str" d)) n
theorem ed_isiIS {e : Expr} {p p2 p3 pos : Pos} {x1 : Nat} {p4 : Pos} {Ta : TD} (B : NoB X.mg) (hg : Gl X "isinstance") (hg2 : Gl X "int") (hg3 : Gl X "str") (h : ED X e Ta)
    (he : starEach [e, .Tuple [.Name "int" p2, .Name "str" p3] x1 p4] X.env = (false, eval e X.env) :: starEach [.Tuple [.Name "int" p2, .Name "str" p3] x1 p4] X.env := by rfl) (hpl : (backTo pos (starEach [.Tuple [.Name "int" p2, .Name "str" p3] x1 p4] X.env)).any (·.1) = false := by rfl) :
    ED X (.Call (.Name "isinstance" p) [e, .Tuple [.Name "int" p2, .Name "str" p3] x1 p4] [] pos) (tIsiIS Ta) := by
  obtain ⟨t, pe, k⟩ := h
  have pint : PE X (.Name "int" p2) (tC (.ty "int")) := pe_bltn (v := .ty "int") hg2 (B _ (by decide)) (by decide +kernel) rfl
  have pstr : PE X (.Name "str" p3) (tC (.ty "str")) := pe_bltn (v := .ty "str") hg3 (B _ (by decide)) (by decide +kernel) rfl
  refine ⟨_, pe_callB call_isiT hg (B _ (by decide)) (by decide +kernel) (pa_cons pe (pa_cons (pe_tup (pa_cons pint (pa_cons pstr pa_nil))) pa_nil) he) (he := he) (hpl := hpl), fun σ H G pn n ρ q A hT Q kq => ?_⟩
  refine k σ H G pn n ρ _ A hT _ fun v H1 ⟨d, n1, g1, r1, hq⟩ => ?_
  have A1 := A.go g1
  refine ⟨by show 2 ≤ sizeLine; decide, fun tp htp => ?_⟩
  have hsub : Sub H1 (upd H1 tp (.tup [V.ty "int", V.ty "str"])) := fun a u e => by
    rw [upd_ne (ne_of_none e htp)]
    exact e
  have g2 : Go pn (ext G H H1) H1 (upd H1 tp (.tup [V.ty "int", V.ty "str"])) n1 := Go.of_sub A1.pst hsub
  obtain ⟨t1, m1⟩ := rep_ty (A1.go g2).sub n1 (A1.go g2).pst (Rep.mono sub_ext d v r1)
  have k1 : kitB (tyN d) "int" = some (isTy "int" d) := by
    have : kindsOk "int" = true := by decide +kernel
    unfold kindsOk at this
    rw [List.all_eq_true] at this
    exact eq_of_beq (this _ m1)
  have k2 : kitB (tyN d) "str" = some (isTy "str" d) := by
    have : kindsOk "str" = true := by decide +kernel
    unfold kindsOk at this
    rw [List.all_eq_true] at this
    exact eq_of_beq (this _ m1)
  refine ⟨v, tp, _, _, [.type "int", .type "str"], isTy "int" d || isTy "str" d, rfl, upd_same, .cons (.ty _) (.cons (.ty _) .nil), t1, ?_, kq _ _ ⟨.bl _, n1, g1.trans g2, rfl, hq⟩⟩
  exact kitAny_cons (kit_ty k1) (fun e => by
    rw [e, Bool.false_or]
    exact kitAny_cons (kit_ty k2) (fun e2 => by rw [e2]; exact kitAny_nil) (fun e2 => e2)) (fun e => by rw [e, Bool.true_or])
/-! ### zip -/
def zipD : List D → List D → List D
  | d :: ds, e :: es => .tup [d, e] :: zipD ds es
  | _, _ => []
theorem zipD_get : ∀ (ds es : List D) (i : Nat) (d e : D), ds[i]? = some d → es[i]? = some e → (zipD ds es)[i]? = some (.tup [d, e])
  | [], _, _, _, _, h, _ => by simp at h
  | _ :: _, [], _, _, _, _, h => by simp at h
  | d :: ds, e :: es, 0, _, _, h, h2 => by
    simp at h h2
    simp [zipD, h, h2]
  | d :: ds, e :: es, i + 1, _, _, h, h2 => by
    simp only [zipD, List.getElem?_cons_succ] at *
    exact zipD_get ds es i _ _ h h2
theorem zipD_len : ∀ (ds es : List D), (zipD ds es).length = min ds.length es.length
  | [], _ => by simp [zipD]
  | _ :: _, [] => by simp [zipD]
  | d :: ds, e :: es => by simp [zipD, zipD_len ds es, Nat.succ_min_succ]
theorem walks_zipL {K : PySem.W.Frag} {pn : Pn} {G : Hp} {a b : Addr} {vs ws : List V} {ds es : List D} (h1 : G a = some (.lst vs)) (h2 : G b = some (.lst ws)) (r1 : Reps K pn G vs ds) (r2 : Reps K pn G ws es) : Walks K pn (Itz K a b) G (zipD ds es) := by
  have l1 := Reps.length r1
  have l2 := Reps.length r2
  refine ⟨fun i H s hi => ?_, fun i H x H' s y => ?_, fun i H s hi => ?_⟩
  · rw [zipD_len] at hi
    have a1 : i < vs.length := by omega
    have a2 : i < ws.length := by omega
    exact ⟨vs, ws, vs[i], ws[i], SqL.of (s _ _ h1), SqL.of (s _ _ h2), List.getElem?_eq_getElem a1, List.getElem?_eq_getElem a2⟩
  · obtain ⟨T, x, y, rfl, hT, rfl, hx, hy⟩ := y
    refine ⟨fun a u e => by rw [upd_ne (ne_of_none e hT)]; exact e, fun d hd G1 s1 s2 => ?_⟩
    obtain ⟨x', e1, e2⟩ := Reps.get' r1 (hx vs (SqL.of (s _ _ h1)))
    obtain ⟨y', e3, e4⟩ := Reps.get' r2 (hy ws (SqL.of (s _ _ h2)))
    rw [zipD_get ds es i x' y' e1 e3] at hd
    cases hd
    rw [ext_new s2 hT]
    exact ⟨T, _, rfl, SqT.of upd_same, x, _, rfl, Rep.mono (upd_sub s2 hT) _ _ (Rep.mono s1 _ _ e2), y, [], rfl, Rep.mono (upd_sub s2 hT) _ _ (Rep.mono s1 _ _ e4), rfl⟩
  · rw [zipD_len] at hi
    exact ⟨vs, ws, SqL.of (s _ _ h1), SqL.of (s _ _ h2), by omega⟩
theorem walks_zipT {K : PySem.W.Frag} {pn : Pn} {G : Hp} {a b : Addr} {vs ws : List V} {ds es : List D} (h1 : SqT K G a vs) (h2 : SqT K G b ws) (r1 : Reps K pn G vs ds) (r2 : Reps K pn G ws es) : Walks K pn (RZ.ItzT K a b) G (zipD ds es) := by
  have l1 := Reps.length r1
  have l2 := Reps.length r2
  refine ⟨fun i H s hi => ?_, fun i H x H' s y => ?_, fun i H s hi => ?_⟩
  · rw [zipD_len] at hi
    have a1 : i < vs.length := by omega
    have a2 : i < ws.length := by omega
    exact ⟨vs, ws, vs[i], ws[i], s.sqT h1, s.sqT h2, List.getElem?_eq_getElem a1, List.getElem?_eq_getElem a2⟩
  · obtain ⟨T, x, y, rfl, hT, rfl, hx, hy⟩ := y
    refine ⟨fun a u e => by rw [upd_ne (ne_of_none e hT)]; exact e, fun d hd G1 s1 s2 => ?_⟩
    obtain ⟨x', e1, e2⟩ := Reps.get' r1 (hx vs (s.sqT h1))
    obtain ⟨y', e3, e4⟩ := Reps.get' r2 (hy ws (s.sqT h2))
    rw [zipD_get ds es i x' y' e1 e3] at hd
    cases hd
    rw [ext_new s2 hT]
    exact ⟨T, _, rfl, SqT.of upd_same, x, _, rfl, Rep.mono (upd_sub s2 hT) _ _ (Rep.mono s1 _ _ e2), y, [], rfl, Rep.mono (upd_sub s2 hT) _ _ (Rep.mono s1 _ _ e4), rfl⟩
  · rw [zipD_len] at hi
    exact ⟨vs, ws, s.sqT h1, s.sqT h2, by omega⟩
def wZip (Ta : TDs) : TDs := fun ρ n q => Ta ρ n fun as n => ∃ ds es, (as = [.lst ds, .lst es] ∨ as = [.tup ds, .tup es]) ∧ q (zipD ds es) n
theorem wd_zip {a b : Expr} {Ta : TDs} {p pos tpos : Pos} {elts : List Expr} {kk : Nat} (B : NoB X.mg) (hg : Gl X "zip") (ha : AD X [a, b] Ta) (hs : starEach [a, b] X.env = (false, eval a X.env) :: starEach [b] X.env := by rfl) (hpl : (backTo pos (starEach [b] X.env)).any (·.1) = false := by rfl) : WD X (.Tuple elts kk tpos) (.Call (.Name "zip" p) [a, b] [] pos) (wZip Ta) := by
  obtain ⟨t, pa, k⟩ := ha
  refine ⟨_, RZ.pi_zipA hg (B _ (by decide)) pa hs hpl, fun σ H G pn n ρ q A hT R kr => ?_⟩
  refine k σ H G pn n ρ _ A hT _ fun vs H1 ⟨as, n1, g1, r1, ds, es, hd, hq⟩ => ?_
  have A1 := A.go g1
  rcases hd with rfl | rfl
  · obtain ⟨v, w, rfl, h1, h2⟩ := reps2 r1
    obtain ⟨a, xs, rfl, h3, h4⟩ := h1
    obtain ⟨b, ys, rfl, h5, h6⟩ := h2
    exact ⟨a, b, xs, ys, rfl, .inl ⟨SqL.of (A1.sub _ _ h3), SqL.of (A1.sub _ _ h5), kr _ _ n1 H1 g1 hq (walks_zipL h3 h5 h4 h6)⟩⟩
  · obtain ⟨v, w, rfl, h1, h2⟩ := reps2 r1
    obtain ⟨a, xs, rfl, h3, h4⟩ := h1
    obtain ⟨b, ys, rfl, h5, h6⟩ := h2
    exact ⟨a, b, xs, ys, rfl, .inr ⟨A1.sub.sqT h3, A1.sub.sqT h5, kr _ _ n1 H1 g1 hq (walks_zipT h3 h5 h4 h6)⟩⟩
end
end DL
set_option maxHeartbeats 4000000
/-! t[::-1], t * k, three comparisons, {} -/
namespace DL
open PySem PySem.Spec PyProof.Rows L2
section
variable {prog : Program} {w : World} {A : Around} {E : Value → Shared → Prop} {s : Shared}
theorem adjust_rev (n : Nat) : Builtin.Slice.sliceAdjust none none (-1) (n : Int) = ((n : Int) - 1, -1) := by
  unfold Builtin.Slice.sliceAdjust
  first
    | rfl
    | simp
theorem places_rev (n : Nat) : Builtin.Slice.slicePlaces ((n : Int) - 1) (-1) (-1) = n := by
  unfold Builtin.Slice.slicePlaces
  have h1 : ¬ ((-1 : Int) > 0) := by omega
  simp only [h1, if_false]
  have e : ((n : Int) - 1 - -1 - 1) / (- -1) = (n : Int) - 1 := by
    rw [show (- -1 : Int) = 1 by decide, Int.ediv_one]
    omega
  split <;> omega
theorem rev_places (n : Nat) : (List.range n).map (fun k => n - 1 - k) = (List.range n).reverse := by
  apply List.ext_getElem
  · simp
  · intro i _ _
    simp
theorem all_places (xs : Array Value) : (List.range xs.size).filterMap (xs[·]?) = xs.toList := by
  have h := HT.pick_gen xs 0 xs.size
  have h2 := congrArg Array.toList h
  have e : (fun (m : Nat) => xs[(((0 : Nat) : Int) + (m : Int) * 1).toNat]?) = fun m => xs[m]? := by
    funext m
    rw [show (((0 : Nat) : Int) + (m : Int) * 1).toNat = m by omega]
  rw [e] at h2
  simpa [List.take_of_length_le] using h2
theorem pick_rev (xs : Array Value) : (List.range xs.size).filterMap (fun (m : Nat) => xs[(((xs.size : Nat) : Int) - 1 + (m : Int) * (-1)).toNat]?) = xs.toList.reverse := by
  have e : (List.range xs.size).filterMap (fun (m : Nat) => xs[(((xs.size : Nat) : Int) - 1 + (m : Int) * (-1)).toNat]?) = ((List.range xs.size).map fun k => xs.size - 1 - k).filterMap (xs[·]?) := by
    have e1 : ((List.range xs.size).map fun (m : Nat) => (((xs.size : Nat) : Int) - 1 + (m : Int) * (-1)).toNat) = (List.range xs.size).map fun k => xs.size - 1 - k := by
      refine List.map_congr_left fun m hm => ?_
      have := List.mem_range.mp hm
      omega
    rw [← e1, List.filterMap_map]
    rfl
  rw [e, rev_places, List.filterMap_reverse, all_places]
theorem applied_rev {sl : Addr} {tk : Tok} {n : Nat} {Q : Int × Int × Nat → Shared → Prop} (hs : s.heap.IsSliceOf sl .none .none (.int (-1) tk))
    (h : Q ((n : Int) - 1, -1, n) s) : wpAny (model prog w) A (Builtin.Slice.sliceApplied (.ref sl) (pure (n : Int))) Q E s := by
  obtain ⟨os, hos, hcs, hds⟩ := id hs
  unfold Builtin.Slice.sliceApplied Builtin.Slice.sliceFields
  refine wpAny_bind (wpAny_bind (wpAny_field hos hds (x := .none) rfl (wpAny_bind (wpAny_field hos hds (x := .none) rfl (wpAny_bind (wpAny_field hos hds (x := .int (-1) tk) rfl (wpAny_pure ?_)))))))
  refine wpAny_bind (HT.slicePart_ (.int (-1) tk) ?_)
  show wpAny _ _ (if ((-1 : Int) == 0) = true then _ else _) _ _ s
  rw [if_neg (by decide)]
  refine wpAny_bind (HT.slicePart_ .none (wpAny_bind (HT.slicePart_ .none (wpAny_bind (wpAny_pure ?_)))))
  show wpAny _ _ (match Builtin.Slice.sliceAdjust none none (-1) (n : Int) with | (lo, hi) => pure (lo, (-1 : Int), Builtin.Slice.slicePlaces lo hi (-1))) _ _ s
  rw [adjust_rev n]
  show wpAny _ _ (pure ((n : Int) - 1, (-1 : Int), Builtin.Slice.slicePlaces ((n : Int) - 1) (-1) (-1))) _ _ s
  rw [places_rev]
  exact wpAny_pure h
theorem turned {t sl : Addr} {its : Array Value} {tk : Tok} {Q : Value → Shared → Prop} (ht : IsTup s.heap t its) (hs : s.heap.IsSliceOf sl .none .none (.int (-1) tk)) (hsz : its.size ≤ sizeLine)
    (h : Q (.ref s.heap.objs.size) { s with heap := s.heap.push { cls := .type "tuple", data := .seq its.toList.reverse.toArray } }) : wpAny (model prog w) A (getItem (.ref t) (.ref sl)) Q E s := by
  have hz : sizeOk (.seq its.toList.reverse.toArray) := by
    show its.toList.reverse.toArray.size ≤ sizeLine
    rw [List.size_toArray, List.length_reverse, Array.length_toList]
    exact hsz
  obtain ⟨os, hos, hcs, hds⟩ := id hs
  have hT : s.TypeIs (.ref sl) "slice" := ⟨os, hos, hcs⟩
  unfold getItem
  try with_reducible refine wpAny_holding ?_
  first | refine wpAny_bind (wpAny_pure ?_) | skip
  refine wpAny_bind (wpAny_sequenceKey ht.typeIs (by decide) ?_)
  refine wpAny_bind (wpAny_callSpecial?_slot (name := Str.ofString "__getitem__") ht.typeIs PyProof.Rows.slot_tuple_getitem
    (wpAny_call_entry PyProof.Rows.slot_tuple_getitem ht.typeIs entry_tuple_getitem ?_ (args_tuple_getitem _ _)))
  show wpAny _ _ (Builtin.Tuple.tupleItemsOf (.ref t) >>= _) _ _ s
  refine wpAny_bind (tupleItemsOf_ ht ?_)
  refine wpAny_bind (wpAny_typeOf hT ?_)
  rw [if_pos (by decide)]
  refine wpAny_bind (applied_rev hs ?_)
  show wpAny _ _ (if (((its.size : Int) - 1) == 0 && (-1 : Int) == 1 && its.size == its.size) = true then _ else _) _ _ s
  rw [if_neg (by simp), pick_rev]
  first
    | exact wpAny_bind (m := Builtin.Tuple.tupleExact _) (wpAny_newObj_type (wpAny_pure ⟨_, rfl, wpAny_pure h⟩) hz)
    | exact wpAny_bind (m := Builtin.Tuple.tupleExact _) (wpAny_newObj_type (wpAny_bind (wpAny_pure (wpAny_pure ⟨_, rfl, wpAny_pure h⟩))) hz)
    | exact wpAny_bind (wpAny_bind (m := Builtin.Tuple.tupleExact _) (wpAny_newObj_type (wpAny_pure (wpAny_pure ⟨_, rfl, wpAny_pure h⟩)) hz))
    | exact wpAny_bind (wpAny_bind (m := Builtin.Tuple.tupleExact _) (wpAny_newObj_type (wpAny_pure ⟨_, rfl, wpAny_pure h⟩) hz))
end
section
variable {X : Cx}
def tRevT (K : PySem.W.Frag) (te t3 : TE) : TE := fun σ H Q => te σ H fun x H1 => t3 σ H1 fun y H2 => y = .int (-1) ∧ ∃ a xs, x = .ref a ∧ SqT K H2 a xs ∧ ∀ p, H2 p = none → Q (.ref p) (upd H2 p (.tup xs.reverse))
theorem Vals.rev {xs : List V} {us : List Value} (r : Vals xs us) : Vals xs.reverse us.reverse := by
  induction r with
  | nil => exact .nil
  | cons r1 r2 ih =>
    rw [List.reverse_cons, List.reverse_cons]
    exact ih.append (.cons r1 .nil)
theorem pe_revT {e a3 : Expr} {te t3 : TE} {p2 p3 pos : Pos} (he : PE X e te) (h3 : PE X (.UnaryOp .USub a3 p3) t3) : PE X (.Subscript e (.Slice none none (some (.UnaryOp .USub a3 p3)) p2) pos) (tRevT X.K te t3) := by
  refine ⟨fun pins s σ H Q I h => ?_⟩
  refine Subscript_ (thn (he.run pins s σ H _ I h) fun v s1 ⟨x, H1, I1, r1, q1⟩ => ?_)
  refine wpAny_Slice ?_
  rw [evalPart_none]
  refine wpAny_pure (wpAny_pure ?_)
  rw [evalPart_some]
  refine thn (h3.run pins s1 σ H1 _ I1 q1) fun u s3 ⟨y, H3, I3, r3, hy, a, xs, hx, hS, q⟩ => ?_
  subst hy hx
  cases r1
  obtain ⟨tk, rfl⟩ := r3
  have I4 : Inv X pins σ H3 { s3 with heap := s3.heap.push { cls := .type "slice", data := .fields #[.none, .none, .int (-1) tk] } } := I3.kept (t' := s3.toks) fun b ob q => Heap.get?_push_of_some _ q
  obtain ⟨its, r, ht, hz⟩ := I4.tuple hS
  have hlen : its.toArray.size = xs.length := by rw [List.size_toArray]; exact r.length.symm
  show wpAny (model X.prog X.w) X.A (subscriptTail e (.Slice none none (some (.UnaryOp .USub a3 p3)) p2) (.ref a) (.ref s3.heap.objs.size)) (EP X pins σ Q) X.xe { s3 with heap := s3.heap.push { cls := .type "slice", data := .fields #[.none, .none, .int (-1) tk] } }
  refine tail_any (ops := [.ref a, .ref s3.heap.objs.size]) ht.typeIs PyProof.Rows.slot_tuple_getitem.lookup ?_ (by with_unfolding_all rfl)
  refine turned ht (Heap.IsSliceOf.new ..) (by rw [hlen]; exact hz) ?_
  refine ⟨.ref _, _, I4.laid (t' := s3.toks) (o := .tup xs.reverse) (fun b ob q => Heap.get?_push_of_some _ q) (Nat.le_refl _) ?_, rfl, q _ (I4.hok.fresh (Nat.le_refl _))⟩
  exact ⟨by rw [List.length_reverse]; exact hz, _, Vals.rev r, IsTup.new _ _⟩
def tRevD (Ta T3 : TD) : TD := fun ρ n q => Ta ρ n fun d n => T3 ρ n fun e n => e = .int (-1) ∧ ∃ ds, d = .tup ds ∧ q (.tup ds.reverse) n
theorem ed_rev {e a3 : Expr} {Ta T3 : TD} {p2 p3 pos : Pos} (h : ED X e Ta) (h3 : ED X (.UnaryOp .USub a3 p3) T3) : ED X (.Subscript e (.Slice none none (some (.UnaryOp .USub a3 p3)) p2) pos) (tRevD Ta T3) := by
  obtain ⟨t, p, k⟩ := h
  obtain ⟨t3, p3, k3⟩ := h3
  refine ⟨_, pe_revT p p3, fun σ H G pn n ρ q A hT Q kq => ?_⟩
  refine k σ H G pn n ρ _ A hT _ fun v H1 ⟨d, n1, g1, r1, hq⟩ => ?_
  have A1 := A.go g1
  refine k3 σ H1 _ pn n1 ρ _ A1 hq _ fun v2 H2 ⟨d2, n2, g2, r2, e2, ds, e1, hq2⟩ => ?_
  subst e2 e1
  obtain ⟨a, vs, rfl, h1, h2⟩ := r1
  have A2 := A1.go g2
  refine ⟨r2, a, vs, rfl, A2.sub.sqT (sub_ext.sqT h1), fun p hp => ?_⟩
  have g12 := g1.trans g2
  have AA := A.go g12
  refine kq _ _ ⟨.tup ds.reverse, n2, g12.trans (Go.new AA.pst hp), ⟨p, vs.reverse, rfl, SqT.of ?_, ?_⟩, hq2⟩
  · rw [ext_upd A g12 hp, upd_same]
  · rw [ext_upd A g12 hp]
    refine Reps.mono (upd_sub AA.sub hp) _ _ (Reps.reverse ?_)
    have := Reps.mono (sub_ext (G := ext G H H1) (H := H1) (H' := H2)) _ _ h2
    rw [A.ext_ext g1 g2] at this
    exact this
/-! t * k -/
theorem tuple_mulSame (l : Addr) (items : Array Value) (n : Nat) (dd : Option Addr) (sl : Array (Option Value)) (x : Int) (u : Tok) (c0 : (decide (x < -(2 ^ 63)) || decide (x ≥ 2 ^ 63)) = false) (c1 : (items.isEmpty || x == 1) = true) :
    Meets (Builtin.«tuple.__mul__» ⟨[.ref l, .int x u], []⟩) (fun _ R s => s.heap.get? l = some { cls := .type "tuple", dict := dd, data := .seq items n, slots := sl } ∧ R (.ok (.ret (.ref l))) s) :=
  .of_wp fun prog w A R s h => by
    obtain ⟨hp, g, d, tk, os⟩ := s
    obtain ⟨hl, h⟩ := h
    have f1 := AutoSeq1.idx_int
    wp_walk using wpAny_loadPart' hl
    repeat (first
      | (refine wpAny_ite_false (decide_eq_false (by rw [c0]; exact Bool.false_ne_true)) ?_; wp_walk using wpAny_loadPart' hl)
      | (refine wpAny_ite_true (decide_eq_true (by rw [c1])) ?_; wp_walk using wpAny_loadPart' hl))
    exact ⟨_, rfl, h⟩
def rRepS (K : PySem.W.Frag) : R2 := fun x y H Q => ∃ l k xs, x = .ref l ∧ y = .int k ∧ SqT K H l xs ∧ (xs = [] ∨ k = 1) ∧ -(2 ^ 63) ≤ k ∧ k < 2 ^ 63 ∧ Q (.ref l) H
theorem op_repS : OpR X (binaryOp .Mult) (rRepS X.K) := by
  intro pins s σ H x y v u Q I rx ry h
  obtain ⟨l, k, xs, rfl, rfl, hT, hor, h1, h2, q⟩ := h
  cases rx
  obtain ⟨t, rfl⟩ := ry
  obtain ⟨its, r, ⟨⟨cls, dd, data, sl⟩, ho, hc, n, hd⟩, hs⟩ := I.tuple hT
  simp only at hc hd
  subst hc hd
  have c0 : (decide (k < -(2 ^ 63)) || decide (k ≥ 2 ^ 63)) = false := by
    rw [decide_eq_false (by omega), decide_eq_false (by omega)] <;> rfl
  have c1 : (its.toArray.isEmpty || k == 1) = true := by
    rcases hor with e | e
    · subst e
      cases r
      rfl
    · subst e
      simp
  exact wpAny_binaryOp_repeat_ref (T := "tuple") (U := "int") (by decide) ⟨_, ho, rfl⟩ (fun s' => typeIs_int s' k t) noFill_tuple_mul F.fills_int_mul F.slot_int_rmul repeat_tuple F.slot_int_index.lookup
    (call_meets F.slot_int_rmul (typeIs_int s k t) F.entry_int_rmul (F.args_int_rmul_2 _ _) (int_rmul_tuple k t l its.toArray n dd sl)
      ⟨ho, rfl, ⟨_, ho, rfl⟩, call_meets F.slot_tuple_mul ⟨_, ho, rfl⟩ F.entry_tuple_mul (F.args_tuple_mul_2 _ _) (tuple_mulSame l its.toArray n dd sl k t c0 c1) ⟨ho, ⟨.ref l, H, I, rfl, q⟩⟩⟩)
def repT : D → D → Option D
  | .tup ds, .int k => if 1 ≤ k ∧ k ≤ 1000 ∧ ds.length ≤ 1000 then some (.tup (List.replicate k.toNat ds).flatten) else none
  | _, _ => none
theorem Reps.repl {K : PySem.W.Frag} {pn : Pn} {G : Hp} {ds : List D} {vs : List V} (h : Reps K pn G vs ds) : ∀ n : Nat, Reps K pn G (List.replicate n vs).flatten (List.replicate n ds).flatten
  | 0 => rfl
  | n + 1 => by
    rw [List.replicate_succ, List.replicate_succ, List.flatten_cons, List.flatten_cons]
    exact Reps.append h (Reps.repl h n)
theorem repl_nil {α : Type} : ∀ n : Nat, (List.replicate n ([] : List α)).flatten = []
  | 0 => rfl
  | n + 1 => by rw [List.replicate_succ, List.flatten_cons, repl_nil n]; rfl
theorem o2_repT : Op2 X (fun x y H Q => rRepT X.K x y H Q ∨ rRepS X.K x y H Q) repT := fun G H pn n x y d e z s p r1 r2 hz Q k => by
  cases d <;> cases e <;> simp only [repT, reduceCtorEq] at hz
  split at hz
  · rename_i ds i c
    cases hz
    obtain ⟨a, vs, rfl, h1, h2⟩ := r1
    have l1 := Reps.length h2
    by_cases hS : vs = [] ∨ i = 1
    · refine .inr ⟨a, i, vs, rfl, r2, s.sqT h1, hS, by omega, by omega, k _ _ (Go.refl p) ?_⟩
      rw [ext_refl]
      refine ⟨a, vs, rfl, h1, ?_⟩
      rcases hS with e | e
      · subst e
        obtain rfl : ds = [] := List.eq_nil_of_length_eq_zero (by rw [← l1]; rfl)
        rw [repl_nil]
        rfl
      · subst e
        show Reps X.K pn G vs (List.replicate 1 ds).flatten
        simpa using h2
    · have hne : vs ≠ [] := fun e => hS (.inl e)
      have hne1 : i ≠ 1 := fun e => hS (.inr e)
      refine .inl ⟨a, i, vs, rfl, r2, s.sqT h1, hne, by omega, c.2.1, by rw [l1]; exact c.2.2, fun q hq => k _ _ (Go.new p hq) ⟨q, (List.replicate i.toNat vs).flatten, rfl, SqT.of ?_, ?_⟩⟩
      · rw [ext_new s hq, upd_same]
      · rw [ext_new s hq]
        exact Reps.mono (upd_sub s hq) _ _ (Reps.repl h2 _)
  · cases hz
def repL : D → D → Option D
  | .lst ds, .int k => if 0 ≤ k ∧ k ≤ 1000 ∧ ds.length ≤ 1000 then some (.lst (List.replicate k.toNat ds).flatten) else none
  | _, _ => none
theorem o2_repL : Op2 X rRep repL := fun G H pn n x y d e z s p r1 r2 hz Q k => by
  cases d <;> cases e <;> simp only [repL, reduceCtorEq] at hz
  split at hz
  · rename_i ds i c
    cases hz
    obtain ⟨a, vs, rfl, h1, h2⟩ := r1
    have l1 := Reps.length h2
    refine ⟨a, i, vs, rfl, r2, s _ _ h1, by omega, by omega, ?_, fun q hq => k _ _ (Go.new p hq) ⟨q, (List.replicate i.toNat vs).flatten, rfl, ?_, ?_⟩⟩
    · rw [sizeLine_eq, l1]
      have a1 : ds.length * i.toNat ≤ 1000 * 1000 := Nat.mul_le_mul c.2.2 (by omega)
      omega
    · rw [ext_new s hq, upd_same]
    · rw [ext_new s hq]
      exact Reps.mono (upd_sub s hq) _ _ (Reps.repl h2 _)
  · cases hz
def mulD : D → D → Option D := orD mulID (orD repT repL)
theorem ed_mul {a b : Expr} {pos : Pos} {Ta Tb : TD} (ha : ED X a Ta) (hb : ED X b Tb) : ED X (.BinOp a .Mult b pos) (tOpD mulD Ta Tb) :=
  ed_bin (op_mul.or ((op_repT.or op_repS).or op_rep)) ((o2_arC fun i j h => show (-(2 ^ 64) < i ∧ i < 2 ^ 64) ∨ (-(2 ^ 64) < j ∧ j < 2 ^ 64) from of_decide_eq_true h).or (o2_repT.or o2_repL)) ha hb
end
end DL
set_option maxHeartbeats 4000000
/-! three comparisons in a row, {}, tuple(range(..)) -/
namespace DL
open PySem PySem.Spec PyProof.Rows L2
section
variable {X : Cx}
def tThree (r1 r2 r3 : R2) (ta tb tc td : TE) : L2.St → Hp → (Bool → Hp → Prop) → Prop := fun σ H Q => ta σ H fun x H1 => tb σ H1 fun y H2 => r1 x y H2 fun z H3 => ∃ k, z = .bl k ∧
  if k = true then tc σ H3 fun x2 H4 => r2 y x2 H4 fun z2 H5 => ∃ k2, z2 = .bl k2 ∧ if k2 = true then td σ H5 fun x3 H6 => r3 x2 x3 H6 fun z3 H7 => ∃ k3, z3 = .bl k3 ∧ Q k3 H7 else Q false H5 else Q false H3
theorem pt_three {o1 o2 o3 : CmpOp} {r1 r2 r3 : R2} {a b c d : Expr} {ta tb tc td : TE} {pos : Pos} (h1 : OpR X (compareOp o1) r1) (h2 : OpR X (compareOp o2) r2) (h3 : OpR X (compareOp o3) r3) (ha : PE X a ta) (hb : PE X b tb) (hc : PE X c tc) (hd : PE X d td)
    (hm : lastMarks [o1, o2, o3] [b, c, d] = false := by with_unfolding_all rfl) : PT X (.Compare a [o1, o2, o3] [b, c, d] pos) (tThree r1 r2 r3 ta tb tc td) := by
  refine ⟨fun pins s σ H Q I h => ?_⟩
  refine isTrue_chain (thn (ha.run pins s σ H _ I h) fun v s1 ⟨x, H1, I1, k1, q1⟩ => test_link (thn (hb.run pins s1 σ H1 _ I1 q1) fun u s2 ⟨y, H2, I2, k2, q2⟩ =>
    thn (h1 pins s2 σ H2 x y v u _ I2 k1 k2 q2) fun e s3 ⟨z, H3, I3, k3, m, e1, q3⟩ => ?_)) hm
  subst e1
  cases k3
  refine wpAny_truthy_bool ?_
  cases m with
  | false => exact ite_ff ⟨H3, I3, q3⟩
  | true =>
    refine ite_tt (test_link (thn (hc.run pins s3 σ H3 _ I3 q3) fun w s4 ⟨x2, H4, I4, k4, q4⟩ => thn (h2 pins s4 σ H4 y x2 u w _ I4 k2 k4 q4) fun e s5 ⟨z2, H5, I5, k5, m2, e2, q5⟩ => ?_))
    subst e2
    cases k5
    refine wpAny_truthy_bool ?_
    cases m2 with
    | false => exact ite_ff ⟨H5, I5, q5⟩
    | true =>
      refine ite_tt (test_last (thn (hd.run pins s5 σ H5 _ I5 q5) fun w3 s6 ⟨x3, H6, I6, k6, q6⟩ => thn (h3 pins s6 σ H6 x2 x3 w w3 _ I6 k4 k6 q6) fun e s7 ⟨z3, H7, I7, k7, m3, e3, q7⟩ => ?_))
      subst e3
      cases k7
      exact wpAny_truthy_bool ⟨H7, I7, q7⟩
def bChain3 (f g h : D → D → Option D) (Ta Tb Tc Td : TD) : TDb := fun ρ n q => Ta ρ n fun x n => Tb ρ n fun y n => ∃ k, f x y = some (.bl k) ∧ if k = true then Tc ρ n fun z n => ∃ k2, g y z = some (.bl k2) ∧ if k2 = true then Td ρ n fun w n => ∃ k3, h z w = some (.bl k3) ∧ q k3 n else q false n else q false n
theorem bd_chain3 {o1 o2 o3 : CmpOp} {a b c d : Expr} {pos : Pos} {Ta Tb Tc Td : TD} {r1 r2 r3 : R2} {f g h : D → D → Option D} (p1 : OpR X (compareOp o1) r1) (p2 : OpR X (compareOp o2) r2) (p3 : OpR X (compareOp o3) r3) (m1 : Op2 X r1 f) (m2 : Op2 X r2 g) (m3 : Op2 X r3 h) (ha : ED X a Ta) (hb : ED X b Tb) (hc : ED X c Tc) (hd : ED X d Td)
    (hm : lastMarks [o1, o2, o3] [b, c, d] = false := by with_unfolding_all rfl) : BD X (.Compare a [o1, o2, o3] [b, c, d] pos) (bChain3 f g h Ta Tb Tc Td) := by
  obtain ⟨ta, pa, ka⟩ := ha
  obtain ⟨tb, pb, kb⟩ := hb
  obtain ⟨tc, pc, kc⟩ := hc
  obtain ⟨td, pd, kd⟩ := hd
  refine ⟨_, pt_three p1 p2 p3 pa pb pc pd hm, fun σ H G pn n ρ q A hT Q k => ?_⟩
  refine ka σ H G pn n ρ _ A hT _ fun x H1 ⟨dx, n1, g1, e1, hT2⟩ => ?_
  have A1 := A.go g1
  refine kb σ H1 _ pn n1 ρ _ A1 hT2 _ fun y H2 ⟨dy, n2, g2, e2, t, hz, hq⟩ => ?_
  have A2 := A1.go g2
  refine m1 _ H2 pn n2 x y dx dy _ A2.sub A2.pst (Rep.mono sub_ext dx x e1) e2 hz _ fun v H3 g3 e3 => ⟨t, e3, ?_⟩
  have A3 := A2.go g3
  have g123 := (g1.trans g2).trans g3
  cases t with
  | false => exact k _ H3 ⟨n2, g123, hq⟩
  | true =>
    refine kc σ H3 _ pn n2 ρ _ A3 hq _ fun w H4 ⟨dz, n4, g4, e4, t2, hz4, hq4⟩ => ?_
    have A4 := A3.go g4
    refine m2 _ H4 pn n4 y w dy dz _ A4.sub A4.pst (Rep.mono sub_ext dy y (Rep.mono sub_ext dy y e2)) e4 hz4 _ fun v5 H5 g5 e5 => ⟨t2, e5, ?_⟩
    have A5 := A4.go g5
    have g15 := (g123.trans g4).trans g5
    cases t2 with
    | false => exact k _ H5 ⟨n4, g15, hq4⟩
    | true =>
      refine kd σ H5 _ pn n4 ρ _ A5 hq4 _ fun w3 H6 ⟨dw, n6, g6, e6, t3, hz6, hq6⟩ => ?_
      have A6 := A5.go g6
      exact m3 _ H6 pn n6 w w3 dz dw _ A6.sub A6.pst (Rep.mono sub_ext dz w (Rep.mono sub_ext dz w e4)) e6 hz6 _ fun v7 H7 g7 e7 => ⟨t3, e7, k _ H7 ⟨n6, (g15.trans g6).trans g7, hq6⟩⟩
/-! {} -/
def tNoDict : TD := fun _ n q => q (.dct []) n
theorem ed_dnew {pos : Pos} : ED X (.Dict [] [] pos) tNoDict := by
  refine ⟨_, pe_dnewK, fun σ H G pn n ρ q A hT Q kq => ?_⟩
  intro p hp
  refine kq _ _ ⟨.dct [], n, Go.new A.pst hp, ⟨p, [], rfl, ?_, rfl⟩, hT⟩
  rw [ext_new A.sub hp, upd_same]
/-! tuple(range(n)) -/
def tTuple_range1 (Ta : TDs) : TD := fun ρ n q => Ta ρ n fun ds n => ∃ j : Int, ds = [.int j] ∧ 0 ≤ j ∧ j ≤ LIM ∧ q (.tup (rangeD 0 j.toNat)) n
theorem ed_tuple_range1 {a : Expr} {Ta : TD} {p p2 q pos : Pos} (B : NoB X.mg) (hc : X.calm = true) (hg : Gl X "tuple") (hg2 : Gl X "range") (h : ED X a Ta) (na : starEach [a] X.env = (false, eval a X.env) :: starEach [] X.env := by rfl)
    (nb : starEach [.Call (.Name "range" p2) [a] [] q] X.env = (false, eval (.Call (.Name "range" p2) [a] [] q) X.env) :: starEach [] X.env := by rfl) : ED X (.Call (.Name "tuple" p) [.Call (.Name "range" p2) [a] [] q] [] pos) (tTuple_range1 (aCons Ta aNil)) := by
  obtain ⟨t, pa, k⟩ := h
  refine ⟨_, pe_tupRg hc hg (B _ (by decide)) (prg_1 hg2 (B _ (by decide)) pa na) nb, fun σ H G pn n ρ q A hT Q kq => ?_⟩
  refine k σ H G pn n ρ _ A hT _ fun v H1 ⟨d, n1, g1, r1, j, hd, h0, h1, hq⟩ => ?_
  cases hd
  have A1 := A.go g1
  refine ⟨j, r1, rgOk_lim (by omega) (by omega) h0 h1, fun p hp => kq _ _ ⟨.tup (rangeD 0 j.toNat), n1, g1.trans (Go.new A1.pst hp), ⟨p, rgV 0 j, rfl, SqT.of ?_, ?_⟩, hq⟩⟩
  · rw [ext_upd A g1 hp, upd_same]
  · have := rgV_rep (K := X.K) (pn := pn) (G := ext G H (upd H1 p (.tup (rgV 0 j)))) (i := 0) (j := j)
    rw [show j - 0 = j by omega] at this
    exact this
end
end DL
set_option maxHeartbeats 4000000
/-! a zip whose last pair is kept elsewhere: its next turn -/
namespace DL
open PySem PySem.Spec PyProof.Rows L2
abbrev ZKept (h : Heap) (z TI TO T0 : Addr) (f1 : Bool) : Prop :=
  h.get? z = some { cls := .type "zip", dict := none, data := .fields #[.int (T0 : Nat) 0, .bool f1, .bool false, .ref TI, .ref TO], slots := #[] }
section
variable {prog : Program} {w : World} {A : Around} {E : Value → Shared → Prop} {s : Shared}
theorem loadAlive {a : Addr} {o : Obj} {Q : Option Obj → Shared → Prop} (ho : s.heap.get? a = some o) (h : Q (some o) s) : wpAny (model prog w) A (loadIfAlive a) Q E s := fun Γ p _ => by
  show Sem.wp _ _ (.loadIfAlive a .pure) _ _ _ _
  rw [Sem.wp_loadIfAlive, ho]
  exact h

theorem kept_item {z TI TO T0 i1 i2 l1 l2 : Addr} {f1 : Bool} {ob : Obj} {k1 k2 : Nat} {xs ys : Array Value} {x y : Value} {Q : Value → Shared → Prop} (D : ZipApart z TI TO i1 i2 l1 l2)
    (hz : ZKept s.heap z TI TO T0 f1) (hTI : IsPair s.heap TI (.ref i1) (.ref i2)) (hT0 : s.heap.get? T0 = some ob)
    (h1 : s.heap.IsTupleIter i1 l1 k1) (h2 : s.heap.IsTupleIter i2 l2 k2) (hl1 : s.heap.IsTuple l1 xs) (hl2 : s.heap.IsTuple l2 ys) (hx : xs[k1]? = some x) (hy : ys[k2]? = some y)
    (hQ : ∀ h', ZKept h' z TI TO T0 true → h'.IsTupleIter i1 l1 (k1 + 1) → h'.IsTupleIter i2 l2 (k2 + 1) → IsPair h' s.heap.objs.size x y → h'.objs.size = s.heap.objs.size + 1 →
      (∀ c o, c ≠ z → c ≠ i1 → c ≠ i2 → s.heap.get? c = some o → h'.get? c = some o) → Q (.ref s.heap.objs.size) { s with heap := h' }) :
    wpAny (model prog w) A (Builtin.«zip.__next__» ⟨[.ref z], []⟩) (fun fin s' => ∃ v, fin = .done (.ret v) ∧ Q v s') E s := by
  show wpAny _ _ (field (.ref z) 2 >>= _) _ _ _
  refine wpAny_bind (wpAny_field hz rfl (x := .bool false) rfl ?_)
  show wpAny _ _ (field (.ref z) 3 >>= _) _ _ _
  refine wpAny_bind (wpAny_field hz rfl (x := .ref TI) rfl ?_)
  refine wpAny_bind (wpAny_seqItems hTI rfl ?_)
  show wpAny _ _ (Builtin.SmallTypes.ownedTupleIsFree (.ref z) >>= _) _ _ _
  refine wpAny_bind (wpAny_mono (Q := fun b s' => b = false ∧ ∃ hp, s' = { s with heap := hp } ∧ ZKept hp z TI TO T0 true ∧ Heap.ExtBut z s.heap hp ∧ hp.objs.size = s.heap.objs.size) (E := E) ?_ (fun b s' hb => ?_) fun _ _ q => q)
  · unfold Builtin.SmallTypes.ownedTupleIsFree
    refine wpAny_bind (wpAny_field hz rfl (x := .int (T0 : Nat) 0) rfl ?_)
    show wpAny _ _ (loadIfAlive ((T0 : Nat) : Int).toNat >>= _) _ _ _
    rw [Int.toNat_natCast]
    refine wpAny_bind (loadAlive hT0 ?_)
    rw [if_neg (by simp)]
    refine wpAny_bind (wpAny_field hz rfl (x := .bool f1) rfl ?_)
    cases f1 with
    | true => exact wpAny_pure ⟨rfl, s.heap, rfl, hz, fun c o _ e => e, rfl⟩
    | false =>
      refine wpAny_bind (wpAny_setField_rec hz (by simp) fun h₁ hz₁ hs₁ => wpAny_pure ⟨rfl, h₁, rfl, ?_, hs₁.extBut, hs₁.1⟩)
      exact hz₁
  obtain ⟨rfl, hp, rfl, hzp, hs, hsz⟩ := hb
  rw [if_neg Bool.false_ne_true]
  refine wpAny_bind ?_
  rw [List.forIn_toArray]
  simp only [List.forIn_cons, List.forIn_nil]
  refine wpAny_bind (wpAny_bind (wpAny_holding ?_))
  show wpAny _ _ (Builtin.SmallTypes.nextOf (.ref i1) >>= _) _ _ _
  refine wpAny_bind (RZ.nextOf_tuple_item (h1.at fun o e => hs _ o D.i1z e) (by obtain ⟨o, e, r⟩ := hl1; exact ⟨o, hs _ _ D.l1z e, r⟩) hx fun h₂ h1₂ hs₂ => wpAny_pure (wpAny_pure ?_))
  refine wpAny_bind (wpAny_bind (wpAny_holding ?_))
  show wpAny _ _ (Builtin.SmallTypes.nextOf (.ref i2) >>= _) _ _ _
  refine wpAny_bind (RZ.nextOf_tuple_item ((h2.at fun o e => hs _ o D.i2z e).extBut hs₂.extBut D.i12.symm) (by obtain ⟨o, e, r⟩ := hl2; exact ⟨o, hs₂.extBut _ _ D.l2i1 (hs _ _ D.l2z e), r⟩) hy fun h₄ h2₄ hs₄ => wpAny_pure (wpAny_pure ?_))
  refine wpAny_pure ?_
  refine wpAny_bind (wpAny_newTuple ?_ (by show 2 ≤ sizeLine; decide))
  have hsz4 : h₄.objs.size = s.heap.objs.size := by rw [hs₄.1, hs₂.1, hsz]
  refine wpAny_pure ⟨_, rfl, ?_⟩
  show Q (.ref h₄.objs.size) _
  rw [hsz4]
  have up : ∀ c o, c ≠ z → c ≠ i1 → c ≠ i2 → s.heap.get? c = some o → h₄.get? c = some o := fun c o a1 a2 a3 e => hs₄.extBut _ _ a3 (hs₂.extBut _ _ a2 (hs _ _ a1 e))
  refine hQ _ ?_ ?_ ?_ ?_ ?_ fun c o a1 a2 a3 e => Heap.get?_push_of_some _ (up c o a1 a2 a3 e)
  · exact Heap.get?_push_of_some _ (hs₄.extBut _ _ D.i2z.symm (hs₂.extBut _ _ D.i1z.symm hzp))
  · exact (h1₂.extBut hs₄.extBut D.i12).at fun o e => Heap.get?_push_of_some _ e
  · exact h2₄.at fun o e => Heap.get?_push_of_some _ e
  · rw [← hsz4]
    exact Heap.get?_push_size _ rfl
  · rw [Heap.size_push, hsz4]
theorem kept_end {z TI TO T0 i1 i2 l1 l2 : Addr} {f1 : Bool} {ob : Obj} {k1 k2 : Nat} {xs ys : Array Value} {Q : Fin → Shared → Prop} (hh : A.handled = none) (D : ZipApart z TI TO i1 i2 l1 l2)
    (hz : ZKept s.heap z TI TO T0 f1) (hTI : IsPair s.heap TI (.ref i1) (.ref i2)) (hT0 : s.heap.get? T0 = some ob)
    (h1 : s.heap.IsTupleIter i1 l1 k1) (h2 : s.heap.IsTupleIter i2 l2 k2) (hl1 : s.heap.IsTuple l1 xs) (hl2 : s.heap.IsTuple l2 ys) (hend : xs[k1]? = none ∨ ys[k2]? = none)
    (hE : ∀ h' e, (∀ c o, c ≠ z → c ≠ i1 → c ≠ i2 → s.heap.get? c = some o → h'.get? c = some o) → (∃ o, h'.get? e = some o ∧ o.cls = .type "StopIteration") → E (.ref e) { s with heap := h' }) :
    wpAny (model prog w) A (Builtin.«zip.__next__» ⟨[.ref z], []⟩) Q E s := by
  show wpAny _ _ (field (.ref z) 2 >>= _) _ _ _
  refine wpAny_bind (wpAny_field hz rfl (x := .bool false) rfl ?_)
  show wpAny _ _ (field (.ref z) 3 >>= _) _ _ _
  refine wpAny_bind (wpAny_field hz rfl (x := .ref TI) rfl ?_)
  refine wpAny_bind (wpAny_seqItems hTI rfl ?_)
  show wpAny _ _ (Builtin.SmallTypes.ownedTupleIsFree (.ref z) >>= _) _ _ _
  refine wpAny_bind (wpAny_mono (Q := fun b s' => b = false ∧ ∃ hp, s' = { s with heap := hp } ∧ ZKept hp z TI TO T0 true ∧ Heap.ExtBut z s.heap hp) (E := E) ?_ (fun b s' hb => ?_) fun _ _ q => q)
  · unfold Builtin.SmallTypes.ownedTupleIsFree
    refine wpAny_bind (wpAny_field hz rfl (x := .int (T0 : Nat) 0) rfl ?_)
    show wpAny _ _ (loadIfAlive ((T0 : Nat) : Int).toNat >>= _) _ _ _
    rw [Int.toNat_natCast]
    refine wpAny_bind (loadAlive hT0 ?_)
    rw [if_neg (by simp)]
    refine wpAny_bind (wpAny_field hz rfl (x := .bool f1) rfl ?_)
    cases f1 with
    | true => exact wpAny_pure ⟨rfl, s.heap, rfl, hz, fun c o _ e => e⟩
    | false =>
      refine wpAny_bind (wpAny_setField_rec hz (by simp) fun h₁ hz₁ hs₁ => wpAny_pure ⟨rfl, h₁, rfl, ?_, hs₁.extBut⟩)
      exact hz₁
  obtain ⟨rfl, hp, rfl, hzp, hs⟩ := hb
  have t1 : hp.IsTuple l1 xs := by obtain ⟨o, e, r⟩ := hl1; exact ⟨o, hs _ _ D.l1z e, r⟩
  have t2 : hp.IsTuple l2 ys := by obtain ⟨o, e, r⟩ := hl2; exact ⟨o, hs _ _ D.l2z e, r⟩
  rw [if_neg Bool.false_ne_true]
  refine wpAny_bind ?_
  rw [List.forIn_toArray]
  simp only [List.forIn_cons, List.forIn_nil]
  refine wpAny_bind (wpAny_bind (wpAny_holding ?_))
  show wpAny _ _ (Builtin.SmallTypes.nextOf (.ref i1) >>= _) _ _ _
  cases hx : xs[k1]? with
  | none => exact wpAny_bind (RZ.nextOf_tuple_end hh (h1.at fun o e => hs _ o D.i1z e) t1 hx fun h₂ e hs₂ he => hE h₂ e (fun c o a1 a2 a3 q => hs₂ _ _ a2 (hs _ _ a1 q)) he)
  | some x =>
    have hy : ys[k2]? = none := by
      rcases hend with q | q
      · rw [hx] at q
        cases q
      · exact q
    refine wpAny_bind (RZ.nextOf_tuple_item (h1.at fun o e => hs _ o D.i1z e) t1 hx fun h₂ h1₂ hs₂ => wpAny_pure (wpAny_pure ?_))
    refine wpAny_bind (wpAny_bind (wpAny_holding ?_))
    show wpAny _ _ (Builtin.SmallTypes.nextOf (.ref i2) >>= _) _ _ _
    exact wpAny_bind (RZ.nextOf_tuple_end hh ((h2.at fun o e => hs _ o D.i2z e).extBut hs₂.extBut D.i12.symm) (by obtain ⟨o, e, r⟩ := t2; exact ⟨o, hs₂.extBut _ _ D.l2i1 e, r⟩) hy
      fun h₄ e hs₄ he => hE h₄ e (fun c o a1 a2 a3 q => hs₄ _ _ a3 (hs₂.extBut _ _ a2 (hs _ _ a1 q))) he)
end
end DL
set_option maxHeartbeats 4000000
/-! list(zip(t, u)) of two tuples -/
namespace DL
open PySem PySem.Spec PyProof.Rows L2
theorem zip_noLen : typeLookup (.type "zip") "__len__" = pure none := by
  rw [typeLookup_type, builtinLookup_eq_fast]
  kernel_rfl
theorem zip_noHint : typeLookup (.type "zip") "__length_hint__" = pure none := by
  rw [typeLookup_type, builtinLookup_eq_fast]
  kernel_rfl
/-- what stands at S behind i turns: new pairs -/
structure Zs (H Hc : Hp) (S : Addr) (xs ys acc : List V) (i : Nat) : Prop where
  sub : Sub H Hc
  new : H S = none
  at_ : Hc S = some (.lst acc)
  len : acc.length = i
  el : ∀ j, j < i → ∃ T x y, acc[j]? = some (.ref T) ∧ T ≠ S ∧ H T = none ∧ Hc T = some (.tup [x, y]) ∧ xs[j]? = some x ∧ ys[j]? = some y
/-- the zip at its i-th turn: its tuple is its own, or its last pair stands elsewhere -/
def ZFr (z TI TO : Addr) (S : Addr) (fp : List Addr) (h : Heap) : Prop := IsZip h z TI TO .none ∨ ∃ T0 f1 ob, ZKept h z TI TO T0 f1 ∧ h.get? T0 = some ob ∧ T0 ∉ fp ∧ T0 ≠ S
def ZSt (z TI TO i1 i2 a b S : Addr) (i : Nat) (h : Heap) : Prop := ZFr z TI TO S [z, TI, TO, i1, i2] h ∧ IsPair h TI (.ref i1) (.ref i2) ∧ (∃ x y, IsPair h TO x y) ∧ h.IsTupleIter i1 a i ∧ h.IsTupleIter i2 b i
theorem ZSt.keep {z TI TO i1 i2 a b S : Addr} {i : Nat} {h h' : Heap} (st : ZSt z TI TO i1 i2 a b S i h) (k : ∀ c, c ≠ S → ∀ o, h.get? c = some o → h'.get? c = some o) (hS : ∀ c ∈ [z, TI, TO, i1, i2], S ≠ c) : ZSt z TI TO i1 i2 a b S i h' := by
  obtain ⟨e1, e2, ⟨x, y, e3⟩, e4, e5⟩ := st
  have n : ∀ c ∈ [z, TI, TO, i1, i2], c ≠ S := fun c hc q => hS c hc q.symm
  refine ⟨?_, k TI (n _ (by simp)) _ e2, ⟨x, y, k TO (n _ (by simp)) _ e3⟩, e4.at fun o q => k i1 (n _ (by simp)) o q, e5.at fun o q => k i2 (n _ (by simp)) o q⟩
  rcases e1 with e1 | ⟨T0, f1, ob, q1, q2, q3, q4⟩
  · exact .inl (k z (n _ (by simp)) _ e1)
  · exact .inr ⟨T0, f1, ob, k z (n _ (by simp)) _ q1, k T0 q4 _ q2, q3, q4⟩
theorem ZSt.mem {z TI TO i1 i2 a b S : Addr} {i : Nat} {h : Heap} (st : ZSt z TI TO i1 i2 a b S i h) {c : Addr} (hc : c ∈ [z, TI, TO, i1, i2]) : c < h.objs.size := by
  obtain ⟨e1, e2, ⟨x, y, e3⟩, ⟨o1, e4, _⟩, ⟨o2, e5, _⟩⟩ := st
  have e' : c = z ∨ c = TI ∨ c = TO ∨ c = i1 ∨ c = i2 := by simpa using hc
  rcases e' with q | q | q | q | q <;> subst q
  · rcases e1 with e1 | ⟨T0, f1, ob, q1, _⟩
    · exact Heap.lt_size e1
    · exact Heap.lt_size q1
  · exact Heap.lt_size e2
  · exact Heap.lt_size e3
  · exact Heap.lt_size e4
  · exact Heap.lt_size e5
section
variable {prog : Program} {w : World} {A : Around} {E : Value → Shared → Prop} {s : Shared}
theorem zany_item {z TI TO i1 i2 l1 l2 S : Addr} {i : Nat} {xs ys : Array Value} {x y : Value} {Q : Option Value → Shared → Prop} (D : ZipApart z TI TO i1 i2 l1 l2) (st : ZSt z TI TO i1 i2 l1 l2 S i s.heap)
    (hl1 : s.heap.IsTuple l1 xs) (hl2 : s.heap.IsTuple l2 ys) (hx : xs[i]? = some x) (hy : ys[i]? = some y) (hST : S ≠ s.heap.objs.size)
    (hQ : ∀ h', ZSt z TI TO i1 i2 l1 l2 S (i + 1) h' → IsPair h' s.heap.objs.size x y → (∀ c o, c ∉ [z, TI, TO, i1, i2] → s.heap.get? c = some o → h'.get? c = some o) → Q (some (.ref s.heap.objs.size)) { s with heap := h' }) :
    wpAny (model prog w) A (pyNext (.ref z)) Q E s := by
  have hlt := fun c (hc : c ∈ [z, TI, TO, i1, i2]) => ZSt.mem st hc
  have hfr : s.heap.objs.size ∉ [z, TI, TO, i1, i2] := fun q => Nat.lt_irrefl _ (hlt _ q)
  obtain ⟨e1, hTI, ⟨x0, y0, hTO⟩, h1, h2⟩ := st
  rcases e1 with hz | ⟨T0, f1, ob, hz, hT0, q3, q4⟩
  · refine RZ.pyNext_zipT_item D hz hTI hTO h1 h2 hl1 hl2 hx hy fun h' z' TO' h1' h2' hT hsz hk => ?_
    refine hQ h' ⟨.inr ⟨s.heap.objs.size, false, _, z', hT, hfr, hST.symm⟩, hk _ _ D.TIz D.TITO D.TIi1 D.TIi2 hTI, ⟨x, y, TO'⟩, h1', h2'⟩ hT fun c o hc q => ?_
    exact hk c o (fun e => hc (by simp [e])) (fun e => hc (by simp [e])) (fun e => hc (by simp [e])) (fun e => hc (by simp [e])) q
  · have hT : s.TypeIs (.ref z) "zip" := ⟨_, hz, rfl⟩
    unfold pyNext
    refine wpAny_bind (wpAny_attempt (wpAny_callSpecial?_slot (name := Str.ofString "__next__") hT F.slot_zip_next
      (wpAny_call_entry F.slot_zip_next hT F.entry_zip_next (kept_item D hz hTI hT0 h1 h2 hl1 hl2 hx hy fun h' z' h1' h2' hP hsz hk => wpAny_pure ?_) (F.args_zip_next_1 _))))
    have hk' : ∀ c o, c ∉ [z, i1, i2] → s.heap.get? c = some o → h'.get? c = some o := fun c o hc q => hk c o (fun e => hc (by simp [e])) (fun e => hc (by simp [e])) (fun e => hc (by simp [e])) q
    have hT0' : T0 ∉ [z, i1, i2] := fun e => q3 (by
      have : T0 = z ∨ T0 = i1 ∨ T0 = i2 := by simpa using e
      rcases this with q | q | q <;> simp [q])
    refine hQ h' ⟨.inr ⟨T0, true, ob, z', hk' _ _ hT0' hT0, q3, q4⟩, hk _ _ D.TIz D.TIi1 D.TIi2 hTI, ⟨x0, y0, hk _ _ D.TOz D.TOi1 D.TOi2 hTO⟩, h1', h2'⟩ hP fun c o hc q => ?_
    exact hk c o (fun e => hc (by simp [e])) (fun e => hc (by simp [e])) (fun e => hc (by simp [e])) q
theorem zany_end {z TI TO i1 i2 l1 l2 S : Addr} {i : Nat} {xs ys : Array Value} {Q : Option Value → Shared → Prop} (hh : A.handled = none) (D : ZipApart z TI TO i1 i2 l1 l2) (st : ZSt z TI TO i1 i2 l1 l2 S i s.heap)
    (hl1 : s.heap.IsTuple l1 xs) (hl2 : s.heap.IsTuple l2 ys) (hend : xs[i]? = none ∨ ys[i]? = none)
    (hQ : ∀ h', (∀ c o, c ∉ [z, TI, TO, i1, i2] → s.heap.get? c = some o → h'.get? c = some o) → Q none { s with heap := h' }) : wpAny (model prog w) A (pyNext (.ref z)) Q E s := by
  obtain ⟨e1, hTI, ⟨x0, y0, hTO⟩, h1, h2⟩ := st
  rcases e1 with hz | ⟨T0, f1, ob, hz, hT0, q3, q4⟩
  · refine RZ.pyNext_zipT_end hh D hz hTI hTO h1 h2 hl1 hl2 hend fun h' hk => hQ h' fun c o hc q => ?_
    exact hk c o (fun e => hc (by simp [e])) (fun e => hc (by simp [e])) (fun e => hc (by simp [e])) (fun e => hc (by simp [e])) q
  · have hT : s.TypeIs (.ref z) "zip" := ⟨_, hz, rfl⟩
    unfold pyNext
    refine wpAny_bind (wpAny_attempt (wpAny_callSpecial?_slot (name := Str.ofString "__next__") hT F.slot_zip_next
      (wpAny_call_entry F.slot_zip_next hT F.entry_zip_next (kept_end hh D hz hTI hT0 h1 h2 hl1 hl2 hend fun h' e hk he => ?_) (F.args_zip_next_1 _))))
    obtain ⟨o, ho, hc⟩ := he
    refine wpAny_bind (wpAny_isInstance (T := "StopIteration") (b := true) ⟨o, ho, hc⟩ isSubtype_stop (wpAny_pure (hQ h' fun c o hc q => ?_)))
    exact hk c o (fun e => hc (by simp [e])) (fun e => hc (by simp [e])) (fun e => hc (by simp [e])) q
end
section
variable {X : Cx}
/-- one turn's pair, laid and put behind the others -/
theorem Zs.step {H Hc : Hp} {S T : Addr} {xs ys acc : List V} {i : Nat} {x y : V} (Z : Zs H Hc S xs ys acc i) (hT : Hc T = none) (hx : xs[i]? = some x) (hy : ys[i]? = some y) : Zs H (upd (upd Hc T (.tup [x, y])) S (.lst (acc ++ [.ref T]))) S xs ys (acc ++ [.ref T]) (i + 1) := by
  have hTS : T ≠ S := fun e => by
    rw [e, Z.at_] at hT
    cases hT
  have hTn : H T = none := by
    cases g : H T with
    | none => rfl
    | some o =>
      rw [Z.sub _ _ g] at hT
      cases hT
  refine ⟨fun c o e => ?_, Z.new, upd_same, by simp [Z.len], fun j hj => ?_⟩
  · have h1 : c ≠ S := fun q => by
      rw [q, Z.new] at e
      cases e
    have h2 : c ≠ T := fun q => by
      rw [q, hTn] at e
      cases e
    rw [upd_ne h1, upd_ne h2]
    exact Z.sub _ _ e
  · by_cases hji : j < i
    · obtain ⟨T', x', y', a1, a2, a3, a4, a5, a6⟩ := Z.el j hji
      have : T' ≠ T := fun q => by
        rw [q, hT] at a4
        cases a4
      refine ⟨T', x', y', ?_, a2, a3, ?_, a5, a6⟩
      · rw [List.getElem?_append_left (by rw [Z.len]; exact hji)]
        exact a1
      · rw [upd_ne a2, upd_ne this]
        exact a4
    · obtain rfl : j = i := by omega
      refine ⟨T, x, y, ?_, hTS, hTn, ?_, hx, hy⟩
      · rw [List.getElem?_append_right (by rw [Z.len]; exact Nat.le_refl _), Z.len]
        simp
      · rw [upd_ne hTS, upd_same]
theorem zip_loop {A : Around} {pins : List (Addr × Obj)} {σ : L2.St} {H : Hp} {z TI TO i1 i2 a b S : Addr} {xs ys : List V} {res : Value} {R : Result → Shared → Prop} (hh : A.in1.handled = none) (D : ZipApart z TI TO i1 i2 a b) (ha : SqT X.K H a xs) (hb : SqT X.K H b ys) (hlim : min xs.length ys.length ≤ LIM)
    (hR : ∀ s' Hc' acc', Inv X pins σ Hc' s' → Zs H Hc' S xs ys acc' (min xs.length ys.length) → R (.ok (.ret res)) s') :
    ∀ (k i : Nat) (s : Shared) (Hc : Hp) (acc : List V), min xs.length ys.length - i = k → i ≤ min xs.length ys.length → Inv X pins σ Hc s → ZSt z TI TO i1 i2 a b S i s.heap → (∀ c ∈ [z, TI, TO, i1, i2], FpOk X pins Hc c) → Zs H Hc S xs ys acc i →
    codeAny (model X.prog X.w) A (.builtin "list.extend.loop" ⟨[.ref S, .ref z, res], []⟩) R s := by
  intro k
  induction k with
  | zero =>
    intro i s Hc acc hk hi I st hf Z
    obtain ⟨its, rv, p, _⟩ := I.tuple (Z.sub.sqT ha)
    obtain ⟨its2, rv2, p2, _⟩ := I.tuple (Z.sub.sqT hb)
    have l1 := rv.length
    have l2 := rv2.length
    have he : its.toArray[i]? = none ∨ its2.toArray[i]? = none := by
      by_cases q : xs.length ≤ i
      · exact .inl (by simp; omega)
      · exact .inr (by simp; omega)
    refine codeAny_builtin F.entry_extend_loop ?_
    rw [Around.under_plainId F.plain_extend_loop _]
    show wpAny _ A.in1 (pyNext (.ref z) >>= _) _ _ s
    refine wpAny_bind (zany_end hh D st p p2 he fun h' hk' => wpAny_pure ?_)
    have I2 : Inv X pins σ Hc { s with heap := h' } := I.turnedL (t' := s.toks) (ch := [z, TI, TO, i1, i2]) hk' hf
    obtain rfl : i = min xs.length ys.length := by omega
    exact hR _ Hc acc I2 Z
  | succ k ih =>
    intro i s Hc acc hk hi I st hf Z
    have hlt : i < xs.length ∧ i < ys.length := by omega
    obtain ⟨its, rv, p, _⟩ := I.tuple (Z.sub.sqT ha)
    obtain ⟨its2, rv2, p2, _⟩ := I.tuple (Z.sub.sqT hb)
    have hx : xs[i]? = some xs[i] := List.getElem?_eq_getElem hlt.1
    have hy : ys[i]? = some ys[i] := List.getElem?_eq_getElem hlt.2
    obtain ⟨u, hu, ru⟩ := rv.get hx
    obtain ⟨u2, hu2, ru2⟩ := rv2.get hy
    have fr : Hc s.heap.objs.size = none := I.fresh
    have hST : S ≠ s.heap.objs.size := fun q => by
      rw [← q, Z.at_] at fr
      cases fr
    refine codeAny_builtin F.entry_extend_loop ?_
    rw [Around.under_plainId F.plain_extend_loop _]
    show wpAny _ A.in1 (pyNext (.ref z) >>= _) _ _ s
    refine wpAny_bind (zany_item D st p p2 (x := u) (y := u2) (by simpa using hu) (by simpa using hu2) hST fun h' st' hT hk' => ?_)
    have new : ObjOk X.prog X.w (upd Hc s.heap.objs.size (.tup [xs[i], ys[i]])) h' s.heap.objs.size (.tup [xs[i], ys[i]]) :=
      ⟨by show 2 ≤ sizeLine; decide, [u, u2], .cons ru (.cons ru2 .nil), ⟨_, hT, rfl, _, rfl⟩⟩
    have I1 : Inv X pins σ (upd Hc s.heap.objs.size (.tup [xs[i], ys[i]])) { s with heap := h' } :=
      I.turnedNew (t' := s.toks) (ch := [z, TI, TO, i1, i2]) hk' hf (Nat.le_refl _) new
    have hS1 : upd Hc s.heap.objs.size (.tup [xs[i], ys[i]]) S = some (.lst acc) := by
      rw [upd_ne hST]
      exact Z.at_
    obtain ⟨zz, its3, n3, r3, hl3, e3⟩ := I1.lstM hS1
    have hlen : its3.length = i := by rw [← hl3, Z.len]
    have hle : i ≤ 1000000 := by
      have : LIM = 1000000 := rfl
      omega
    have hSf : ∀ c ∈ [z, TI, TO, i1, i2], S ≠ c := fun c hc q => by
      have := (hf c hc).1
      rw [← q, Z.at_] at this
      cases this
    show wpAny _ A.in1 (updateSeq S (·.push (.ref s.heap.objs.size)) >>= _) _ _ _
    refine wpAny_bind (wpAny_updateSeq e3 rfl (wpAny_pure ⟨plainId_quiet F.plain_extend_loop _, ?_⟩) (by rw [List.size_toArray, hlen, sizeLine_eq]; omega) (by rw [Array.size_push, List.size_toArray, hlen, sizeLine_eq]; omega))
    have hv : Vals (acc ++ [.ref s.heap.objs.size]) (its3 ++ [.ref s.heap.objs.size]) := r3.append (.cons (show L2.RelV (.ref s.heap.objs.size) (.ref s.heap.objs.size) from rfl) .nil)
    have I2 := I1.lset (its' := its3 ++ [.ref s.heap.objs.size]) (ys := acc ++ [.ref s.heap.objs.size]) (f := (·.push (.ref s.heap.objs.size))) (t' := s.toks) hS1 e3 (by simp) hv (by rw [List.length_append, Z.len, sizeLine_eq]; show i + 1 ≤ _; omega)
    refine ih (i + 1) _ _ _ (by omega) (by omega) I2 (st'.keep (fun c hc o q => (Heap.get?_update_other h' _ hc.symm).trans q) hSf) (fun c hc => ?_) (Z.step fr hx hy)
    have hcl := ZSt.mem st hc
    refine ⟨?_, (hf c hc).2⟩
    rw [upd_ne (hSf c hc).symm, upd_ne (Nat.ne_of_lt hcl)]
    exact (hf c hc).1
/-- the list made of the zip's pairs -/
theorem call_listZip {A : Around} {E : Value → Shared → Prop} {pins : List (Addr × Obj)} {σ : L2.St} {H : Hp} {s : Shared} {z TI TO i1 i2 a b : Addr} {xs ys : List V} {Q : Value → Shared → Prop} (hh : A.handled = none) (D : ZipApart z TI TO i1 i2 a b) (ha : SqT X.K H a xs) (hb : SqT X.K H b ys) (hlim : min xs.length ys.length ≤ LIM)
    (I : Inv X pins σ H s) (st : ∀ S, ZSt z TI TO i1 i2 a b S 0 s.heap) (hf : ∀ c ∈ [z, TI, TO, i1, i2], FpOk X pins H c)
    (hQ : ∀ s' Hc' acc', Inv X pins σ Hc' s' → Zs H Hc' s.heap.objs.size xs ys acc' (min xs.length ys.length) → Q (.ref s.heap.objs.size) s') :
    wpAny (model X.prog X.w) A (call (.type "list") [.ref z]) Q E s := by
  have hlt := fun c (hc : c ∈ [z, TI, TO, i1, i2]) => ZSt.mem (st 0) hc
  have hzl := hlt z (by simp)
  have hzS : s.heap.objs.size ≠ z := Nat.ne_of_gt hzl
  have hTz : s.TypeIs (.ref z) "zip" := by
    rcases (st 0).1 with e | ⟨_, _, _, e, _⟩
    · exact ⟨_, e, rfl⟩
    · exact ⟨_, e, rfl⟩
  refine callType_codes (Q₁ := fun obj s₁ => obj = .ref s.heap.objs.size ∧ s₁ = { s with heap := s.heap.push { cls := .type "list", data := .seq #[] } }) F.called_list (F.typeCall_list_1 _) F.entry_list_init
    (code_list_new _ ⟨rfl, rfl⟩) fun obj s₁ h₁ => ?_
  obtain ⟨rfl, rfl⟩ := h₁
  have hS : (s.heap.push { cls := .type "list", data := .seq #[] }).get? s.heap.objs.size = some { cls := .type "list", data := .seq #[] } := Heap.get?_push_size _ rfl
  have I1 : Inv X pins σ (upd H s.heap.objs.size (.lst [])) { s with heap := s.heap.push { cls := .type "list", data := .seq #[] } } := I.lnew (its := []) (t' := s.toks) .nil (Nat.zero_le _)
  refine ⟨⟨_, hS, rfl⟩, F.args_list_init_2 _ _, ?_⟩
  show wpAny _ A.in1.in1 (do let old ← Builtin.List.listItems (.ref s.heap.objs.size); Builtin.List.listUpdate (.ref s.heap.objs.size) (fun _ => #[]); letGo old.toList.reverse; Builtin.List.listExtendWith (.ref s.heap.objs.size) (.ref z) .none) _ _ _
  refine wpAny_bind ?_
  unfold Builtin.List.listItems
  refine wpAny_bind (wpAny_seqItems hS rfl (wpAny_pure ?_))
  show wpAny _ A.in1.in1 (updateSeq s.heap.objs.size (fun _ => #[]) >>= fun _ => letGo (#[] : Array Value).toList.reverse >>= fun _ => Builtin.List.listExtendWith (.ref s.heap.objs.size) (.ref z) .none) _ _ _
  refine wpAny_bind (wpAny_updateSeq hS rfl ?_)
  have I2 := I1.lset (its' := []) (ys := []) (f := fun _ => #[]) (t' := s.toks) upd_same hS rfl .nil (Nat.zero_le _)
  have hS2 := Heap.get?_update_self (Obj.mapSeq (fun _ => (#[] : Array Value))) hS rfl
  refine wpAny_bind (wpAny_letGo ?_)
  have st2 : ZSt z TI TO i1 i2 a b s.heap.objs.size 0 ((s.heap.push { cls := .type "list", data := .seq #[] }).update s.heap.objs.size (Obj.mapSeq fun _ => #[])) :=
    (st _).keep (fun c hc o q => (Heap.get?_update_other _ _ hc.symm).trans (Heap.get?_push_of_some _ q)) fun c hc => Nat.ne_of_gt (hlt c hc)
  have hTz2 : ∀ h', ZSt z TI TO i1 i2 a b s.heap.objs.size 0 h' → ({ s with heap := h' } : Shared).TypeIs (.ref z) "zip" := fun h' q => by
    rcases q.1 with e | ⟨_, _, _, e, _⟩
    · exact ⟨_, e, rfl⟩
    · exact ⟨_, e, rfl⟩
  unfold Builtin.List.listExtendWith
  refine wpAny_bind (wpAny_typeOf (hTz2 _ st2) ?_)
  have g1 : Builtin.List.listSameRef (.ref s.heap.objs.size) (.ref z) = false := by simp [Builtin.List.listSameRef, hzS]
  have g2 : (Value.type "zip" == Value.type "list") = false := by decide
  have g3 : (Value.type "zip" == Value.type "tuple") = false := by decide
  simp only [g1, g2, g3, Bool.or_false, Bool.false_eq_true, if_false]
  have hself : ∀ {A' : Around} {Q' : Value → Shared → Prop} {E' : Value → Shared → Prop} (h' : Heap), ZSt z TI TO i1 i2 a b s.heap.objs.size 0 h' → Q' (.ref z) { s with heap := h' } → wpAny (model X.prog X.w) A' (pyIter (.ref z)) Q' E' { s with heap := h' } := fun h' q k => by
    have hT := hTz2 h' q
    refine wpAny_pyIter_slot hT F.slot_zip_iter (wpAny_call_entry F.slot_zip_iter hT F.entry_zip_iter ?_ (F.args_zip_iter_1 _))
    exact wpAny_pure ⟨_, rfl, "zip", _, hT, F.slot_zip_next.lookup, k⟩
  refine wpAny_bind (hself _ st2 ?_)
  refine wpAny_bind (wpAny_holding ?_)
  unfold Builtin.List.listLengthHint
  refine wpAny_bind (wpAny_specialOf (hTz2 _ st2) zip_noLen ?_)
  show wpAny _ A.in1.in1 (specialOf (Value.ref z) (Str.ofString "__length_hint__") >>= _) _ _ _
  refine wpAny_bind (wpAny_specialOf (hTz2 _ st2) zip_noHint ?_)
  refine wpAny_pure ?_
  show wpAny _ A.in1.in1 (rule "list.extend.makes-room" >>= fun _ => Builtin.List.listTouch (.ref s.heap.objs.size) >>= fun _ =>
    again (.builtin "list.extend.loop" ⟨[.ref s.heap.objs.size, .ref z, .none], []⟩)) _ _ _
  refine wpAny_bind (wpAny_rule ?_)
  refine wpAny_bind ?_
  show wpAny _ A.in1.in1 (updateSeq s.heap.objs.size (·.push .none) >>= fun _ => updateSeq s.heap.objs.size (·.pop)) _ _ _
  refine wpAny_bind (wpAny_updateSeq hS2 rfl ?_)
  have I3 := I2.lset (its' := [.none]) (ys := [.non]) (f := (·.push .none)) (t' := s.toks) (by rw [upd_same]) hS2 rfl (.cons (show L2.RelV .non .none from rfl) .nil) (by decide)
  have hS3 := Heap.get?_update_self (Obj.mapSeq (·.push Value.none)) hS2 rfl
  refine wpAny_updateSeq (hz := by seq_fits) hS3 rfl ?_
  have I4 := I3.lset (its' := []) (ys := []) (f := (·.pop)) (t' := s.toks) (by rw [upd_same]) hS3 rfl .nil (Nat.zero_le _)
  have st4 := (st2.keep (h' := (((s.heap.push { cls := .type "list", data := .seq #[] }).update s.heap.objs.size (Obj.mapSeq fun _ => #[])).update s.heap.objs.size (Obj.mapSeq (·.push Value.none))).update s.heap.objs.size (Obj.mapSeq (·.pop))) (fun c hc o q => (Heap.get?_update_other _ _ hc.symm).trans ((Heap.get?_update_other _ _ hc.symm).trans q)) fun c hc => Nat.ne_of_gt (hlt c hc))
  have fr : H s.heap.objs.size = none := I.fresh
  refine wpAny_pure ⟨plainId_quiet F.plain_extend_loop _, ?_⟩
  refine zip_loop (A := A.in1) (S := s.heap.objs.size) (H := H) (xs := xs) (ys := ys) hh D ha hb hlim ?_ _ 0 _ _ [] rfl (Nat.zero_le _) I4 st4 (fun c hc => ?_) ⟨fun c o e => ?_, fr, upd_same, rfl, fun j hj => absurd hj (Nat.not_lt_zero _)⟩
  · exact fun s' Hc' acc' I' Z' => ⟨rfl, hQ s' Hc' acc' I' Z'⟩
  · have hcl := hlt c hc
    refine ⟨?_, (hf c hc).2⟩
    have n := Nat.ne_of_lt hcl
    rw [upd_ne n, upd_ne n, upd_ne n, upd_ne n]
    exact (hf c hc).1
  · have n : c ≠ s.heap.objs.size := fun q => by
      rw [q, fr] at e
      cases e
    rw [upd_ne n, upd_ne n, upd_ne n, upd_ne n]
    exact e
end
end DL
namespace DL
open PySem PySem.Spec PyProof.Rows L2
section
variable {X : Cx}
def tListZipT (K : PySem.W.Frag) (ta : TA) : TE := fun σ H Q => ta σ H fun vs H1 => ∃ a b xs ys, vs = [.ref a, .ref b] ∧ SqT K H1 a xs ∧ SqT K H1 b ys ∧ min xs.length ys.length ≤ LIM ∧ ∀ H' S acc, Zs H1 H' S xs ys acc (min xs.length ys.length) → Q (.ref S) H'
theorem pe_listZipT {e e2 : Expr} {ta : TA} {p p2 q pos : Pos} (hc : X.calm = true) (hg : Gl X "list") (hm : X.mg "list" = none) (hg2 : Gl X "zip") (hm2 : X.mg "zip" = none) (ha : PA X [e, e2] ta)
    (hs : starEach [e, e2] X.env = (false, eval e X.env) :: starEach [e2] X.env := by rfl) (hpl : (backTo q (starEach [e2] X.env)).any (·.1) = false := by rfl)
    (nb : starEach [.Call (.Name "zip" p2) [e, e2] [] q] X.env = (false, eval (.Call (.Name "zip" p2) [e, e2] [] q) X.env) :: starEach [] X.env := by rfl) :
    PE X (.Call (.Name "list" p) [.Call (.Name "zip" p2) [e, e2] [] q] [] pos) (tListZipT X.K ta) := by
  refine ⟨fun pins s σ H Q I h => ?_⟩
  refine Call_ (ld_blt I hg hm PyProof.Rows.boot_list ?_)
  refine PyProof.Rows.callWith_type1 (PyProof.Rows.args_cons ?_ nb) nb rfl
  refine Call_ (ld_blt I hg2 hm2 PyProof.Rows.boot_zip (PyProof.Rows.callWith_type1 (thn (ha.run q pins s σ H _ I h) fun us s1 ⟨vs, H1, I1, r1, q1⟩ => ?_) hs hpl))
  obtain ⟨a, b, xs, ys, ex, hx, hy, hlim, q1⟩ := q1
  subst ex
  obtain _ | ⟨r, rr⟩ := r1
  obtain _ | ⟨r', rr⟩ := rr
  cases rr
  cases r
  cases r'
  obtain ⟨its, rv, p1, _⟩ := I1.tuple hx
  obtain ⟨its2, rv2, p2, _⟩ := I1.tuple hy
  obtain ⟨o1, ho1, _⟩ := id p1
  obtain ⟨o2, ho2, _⟩ := id p2
  refine RZ.call_zipT (show s1.heap.IsTuple a its.toArray from p1) (show s1.heap.IsTuple b its2.toArray from p2) fun h' hz hTI hTO h1 h2 hsz hk => PyProof.Rows.args_nil ?_
  have I2 : Inv X pins σ H1 { s1 with heap := h' } := I1.kept (t' := s1.toks) hk
  refine call_listZip (I1.ok.hd hc) (PySem.W.ktu_apart s1.heap.objs.size a b (Heap.lt_size ho1) (Heap.lt_size ho2)) hx hy hlim I2 (fun S => ⟨.inl hz, hTI, ⟨_, _, hTO⟩, h1, h2⟩) (fun c hcm => ?_) fun s' Hc' acc' I' Z' => ⟨.ref _, Hc', I', rfl, q1 _ _ _ Z'⟩
  have e' : c = s1.heap.objs.size + 4 ∨ c = s1.heap.objs.size + 2 ∨ c = s1.heap.objs.size + 3 ∨ c = s1.heap.objs.size ∨ c = s1.heap.objs.size + 1 := by simpa using hcm
  have hle : s1.heap.objs.size ≤ c := by
    rcases e' with q | q | q | q | q <;> rw [q]
    · exact Nat.le_add_right _ _
    · exact Nat.le_add_right _ _
    · exact Nat.le_add_right _ _
    · exact Nat.le_refl _
    · exact Nat.le_add_right _ _
  exact I1.fpOk hle (I1.hok.fresh hle)
def tList_zip2 (Ta : TDs) : TD := fun ρ n q => Ta ρ n fun as n => ∃ ds es, as = [.tup ds, .tup es] ∧ min ds.length es.length ≤ LIM ∧ q (.lst (zipD ds es)) n
theorem reps_of_get {K : PySem.W.Frag} {pn : Pn} {G : Hp} : ∀ {ds : List D} {vs : List V}, vs.length = ds.length → (∀ (i : Nat) (d : D) (v : V), ds[i]? = some d → vs[i]? = some v → Rep K pn G v d) → Reps K pn G vs ds
  | [], [], _, _ => rfl
  | d :: ds, v :: vs, hl, h => ⟨v, vs, rfl, h 0 d v rfl rfl, reps_of_get (by simpa using hl) fun i d v h1 h2 => h (i + 1) d v (by simpa using h1) (by simpa using h2)⟩
theorem ed_list_zip2 {a b : Expr} {Ta : TDs} {p p2 q pos : Pos} (B : NoB X.mg) (hc : X.calm = true) (hg : Gl X "list") (hg2 : Gl X "zip") (ha : AD X [a, b] Ta)
    (hs : starEach [a, b] X.env = (false, eval a X.env) :: starEach [b] X.env := by rfl) (hpl : (backTo q (starEach [b] X.env)).any (·.1) = false := by rfl)
    (nb : starEach [.Call (.Name "zip" p2) [a, b] [] q] X.env = (false, eval (.Call (.Name "zip" p2) [a, b] [] q) X.env) :: starEach [] X.env := by rfl) : ED X (.Call (.Name "list" p) [.Call (.Name "zip" p2) [a, b] [] q] [] pos) (tList_zip2 Ta) := by
  obtain ⟨t, pa, k⟩ := ha
  refine ⟨_, pe_listZipT hc hg (B _ (by decide)) hg2 (B _ (by decide)) pa hs hpl nb, fun σ H G pn n ρ q A hT Q kq => ?_⟩
  refine k σ H G pn n ρ _ A hT _ fun vs H1 ⟨as, n1, g1, r1, ds, es, hd, hlim, hq⟩ => ?_
  subst hd
  have A1 := A.go g1
  obtain ⟨v, w, rfl, r2, r3⟩ := reps2 r1
  obtain ⟨x, xs, rfl, h3, h4⟩ := r2
  obtain ⟨y, ys, rfl, h5, h6⟩ := r3
  have l1 := Reps.length h4
  have l2 := Reps.length h6
  refine ⟨x, y, xs, ys, rfl, A1.sub.sqT h3, A1.sub.sqT h5, by rw [l1, l2]; exact hlim, fun H' S acc Z => ?_⟩
  have g2 : Go pn (ext G H H1) H1 H' n1 := Go.of_sub A1.pst Z.sub
  refine kq _ _ ⟨.lst (zipD ds es), n1, g1.trans g2, ?_, hq⟩
  rw [← A.ext_ext g1 g2]
  have nS : ext G H H1 S = none := by
    cases g : ext G H H1 S with
    | none => rfl
    | some u =>
      have := A1.sub _ _ g
      rw [Z.new] at this
      cases this
  refine ⟨S, acc, rfl, ?_, ?_⟩
  · rw [ext_none nS Z.new]
    exact Z.at_
  · refine reps_of_get (by rw [Z.len, zipD_len, l1, l2]) fun i d v hd hv => ?_
    have hi : i < min xs.length ys.length := by
      rw [← Z.len]
      exact (List.getElem?_eq_some_iff.mp hv).1
    obtain ⟨T, x', y', a1, a2, a3, a4, a5, a6⟩ := Z.el i hi
    rw [a1] at hv
    cases hv
    obtain ⟨d1, b1, b2⟩ := Reps.get' h4 a5
    obtain ⟨d2, b3, b4⟩ := Reps.get' h6 a6
    rw [zipD_get ds es i d1 d2 b1 b3] at hd
    cases hd
    have nT : ext G H H1 T = none := by
      cases g : ext G H H1 T with
      | none => rfl
      | some u =>
        have := A1.sub _ _ g
        rw [a3] at this
        cases this
    exact ⟨T, [x', y'], rfl, SqT.of (by rw [ext_none nT a3]; exact a4), x', _, rfl, Rep.mono sub_ext _ _ b2, y', [], rfl, Rep.mono sub_ext _ _ b4, rfl⟩
end
end DL
set_option maxHeartbeats 4000000
/-! repr of data -/
namespace DL
open PySem PySem.Spec PyProof.Rows L2
mutual
/-- no list, no pen, no dict but the empty one within -/
def nlD : D → Bool
  | .tup ds => nlDs ds
  | .dct [] => true
  | .dct (_ :: _) => false
  | .pen => false
  | .scr _ => false
  | .non => true
  | .bl _ => true
  | .int _ => true
  | .str _ => true
  | .lst _ => false
def nlDs : List D → Bool
  | [] => true
  | d :: ds => nlD d && nlDs ds
end
mutual
def noD : D → Bool
  | .tup ds => noDs ds
  | .lst ds => noDs ds
  | .dct _ => false
  | .pen => false
  | .scr _ => false
  | .non => true
  | .bl _ => true
  | .int _ => true
  | .str _ => true
def noDs : List D → Bool
  | [] => true
  | d :: ds => noD d && noDs ds
end
section
variable {X : Cx} {pins : List (Addr × Obj)} {σ : L2.St} {G H : Hp} {s : Shared} {pn : Pn}
mutual
theorem Rep.reads (I : Inv X pins σ H s) (sg : Sub G H) : ∀ (d : D) (v : V) (u : Value), noD d = true → Rep X.K pn G v d → L2.RelV v u → ∃ as, Reads s.heap u (toPy d) as ∧ (toPy d).hasDict = false
  | .non, v, u, _, h, r => by
    obtain rfl : v = .non := h
    cases r
    exact ⟨_, .none, rfl⟩
  | .bl b, v, u, _, h, r => by
    obtain rfl : v = .bl b := h
    cases r
    exact ⟨_, .bool b, rfl⟩
  | .int i, v, u, _, h, r => by
    obtain rfl : v = .int i := h
    obtain ⟨t, rfl⟩ := r
    exact ⟨_, .int i t, rfl⟩
  | .str x, v, u, _, h, r => by
    obtain rfl : v = .str x := h
    obtain ⟨t, rfl⟩ := r
    exact ⟨_, .str x t, rfl⟩
  | .tup ds, v, u, c, h, r => by
    obtain ⟨a, vs, rfl, h1, h2⟩ := h
    cases r
    obtain ⟨its, rv, ⟨o, ho, hc, n, hd⟩, _⟩ := I.tuple (sg.sqT h1)
    obtain ⟨as, hr, hn⟩ := Reps.reads I sg ds vs its (by simpa [noD] using c) h2 rv
    exact ⟨_, .tuple ho hc hd hr, by simpa [toPy, PyData.hasDict] using hn⟩
  | .lst ds, v, u, c, h, r => by
    obtain ⟨a, vs, rfl, h1, h2⟩ := h
    cases r
    obtain ⟨z, its, n, rv, _, e⟩ := I.lstM (sg _ _ h1)
    obtain ⟨as, hr, hn⟩ := Reps.reads I sg ds vs its (by simpa [noD] using c) h2 rv
    exact ⟨_, .list e rfl rfl hr, by simpa [toPy, PyData.hasDict] using hn⟩
  | .dct _, _, _, c, _, _ => by simp [noD] at c
  | .pen, _, _, c, _, _ => by simp [noD] at c
  | .scr _, _, _, c, _, _ => by simp [noD] at c
theorem Reps.reads (I : Inv X pins σ H s) (sg : Sub G H) : ∀ (ds : List D) (vs : List V) (us : List Value), noDs ds = true → Reps X.K pn G vs ds → Vals vs us → ∃ as, ReadsAll s.heap us (toPys ds) as ∧ PyData.hasDictAll (toPys ds) = false
  | [], vs, us, _, h, r => by
    obtain rfl : vs = [] := h
    cases r
    exact ⟨_, .nil, rfl⟩
  | d :: ds, vs, us, c, h, r => by
    obtain ⟨v, w, rfl, h1, h2⟩ := h
    have c' : noD d = true ∧ noDs ds = true := by simpa [noDs] using c
    obtain _ | ⟨r1, r2⟩ := r
    obtain ⟨as, q1, q2⟩ := Rep.reads I sg d v _ c'.1 h1 r1
    obtain ⟨bs, q3, q4⟩ := Reps.reads I sg ds w _ c'.2 h2 r2
    exact ⟨_, .cons q1 q3, by simp [toPys, PyData.hasDictAll, q2, q4]⟩
end
mutual
theorem Rep.readsN (I : Inv X pins σ H s) (sg : Sub G H) : ∀ (d : D) (v : V) (u : Value), nlD d = true → Rep X.K pn G v d → L2.RelV v u → ∃ as, Reads s.heap u (toPy d) as ∧ sysModules ∉ as
  | .non, v, u, _, h, r => by
    obtain rfl : v = .non := h
    cases r
    exact ⟨_, .none, by simp⟩
  | .bl b, v, u, _, h, r => by
    obtain rfl : v = .bl b := h
    cases r
    exact ⟨_, .bool b, by simp⟩
  | .int i, v, u, _, h, r => by
    obtain rfl : v = .int i := h
    obtain ⟨t, rfl⟩ := r
    exact ⟨_, .int i t, by simp⟩
  | .str x, v, u, _, h, r => by
    obtain rfl : v = .str x := h
    obtain ⟨t, rfl⟩ := r
    exact ⟨_, .str x t, by simp⟩
  | .tup ds, v, u, c, h, r => by
    obtain ⟨a, vs, rfl, h1, h2⟩ := h
    cases r
    obtain ⟨its, rv, ⟨o, ho, hc, n, hd⟩, _⟩ := I.tuple (sg.sqT h1)
    obtain ⟨as, hr, hn⟩ := Reps.readsN I sg ds vs its (by simpa [nlD] using c) h2 rv
    exact ⟨_, .tuple ho hc hd hr, hn⟩
  | .dct [], v, u, c, h, r => by
    obtain ⟨a, ws, rfl, h1, h2⟩ := h
    obtain rfl : ws = [] := h2
    cases r
    obtain ⟨_, hs, vs, kv, o, es, n, ho, hx, hd, _, hp, _⟩ := I.hok a _ (sg _ _ h1)
    cases kv
    have e0 : es.toList = [] := by
      generalize es.toList = l at hp
      cases hp
      rfl
    have ne : sysModules ≠ a := fun q => by
      rw [← q] at hs
      simp at hs
    refine ⟨_, .dict ho ?_ hd (kvs := []) (as := []) (bs := []) ?_ ?_, fun hm => ?_⟩
    · exact hx.1
    · rw [e0]
      exact .nil
    · rw [e0]
      exact .nil
    · have : sysModules = a := by simpa using hm
      exact ne this
  | .dct (_ :: _), _, _, c, _, _ => by simp [nlD] at c
  | .lst _, _, _, c, _, _ => by simp [nlD] at c
  | .pen, _, _, c, _, _ => by simp [nlD] at c
  | .scr _, _, _, c, _, _ => by simp [nlD] at c
theorem Reps.readsN (I : Inv X pins σ H s) (sg : Sub G H) : ∀ (ds : List D) (vs : List V) (us : List Value), nlDs ds = true → Reps X.K pn G vs ds → Vals vs us → ∃ as, ReadsAll s.heap us (toPys ds) as ∧ sysModules ∉ as
  | [], vs, us, _, h, r => by
    obtain rfl : vs = [] := h
    cases r
    exact ⟨_, .nil, by simp⟩
  | d :: ds, vs, us, c, h, r => by
    obtain ⟨v, w, rfl, h1, h2⟩ := h
    have c' : nlD d = true ∧ nlDs ds = true := by simpa [nlDs] using c
    obtain _ | ⟨r1, r2⟩ := r
    obtain ⟨as, q1, q2⟩ := Rep.readsN I sg d v _ c'.1 h1 r1
    obtain ⟨bs, q3, q4⟩ := Reps.readsN I sg ds w _ c'.2 h2 r2
    exact ⟨_, .cons q1 q3, by simp [q2, q4]⟩
end
/-- what repr may be asked of -/
def repD (d : D) : Bool := (noD d || nlD d) && (toPy d).showable && decide ((toPy d).depth ≤ 100) && decide ((toPy d).shown.length ≤ LIM)
def rReprD (K : PySem.W.Frag) : List V → Hp → VK → Prop := fun xs H Q => ∃ (v : V) (d : D) (pn : Pn) (G : Hp), xs = [v] ∧ Sub G H ∧ Rep K pn G v d ∧ repD d = true ∧ Q (.str (toPy d).shown) H
theorem call_reprD (hg : X.A.guards = some []) (hu : X.A.units + 200 < cLine) : CallR X (.builtin "repr") (rReprD X.K) := by
  intro pins s σ H xs us Q I r h
  obtain ⟨v, d, pn, G, rfl, sg, hr, hd, q⟩ := h
  obtain ⟨u, rfl, rv⟩ := vals1 r
  unfold repD at hd
  simp only [Bool.and_eq_true, Bool.or_eq_true, decide_eq_true_eq] at hd
  obtain ⟨⟨⟨h1, h2⟩, h3⟩, h4⟩ := hd
  have h5 : (toPy d).shown.length ≤ sizeLine := lim_le h4
  have done : ∀ (h' : Heap) (t : Tok) (tk : Tok), (∀ b o, s.heap.get? b = some o → h'.get? b = some o) → EP X pins σ Q (.str (toPy d).shown t) { s with heap := h', toks := tk } := fun h' t tk hk => ⟨.str _, H, I.kept (t' := tk) hk, ⟨t, rfl⟩, q⟩
  have rd : ∃ as, Reads s.heap u (toPy d) as ∧ ((toPy d).hasDict = true → sysModules ∉ as) := by
    rcases h1 with h1 | h1
    · obtain ⟨as, q1, q2⟩ := Rep.reads I sg d v u h1 hr rv
      exact ⟨as, q1, fun z => by rw [q2] at z; cases z⟩
    · obtain ⟨as, q1, q2⟩ := Rep.readsN I sg d v u h1 hr rv
      exact ⟨as, q1, fun _ => q2⟩
  obtain ⟨as, q1, q2⟩ := rd
  cases d with
  | non =>
    obtain rfl : v = .non := hr
    cases rv
    exact PySem.P.repr_of_none (done s.heap _ _ fun _ _ e => e)
  | bl b =>
    obtain rfl : v = .bl b := hr
    cases rv
    exact PySem.P.repr_of_bool (done s.heap _ _ fun _ _ e => e)
  | int i =>
    obtain rfl : v = .int i := hr
    obtain ⟨t, rfl⟩ := rv
    exact PySem.P.repr_of_int (by simpa [toPy, PyData.showable] using h2) (done s.heap _ _ fun _ _ e => e)
  | str x =>
    obtain rfl : v = .str x := hr
    obtain ⟨t, rfl⟩ := rv
    exact PySem.P.repr_of_str (done s.heap _ _ fun _ _ e => e) h5
  | tup ds =>
    obtain ⟨a, vs, rfl, _⟩ := id hr
    cases rv
    exact repr_of_reads' q1 h2 q2 hg (by omega) (fun _ _ e => e) done h5
  | lst ds =>
    obtain ⟨a, vs, rfl, _⟩ := id hr
    cases rv
    exact repr_of_reads' q1 h2 q2 hg (by omega) (fun _ _ e => e) done h5
  | dct ds =>
    obtain ⟨a, vs, rfl, _⟩ := id hr
    cases rv
    exact repr_of_reads' q1 h2 q2 hg (by omega) (fun _ _ e => e) done h5
  | pen =>
    rcases h1 with h1 | h1 <;> simp [noD, nlD] at h1
  | scr ns =>
    rcases h1 with h1 | h1 <;> simp [noD, nlD] at h1
def reprF : List D → Option D
  | [d] => if repD d then some (.str (toPy d).shown) else none
  | _ => none
theorem oc_repr : OpC X (rReprD X.K) reprF := .val fun G H pn xs ds z s r hz => by
  rcases ds with _ | ⟨d, _ | ⟨e, ds⟩⟩
  · cases hz
  · obtain ⟨v, rfl, h1⟩ := reps1 r
    simp only [reprF] at hz
    split at hz
    · rename_i c
      cases hz
      exact ⟨_, rfl, fun Q q => ⟨v, d, pn, G, rfl, s, h1, c, q⟩⟩
    · cases hz
  · cases hz
theorem ed_repr {e : Expr} {p pos : Pos} {T : TDs} (B : NoB X.mg) (hgu : X.A.guards = some []) (hu : X.A.units + 200 < cLine) (hg : Gl X "repr") (h : AD X [e] T) (he : starEach [e] X.env = (false, eval e X.env) :: starEach [] X.env := by rfl) : ED X (.Call (.Name "repr" p) [e] [] pos) (tCallB reprF T) :=
  opc (fun _ pa => pe_callB (call_reprD hgu hu) hg (B _ (by decide)) (by decide +kernel) pa (he := he)) oc_repr h
end
end DL
set_option maxHeartbeats 4000000
/-! the law's own def, at its caller alone: there no repr is under way -/
namespace DL
open PySem PySem.Spec PyProof.Rows L2
section
variable {P : Program} {w : World} {K : PySem.W.Frag} {mg : Str → Option Value} {base : Heap}
/-- a def's promise at one caller -/
def AtA (P : Program) (w : World) (K : PySem.W.Frag) (mg : Str → Option Value) (base : Heap) (A : Around) (f : Addr) (fd : FuncData) (ps : List Str) (sp : Sp) : Prop :=
  ∀ (s : Shared) (H : Hp) (args : Args) (us : List Value) (vs : List V) (Q : VK) (E : XK), Env0 P w K mg base A [] s H → BindsTo s fd args (ps.zip us) → Vals vs us → sp vs H Q E →
    codeAny (model P w) A (.call (.ref f) args) (CR CX0 [] P w H s Q E) s
theorem Fun.atA {A : Around} {x qual : Str} {st : Stmt} {f : Addr} {fd : FuncData} {N ps : List Str} {k : Nat} {sp : Sp} (hr : Room (k + 1) A) (F : Fun K x qual st f fd) (S : FnScope N ps (defScope st))
    (len : ∀ vs H Q E, sp vs H Q E → vs.length = ps.length)
    (hbody : ∀ (cdv : Value) (s : Shared) (H : Hp) (vs : List V) (Q : VK) (E : XK), Room k (A.deeper (envOfC qual (defScope st) s.heap.objs.size f cdv)) → sp vs H Q E →
      ∃ t, PSs (cxOf CX0 P w K mg base N qual (defScope st) f cdv A [] s H E).nox (defBody st) t ∧ t { nx := fun _ H' => Q .non H', rt := Q } (start N vs) H) : AtA P w K mg base A f fd ps sp := by
  obtain ⟨oc, od, kV, doc, pm, an, cdv, ct, osl, rfl, lk, hcd⟩ := F.ex
  intro s H args us vs Q E env0 bound rel want
  obtain ⟨t, ht0, post⟩ := hbody cdv s H vs Q E (hr.deeper _) want
  have ht := ht0.nox
  have nps := len _ _ _ _ want
  have keepB : ∀ (b : Addr) (o : Obj), base.get? b = some o → s.heap.get? b = some o := fun b o e => (env0.bs b o e).1
  have inK : K.In s.heap := env0.mod.kin.keeps keepB
  have noLim : s.heap.NoLimit := env0.mod.nolimit.keeps keepB
  have kinds : ∀ y ∈ ps.zip us, (defScope st).names.lookup y.1 = some .local ∨
      ((defScope st).names.lookup y.1 = some .cell ∧ ((cellsFrom (s.heap.objs.size + 1) (defScope st).names []).lookup y.1).isSome = true) := by
    rintro ⟨n, v⟩ hy
    exact (S.par n (List.of_mem_zip hy).1).imp id fun q => ⟨q, PySem.W.cellsFrom_some _ _ _ (.inl q)⟩
  refine codeAny_call_function hr.depth (inK _ _ lk) rfl S.co S.gen rfl (PySem.W.codeRec_of inK hcd)
    (bound _ _ _ _ (wpAny_newFunctionEnv_cells S.kind kinds fun env he s1 made => ?_))
  subst he
  refine ⟨noLim.keeps made.toInCall.keep, codeAny_func ?_⟩
  have first : Inv (cxOf CX0 P w K mg base N qual (defScope st) f cdv A [] s H E) [] (start N vs) H s1 :=
    inv_start S hr.hd env0 nps rel made
  refine wpAny_mono (ht.run [] s1 (start N vs) H _ first post) (fun fl s' got => ?_) fun e s' got => got
  cases fl with
  | ret u =>
    obtain ⟨v, σ', H', J, rv, q⟩ := got
    exact ⟨v, H', J.os, J.bare, J.base, J.hok, rv, q⟩
  | next =>
    obtain ⟨σ', H', J, q⟩ := got
    exact ⟨V.non, H', J.os, J.bare, J.base, J.hok, rfl, q⟩
  | brk =>
    rcases got with ⟨_, _, _, no⟩
    exact no.elim
  | cont =>
    rcases got with ⟨_, _, _, no⟩
    exact no.elim
/-- the law is called with its script -/
theorem law_at {fa a : Addr} {fd : FuncData} {x : Str} {sp : Sp} {s₁ : Shared} {mb : Str → Option Value} {vs : List Value} {ns : List Int}
    (inK : K.In s₁.heap) (nsG : s₁.heap.Ns mainGlobals mg) (nsB : s₁.heap.Ns builtinsNs mb) (boot : ∀ x : Str, x ≠ "__name__" → mb x = bootBuiltins x) (noLim : s₁.heap.NoLimit) (noGen : s₁.gens = #[])
    (hScr : s₁.heap.get? a = some { cls := .type "list", data := .seq vs.toArray }) (whole : IntsAre vs ns) (short : ns.length ≤ sizeLine)
    (F : ∀ base : Heap, K.In base → base.Ns mainGlobals mg → AtA P w K mg base callerA fa fd [x] sp) (hbind : ∀ (s : Shared) (u : Value), BindsTo s fd ⟨[u], []⟩ [(x, u)])
    (hsp : ∀ H : Hp, Only H → SqL K H a (ns.map V.int) → sp [.ref a] H (fun v _ => v = .bl true) fun _ _ _ => False) :
    codeAny (model P w) callerA (.call (.ref fa) ⟨[.ref a], []⟩) (fun r s' => r = .ok (.ret (.bool true)) ∧ OldK s₁.heap s'.heap ∧ s'.os = s₁.os ∧ AllBare s'.gens) s₁ := by
  have rv : Vals (ns.map V.int) vs := vals_ints whole
  -- H tracks the script at most
  suffices core : ∃ H : Hp, Only H ∧ SqL K H a (ns.map V.int) ∧ HOk P w H s₁.heap ∧ (∀ b, H b ≠ none → b = a) ∧ (H a ≠ none → K.lookup a = none) by
    obtain ⟨H, only, hS, hok, onlyA, notK⟩ := core
    have seen : ∀ {b : Addr} {o : Obj}, s₁.heap.get? b = some o → (∀ vs' n, o.data ≠ .seq vs' n) → H b = none := by
      intro b o e d
      cases q : H b with
      | none => rfl
      | some u =>
        obtain rfl : b = a := onlyA b (by rw [q]; simp)
        rw [hScr] at e
        cases e
        exact absurd rfl (d _ _)
    have nsOf : ∀ {b : Addr} {m : Str → Option Value}, s₁.heap.Ns b m → (hidT s₁.heap H).Ns b m := by
      rintro b m ⟨o, es, ep, e, d, r⟩
      exact ⟨o, es, ep, hidT_get e (seen e fun _ _ z => by rw [d] at z; cases z), d, r⟩
    have inB : K.In (hidT s₁.heap H) := fun b o e => hidT_get (inK b o e) (by
      cases q : H b with
      | none => rfl
      | some u =>
        obtain rfl : b = a := onlyA b (by rw [q]; simp)
        rw [notK (by rw [q]; simp)] at e
        cases e)
    have hMod : Mod K mg (hidT s₁.heap H) := ⟨inB, nsOf nsG, ⟨mb, nsOf nsB, boot⟩, let ⟨mc, h1, h2⟩ := noLim; ⟨mc, nsOf h1, h2⟩⟩
    have env0 : Env0 P w K mg (hidT s₁.heap H) callerA [] s₁ H :=
      ⟨rfl, hMod, fun b o e => of_hidT e, Nat.le_of_eq (hidT_size _ _), trivial, fun b hb => absurd (show b ∈ ([] : List Addr) from hb) (by simp), hok, .of_eq noGen⟩
    refine codeAny_mono (F _ inB (nsOf nsG) s₁ H ⟨[.ref a], []⟩ [.ref a] [.ref a] _ _ env0 (hbind s₁ (.ref a)) (.cons rfl .nil) (hsp H only hS)) fun r s' h => ?_
    rcases r with e | fl
    · exact False.elim h
    · rcases fl with _ | _ | _ | u
      all_goals try exact False.elim h
      obtain ⟨v, H', os, bare, un, hok', ru, rfl⟩ := h
      obtain rfl : u = Value.bool true := ru
      refine ⟨rfl, OldK.of_keep fun b o e => ?_, os, bare⟩
      rcases only b with q | ⟨ob, xs, q⟩
      · exact un.keep b o e q (fun z => absurd (show b ∈ ([] : List Addr) from z) (by simp)) (by simp)
      · obtain ⟨g1, _⟩ := hok b _ q
        obtain ⟨g2, _⟩ := hok' b _ (un.frzs b ob _ q)
        rw [e] at g1
        cases g1
        exact g2
  cases hk : K.lookup a with
  | some o =>
    have e := inK a o hk
    rw [hScr] at e
    cases e
    exact ⟨fun _ => none, fun _ => .inl rfl, .inr ⟨_, vs.toArray, _, hk, rfl, rfl, rfl, by rw [List.size_toArray, whole.length]; exact short, by simpa using rv⟩, fun b u z => by simp at z, fun b z => absurd rfl z, fun z => absurd rfl z⟩
  | none =>
    refine ⟨fun b => if b = a then some (.frz { cls := .type "list", data := .seq vs.toArray } (.lst (ns.map V.int))) else none, fun b => ?_, .inl (.inr ⟨{ cls := .type "list", data := .seq vs.toArray }, if_pos rfl⟩), fun b u z => ?_, fun b z => ?_, fun _ => rfl⟩
    · by_cases hb : b = a
      · exact .inr ⟨_, _, if_pos hb⟩
      · exact .inl (if_neg hb)
    · by_cases hb : b = a
      · subst hb
        simp only [if_true, Option.some.injEq] at z
        subst z
        exact ⟨hScr, by rw [List.length_map]; exact short, vs, _, rv, hScr⟩
      · simp [hb] at z
    · by_cases hb : b = a
      · exact hb
      · simp [hb] at z
/-- the goal that the head leaves, from the law's promise at its caller -/
theorem walk_at {l : PySem.W.OpenLaw} {n : Nat} {q : Program} {loose : List Str} {XP : (Str → Option Value) → Heap → Prop} {YP : World → Heap → Prop} {d : DefRec} {KK : Params → PySem.W.Frag} {sp : World → Sp} {x : Str}
    (hn : l.most = some n) (hn2 : n ≤ sizeLine) (hdf : d.params.defaults = []) (hY : ∀ (w : World) (h : Heap), YP w h → (KK w.params).In h)
    (F : ∀ (w : World) (mg : Str → Option Value) (fa : Addr) (h : Heap), (KK w.params).In h → h.Ns mainGlobals mg → mg d.name = some (.ref fa) →
      ∃ fd : FuncData, (∀ (s : Shared) (u : Value), BindsTo s fd ⟨[u], []⟩ [(x, u)]) ∧
        ∀ base : Heap, (KK w.params).In base → base.Ns mainGlobals mg → AtA l.prog w (KK w.params) mg base callerA fa fd [x] (sp w))
    (hsp : ∀ (w : World) (H : Hp) (a : Addr) (ns : List Int), ns.length ≤ n → Only H → SqL (KK w.params) H a (ns.map V.int) → sp w [.ref a] H (fun v _ => v = .bl true) fun _ _ _ => False) :
    PySem.W.WalkO q loose XP YP l.row.toRowW d [] (fun f vs => PySem.call f vs) := by
  refine Att.attach_call hn hdf fun w s₀ s₁ mg mb fa o pm cd doc a vs ns G Y ho hd hcd hmg hobj hints hlen hg => ?_
  obtain ⟨fd, bindF, runF⟩ := F w mg fa _ (hY w _ Y) G.T.g hmg
  exact law_at (hY w _ Y) G.T.g G.T.b G.T.builtins G.T.nolimit hg hobj hints (Nat.le_trans hlen hn2) runF bindF fun H only hS => hsp w H a ns hlen only hS
end
end DL
set_option maxHeartbeats 4000000
/-! two new lists on one line; a loop whose iterable reads a list of one's own -/
namespace DL
open PySem PySem.Spec PyProof.Rows L2
section
variable {K : PySem.W.Frag} {pn : Pn} {G0 H0 G H : Hp} {σ : L2.St} {ρ : DL.Env} {O : List Nat} {n : Nat}
theorem Sat.fresh (S : Sat K pn G0 H0 G H σ ρ O n) {a : Addr} (ha : H a = none) : H0 a = none := by
  cases z : H0 a with
  | none => rfl
  | some u =>
    exfalso
    by_cases hp : ∀ p c, pn = some (p, c) → a ≠ p
    · rw [S.ex a u z hp] at ha
      cases ha
    · apply hp
      intro p c e q
      obtain ⟨x, y, hx, _⟩ := (S.pst p c e).1.lst
      rw [← q, ha] at hx
      cases hx
/-- a step that leaves every list one's own -/
theorem Sat.go (S : Sat K pn G0 H0 G H σ ρ O n) {H' G' : Hp} {n' : Nat} (g : Go pn G H H' n') (h1 : Sub G G') (h2 : Sub G' (ext G H H')) : Sat K pn G0 H0 G' H' σ ρ O n' := by
  have hE : Sub (ext G H H') H' := ext_sub S.sub S.pst g.ex
  obtain ⟨A, own, inj⟩ := S.own
  refine ⟨h2.trans hE, S.g0.trans h1, fun a o h => ?_, S.ex.trans g.ex, fun p c e => ⟨g.pen p c e, ?_, ?_⟩, S.p0, ⟨A, fun i hi => ?_, inj⟩, fun i d hi hd => ?_, S.len⟩
  · have h := h2 _ _ h
    cases z : G a with
    | some u =>
      rw [ext_some z] at h
      cases h
      exact S.fr _ _ z
    | none =>
      cases z2 : H a with
      | some u =>
        rw [ext_old z z2] at h
        cases h
      | none => exact .inr (S.fresh z2)
  · cases z : G' p with
    | none => rfl
    | some u =>
      have z := h2 _ _ z
      obtain ⟨⟨⟨x, y, hx, _⟩, _, _⟩, gp, gc⟩ := S.pst p c e
      rw [ext_old gp hx] at z
      cases z
  · cases z : G' c with
    | none => rfl
    | some u =>
      have z := h2 _ _ z
      obtain ⟨⟨_, ⟨ns, hx, _⟩, _⟩, gp, gc⟩ := S.pst p c e
      rw [ext_old gc hx] at z
      cases z
  · obtain ⟨⟨ds, vs, e1, e2, e3, e4⟩, e5, e6⟩ := own i hi
    refine ⟨⟨ds, vs, e1, e2, g.ex _ _ e3 fun p c e => (S.pne e6 p c e).1, Reps.mono h1 _ _ e4⟩, ?_, e6⟩
    cases z : G' (A i) with
    | none => rfl
    | some u =>
      have z := h2 _ _ z
      rw [ext_old e5 e3] at z
      cases z
  · obtain ⟨v, e1, e2⟩ := S.env i d hi hd
    exact ⟨v, e1, Rep.mono h1 _ _ e2⟩
end
section
variable {X : Cx} {Ol O O' O'' : List Nat}
def sPar2 (O'' : List Nat) (i j : Nat) (Ta Tb : TDs) : TDS := fun Dd ρ n => Ta (hide O'' ρ) n fun ds n => Tb (hide O'' ρ) n fun es n => (i < ρ.length ∧ j < ρ.length) ∧ Dd.nx ((ρ.set i (some (.lst ds))).set j (some (.lst es))) n
theorem s_par2 {st : Stmt} {a b : Expr} {i j : Nat} {Ta Tb : TDs} (O'' : List Nat) (mk : ∀ ta, PA X [a, b] ta → PS X st (tPar i j ta)) (h : LD X a Ta) (h2 : LD X b Tb) (hij : i ≠ j := by decide) (hO : ∀ i ∈ O'', i ∈ O := by decide)
    (hs : starEach [a, b] X.env = (false, eval a X.env) :: starEach [b] X.env := by rfl) (hs2 : starEach [b] X.env = (false, eval b X.env) :: starEach [] X.env := by rfl) : S1 X Ol O st (j :: (i :: O''.filter (· ∉ [i])).filter (· ∉ [j])) (sPar2 O'' i j Ta Tb) := by
  obtain ⟨t, p, k⟩ := h
  obtain ⟨t2, p2, k2⟩ := h2
  refine ⟨_, mk _ (pa_cons p (pa_cons p2 pa_nil hs2) hs), fun σ H G G0 H0 pn n ρ Dd S hT E ke => ?_⟩
  obtain ⟨Ge, s1, _, A, st⟩ := S.step O'' hO
  refine k σ H Ge pn n _ _ A hT _ fun x H1 ds n1 hx L hT2 => ?_
  have g1 : Sub Ge (Fz Ge H x H1) := Fz_le A.sub hx
  have S1 := st H1 (Fz Ge H x H1) n1 L.go g1 Fz_ext_le
  obtain ⟨vs, hv, rv⟩ := L.ls
  have A2 : At X.K pn (Fz Ge H x H1) H1 σ (hide O'' ρ) n1 := ⟨S1.sub, S1.pst, fun i d hd => by
    obtain ⟨v, e1, e2⟩ := A.env i d hd
    exact ⟨v, e1, Rep.mono g1 _ _ e2⟩, A.len⟩
  refine k2 σ H1 _ pn n1 _ _ A2 hT2 _ fun y H2 es n2 hy L2 hq => ?_
  obtain ⟨⟨hi, hj⟩, hq⟩ := hq
  have g2 : Sub (Fz Ge H x H1) (Fz (Fz Ge H x H1) H1 y H2) := Fz_le A2.sub hy
  have S2 := S1.go L2.go g2 Fz_ext_le
  obtain ⟨ws, hw, rw2⟩ := L2.ls
  have xH0 := S.fresh hx
  have yH0 := S1.fresh hy
  have hxy : x ≠ y := fun e => by
    rw [e, hy] at hv
    cases hv
  have hv2 : H2 x = some (.lst vs) := L2.go.ex _ _ hv fun p c e => (S.pne xH0 p c e).1
  have xg : (Fz (Fz Ge H x H1) H1 y H2) x = none := by
    rw [Fz_ne hxy]
    exact ext_old Fz_D hv
  have only : ∀ (z : Addr), H z = none → ∀ j ∈ O'', ∀ c, OwnAt X.K pn H0 (Fz (Fz Ge H x H1) H1 y H2) H2 σ ρ j c → c ≠ z := fun z hz j hj c hc e => by
    obtain ⟨es', ws', e1, e2, e3, _⟩ := hc.ex
    obtain ⟨B, own, _⟩ := S.own
    obtain ⟨es2, ws2, f1, f2, f3, _⟩ := (own j (hO j hj)).ex
    rw [e2] at f2
    cases f2
    rw [e, hz] at f3
    cases f3
  have hyH : H y = none := by
    cases z : H y with
    | none => rfl
    | some u =>
      exfalso
      by_cases hp : ∀ p c, pn = some (p, c) → y ≠ p
      · rw [L.go.ex y u z hp] at hy
        cases hy
      · apply hp
        intro p c e q
        obtain ⟨m1, m2, hm, _⟩ := (L.go.pen p c e).lst
        rw [← q, hy] at hm
        cases hm
  have S3 := S2.setOwn i hv2 xg xH0 (Reps.mono g2 _ _ rv) (only x hx) hi
  have S4 := S3.setOwn j hw Fz_D yH0 rw2 (fun m hm c hc e => ?_) (by simpa using hj)
  · exact ⟨.ref x, .ref y, rfl, ke.nx _ H2 _ _ n2 ((s1.trans g1).trans g2) S4 hq⟩
  · rcases List.mem_cons.mp hm with rfl | hm
    · obtain ⟨es', ws', e1, e2, e3, _⟩ := hc.ex
      have hl : m < σ.length := by rw [S.len]; exact hi
      rw [List.getElem?_set_self hl] at e2
      cases e2
      exact hxy e
    · obtain ⟨hm1, hm2⟩ := List.mem_filter.mp hm
      have hm3 : m ≠ i := by simpa using hm2
      obtain ⟨es', ws', e1, e2, e3, _⟩ := hc.ex
      rw [List.getElem?_set_ne (Ne.symm hm3)] at e2
      obtain ⟨B, own, _⟩ := S.own
      obtain ⟨es2, ws2, f1, f2, f3, _⟩ := (own m (hO m hm1)).ex
      rw [e2] at f2
      cases f2
      rw [e, hyH] at f3
      cases f3
/-- what is walked hangs on tuples alone -/
def WDp (X : Cx) (tg iter : Expr) (T : TDs) : Prop := ∃ wi, PI X tg iter wi ∧ ∀ (σ : L2.St) (H G : Hp) (pn : Pn) (n : Nat) (ρ : DL.Env) (q : List D → Nat → Prop), At X.K pn G H σ ρ n → T ρ n q →
  ∀ R : It → Hp → Prop, (∀ J ds n' H', Go pn G H H' n' → q ds n' → (∀ Gf, TupLe (ext G H H') Gf → Walks X.K pn J Gf ds) → R J H') → wi σ H R
def wEnumP (Ta : TDs) : TDs := fun ρ n q => Ta ρ n fun as n => ∃ ds, as = [.tup ds] ∧ pureDs ds = true ∧ q (enumD 0 ds) n
theorem TupLe.sqT {K : PySem.W.Frag} {G G' : Hp} (t : TupLe G G') {a : Addr} {vs : List V} (h : SqT K G a vs) : SqT K G' a vs := by
  rcases h with h | h
  · exact .inl (t _ _ h)
  · exact .inr h
theorem wdp_enum {e : Expr} {Ta : TDs} {p pos tpos : Pos} {elts : List Expr} {kk : Nat} (B : NoB X.mg) (hg : Gl X "enumerate") (ha : AD X [e] Ta) (hs : starEach [e] X.env = [(false, eval e X.env)] := by rfl) : WDp X (.Tuple elts kk tpos) (.Call (.Name "enumerate" p) [e] [] pos) (wEnumP Ta) := by
  obtain ⟨t, pa, k⟩ := ha
  refine ⟨_, pi_enumA hg (B _ (by decide)) pa hs, fun σ H G pn n ρ q A hT R kr => ?_⟩
  refine k σ H G pn n ρ _ A hT _ fun vs H1 ⟨as, n1, g1, r1, ds, hd, hp, hq⟩ => ?_
  subst hd
  have A1 := A.go g1
  obtain ⟨v, rfl, a, ws, rfl, h2, h3⟩ := reps1 r1
  exact ⟨a, ws, rfl, .inr ⟨A1.sub.sqT h2, kr _ _ n1 H1 g1 hq fun Gf tl => walks_enumT (tl.sqT h2) (Reps.pure tl _ _ hp h3)⟩⟩
def wTupP (Ta : TD) : TDs := fun ρ n q => Ta ρ n fun d n => ∃ ds, d = .tup ds ∧ pureDs ds = true ∧ q ds n
theorem wdp_tup {tg e : Expr} {T : TD} (h : ED X e T) : WDp X tg e (wTupP T) := by
  obtain ⟨t, p, k⟩ := h
  refine ⟨_, pi_tup p, fun σ H G pn n ρ q A hT R kr => ?_⟩
  refine k σ H G pn n ρ _ A hT _ fun v H1 ⟨d, n1, g1, r1, ds, e, hp, hq⟩ => ?_
  subst e
  obtain ⟨a, vs, rfl, h1, h2⟩ := r1
  have A1 := A.go g1
  exact ⟨a, rfl, ⟨vs, A1.sub.sqT h1⟩, kr _ ds n1 H1 g1 hq fun Gf tl => walks_tup (tl.sqT h1) (Reps.pure tl _ _ hp h2)⟩
theorem wdp_rng1 {tg a : Expr} {Ta : TDs} {p pos : Pos} (B : NoB X.mg) (hg : Gl X "range") (ha : AD X [a] Ta) (hs : starEach [a] X.env = [(false, eval a X.env)] := by rfl) : WDp X tg (.Call (.Name "range" p) [a] [] pos) (wRng1 Ta) := by
  obtain ⟨t, pa, k⟩ := ha
  refine ⟨_, pi_range1 hg (B _ (by decide)) pa hs, fun σ H G pn n ρ q A hT R kr => ?_⟩
  refine k σ H G pn n ρ _ A hT _ fun vs H1 ⟨ds, n1, g1, r1, j, e, b1, b2, hq⟩ => ?_
  subst e
  obtain ⟨v, rfl, h1⟩ := reps1 r1
  exact ⟨j, by rw [show v = .int j from h1], b1, b2, kr _ _ n1 H1 g1 hq fun Gf _ => walks_rng⟩
theorem wdp_rng2 {tg a b : Expr} {Ta : TDs} {p pos : Pos} (B : NoB X.mg) (hg : Gl X "range") (ha : AD X [a, b] Ta) (hs : starEach [a, b] X.env = [(false, eval a X.env), (false, eval b X.env)] := by rfl) (hs2 : starEach [b] X.env = [(false, eval b X.env)] := by rfl) : WDp X tg (.Call (.Name "range" p) [a, b] [] pos) (wRng2 Ta) := by
  obtain ⟨t, pa, k⟩ := ha
  refine ⟨_, pi_range2 hg (B _ (by decide)) pa hs hs2, fun σ H G pn n ρ q A hT R kr => ?_⟩
  refine k σ H G pn n ρ _ A hT _ fun vs H1 ⟨ds, n1, g1, r1, i, j, e, b1, hq⟩ => ?_
  subst e
  obtain ⟨v, w, rfl, h1, h2⟩ := reps2 r1
  exact ⟨i, j, by rw [show v = .int i from h1, show w = .int j from h2], b1, kr _ _ n1 H1 g1 hq fun Gf _ => walks_rng⟩
def sForP (Tw : TDs) (f : D → DL.Env → Option DL.Env) (Tb : TDS) : TDS := fun Dd ρ n => Tw ρ n fun ds n => forD f Tb Dd ds ρ n
theorem s_forP {tg iter : Expr} {body : List Stmt} {pos : Pos} {g : TG} {f : D → DL.Env → Option DL.Env} {ts : List Nat} {Tw : TDs} {Tb : TDS} (Ob : List Nat) (hp : PassesOwn (model X.prog X.w) X.A X.env X.xe) (hc : X.calm = true) (hw : WDp X tg iter Tw) (hg : PG X tg g) (tr : TgRun X.K g f ts) (hb : SD X O O body Ob Tb)
    (hts : ∀ i ∈ ts, i ∉ O := by decide) (hOb : ∀ i ∈ O, i ∈ Ob := by decide) (hfs : ∀ x, foldedSetIterable iter X.env x = pure x := by intro _; rfl) : S1 X Ol O (.For tg iter body [] pos) O (sForP Tw f Tb) := by
  obtain ⟨wi, pi, kw⟩ := hw
  obtain ⟨tb, pb, kb⟩ := hb
  refine ⟨_, ps_for hp hc pi hg pb hfs, fun σ H G G0 H0 pn n ρ Dd S hT E ke => ?_⟩
  obtain ⟨Ge, s1, A, st⟩ := S.stepP
  refine kw σ H Ge pn n _ _ A hT _ fun J ds n1 H1 g1 hq w0 => ?_
  obtain ⟨Gf, s2, sfH, mk, tl, _⟩ := st H1 n1 g1
  have w := w0 _ tl
  have S1 := mk _ sub_ext (Sub.refl _)
  have filt : O.filter (· ∉ ts) = O := List.filter_eq_self.mpr fun i hi => decide_eq_true fun z => hts i z hi
  refine ⟨fun i m σ' H' => ∃ ρ' n' G', m = ds.length - i ∧ i ≤ ds.length ∧ Sat X.K pn G0 H0 G' H' σ' ρ' O n' ∧ Sub (ext Gf H H1) G' ∧ forD f Tb Dd (ds.drop i) ρ' n', ⟨ds.length, ρ, n1, _, by simp, Nat.zero_le _, S1, Sub.refl _, hq⟩, ?_⟩
  rintro i m σ' H' ⟨ρ', n', G', rfl, hi, S2, sG, hf⟩
  by_cases hlt : i < ds.length
  · refine .inr ⟨w.go i H' (sG.trans S2.sub) hlt, fun σ3 H3 => ∃ ρ3 n3 G3, Sat X.K pn G0 H0 G3 H3 σ3 ρ3 O n3 ∧ Sub (ext Gf H H1) G3 ∧ forD f Tb Dd (ds.drop (i + 1)) ρ3 n3, fun σ3 H3 ⟨a, b, c, x, y, z⟩ => ⟨ds.length - (i + 1), by omega, a, b, c, rfl, hlt, x, y, z⟩, fun x H3 y => ?_⟩
    obtain ⟨s3, y3⟩ := w.yld i H' x H3 (sG.trans S2.sub) y
    rw [show ds.drop i = ds[i] :: ds.drop (i + 1) from List.drop_eq_getElem_cons hlt] at hf
    obtain ⟨ρ4, hρ, hb4⟩ := hf
    have gx : Go pn G' H' H3 n' := Go.of_sub S2.pst s3
    have S3 := S2.go gx sub_ext (Sub.refl _)
    have r3 := y3 ds[i] (List.getElem?_eq_getElem hlt) G' sG S2.sub
    refine tr.run σ' H3 _ pn O x ds[i] ρ' ρ4 S3.sub r3 hρ S3.env S3.len _ fun σ5 env5 l1 l2 same => ?_
    have S5 := S3.set env5 l1 l2 same
    rw [filt] at S5
    have sG5 : Sub (ext Gf H H1) (ext G' H' H3) := sG.trans sub_ext
    refine kb σ5 H3 _ G0 H0 pn n' ρ4 _ S5 hb4 _ ⟨fun σ6 H6 G6 ρ6 n6 s6 S6 h6 => ?_, ke.rt, fun σ6 H6 G6 ρ6 n6 s6 S6 h6 => ?_, fun σ6 H6 G6 ρ6 n6 s6 S6 h6 => ?_⟩
    · obtain ⟨G7, s7, S7⟩ := S6.weak O hOb
      exact ⟨ρ6, n6, G7, S7, (sG5.trans s6).trans s7, h6⟩
    · exact ke.nx σ6 H6 G6 ρ6 n6 (((s2.trans sub_ext).trans sG5).trans s6) S6 h6
    · exact ⟨ρ6, n6, G6, S6, sG5.trans s6, h6⟩
  · refine .inl ⟨w.stop i H' (sG.trans S2.sub) (by omega), ?_⟩
    rw [List.drop_eq_nil_of_le (by omega)] at hf
    exact ke.nx σ' H' G' ρ' n' ((s2.trans sub_ext).trans sG) S2 hf
end
end DL
set_option maxHeartbeats 4000000
namespace DL
open PySem PySem.Spec PyProof.Rows L2
/-- nothing is promised -/
theorem fn_none {P : Program} {w : World} {K : PySem.W.Frag} {mg : Str → Option Value} {base : Heap} {k np : Nat} {f : Addr} {fd : FuncData} {ps : List Str} (h : ps.length = np := by rfl) : FnOk P w K mg base CX0 k f fd ps (lift K np fun _ _ _ => False) :=
  ⟨fun vs H Q E q => by rw [h]; exact q.1, fun A outer s H args us vs Q E _ _ _ _ ⟨_, _, _, _, _, _, _, _, _, no, _⟩ => no.elim⟩
end DL
set_option maxHeartbeats 4000000
/-! the law's own body: its first row makes the pen -/
namespace DL
open PySem PySem.Spec PyProof.Rows L2
def LawRun (X : Cx) (body : List Stmt) (O' : List Nat) (T1 T2 : TDS) : Prop := ∃ t u, PSs X body (tSeq t u) ∧ RunS X.K t [] [] [] T1 ∧ RunS X.K u [] [] O' T2
theorem law_cons {X : Cx} {st : Stmt} {rest : List Stmt} {O' : List Nat} {T1 T2 : TDS} (h1 : S1 X [] [] st [] T1) (h2 : SD X [] [] rest O' T2) : LawRun X (st :: rest) O' T1 T2 := by
  obtain ⟨t, p, k⟩ := h1
  obtain ⟨u, p2, k2⟩ := h2
  exact ⟨t, u, pss_cons p p2, k, k2⟩
def endFirst (i m : Nat) : DE := ⟨fun ρ n => n = 0 ∧ ρ.length = m ∧ ∃ cs : List Int, cs.length ≤ 12 ∧ ρ[i]? = some (some (.lst [.lst (cs.map D.int), .int 0, .int 0])), fun _ _ => False, fun _ _ => False, fun _ _ => False⟩
def endLaw : DE := ⟨fun _ _ => False, fun d _ => d = .bl true, fun _ _ => False, fun _ _ => False⟩
def penE (i m : Nat) : DL.Env := (List.replicate m none).set i (some .pen)
theorem penE_get {i m j : Nat} {d : D} (h : (penE i m)[j]? = some (some d)) : j = i ∧ d = .pen := by
  unfold penE at h
  by_cases hj : i = j
  · subst hj
    have hl : i < m := by
      have := (List.getElem?_eq_some_iff.mp h).1
      simpa using this
    rw [List.getElem?_set_self (by simpa using hl)] at h
    cases h
    exact ⟨rfl, rfl⟩
  · rw [List.getElem?_set_ne hj, List.getElem?_replicate] at h
    split at h <;> cases h
theorem law_run {X : Cx} {body : List Stmt} {O' : List Nat} {T1 T2 : TDS} {N : List Str} {a : Addr} {ns : List Int} {H : Hp} {i m : Nat} (R : LawRun X body O' T1 T2) (hm : N.length = m) (h1m : 1 ≤ m) (hS : SqL X.K H a (ns.map V.int))
    (hT1 : T1 (endFirst i m) (startE m [.scr ns]) 0) (hT2 : T2 endLaw (penE i m) 0) {Q : VK} (hQ : ∀ H', Q (.bl true) H') :
    ∃ t, PSs X body t ∧ t { nx := fun _ H' => Q .non H', rt := Q } (start N [.ref a]) H := by
  obtain ⟨t, u, p, k1, k2⟩ := R
  refine ⟨_, p, ?_⟩
  have r0 : Reps X.K none H [.ref a] [.scr ns] := ⟨.ref a, [], rfl, ⟨a, rfl, hS⟩, rfl⟩
  have S0 : Sat X.K none H H H H (start N [.ref a]) (startE m [.scr ns]) [] 0 := ⟨Sub.refl _, Sub.refl _, fun a o h => .inl h, Ex.refl _ _, fun p c e => (by cases e), fun p c e => (by cases e), ⟨fun _ => 0, fun i hi => absurd hi (by simp), fun i hi => absurd hi (by simp)⟩, by rw [← hm]; exact env_start r0, by
    unfold L2.start startE
    simp only [List.length_append, List.length_map, List.length_replicate, List.length_cons, List.length_nil]
    omega⟩
  refine k1 _ H H H H none 0 _ (endFirst i m) S0 hT1 _ ⟨fun σ1 H1 G1 ρ1 n1 s1 Sa hn => ?_, fun v H1 hp => ?_, fun _ _ _ _ _ _ _ no => no.elim, fun _ _ _ _ _ _ _ no => no.elim⟩
  · obtain ⟨rfl, hl, cs, hc, hρ⟩ := hn
    obtain ⟨v, hv, rp⟩ := Sa.env i _ (by simp) hρ
    obtain ⟨p, vs, rfl, hp, rvs⟩ := rp
    obtain ⟨v1, w1, rfl, ⟨c, us, rfl, hcc, rcs⟩, v2, w2, rfl, r2, v3, w3, rfl, r3, hw⟩ := rvs
    obtain rfl : v2 = .int 0 := r2
    obtain rfl : v3 = .int 0 := r3
    obtain rfl : w3 = [] := hw
    have hus := Reps.ints.mp rcs
    subst hus
    have Hp := Sa.sub _ _ hp
    have Hc := Sa.sub _ _ hcc
    have ne : p ≠ c := fun e => by
      rw [e, Hc] at Hp
      cases cs with
      | nil => cases Hp
      | cons z zs => cases Hp
    have li : i < m := by
      have := (List.getElem?_eq_some_iff.mp hρ).1
      omega
    have Sb : Sat X.K (some (p, c)) (fun _ => none) H1 (fun _ => none) H1 σ1 (penE i m) [] 0 := by
      refine ⟨fun a o h => (by cases h), fun a o h => (by cases h), fun a o h => (by cases h), Ex.refl _ _, fun p' c' e => ?_, fun p' c' e => ?_, ⟨fun _ => 0, fun i hi => absurd hi (by simp), fun i hi => absurd hi (by simp)⟩, fun j d _ hd => ?_, ?_⟩
      · cases e
        exact ⟨⟨⟨0, 0, Hp, by omega, by omega⟩, ⟨cs, Hc, hc⟩, ne⟩, rfl, rfl⟩
      · cases e
        exact ⟨⟨_, Hp⟩, ⟨_, Hc⟩⟩
      · obtain ⟨rfl, rfl⟩ := penE_get hd
        exact ⟨_, hv, p, c, rfl, rfl⟩
      · rw [Sa.len, hl]
        simp [penE]
    refine k2 σ1 H1 _ _ _ (some (p, c)) 0 _ endLaw Sb hT2 _ ⟨fun _ _ _ _ _ _ _ no => no.elim, fun v H2 hp2 => ?_, fun _ _ _ _ _ _ _ no => no.elim, fun _ _ _ _ _ _ _ no => no.elim⟩
    obtain ⟨d, n2, g2, rd, hd⟩ := hp2
    have hd : d = .bl true := hd
    subst hd
    obtain rfl : v = .bl true := rd
    exact hQ H2
  · obtain ⟨d, n2, g2, rd, hd⟩ := hp
    exact hd.elim
end DL
set_option maxHeartbeats 4000000
/-! the end: what the top has left, by names -/
namespace DL
open PySem PySem.Spec PyProof.Rows L2
theorem ent_of {K : PySem.W.Frag} {mg : Str → Option Value} {x : Str} {st : Stmt} {ps : List Str} {f : Addr} {oc : Value} {od an : Option Addr} {osl : Array (Option Value)} {kV doc pm cdv ct : Value}
    (l : K.lookup f = some ⟨oc, od, .func (PySem.W.fnOf x x (defArgs st) (defBody st) (defScope st) .none kV doc pm an cdv ct), osl⟩) (c : PySem.W.codeIn K cdv x = true) (k : PySem.W.keepIn K (.ref f) = true) (g : mg x = some (.ref f))
    (hb : ∀ (kV doc pm : Value) (an : Option Addr) (cdv ct : Value) (us : List Value), us.length = ps.length → bindArgs (PySem.W.fnOf x x (defArgs st) (defBody st) (defScope st) .none kV doc pm an cdv ct) ⟨us, []⟩ = pure (ps.zip us)) :
    Ent K mg x st ps f (PySem.W.fnOf x x (defArgs st) (defBody st) (defScope st) .none kV doc pm an cdv ct) := ⟨fun_mk l c k, (fun_mk l c k).binds hb, g⟩
def builtL : List Str := ["len", "isinstance", "tuple", "list", "enumerate", "all", "any", "sorted", "set", "zip", "int", "range", "min", "max", "repr", "sum", "str", "bool", "dict"]
theorem noB_of {K : PySem.W.Frag} {mg : Str → Option Value} {h : Heap} {rest : List He.Fa} {fn : List He.FnD} (X : K.In h) (G : h.Ns mainGlobals mg) (c : He.SaysE (builtL.map He.Fa.free ++ rest) fn K) : NoB mg := fun x hx => by
  obtain ⟨i, hi⟩ := List.mem_iff_getElem?.mp (show x ∈ builtL from hx)
  refine He.free_ok X G (c.fact i ?_)
  rw [List.getElem?_append_left (by
    have := (List.getElem?_eq_some_iff.mp hi).1
    simpa using this), List.getElem?_map, hi]
  rfl
/-- a law's end over a head by facts, at its caller -/
theorem walk_atE {l : PySem.W.OpenLaw} {n : Nat} {q : Program} {loose : List Str} {XP : (Str → Option Value) → Heap → Prop} {YP : World → Heap → Prop} {d : DefRec} {x : Str}
    (hn : l.most = some n) (hn2 : n ≤ sizeLine) (hdf : d.params.defaults = [])
    (F : ∀ (w : World) (mg : Str → Option Value) (fa : Addr) (h : Heap), YP w h → h.Ns mainGlobals mg → mg d.name = some (.ref fa) →
      ∃ (K : PySem.W.Frag) (fd : FuncData) (sp : Sp), K.In h ∧ (∀ (s : Shared) (u : Value), BindsTo s fd ⟨[u], []⟩ [(x, u)]) ∧
        (∀ (H : Hp) (a : Addr) (ns : List Int), ns.length ≤ n → Only H → SqL K H a (ns.map V.int) → sp [.ref a] H (fun v _ => v = .bl true) fun _ _ _ => False) ∧
        ∀ base : Heap, K.In base → base.Ns mainGlobals mg → AtA l.prog w K mg base callerA fa fd [x] sp) :
    PySem.W.WalkO q loose XP YP l.row.toRowW d [] (fun f vs => PySem.call f vs) := by
  refine Att.attach_call hn hdf fun w s₀ s₁ mg mb fa o pm cd doc a vs ns G Y ho hd hcd hmg hobj hints hlen hg => ?_
  obtain ⟨K, fd, sp, inK, bindF, want, runF⟩ := F w mg fa _ Y G.T.g hmg
  exact law_at inK G.T.g G.T.b G.T.builtins G.T.nolimit hg hobj hints (Nat.le_trans hlen hn2) runF bindF fun H only hS => want H a ns hlen only hS
end DL
set_option maxHeartbeats 4000000
/-! reading the worth of a def over data -/
namespace DL
open PySem PySem.Spec PyProof.Rows L2
theorem startE_nil (m : Nat) : startE m [] = List.replicate m none := by simp [startE]
end DL
set_option maxHeartbeats 4000000
namespace K01
open PySem PySem.Spec PyProof.Rows L2 DL
def topS (i : Nat) : Stmt := PySem.Challenge.pw_watchzones_k01_schemes_recognized.main.body.getD i (.Pass ⟨0, 0, 0, 0⟩)
section
variable {P : Program} {w : World} {K : PySem.W.Frag} {mg : Str → Option Value} {base : Heap}

abbrev s_is_integer : Stmt := topS 1
theorem sc_is_integer : FnScope ["value"] ["value"] (defScope s_is_integer) := ⟨rfl, rfl, rfl, by decide +kernel, rfl, by decide +kernel, by decide +kernel⟩
def T_is_integer : FT := fnD 1 1 (sRet (tAndD (tIsi "int" (tVarD 0)) (tNotD (tIsi "bool" (tVarD 0)))))
theorem ok_is_integer (B : NoB mg) {f_is_integer : Addr} {fd_is_integer : FuncData} (E_is_integer : Ent K mg "is_integer" s_is_integer ["value"] f_is_integer fd_is_integer) : FnOk P w K mg base CX0 1 f_is_integer fd_is_integer ["value"] (lift K 1 T_is_integer) := by
  refine fn_D 1 1 rfl rfl (by decide) E_is_integer.F sc_is_integer fun cdv A outer s H E hr => ⟨[], ?_⟩
  have nd := sc_is_integer.nd
  exact (s_one (s_ret (ed_and (ed_isi (T := "int") B (by decide +kernel) (by rfl) (by rfl) (by decide) (by decide +kernel) (ed_var (pv 0))) (ed_one (ed_not (ed_isi (T := "bool") B (by decide +kernel) (by rfl) (by rfl) (by decide) (by decide +kernel) (ed_var (pv 0))))))))

abbrev s_lies_between : Stmt := topS 2
theorem sc_lies_between : FnScope ["value", "low", "high"] ["value", "low", "high"] (defScope s_lies_between) := ⟨rfl, rfl, rfl, by decide +kernel, rfl, by decide +kernel, by decide +kernel⟩
def T_lies_between : FT := fnD 3 3 (sRet (tAndD (tCallD T_is_integer (aCons (tVarD 0) aNil)) (tChainD leD leD (tVarD 1) (tVarD 0) (tVarD 2))))
theorem ok_lies_between (B : NoB mg) {f_is_integer : Addr} {fd_is_integer : FuncData} (E_is_integer : Ent K mg "is_integer" s_is_integer ["value"] f_is_integer fd_is_integer) (G_is_integer : FnOk P w K mg base CX0 1 f_is_integer fd_is_integer ["value"] (lift K 1 T_is_integer)) {f_lies_between : Addr} {fd_lies_between : FuncData} (E_lies_between : Ent K mg "lies_between" s_lies_between ["value", "low", "high"] f_lies_between fd_lies_between) : FnOk P w K mg base CX0 2 f_lies_between fd_lies_between ["value", "low", "high"] (lift K 3 T_lies_between) := by
  refine fn_D 3 3 rfl rfl (by decide) E_lies_between.F sc_lies_between fun cdv A outer s H E hr => ⟨[], ?_⟩
  have nd := sc_lies_between.nd
  exact (s_one (s_ret (ed_and (ed_call G_is_integer (by first | exact hr | exact hr.mono (by decide) | exact hr.mono (by omega)) (by rfl) E_is_integer.g E_is_integer.F.kp E_is_integer.b (ad_cons (ed_var (pv 0)) ad_nil) (fun _ _ _ h => h.1)) (ed_one (ed_chain op_le op_le o2_cmpI o2_cmpI (ed_var (pv 1)) (ed_var (pv 0)) (ed_var (pv 2)))))))

abbrev s_is_tuple_of : Stmt := topS 3
theorem sc_is_tuple_of : FnScope ["value", "many"] ["value", "many"] (defScope s_is_tuple_of) := ⟨rfl, rfl, rfl, by decide +kernel, rfl, by decide +kernel, by decide +kernel⟩
def T_is_tuple_of : FT := fnD 2 2 (sRet (tAndD (tIsi "tuple" (tVarD 0)) (tOpD eqD (tCallB lenD (aCons (tVarD 0) aNil)) (tVarD 1))))
theorem ok_is_tuple_of (B : NoB mg) {f_is_tuple_of : Addr} {fd_is_tuple_of : FuncData} (E_is_tuple_of : Ent K mg "is_tuple_of" s_is_tuple_of ["value", "many"] f_is_tuple_of fd_is_tuple_of) : FnOk P w K mg base CX0 1 f_is_tuple_of fd_is_tuple_of ["value", "many"] (lift K 2 T_is_tuple_of) := by
  refine fn_D 2 2 rfl rfl (by decide) E_is_tuple_of.F sc_is_tuple_of fun cdv A outer s H E hr => ⟨[], ?_⟩
  have nd := sc_is_tuple_of.nd
  exact (s_one (s_ret (ed_and (ed_isi (T := "tuple") B (by decide +kernel) (by rfl) (by rfl) (by decide) (by decide +kernel) (ed_var (pv 0))) (ed_one (ed_cmp ((op_eqD hr.units).or op_eq) (nomark _) o2_eq (ed_len B (by rfl) (ad_cons (ed_var (pv 0)) ad_nil)) (ed_var (pv 1)))))))

abbrev s_picked : Stmt := topS 4
theorem sc_picked : FnScope ["row", "columns", "column"] ["row", "columns"] (defScope s_picked) := ⟨rfl, rfl, rfl, by decide +kernel, rfl, by decide +kernel, by decide +kernel⟩
def T_picked : FT := fnD 2 3 (sRet (tCallB tupleD (aCons (tComp (wAny (tVarD 1)) (fName 2) bYes (tOpD ixD (tVarD 0) (tVarD 2)) [2]) aNil)))
theorem ok_picked (B : NoB mg) {f_picked : Addr} {fd_picked : FuncData} (E_picked : Ent K mg "picked" s_picked ["row", "columns"] f_picked fd_picked) : FnOk P w K mg base CX0 1 f_picked fd_picked ["row", "columns"] (lift K 2 T_picked) := by
  refine fn_D 2 3 rfl rfl (by decide) E_picked.F sc_picked fun cdv A outer s H E hr => ⟨[], ?_⟩
  have nd := sc_picked.nd
  exact (s_one (s_ret (ed_tuple B (by rfl) (ad_cons (ed_lc (own := [("column", 2)]) (by rfl) nd (wd_seq (ed_var (pv 1))) (blkOk_by (N := ["row", "columns", "column"]) (sc := defScope s_picked) (by decide +kernel)) (tr_name 2) (fun _ _ _ _ _ => (pg_name (i := 2) nd rfl (by first | exact .inl rfl | exact .inr rfl))) (fun _ _ _ _ _ => ts_nil) (fun _ _ _ _ _ => (ed_ix (ed_var (pv 0)) (ed_var (pv 2))))) ad_nil))))

abbrev s__are_bounds : Stmt := topS 10
theorem sc__are_bounds : FnScope ["value", "bound"] ["value"] (defScope s__are_bounds) := ⟨rfl, rfl, rfl, by decide +kernel, rfl, by decide +kernel, by decide +kernel⟩
def T__are_bounds : FT := fnD 1 2 (sSeq (sIf (bNot (bVal (tCallD T_is_tuple_of (aCons (tVarD 0) (aCons (tCD (.int 2)) aNil))))) (sRet (tCD (.bl false))) sNil) (sSeq (sIf (bNot (bVal (tCallB allD (aCons (tComp (wAny (tVarD 0)) (fName 1) bYes (tCallD T_lies_between (aCons (tVarD 1) (aCons (tOp1D negD (tCD (.int 1000000))) (aCons (tCD (.int 1000000)) aNil)))) [1]) aNil)))) (sRet (tCD (.bl false))) sNil) (sRet (tOpD leD (tOpD ixD (tVarD 0) (tCD (.int 0))) (tOpD ixD (tVarD 0) (tCD (.int 1)))))))
theorem ok__are_bounds (B : NoB mg) {f_is_tuple_of : Addr} {fd_is_tuple_of : FuncData} (E_is_tuple_of : Ent K mg "is_tuple_of" s_is_tuple_of ["value", "many"] f_is_tuple_of fd_is_tuple_of) (G_is_tuple_of : FnOk P w K mg base CX0 1 f_is_tuple_of fd_is_tuple_of ["value", "many"] (lift K 2 T_is_tuple_of)) {f_lies_between : Addr} {fd_lies_between : FuncData} (E_lies_between : Ent K mg "lies_between" s_lies_between ["value", "low", "high"] f_lies_between fd_lies_between) (G_lies_between : FnOk P w K mg base CX0 2 f_lies_between fd_lies_between ["value", "low", "high"] (lift K 3 T_lies_between)) {tk_GREATEST_BOUND : Tok} (c_GREATEST_BOUND : mg "GREATEST_BOUND" = some (.int 1000000 tk_GREATEST_BOUND)) {f__are_bounds : Addr} {fd__are_bounds : FuncData} (E__are_bounds : Ent K mg "_are_bounds" s__are_bounds ["value"] f__are_bounds fd__are_bounds) : FnOk P w K mg base CX0 3 f__are_bounds fd__are_bounds ["value"] (lift K 1 T__are_bounds) := by
  refine fn_D 1 2 rfl rfl (by decide) E__are_bounds.F sc__are_bounds fun cdv A outer s H E hr => ⟨[], ?_⟩
  have nd := sc__are_bounds.nd
  exact (s_cons (s_if (bd_not (bd_valT (ed_call G_is_tuple_of (by first | exact hr | exact hr.mono (by decide) | exact hr.mono (by omega)) (by rfl) E_is_tuple_of.g E_is_tuple_of.F.kp E_is_tuple_of.b (ad_cons (ed_var (pv 0)) (ad_cons ed_int ad_nil)) (fun _ _ _ h => h.1)))) (s_one (s_ret ed_bl)) s_nil) (s_cons (s_if (bd_not (bd_valT (ed_all B (by rfl) (by rfl) (ad_cons (ed_lc (own := [("bound", 1)]) (by rfl) nd (wd_seq (ed_var (pv 0))) (blkOk_by (N := ["value", "bound"]) (sc := defScope s__are_bounds) (by decide +kernel)) (tr_name 1) (fun _ _ _ _ _ => (pg_name (i := 1) nd rfl (by first | exact .inl rfl | exact .inr rfl))) (fun _ _ _ _ _ => ts_nil) (fun _ _ _ _ _ => (ed_call G_lies_between (by first | exact hr | exact hr.mono (by decide) | exact hr.mono (by omega)) (by rfl) E_lies_between.g E_lies_between.F.kp E_lies_between.b (ad_cons (ed_var (pv 1)) (ad_cons (ed_neg (ed_c (pe_glob (v := .int 1000000) (by rfl) c_GREATEST_BOUND ⟨_, rfl⟩) fun _ _ => rfl)) (ad_cons (ed_c (pe_glob (v := .int 1000000) (by rfl) c_GREATEST_BOUND ⟨_, rfl⟩) fun _ _ => rfl) ad_nil))) (fun _ _ _ h => h.1)))) ad_nil)))) (s_one (s_ret ed_bl)) s_nil) (s_one (s_ret (ed_cmp op_le (nomark _) o2_cmpI (ed_ix (ed_var (pv 0)) ed_int) (ed_ix (ed_var (pv 0)) ed_int))))))

abbrev s__are_columns : Stmt := topS 9
theorem sc__are_columns : FnScope ["value", "bounds"] ["value"] (defScope s__are_columns) := ⟨rfl, rfl, rfl, by decide +kernel, rfl, by decide +kernel, by decide +kernel⟩
def T__are_columns : FT := fnD 1 2 (sSeq (sIf (bOr (bNot (bVal (tIsi "tuple" (tVarD 0)))) (bNot (bChain leD leD (tCD (.int 1)) (tCallB lenD (aCons (tVarD 0) aNil)) (tCD (.int 4))))) (sRet (tCD (.bl false))) sNil) (sRet (tCallB allD (aCons (tComp (wAny (tVarD 0)) (fName 1) bYes (tCallD T__are_bounds (aCons (tVarD 1) aNil)) [1]) aNil))))
theorem ok__are_columns (B : NoB mg) {f__are_bounds : Addr} {fd__are_bounds : FuncData} (E__are_bounds : Ent K mg "_are_bounds" s__are_bounds ["value"] f__are_bounds fd__are_bounds) (G__are_bounds : FnOk P w K mg base CX0 3 f__are_bounds fd__are_bounds ["value"] (lift K 1 T__are_bounds)) {f__are_columns : Addr} {fd__are_columns : FuncData} (E__are_columns : Ent K mg "_are_columns" s__are_columns ["value"] f__are_columns fd__are_columns) : FnOk P w K mg base CX0 4 f__are_columns fd__are_columns ["value"] (lift K 1 T__are_columns) := by
  refine fn_D 1 2 rfl rfl (by decide) E__are_columns.F sc__are_columns fun cdv A outer s H E hr => ⟨[], ?_⟩
  have nd := sc__are_columns.nd
  exact (s_cons (s_if (bd_w (wb_or (bd_not (bd_valT (ed_isi (T := "tuple") B (by decide +kernel) (by rfl) (by rfl) (by decide) (by decide +kernel) (ed_var (pv 0))))) (wb_or1 (bd_not (bd_chain op_le op_le o2_cmpI o2_cmpI ed_int (ed_len B (by rfl) (ad_cons (ed_var (pv 0)) ad_nil)) ed_int))))) (s_one (s_ret ed_bl)) s_nil) (s_one (s_ret (ed_all B (by rfl) (by rfl) (ad_cons (ed_lc (own := [("bounds", 1)]) (by rfl) nd (wd_seq (ed_var (pv 0))) (blkOk_by (N := ["value", "bounds"]) (sc := defScope s__are_columns) (by decide +kernel)) (tr_name 1) (fun _ _ _ _ _ => (pg_name (i := 1) nd rfl (by first | exact .inl rfl | exact .inr rfl))) (fun _ _ _ _ _ => ts_nil) (fun _ _ _ _ _ => (ed_call G__are_bounds (by first | exact hr | exact hr.mono (by decide) | exact hr.mono (by omega)) (by rfl) E__are_bounds.g E__are_bounds.F.kp E__are_bounds.b (ad_cons (ed_var (pv 1)) ad_nil) (fun _ _ _ h => h.1)))) ad_nil)))))

abbrev s__are_different_columns : Stmt := topS 12
theorem sc__are_different_columns : FnScope ["value", "many", "column"] ["value", "many"] (defScope s__are_different_columns) := ⟨rfl, rfl, rfl, by decide +kernel, rfl, by decide +kernel, by decide +kernel⟩
def T__are_different_columns : FT := fnD 2 3 (sSeq (sIf (bNot (bVal (tCallB allD (aCons (tComp (wAny (tVarD 0)) (fName 2) bYes (tCallD T_lies_between (aCons (tVarD 2) (aCons (tCD (.int 0)) (aCons (tOpD subD (tVarD 1) (tCD (.int 1))) aNil)))) [2]) aNil)))) (sRet (tCD (.bl false))) sNil) (sRet (tOpD eqD (tOp1D lensetD (tVarD 0)) (tCallB lenD (aCons (tVarD 0) aNil)))))
theorem ok__are_different_columns (B : NoB mg) {f_lies_between : Addr} {fd_lies_between : FuncData} (E_lies_between : Ent K mg "lies_between" s_lies_between ["value", "low", "high"] f_lies_between fd_lies_between) (G_lies_between : FnOk P w K mg base CX0 2 f_lies_between fd_lies_between ["value", "low", "high"] (lift K 3 T_lies_between)) {f__are_different_columns : Addr} {fd__are_different_columns : FuncData} (E__are_different_columns : Ent K mg "_are_different_columns" s__are_different_columns ["value", "many"] f__are_different_columns fd__are_different_columns) : FnOk P w K mg base CX0 3 f__are_different_columns fd__are_different_columns ["value", "many"] (lift K 2 T__are_different_columns) := by
  refine fn_D 2 3 rfl rfl (by decide) E__are_different_columns.F sc__are_different_columns fun cdv A outer s H E hr => ⟨[], ?_⟩
  have nd := sc__are_different_columns.nd
  exact (s_cons (s_if (bd_not (bd_valT (ed_all B (by rfl) (by rfl) (ad_cons (ed_lc (own := [("column", 2)]) (by rfl) nd (wd_seq (ed_var (pv 0))) (blkOk_by (N := ["value", "many", "column"]) (sc := defScope s__are_different_columns) (by decide +kernel)) (tr_name 2) (fun _ _ _ _ _ => (pg_name (i := 2) nd rfl (by first | exact .inl rfl | exact .inr rfl))) (fun _ _ _ _ _ => ts_nil) (fun _ _ _ _ _ => (ed_call G_lies_between (by first | exact hr | exact hr.mono (by decide) | exact hr.mono (by omega)) (by rfl) E_lies_between.g E_lies_between.F.kp E_lies_between.b (ad_cons (ed_var (pv 2)) (ad_cons ed_int (ad_cons (ed_sub (ed_var (pv 1)) ed_int) ad_nil))) (fun _ _ _ h => h.1)))) ad_nil)))) (s_one (s_ret ed_bl)) s_nil) (s_one (s_ret (ed_cmp ((op_eqD hr.units).or op_eq) (nomark _) o2_eq (ed_lenset B (by rfl) (by rfl) (by rfl) (ed_var (pv 0))) (ed_len B (by rfl) (ad_cons (ed_var (pv 0)) ad_nil))))))

abbrev s__is_key : Stmt := topS 11
theorem sc__is_key : FnScope ["value", "many"] ["value", "many"] (defScope s__is_key) := ⟨rfl, rfl, rfl, by decide +kernel, rfl, by decide +kernel, by decide +kernel⟩
def T__is_key : FT := fnD 2 2 (sSeq (sIf (bOr (bNot (bVal (tIsi "tuple" (tVarD 0)))) (bNot (bChain leD leD (tCD (.int 1)) (tCallB lenD (aCons (tVarD 0) aNil)) (tCD (.int 2))))) (sRet (tCD (.bl false))) sNil) (sRet (tAndD (tCallD T__are_different_columns (aCons (tVarD 0) (aCons (tVarD 1) aNil))) (tOpD eqD (tCallB listD (aCons (tVarD 0) aNil)) (tCallB sortedAD (aCons (tVarD 0) aNil))))))
theorem ok__is_key (B : NoB mg) {f__are_different_columns : Addr} {fd__are_different_columns : FuncData} (E__are_different_columns : Ent K mg "_are_different_columns" s__are_different_columns ["value", "many"] f__are_different_columns fd__are_different_columns) (G__are_different_columns : FnOk P w K mg base CX0 3 f__are_different_columns fd__are_different_columns ["value", "many"] (lift K 2 T__are_different_columns)) {f__is_key : Addr} {fd__is_key : FuncData} (E__is_key : Ent K mg "_is_key" s__is_key ["value", "many"] f__is_key fd__is_key) : FnOk P w K mg base CX0 4 f__is_key fd__is_key ["value", "many"] (lift K 2 T__is_key) := by
  refine fn_D 2 2 rfl rfl (by decide) E__is_key.F sc__is_key fun cdv A outer s H E hr => ⟨[], ?_⟩
  have nd := sc__is_key.nd
  exact (s_cons (s_if (bd_w (wb_or (bd_not (bd_valT (ed_isi (T := "tuple") B (by decide +kernel) (by rfl) (by rfl) (by decide) (by decide +kernel) (ed_var (pv 0))))) (wb_or1 (bd_not (bd_chain op_le op_le o2_cmpI o2_cmpI ed_int (ed_len B (by rfl) (ad_cons (ed_var (pv 0)) ad_nil)) ed_int))))) (s_one (s_ret ed_bl)) s_nil) (s_one (s_ret (ed_and (ed_call G__are_different_columns (by first | exact hr | exact hr.mono (by decide) | exact hr.mono (by omega)) (by rfl) E__are_different_columns.g E__are_different_columns.F.kp E__are_different_columns.b (ad_cons (ed_var (pv 0)) (ad_cons (ed_var (pv 1)) ad_nil)) (fun _ _ _ h => h.1)) (ed_one (ed_cmp ((op_eqD hr.units).or op_eq) (nomark _) o2_eq (ed_list B (by rfl) (ad_cons (ed_var (pv 0)) ad_nil)) (ed_sortedA B (by rfl) (ad_cons (ed_var (pv 0)) ad_nil))))))))

abbrev s__is_reference : Stmt := topS 13
theorem sc__is_reference : FnScope ["value", "columns", "earlier", "own", "number", "referred_columns", "key", "references", "pairs", "own_low", "own_high", "low", "high"] ["value", "columns", "earlier"] (defScope s__is_reference) := ⟨rfl, rfl, rfl, by decide +kernel, rfl, by decide +kernel, by decide +kernel⟩
def T__is_reference : FT := fnD 3 13 (sSeq (sIf (bNot (bVal (tCallD T_is_tuple_of (aCons (tVarD 0) (aCons (tCD (.int 2)) aNil))))) (sRet (tCD (.bl false))) sNil) (sSeq (sAsg [] (fTup 2 (fsCons (fName 3) (fsCons (fName 4) fsNil))) (tVarD 0)) (sSeq (sIf (bNot (bVal (tCallD T_lies_between (aCons (tVarD 4) (aCons (tCD (.int 0)) (aCons (tOpD subD (tCallB lenD (aCons (tVarD 2) aNil)) (tCD (.int 1))) aNil)))))) (sRet (tCD (.bl false))) sNil) (sSeq (sAsg [] (fTup 3 (fsCons (fName 5) (fsCons (fName 6) (fsCons (fName 7) fsNil)))) (tOpD ixD (tVarD 2) (tVarD 4))) (sSeq (sIf (bOr (bCmp neD (tVarD 7) (tTupD aNil)) (bNot (bVal (tCallD T_is_tuple_of (aCons (tVarD 3) (aCons (tCallB lenD (aCons (tVarD 6) aNil)) aNil)))))) (sRet (tCD (.bl false))) sNil) (sSeq (sIf (bNot (bVal (tCallD T__are_different_columns (aCons (tVarD 3) (aCons (tCallB lenD (aCons (tVarD 1) aNil)) aNil))))) (sRet (tCD (.bl false))) sNil) (sSeq (sAsg [] (fName 8) (tList_zip2 (aCons (tCallD T_picked (aCons (tVarD 1) (aCons (tVarD 3) aNil))) (aCons (tCallD T_picked (aCons (tVarD 5) (aCons (tVarD 6) aNil))) aNil)))) (sRet (tCallB allD (aCons (tComp (wAny (tVarD 8)) (fTup 2 (fsCons (fTup 2 (fsCons (fName 9) (fsCons (fName 10) fsNil))) (fsCons (fTup 2 (fsCons (fName 11) (fsCons (fName 12) fsNil))) fsNil))) bYes (tAndD (tOpD leD (tVarD 11) (tVarD 9)) (tOpD leD (tVarD 10) (tVarD 12))) [9, 10, 11, 12]) aNil))))))))))
theorem ok__is_reference (B : NoB mg) {f__are_different_columns : Addr} {fd__are_different_columns : FuncData} (E__are_different_columns : Ent K mg "_are_different_columns" s__are_different_columns ["value", "many"] f__are_different_columns fd__are_different_columns) (G__are_different_columns : FnOk P w K mg base CX0 3 f__are_different_columns fd__are_different_columns ["value", "many"] (lift K 2 T__are_different_columns)) {f_is_tuple_of : Addr} {fd_is_tuple_of : FuncData} (E_is_tuple_of : Ent K mg "is_tuple_of" s_is_tuple_of ["value", "many"] f_is_tuple_of fd_is_tuple_of) (G_is_tuple_of : FnOk P w K mg base CX0 1 f_is_tuple_of fd_is_tuple_of ["value", "many"] (lift K 2 T_is_tuple_of)) {f_lies_between : Addr} {fd_lies_between : FuncData} (E_lies_between : Ent K mg "lies_between" s_lies_between ["value", "low", "high"] f_lies_between fd_lies_between) (G_lies_between : FnOk P w K mg base CX0 2 f_lies_between fd_lies_between ["value", "low", "high"] (lift K 3 T_lies_between)) {f_picked : Addr} {fd_picked : FuncData} (E_picked : Ent K mg "picked" s_picked ["row", "columns"] f_picked fd_picked) (G_picked : FnOk P w K mg base CX0 1 f_picked fd_picked ["row", "columns"] (lift K 2 T_picked)) {f__is_reference : Addr} {fd__is_reference : FuncData} (E__is_reference : Ent K mg "_is_reference" s__is_reference ["value", "columns", "earlier"] f__is_reference fd__is_reference) : FnOk P w K mg base CX0 4 f__is_reference fd__is_reference ["value", "columns", "earlier"] (lift K 3 T__is_reference) := by
  refine fn_D 3 13 rfl rfl (by decide) E__is_reference.F sc__is_reference fun cdv A outer s H E hr => ⟨[], ?_⟩
  have nd := sc__is_reference.nd
  exact (s_cons (s_if (bd_not (bd_valT (ed_call G_is_tuple_of (by first | exact hr | exact hr.mono (by decide) | exact hr.mono (by omega)) (by rfl) E_is_tuple_of.g E_is_tuple_of.F.kp E_is_tuple_of.b (ad_cons (ed_var (pv 0)) (ad_cons ed_int ad_nil)) (fun _ _ _ h => h.1)))) (s_one (s_ret ed_bl)) s_nil) (s_cons (s_asg [] (fun _ h => ps_asg h (pg_tup (by rfl) (pgs_cons (pg_name (i := 3) nd rfl (by first | exact .inl rfl | exact .inr rfl)) (pgs_cons (pg_name (i := 4) nd rfl (by first | exact .inl rfl | exact .inr rfl)) pgs_nil)))) (ed_var (pv 0)) (tr_tup 2 (trs_cons (tr_name 3) (trs_cons (tr_name 4) trs_nil)))) (s_cons (s_if (bd_not (bd_valT (ed_call G_lies_between (by first | exact hr | exact hr.mono (by decide) | exact hr.mono (by omega)) (by rfl) E_lies_between.g E_lies_between.F.kp E_lies_between.b (ad_cons (ed_var (pv 4)) (ad_cons ed_int (ad_cons (ed_sub (ed_len B (by rfl) (ad_cons (ed_var (pv 2)) ad_nil)) ed_int) ad_nil))) (fun _ _ _ h => h.1)))) (s_one (s_ret ed_bl)) s_nil) (s_cons (s_asg [] (fun _ h => ps_asg h (pg_tup (by rfl) (pgs_cons (pg_name (i := 5) nd rfl (by first | exact .inl rfl | exact .inr rfl)) (pgs_cons (pg_name (i := 6) nd rfl (by first | exact .inl rfl | exact .inr rfl)) (pgs_cons (pg_name (i := 7) nd rfl (by first | exact .inl rfl | exact .inr rfl)) pgs_nil))))) (ed_ix (ed_var (pv 2)) (ed_var (pv 4))) (tr_tup 3 (trs_cons (tr_name 5) (trs_cons (tr_name 6) (trs_cons (tr_name 7) trs_nil))))) (s_cons (s_if (bd_w (wb_or (bd_cmpT ((op_neD hr.units).or op_ne) (nomark _) o2_ne (ed_var (pv 7)) (ed_tupT ad_nil)) (wb_or1 (bd_not (bd_valT (ed_call G_is_tuple_of (by first | exact hr | exact hr.mono (by decide) | exact hr.mono (by omega)) (by rfl) E_is_tuple_of.g E_is_tuple_of.F.kp E_is_tuple_of.b (ad_cons (ed_var (pv 3)) (ad_cons (ed_len B (by rfl) (ad_cons (ed_var (pv 6)) ad_nil)) ad_nil)) (fun _ _ _ h => h.1))))))) (s_one (s_ret ed_bl)) s_nil) (s_cons (s_if (bd_not (bd_valT (ed_call G__are_different_columns (by first | exact hr | exact hr.mono (by decide) | exact hr.mono (by omega)) (by rfl) E__are_different_columns.g E__are_different_columns.F.kp E__are_different_columns.b (ad_cons (ed_var (pv 3)) (ad_cons (ed_len B (by rfl) (ad_cons (ed_var (pv 1)) ad_nil)) ad_nil)) (fun _ _ _ h => h.1)))) (s_one (s_ret ed_bl)) s_nil) (s_cons (s_asg [] (fun _ h => ps_set (i := 8) nd rfl (by first | exact .inl rfl | exact .inr rfl) h) (ed_list_zip2 B (by rfl) (by rfl) (by rfl) (ad_cons (ed_call G_picked (by first | exact hr | exact hr.mono (by decide) | exact hr.mono (by omega)) (by rfl) E_picked.g E_picked.F.kp E_picked.b (ad_cons (ed_var (pv 1)) (ad_cons (ed_var (pv 3)) ad_nil)) (fun _ _ _ h => h.1)) (ad_cons (ed_call G_picked (by first | exact hr | exact hr.mono (by decide) | exact hr.mono (by omega)) (by rfl) E_picked.g E_picked.F.kp E_picked.b (ad_cons (ed_var (pv 5)) (ad_cons (ed_var (pv 6)) ad_nil)) (fun _ _ _ h => h.1)) ad_nil))) (tr_name 8)) (s_one (s_ret (ed_all B (by rfl) (by rfl) (ad_cons (ed_lc (own := [("own_low", 9), ("own_high", 10), ("low", 11), ("high", 12)]) (by rfl) nd (wd_seq (ed_var (pv 8))) (blkOk_by (N := ["value", "columns", "earlier", "own", "number", "referred_columns", "key", "references", "pairs", "own_low", "own_high", "low", "high"]) (sc := defScope s__is_reference) (by decide +kernel)) (tr_tup 2 (trs_cons (tr_tup 2 (trs_cons (tr_name 9) (trs_cons (tr_name 10) trs_nil))) (trs_cons (tr_tup 2 (trs_cons (tr_name 11) (trs_cons (tr_name 12) trs_nil))) trs_nil))) (fun _ _ _ _ _ => (pg_tup (by rfl) (pgs_cons (pg_tup (by rfl) (pgs_cons (pg_name (i := 9) nd rfl (by first | exact .inl rfl | exact .inr rfl)) (pgs_cons (pg_name (i := 10) nd rfl (by first | exact .inl rfl | exact .inr rfl)) pgs_nil))) (pgs_cons (pg_tup (by rfl) (pgs_cons (pg_name (i := 11) nd rfl (by first | exact .inl rfl | exact .inr rfl)) (pgs_cons (pg_name (i := 12) nd rfl (by first | exact .inl rfl | exact .inr rfl)) pgs_nil))) pgs_nil)))) (fun _ _ _ _ _ => ts_nil) (fun _ _ _ _ _ => (ed_and (ed_cmp op_le (nomark _) o2_cmpI (ed_var (pv 11)) (ed_var (pv 9))) (ed_one (ed_cmp op_le (nomark _) o2_cmpI (ed_var (pv 10)) (ed_var (pv 12))))))) ad_nil)))))))))))

abbrev s__is_table : Stmt := topS 8
theorem sc__is_table : FnScope ["value", "earlier", "columns", "key", "references", "reference"] ["value", "earlier"] (defScope s__is_table) := ⟨rfl, rfl, rfl, by decide +kernel, rfl, by decide +kernel, by decide +kernel⟩
def T__is_table : FT := fnD 2 6 (sSeq (sIf (bNot (bVal (tCallD T_is_tuple_of (aCons (tVarD 0) (aCons (tCD (.int 3)) aNil))))) (sRet (tCD (.bl false))) sNil) (sSeq (sAsg [] (fTup 3 (fsCons (fName 2) (fsCons (fName 3) (fsCons (fName 4) fsNil)))) (tVarD 0)) (sSeq (sIf (bOr (bNot (bVal (tCallD T__are_columns (aCons (tVarD 2) aNil)))) (bNot (bVal (tCallD T__is_key (aCons (tVarD 3) (aCons (tCallB lenD (aCons (tVarD 2) aNil)) aNil)))))) (sRet (tCD (.bl false))) sNil) (sSeq (sIf (bOr (bNot (bVal (tIsi "tuple" (tVarD 4)))) (bCmp gtD (tCallB lenD (aCons (tVarD 4) aNil)) (tCD (.int 2)))) (sRet (tCD (.bl false))) sNil) (sRet (tCallB allD (aCons (tComp (wAny (tVarD 4)) (fName 5) bYes (tCallD T__is_reference (aCons (tVarD 5) (aCons (tVarD 2) (aCons (tVarD 1) aNil)))) [5]) aNil)))))))
theorem ok__is_table (B : NoB mg) {f__are_columns : Addr} {fd__are_columns : FuncData} (E__are_columns : Ent K mg "_are_columns" s__are_columns ["value"] f__are_columns fd__are_columns) (G__are_columns : FnOk P w K mg base CX0 4 f__are_columns fd__are_columns ["value"] (lift K 1 T__are_columns)) {f__is_key : Addr} {fd__is_key : FuncData} (E__is_key : Ent K mg "_is_key" s__is_key ["value", "many"] f__is_key fd__is_key) (G__is_key : FnOk P w K mg base CX0 4 f__is_key fd__is_key ["value", "many"] (lift K 2 T__is_key)) {f__is_reference : Addr} {fd__is_reference : FuncData} (E__is_reference : Ent K mg "_is_reference" s__is_reference ["value", "columns", "earlier"] f__is_reference fd__is_reference) (G__is_reference : FnOk P w K mg base CX0 4 f__is_reference fd__is_reference ["value", "columns", "earlier"] (lift K 3 T__is_reference)) {f_is_tuple_of : Addr} {fd_is_tuple_of : FuncData} (E_is_tuple_of : Ent K mg "is_tuple_of" s_is_tuple_of ["value", "many"] f_is_tuple_of fd_is_tuple_of) (G_is_tuple_of : FnOk P w K mg base CX0 1 f_is_tuple_of fd_is_tuple_of ["value", "many"] (lift K 2 T_is_tuple_of)) {f__is_table : Addr} {fd__is_table : FuncData} (E__is_table : Ent K mg "_is_table" s__is_table ["value", "earlier"] f__is_table fd__is_table) : FnOk P w K mg base CX0 5 f__is_table fd__is_table ["value", "earlier"] (lift K 2 T__is_table) := by
  refine fn_D 2 6 rfl rfl (by decide) E__is_table.F sc__is_table fun cdv A outer s H E hr => ⟨[], ?_⟩
  have nd := sc__is_table.nd
  exact (s_cons (s_if (bd_not (bd_valT (ed_call G_is_tuple_of (by first | exact hr | exact hr.mono (by decide) | exact hr.mono (by omega)) (by rfl) E_is_tuple_of.g E_is_tuple_of.F.kp E_is_tuple_of.b (ad_cons (ed_var (pv 0)) (ad_cons ed_int ad_nil)) (fun _ _ _ h => h.1)))) (s_one (s_ret ed_bl)) s_nil) (s_cons (s_asg [] (fun _ h => ps_asg h (pg_tup (by rfl) (pgs_cons (pg_name (i := 2) nd rfl (by first | exact .inl rfl | exact .inr rfl)) (pgs_cons (pg_name (i := 3) nd rfl (by first | exact .inl rfl | exact .inr rfl)) (pgs_cons (pg_name (i := 4) nd rfl (by first | exact .inl rfl | exact .inr rfl)) pgs_nil))))) (ed_var (pv 0)) (tr_tup 3 (trs_cons (tr_name 2) (trs_cons (tr_name 3) (trs_cons (tr_name 4) trs_nil))))) (s_cons (s_if (bd_w (wb_or (bd_not (bd_valT (ed_call G__are_columns (by first | exact hr | exact hr.mono (by decide) | exact hr.mono (by omega)) (by rfl) E__are_columns.g E__are_columns.F.kp E__are_columns.b (ad_cons (ed_var (pv 2)) ad_nil) (fun _ _ _ h => h.1)))) (wb_or1 (bd_not (bd_valT (ed_call G__is_key (by first | exact hr | exact hr.mono (by decide) | exact hr.mono (by omega)) (by rfl) E__is_key.g E__is_key.F.kp E__is_key.b (ad_cons (ed_var (pv 3)) (ad_cons (ed_len B (by rfl) (ad_cons (ed_var (pv 2)) ad_nil)) ad_nil)) (fun _ _ _ h => h.1))))))) (s_one (s_ret ed_bl)) s_nil) (s_cons (s_if (bd_w (wb_or (bd_not (bd_valT (ed_isi (T := "tuple") B (by decide +kernel) (by rfl) (by rfl) (by decide) (by decide +kernel) (ed_var (pv 4))))) (wb_or1 (bd_cmpT op_gt (nomark _) o2_cmpI (ed_len B (by rfl) (ad_cons (ed_var (pv 4)) ad_nil)) ed_int)))) (s_one (s_ret ed_bl)) s_nil) (s_one (s_ret (ed_all B (by rfl) (by rfl) (ad_cons (ed_lc (own := [("reference", 5)]) (by rfl) nd (wd_seq (ed_var (pv 4))) (blkOk_by (N := ["value", "earlier", "columns", "key", "references", "reference"]) (sc := defScope s__is_table) (by decide +kernel)) (tr_name 5) (fun _ _ _ _ _ => (pg_name (i := 5) nd rfl (by first | exact .inl rfl | exact .inr rfl))) (fun _ _ _ _ _ => ts_nil) (fun _ _ _ _ _ => (ed_call G__is_reference (by first | exact hr | exact hr.mono (by decide) | exact hr.mono (by omega)) (by rfl) E__is_reference.g E__is_reference.F.kp E__is_reference.b (ad_cons (ed_var (pv 5)) (ad_cons (ed_var (pv 2)) (ad_cons (ed_var (pv 1)) ad_nil))) (fun _ _ _ h => h.1)))) ad_nil))))))))

abbrev s_is_scheme : Stmt := topS 7
theorem sc_is_scheme : FnScope ["value", "number", "table"] ["value"] (defScope s_is_scheme) := ⟨rfl, rfl, rfl, by decide +kernel, rfl, by decide +kernel, by decide +kernel⟩
def T_is_scheme : FT := fnD 1 3 (sSeq (sIf (bOr (bNot (bVal (tIsi "tuple" (tVarD 0)))) (bNot (bChain leD leD (tCD (.int 1)) (tCallB lenD (aCons (tVarD 0) aNil)) (tCD (.int 4))))) (sRet (tCD (.bl false))) sNil) (sSeq (sFor [] (wEnum (aCons (tVarD 0) aNil)) (fTup 2 (fsCons (fName 1) (fsCons (fName 2) fsNil))) (sIf (bNot (bVal (tCallD T__is_table (aCons (tVarD 2) (aCons (tSlD (tVarD 0) oNone (oSome (tVarD 1))) aNil))))) (sRet (tCD (.bl false))) sNil)) (sRet (tCD (.bl true)))))
theorem ok_is_scheme (B : NoB mg) {f__is_table : Addr} {fd__is_table : FuncData} (E__is_table : Ent K mg "_is_table" s__is_table ["value", "earlier"] f__is_table fd__is_table) (G__is_table : FnOk P w K mg base CX0 5 f__is_table fd__is_table ["value", "earlier"] (lift K 2 T__is_table)) {f_is_scheme : Addr} {fd_is_scheme : FuncData} (E_is_scheme : Ent K mg "is_scheme" s_is_scheme ["value"] f_is_scheme fd_is_scheme) : FnOk P w K mg base CX0 6 f_is_scheme fd_is_scheme ["value"] (lift K 1 T_is_scheme) := by
  refine fn_D 1 3 rfl rfl (by decide) E_is_scheme.F sc_is_scheme fun cdv A outer s H E hr => ⟨[], ?_⟩
  have nd := sc_is_scheme.nd
  exact (s_cons (s_if (bd_w (wb_or (bd_not (bd_valT (ed_isi (T := "tuple") B (by decide +kernel) (by rfl) (by rfl) (by decide) (by decide +kernel) (ed_var (pv 0))))) (wb_or1 (bd_not (bd_chain op_le op_le o2_cmpI o2_cmpI ed_int (ed_len B (by rfl) (ad_cons (ed_var (pv 0)) ad_nil)) ed_int))))) (s_one (s_ret ed_bl)) s_nil) (s_cons (s_for [] [] PassesOwn.never (by rfl) (wd_enum B (by rfl) (ad_cons (ed_var (pv 0)) ad_nil)) (pg_tup (by rfl) (pgs_cons (pg_name (i := 1) nd rfl (by first | exact .inl rfl | exact .inr rfl)) (pgs_cons (pg_name (i := 2) nd rfl (by first | exact .inl rfl | exact .inr rfl)) pgs_nil))) (tr_tup 2 (trs_cons (tr_name 1) (trs_cons (tr_name 2) trs_nil))) (s_one (s_if (bd_not (bd_valT (ed_call G__is_table (by first | exact hr | exact hr.mono (by decide) | exact hr.mono (by omega)) (by rfl) E__is_table.g E__is_table.F.kp E__is_table.b (ad_cons (ed_var (pv 2)) (ad_cons (ed_slice (ed_var (pv 0)) od_none (od_some (ed_var (pv 1)))) ad_nil)) (fun _ _ _ h => h.1)))) (s_one (s_ret ed_bl)) s_nil))) (s_one (s_ret ed_bl))))

abbrev s__law_open : Stmt := topS 15
theorem sc__law_open : FnScope ["script", "cells", "k", "cell"] ["script"] (defScope s__law_open) := ⟨rfl, rfl, rfl, by decide +kernel, rfl, by decide +kernel, by decide +kernel⟩
def T__law_open : FT := fnD 1 4 (sSeq (sOwn [] 1 (ldList (aCons (tSlD (tVarD 0) oNone (oSome (tCD (.int 12)))) aNil))) (sSeq (sFor [1] (wEnum (aCons (tSlD (tVarD 0) (oSome (tCD (.int 12))) (oSome (tCD (.int 63)))) aNil)) (fTup 2 (fsCons (fName 2) (fsCons (fName 3) fsNil))) (sSet 1 (tOpD addD (tOpD ixD (tVarD 1) (tOpD modD (tCallB intD (aCons (tVarD 2) aNil)) (tCD (.int 12)))) (tVarD 3)) (tOpD modD (tCallB intD (aCons (tVarD 2) aNil)) (tCD (.int 12))))) (sRet (tLstD (aCons (tVarD 1) (aCons (tCD (.int 0)) (aCons (tCD (.int 0)) aNil)))))))
theorem ok__law_open (B : NoB mg) {f__law_open : Addr} {fd__law_open : FuncData} (E__law_open : Ent K mg "_law_open" s__law_open ["script"] f__law_open fd__law_open) : FnOk P w K mg base CX0 1 f__law_open fd__law_open ["script"] (lift K 1 T__law_open) := by
  refine fn_D 1 4 rfl rfl (by decide) E__law_open.F sc__law_open fun cdv A outer s H E hr => ⟨[], ?_⟩
  have nd := sc__law_open.nd
  exact (s_cons (s_own [] (fun _ h => ps_set (i := 1) nd rfl (by first | exact .inl rfl | exact .inr rfl) h) (ld_list B (by rfl) (ad_cons (ed_slice (ed_var (pv 0)) od_none (od_some ed_int)) ad_nil))) (s_cons (s_for [1] [1] PassesOwn.never (by rfl) (wd_enum B (by rfl) (ad_cons (ed_slice (ed_var (pv 0)) (od_some ed_int) (od_some ed_int)) ad_nil)) (pg_tup (by rfl) (pgs_cons (pg_name (i := 2) nd rfl (by first | exact .inl rfl | exact .inr rfl)) (pgs_cons (pg_name (i := 3) nd rfl (by first | exact .inl rfl | exact .inr rfl)) pgs_nil))) (tr_tup 2 (trs_cons (tr_name 2) (trs_cons (tr_name 3) trs_nil))) (s_one (s_set (fun _ _ h h2 => ps_asg h (pg_sub (pv 1) h2 set_list)) (ed_add (ed_ix (ed_var (pv 1)) (ed_mod (ed_intC B (by rfl) (ad_cons (ed_var (pv 2)) ad_nil)) ed_int)) (ed_var (pv 3))) (ed_mod (ed_intC B (by rfl) (ad_cons (ed_var (pv 2)) ad_nil)) ed_int)))) (s_one (s_ret (ed_lstT (ad_cons (ed_var (pv 1)) (ad_cons ed_int (ad_cons ed_int ad_nil))))))))

abbrev s__law_spread : Stmt := topS 16
theorem sc__law_spread : FnScope ["cell", "at", "primes", "one", "two", "three"] ["cell", "at"] (defScope s__law_spread) := ⟨rfl, rfl, rfl, by decide +kernel, rfl, by decide +kernel, by decide +kernel⟩
def T__law_spread : FT := fnD 2 6 (sSeq (sIf (bCmp geD (tVarD 0) (tOpD powD (tCD (.int 10)) (tCD (.int 18)))) (sRet (tVarD 0)) sNil) (sSeq (sAsg [] (fName 2) (tLstD (aCons (tCD (.int 2147483629)) (aCons (tCD (.int 2147483587)) (aCons (tCD (.int 2147483579)) (aCons (tCD (.int 2147483563)) (aCons (tCD (.int 2147483549)) (aCons (tCD (.int 2147483543)) (aCons (tCD (.int 2147483497)) (aCons (tCD (.int 2147483489)) aNil)))))))))) (sSeq (sAsg [] (fName 2) (tOpD addD (tVarD 2) (tLstD (aCons (tCD (.int 2147483477)) (aCons (tCD (.int 2147483423)) (aCons (tCD (.int 2147483399)) (aCons (tCD (.int 2147483353)) (aCons (tCD (.int 2147483323)) aNil)))))))) (sSeq (sAsg [] (fName 3) (tOpD addD (tOpD addD (tOpD mulD (tOpD modD (tCallB intD (aCons (tVarD 0) aNil)) (tCD (.int 1000000007))) (tOpD addD (tOpD mulD (tCD (.int 2)) (tVarD 1)) (tCD (.int 69069)))) (tOpD mulD (tVarD 1) (tCD (.int 40503)))) (tCD (.int 977)))) (sSeq (sAsg [] (fName 3) (tOpD modD (tCallB intD (aCons (tOpD powD (tVarD 3) (tCD (.int 3))) aNil)) (tOpD ixD (tVarD 2) (tOpD modD (tCallB intD (aCons (tVarD 1) aNil)) (tCD (.int 13)))))) (sSeq (sAsg [] (fName 4) (tOpD modD (tCallB intD (aCons (tOpD powD (tOpD addD (tOpD addD (tOpD mulD (tVarD 3) (tOpD addD (tVarD 1) (tCD (.int 3)))) (tOpD modD (tCallB intD (aCons (tVarD 0) aNil)) (tCD (.int 65537)))) (tCD (.int 5))) (tCD (.int 5))) aNil)) (tOpD ixD (tVarD 2) (tOpD modD (tCallB intD (aCons (tOpD addD (tVarD 1) (tCD (.int 5))) aNil)) (tCD (.int 13)))))) (sSeq (sAsg [] (fName 5) (tOpD modD (tCallB intD (aCons (tOpD powD (tOpD addD (tOpD addD (tVarD 4) (tOpD modD (tCallB intD (aCons (tVarD 3) aNil)) (tCD (.int 1009)))) (tVarD 1)) (tCD (.int 3))) aNil)) (tOpD ixD (tVarD 2) (tOpD modD (tCallB intD (aCons (tOpD addD (tVarD 1) (tCD (.int 7))) aNil)) (tCD (.int 13)))))) (sRet (tOpD addD (tOpD mulD (tOpD addD (tOpD mulD (tVarD 3) (tCD (.int 2147483647))) (tVarD 4)) (tCD (.int 2147483647))) (tVarD 5))))))))))
theorem ok__law_spread (B : NoB mg) {f__law_spread : Addr} {fd__law_spread : FuncData} (E__law_spread : Ent K mg "_law_spread" s__law_spread ["cell", "at"] f__law_spread fd__law_spread) : FnOk P w K mg base CX0 1 f__law_spread fd__law_spread ["cell", "at"] (lift K 2 T__law_spread) := by
  refine fn_D 2 6 rfl rfl (by decide) E__law_spread.F sc__law_spread fun cdv A outer s H E hr => ⟨[], ?_⟩
  have nd := sc__law_spread.nd
  exact (s_cons (s_if (bd_cmpT op_ge (nomark _) o2_cmpI (ed_var (pv 0)) (ed_pow ed_int ed_int)) (s_one (s_ret (ed_var (pv 0)))) s_nil) (s_cons (s_asg [] (fun _ h => ps_set (i := 2) nd rfl (by first | exact .inl rfl | exact .inr rfl) h) (ed_lstT (ad_cons ed_int (ad_cons ed_int (ad_cons ed_int (ad_cons ed_int (ad_cons ed_int (ad_cons ed_int (ad_cons ed_int (ad_cons ed_int ad_nil))))))))) (tr_name 2)) (s_cons (s_asg [] (fun _ h => ps_set (i := 2) nd rfl (by first | exact .inl rfl | exact .inr rfl) h) (ed_add (ed_var (pv 2)) (ed_lstT (ad_cons ed_int (ad_cons ed_int (ad_cons ed_int (ad_cons ed_int (ad_cons ed_int ad_nil))))))) (tr_name 2)) (s_cons (s_asg [] (fun _ h => ps_set (i := 3) nd rfl (by first | exact .inl rfl | exact .inr rfl) h) (ed_add (ed_add (ed_mul (ed_mod (ed_intC B (by rfl) (ad_cons (ed_var (pv 0)) ad_nil)) ed_int) (ed_add (ed_mul ed_int (ed_var (pv 1))) ed_int)) (ed_mul (ed_var (pv 1)) ed_int)) ed_int) (tr_name 3)) (s_cons (s_asg [] (fun _ h => ps_set (i := 3) nd rfl (by first | exact .inl rfl | exact .inr rfl) h) (ed_mod (ed_intC B (by rfl) (ad_cons (ed_pow (ed_var (pv 3)) ed_int) ad_nil)) (ed_ix (ed_var (pv 2)) (ed_mod (ed_intC B (by rfl) (ad_cons (ed_var (pv 1)) ad_nil)) ed_int))) (tr_name 3)) (s_cons (s_asg [] (fun _ h => ps_set (i := 4) nd rfl (by first | exact .inl rfl | exact .inr rfl) h) (ed_mod (ed_intC B (by rfl) (ad_cons (ed_pow (ed_add (ed_add (ed_mul (ed_var (pv 3)) (ed_add (ed_var (pv 1)) ed_int)) (ed_mod (ed_intC B (by rfl) (ad_cons (ed_var (pv 0)) ad_nil)) ed_int)) ed_int) ed_int) ad_nil)) (ed_ix (ed_var (pv 2)) (ed_mod (ed_intC B (by rfl) (ad_cons (ed_add (ed_var (pv 1)) ed_int) ad_nil)) ed_int))) (tr_name 4)) (s_cons (s_asg [] (fun _ h => ps_set (i := 5) nd rfl (by first | exact .inl rfl | exact .inr rfl) h) (ed_mod (ed_intC B (by rfl) (ad_cons (ed_pow (ed_add (ed_add (ed_var (pv 4)) (ed_mod (ed_intC B (by rfl) (ad_cons (ed_var (pv 3)) ad_nil)) ed_int)) (ed_var (pv 1))) ed_int) ad_nil)) (ed_ix (ed_var (pv 2)) (ed_mod (ed_intC B (by rfl) (ad_cons (ed_add (ed_var (pv 1)) ed_int) ad_nil)) ed_int))) (tr_name 5)) (s_one (s_ret (ed_add (ed_mul (ed_add (ed_mul (ed_var (pv 3)) ed_int) (ed_var (pv 4))) ed_int) (ed_var (pv 5))))))))))))

abbrev s__law_take : Stmt := topS 17
theorem sc__law_take : FnScope ["pen", "amount", "at", "cell", "found"] ["pen", "amount"] (defScope s__law_take) := ⟨rfl, rfl, rfl, by decide +kernel, rfl, by decide +kernel, by decide +kernel⟩
abbrev T__law_take : FT := takeD
theorem ok__law_take (B : NoB mg) {T_s : FT} (hT : SpreadOk T_s) {ks : Nat} {f_s : Addr} {fd_s : FuncData} (E_s : Ent K mg "_law_spread" s__law_spread ["cell", "at"] f_s fd_s) (G_s : FnOk P w K mg base CX0 ks f_s fd_s ["cell", "at"] (lift K 2 T_s)) {f : Addr} {fd : FuncData} (F : Fun K "_law_take" "_law_take" s__law_take f fd) : FnOk P w K mg base CX0 (ks + 1) f fd ["pen", "amount"] (lift K 2 takeD) := by
  refine F.ok sc__law_take (fun vs H Q E h => h.1) (fun cdv A outer s H vs Q E hr h => ?_)
  obtain ⟨hl, pn, G, n, ds, q, sG, hp, r, ⟨m, rfl, hm0, hm1, hn, hq⟩, kq⟩ := h
  obtain ⟨v, w', rfl, rv, rw'⟩ := reps2 r
  obtain ⟨p, c, hpn, rfl⟩ := rv
  obtain rfl : w' = .int m := rw'
  obtain ⟨⟨⟨at0, rest0, hpl, ha0, ha1⟩, ⟨ns, hcl, hns⟩, hpc⟩, gp, gc⟩ := hp p c hpn
  have nd := sc__law_take.nd
  refine ⟨_, pss_cons (ps_if (pt_cmpR op_lt (pe_ix ix_list (pv 0) pe_int (fun _ _ => rfl)) (pv 1) (nomark _))
      (pss_cons (ps_set (i := 2) nd rfl (.inl rfl) (pe_ix ix_list (pv 0) pe_int (fun _ _ => rfl)))
      (pss_cons (ps_set (i := 3) nd rfl (.inl rfl) pe_int)
      (pss_cons (ps_if (pt_cmpR op_lt (pv 2) (pe_callB call_len_seq (by rfl) (B _ (by decide)) PySem.boot_len (pa_cons (pe_ix ix_list (pv 0) pe_int (fun _ _ => rfl)) pa_nil)) (nomark _))
          (pss_one (ps_set (i := 3) nd rfl (.inl rfl) (pe_ix ix_list (pe_ix ix_list (pv 0) pe_int (fun _ _ => rfl)) (pv 2) (fun _ _ => rfl))))
          (pss_one (ps_if (pt_cmpR op_gt (pe_callB call_len_seq (by rfl) (B _ (by decide)) PySem.boot_len (pa_cons (pe_ix ix_list (pv 0) pe_int (fun _ _ => rfl)) pa_nil)) pe_int (nomark _))
            (pss_one (ps_set (i := 3) nd rfl (.inl rfl) (pe_op op_modN (pe_callTy call_int1 (by rfl) (B _ (by decide)) (by decide +kernel) (pa_cons (pe_ix ix_list (pe_ix ix_list (pv 0) pe_int (fun _ _ => rfl)) (pe_op op_modN (pe_callTy call_int1 (by rfl) (B _ (by decide)) (by decide +kernel) (pa_cons (pe_op op_add (pe_op op_mul (pv 2) pe_int) pe_int) pa_nil)) (pe_callB call_len_seq (by rfl) (B _ (by decide)) PySem.boot_len (pa_cons (pe_ix ix_list (pv 0) pe_int (fun _ _ => rfl)) pa_nil))) (fun _ _ => rfl)) pa_nil)) (pe_op op_add (pe_op op_pow pe_int pe_int) (pv 2))))) pss_nil)))
      (pss_cons (ps_asg (pe_op op_add (pv 2) pe_int) (pg_sub (pv 0) pe_int set_list))
      (pss_one (ps_asg (pe_call G_s hr (by rfl) E_s.g E_s.F.kp E_s.b .nil pass0 (pa_cons (pv 3) (pa_cons (pv 2) pa_nil))) (pg_sub (pv 0) pe_int set_list)))))))
      pss_nil)
    (pss_cons (ps_set (i := 4) nd rfl (.inl rfl) (pe_op op_modN (pe_callTy call_int1 (by rfl) (B _ (by decide)) (by decide +kernel) (pa_cons (pe_ix ix_list (pv 0) pe_int (fun _ _ => rfl)) pa_nil)) (pv 1)))
    (pss_cons (ps_asg (pe_op op_fdiv (pe_ix ix_list (pv 0) pe_int (fun _ _ => rfl)) (pv 1)) (pg_sub (pv 0) pe_int set_list))
    (pss_one (ps_ret (pv 4))))), ?_⟩
  have last : ∀ (H' : Hp) (a' r' : Int), Ex pn H H' → H' p = some (.lst [.ref c, .int a', .int r']) → H' c = some (.lst (ns.map .int)) → 0 ≤ a' → a' ≤ ((n + 1 : Nat) : Int) → Q (.int (r'.fmod m)) (upd H' p (.lst [.ref c, .int a', .int (r' / m)])) := fun H' a' r' ex h1 h2 h3 h4 => by
    refine kq _ _ ⟨.int (r'.fmod m), n + 1, ⟨fun b o hb np => ?_, fun p' c' e => ?_⟩, rfl, hq _ (Int.fmod_nonneg_of_pos _ hm0) (Int.fmod_lt_of_pos _ hm0)⟩
    · rw [upd_ne (np p c hpn)]
      exact ex b o hb np
    · rw [hpn] at e
      cases e
      exact ⟨⟨a', r' / m, upd_same, h3, h4⟩, ⟨ns, by rw [upd_ne (Ne.symm hpc)]; exact h2, hns⟩, hpc⟩
  refine ⟨.ref p, rfl, p, _, 2, .int rest0, rfl, rfl, SqL.of hpl, rfl, .int m, rfl, rest0, m, rfl, rfl, _, rfl, ite2 (fun _ => ?_) (fun _ => ?_)⟩
  · refine ⟨.ref p, rfl, p, _, 1, .int at0, rfl, rfl, SqL.of hpl, rfl, ?_⟩
    refine ⟨.int at0, rfl, .ref p, rfl, p, _, 0, .ref c, rfl, rfl, SqL.of hpl, rfl, c, _, rfl, .inl (SqL.of hcl), at0, _, rfl, rfl, _, rfl, ite2 (fun hlt => ?_) (fun hge => ?_)⟩
    · have hlt : at0 < ((ns.map V.int).length : Int) := of_decide_eq_true hlt
      rw [List.length_map] at hlt
      have hi : at0.toNat < ns.length := by omega
      have hat : atI (ns.map V.int) at0 = some (.int ns[at0.toNat]) := by
        have h0 : (ns.map V.int)[at0.toNat]? = some (.int ns[at0.toNat]) := by rw [List.getElem?_map, List.getElem?_eq_getElem hi]; rfl
        have := atI_nat h0
        rw [show ((at0.toNat : Nat) : Int) = at0 by omega] at this
        exact this
      refine ⟨.ref p, rfl, p, _, 0, .ref c, rfl, rfl, SqL.of hpl, rfl, .int at0, rfl, c, _, at0, _, rfl, rfl, SqL.of hcl, hat, ?_⟩
      refine ⟨.int at0, rfl, at0, 1, rfl, rfl, .ref p, rfl, p, _, 1, 1, rfl, rfl, hpl, rfl, ?_⟩
      refine ⟨.int (ns[at0.toNat]), rfl, .int at0, rfl, rfl, none, fun _ => none, 0, [.int (ns[at0.toNat]), .int at0], fun d _ => ∃ i : Int, d = .int i, fun a o h => (by cases h), fun p c e => (by cases e), ⟨_, _, rfl, rfl, _, _, rfl, rfl, rfl⟩, hT _ _ _ _ ha0 (by omega) (fun i => ⟨i, rfl⟩), ?_⟩
      rintro v H2 ⟨d, n2, g2, r2, i, rfl⟩
      obtain rfl : v = .int i := r2
      have hP1 : (upd H p (.lst [.ref c, .int (at0 + 1), .int rest0])) p = some (.lst [.ref c, .int (at0 + 1), .int rest0]) := upd_same
      have hP2 := g2.ex _ _ hP1 (fun _ _ e => by cases e)
      have hC2 := g2.ex c _ (show (upd H p (.lst [.ref c, .int (at0 + 1), .int rest0])) c = some (.lst (ns.map .int)) by rw [upd_ne (Ne.symm hpc)]; exact hcl) (fun _ _ e => by cases e)
      refine ⟨.ref p, rfl, p, _, 2, 2, rfl, rfl, hP2, rfl, ?_⟩
      have hP3 : (upd H2 p (.lst [.ref c, .int (at0 + 1), .int i])) p = some (.lst [.ref c, .int (at0 + 1), .int i]) := upd_same
      have hC3 : (upd H2 p (.lst [.ref c, .int (at0 + 1), .int i])) c = some (.lst (ns.map .int)) := by rw [upd_ne (Ne.symm hpc)]; exact hC2
      have hE3 : Ex pn H (upd H2 p (.lst [.ref c, .int (at0 + 1), .int i])) := fun b o hb np => by
        have nb := np p c hpn
        rw [upd_ne nb]
        exact g2.ex b o (by rw [upd_ne nb]; exact hb) (fun _ _ e => by cases e)
      refine ⟨.ref p, rfl, p, _, 2, .int (i), rfl, rfl, SqL.of hP3, rfl, .inl ⟨_, rfl, .int m, rfl, _, m, rfl, rfl, by omega, ?_⟩⟩
      refine ⟨.ref p, rfl, p, _, 2, .int (i), rfl, rfl, SqL.of hP3, rfl, .int m, rfl, _, m, rfl, rfl, ⟨hm0, hm1⟩, .ref p, rfl, p, _, 2, 2, rfl, rfl, hP3, rfl, ?_⟩
      exact ⟨_, rfl, last _ (at0 + 1) (i) hE3 hP3 hC3 (by omega) (by omega)⟩
    · refine ⟨.ref p, rfl, p, _, 0, .ref c, rfl, rfl, SqL.of hpl, rfl, c, _, rfl, .inl (SqL.of hcl), _, 0, rfl, rfl, _, rfl, ite2 (fun hlt => ?_) (fun hge2 => ?_)⟩
      · have hlt : 0 < ((ns.map V.int).length : Int) := of_decide_eq_true hlt
        rw [List.length_map] at hlt
        have hz : (at0 * 5 + 3).fmod (ns.length : Int) = (at0 * 5 + 3) % (ns.length : Int) := Int.fmod_eq_emod_of_nonneg _ (by omega)
        have h1 : 0 ≤ (at0 * 5 + 3).fmod (ns.length : Int) := Int.fmod_nonneg_of_pos _ hlt
        have h2 : (at0 * 5 + 3).fmod (ns.length : Int) < ns.length := Int.fmod_lt_of_pos _ hlt
        have hi : ((at0 * 5 + 3).fmod (ns.length : Int)).toNat < ns.length := by omega
        have hat : atI (ns.map V.int) ((at0 * 5 + 3).fmod (ns.length : Int)) = some (.int ns[((at0 * 5 + 3).fmod (ns.length : Int)).toNat]) := by
          have h0 : (ns.map V.int)[((at0 * 5 + 3).fmod (ns.length : Int)).toNat]? = some (.int ns[((at0 * 5 + 3).fmod (ns.length : Int)).toNat]) := by rw [List.getElem?_map, List.getElem?_eq_getElem hi]; rfl
          have := atI_nat h0
          rw [show ((((at0 * 5 + 3).fmod (ns.length : Int)).toNat : Nat) : Int) = (at0 * 5 + 3).fmod (ns.length : Int) by omega] at this
          exact this
        have h17 : (10 : Int) ^ (17 : Int).toNat + at0 ≠ 0 := by
          have : (10 : Int) ^ (17 : Int).toNat = 100000000000000000 := by decide
          omega
        refine ⟨.ref p, rfl, p, _, 0, .ref c, rfl, rfl, SqL.of hpl, rfl, .int at0, rfl, at0, 5, rfl, rfl, .inl ⟨by omega, by omega⟩, _, 3, rfl, rfl, .inl ⟨_, rfl, .ref p, rfl, p, _, 0, .ref c, rfl, rfl, SqL.of hpl, rfl, c, _, rfl, .inl (SqL.of hcl), _, _, rfl, rfl, (by rw [List.length_map]; omega), c, _, _, _, rfl, rfl, SqL.of hcl, (by rw [List.length_map]; exact hat), .inl ⟨_, rfl, 10, 17, rfl, rfl, ⟨by decide, by decide, by decide⟩, .int at0, rfl, _, at0, rfl, rfl, _, _, rfl, rfl, h17, ?_⟩⟩⟩
        refine ⟨.int at0, rfl, at0, 1, rfl, rfl, .ref p, rfl, p, _, 1, 1, rfl, rfl, hpl, rfl, ?_⟩
        refine ⟨.int ((ns[((at0 * 5 + 3).fmod (ns.length : Int)).toNat]).fmod (10 ^ (17 : Int).toNat + at0)), rfl, .int at0, rfl, rfl, none, fun _ => none, 0, [.int ((ns[((at0 * 5 + 3).fmod (ns.length : Int)).toNat]).fmod (10 ^ (17 : Int).toNat + at0)), .int at0], fun d _ => ∃ i : Int, d = .int i, fun a o h => (by cases h), fun p c e => (by cases e), ⟨_, _, rfl, rfl, _, _, rfl, rfl, rfl⟩, hT _ _ _ _ ha0 (by omega) (fun i => ⟨i, rfl⟩), ?_⟩
        rintro v H2 ⟨d, n2, g2, r2, i, rfl⟩
        obtain rfl : v = .int i := r2
        have hP1 : (upd H p (.lst [.ref c, .int (at0 + 1), .int rest0])) p = some (.lst [.ref c, .int (at0 + 1), .int rest0]) := upd_same
        have hP2 := g2.ex _ _ hP1 (fun _ _ e => by cases e)
        have hC2 := g2.ex c _ (show (upd H p (.lst [.ref c, .int (at0 + 1), .int rest0])) c = some (.lst (ns.map .int)) by rw [upd_ne (Ne.symm hpc)]; exact hcl) (fun _ _ e => by cases e)
        refine ⟨.ref p, rfl, p, _, 2, 2, rfl, rfl, hP2, rfl, ?_⟩
        have hP3 : (upd H2 p (.lst [.ref c, .int (at0 + 1), .int i])) p = some (.lst [.ref c, .int (at0 + 1), .int i]) := upd_same
        have hC3 : (upd H2 p (.lst [.ref c, .int (at0 + 1), .int i])) c = some (.lst (ns.map .int)) := by rw [upd_ne (Ne.symm hpc)]; exact hC2
        have hE3 : Ex pn H (upd H2 p (.lst [.ref c, .int (at0 + 1), .int i])) := fun b o hb np => by
          have nb := np p c hpn
          rw [upd_ne nb]
          exact g2.ex b o (by rw [upd_ne nb]; exact hb) (fun _ _ e => by cases e)
        refine ⟨.ref p, rfl, p, _, 2, .int (i), rfl, rfl, SqL.of hP3, rfl, .inl ⟨_, rfl, .int m, rfl, _, m, rfl, rfl, by omega, ?_⟩⟩
        refine ⟨.ref p, rfl, p, _, 2, .int (i), rfl, rfl, SqL.of hP3, rfl, .int m, rfl, _, m, rfl, rfl, ⟨hm0, hm1⟩, .ref p, rfl, p, _, 2, 2, rfl, rfl, hP3, rfl, ?_⟩
        exact ⟨_, rfl, last _ (at0 + 1) (i) hE3 hP3 hC3 (by omega) (by omega)⟩
      ·
        refine ⟨.int at0, rfl, at0, 1, rfl, rfl, .ref p, rfl, p, _, 1, 1, rfl, rfl, hpl, rfl, ?_⟩
        refine ⟨.int (0), rfl, .int at0, rfl, rfl, none, fun _ => none, 0, [.int (0), .int at0], fun d _ => ∃ i : Int, d = .int i, fun a o h => (by cases h), fun p c e => (by cases e), ⟨_, _, rfl, rfl, _, _, rfl, rfl, rfl⟩, hT _ _ _ _ ha0 (by omega) (fun i => ⟨i, rfl⟩), ?_⟩
        rintro v H2 ⟨d, n2, g2, r2, i, rfl⟩
        obtain rfl : v = .int i := r2
        have hP1 : (upd H p (.lst [.ref c, .int (at0 + 1), .int rest0])) p = some (.lst [.ref c, .int (at0 + 1), .int rest0]) := upd_same
        have hP2 := g2.ex _ _ hP1 (fun _ _ e => by cases e)
        have hC2 := g2.ex c _ (show (upd H p (.lst [.ref c, .int (at0 + 1), .int rest0])) c = some (.lst (ns.map .int)) by rw [upd_ne (Ne.symm hpc)]; exact hcl) (fun _ _ e => by cases e)
        refine ⟨.ref p, rfl, p, _, 2, 2, rfl, rfl, hP2, rfl, ?_⟩
        have hP3 : (upd H2 p (.lst [.ref c, .int (at0 + 1), .int i])) p = some (.lst [.ref c, .int (at0 + 1), .int i]) := upd_same
        have hC3 : (upd H2 p (.lst [.ref c, .int (at0 + 1), .int i])) c = some (.lst (ns.map .int)) := by rw [upd_ne (Ne.symm hpc)]; exact hC2
        have hE3 : Ex pn H (upd H2 p (.lst [.ref c, .int (at0 + 1), .int i])) := fun b o hb np => by
          have nb := np p c hpn
          rw [upd_ne nb]
          exact g2.ex b o (by rw [upd_ne nb]; exact hb) (fun _ _ e => by cases e)
        refine ⟨.ref p, rfl, p, _, 2, .int (i), rfl, rfl, SqL.of hP3, rfl, .inl ⟨_, rfl, .int m, rfl, _, m, rfl, rfl, by omega, ?_⟩⟩
        refine ⟨.ref p, rfl, p, _, 2, .int (i), rfl, rfl, SqL.of hP3, rfl, .int m, rfl, _, m, rfl, rfl, ⟨hm0, hm1⟩, .ref p, rfl, p, _, 2, 2, rfl, rfl, hP3, rfl, ?_⟩
        exact ⟨_, rfl, last _ (at0 + 1) (i) hE3 hP3 hC3 (by omega) (by omega)⟩
  ·
    refine ⟨.ref p, rfl, p, _, 2, .int (rest0), rfl, rfl, SqL.of hpl, rfl, .inl ⟨_, rfl, .int m, rfl, _, m, rfl, rfl, by omega, ?_⟩⟩
    refine ⟨.ref p, rfl, p, _, 2, .int (rest0), rfl, rfl, SqL.of hpl, rfl, .int m, rfl, _, m, rfl, rfl, ⟨hm0, hm1⟩, .ref p, rfl, p, _, 2, 2, rfl, rfl, hpl, rfl, ?_⟩
    exact ⟨_, rfl, last _ at0 (rest0) (Ex.refl pn H) hpl hcl ha0 (by omega)⟩


abbrev s__law_same : Stmt := topS 18
theorem sc__law_same : FnScope ["found", "due", "one", "other"] ["found", "due"] (defScope s__law_same) := ⟨rfl, rfl, rfl, by decide +kernel, rfl, by decide +kernel, by decide +kernel⟩
def T__law_same : Nat → FT
  | 0 => fun _ _ _ => False
  | m + 1 => fnD 2 4 (sSeq (sIf (bOr (bCmp isD (tVarD 1) (tCD .non)) (bCmp isD (tVarD 0) (tCD .non))) (sRet (tAndD (tOpD isD (tVarD 1) (tCD .non)) (tOpD isD (tVarD 0) (tCD .non)))) sNil) (sSeq (sIf (bOr (bVal (tIsi "bool" (tVarD 1))) (bVal (tIsi "bool" (tVarD 0)))) (sRet (tAndD (tIsi "bool" (tVarD 1)) (tAndD (tIsi "bool" (tVarD 0)) (tOpD eqD (tVarD 0) (tVarD 1))))) sNil) (sSeq (sIf (bVal (tIsiIS (tVarD 1))) (sSeq (sIf (bCmp neD (tIsi "int" (tVarD 0)) (tIsi "int" (tVarD 1))) (sRet (tCD (.bl false))) sNil) (sRet (tAndD (tIsiIS (tVarD 0)) (tOpD eqD (tVarD 0) (tVarD 1))))) sNil) (sSeq (sIf (bOr (bCmp neD (tIsi "tuple" (tVarD 1)) (tIsi "tuple" (tVarD 0))) (bCmp neD (tIsi "list" (tVarD 1)) (tIsi "list" (tVarD 0)))) (sRet (tCD (.bl false))) sNil) (sSeq (sIf (bCmp neD (tCallB lenD (aCons (tVarD 0) aNil)) (tCallB lenD (aCons (tVarD 1) aNil))) (sRet (tCD (.bl false))) sNil) (sRet (tOpD (inD true) (tCD (.bl false)) (tComp (wZip (aCons (tVarD 0) (aCons (tVarD 1) aNil))) (fTup 2 (fsCons (fName 2) (fsCons (fName 3) fsNil))) bYes (tCallD (T__law_same m) (aCons (tVarD 2) (aCons (tVarD 3) aNil))) [2, 3]))))))))
theorem T__law_same_len : ∀ (m : Nat) (ds : List D) (n : Nat) (q : QD), T__law_same m ds n q → ds.length = 2
  | 0, _, _, _, h => h.elim
  | _ + 1, _, _, _, h => h.1
theorem ok__law_same (B : NoB mg) {f__law_same : Addr} {fd__law_same : FuncData} (E__law_same : Ent K mg "_law_same" s__law_same ["found", "due"] f__law_same fd__law_same) (m : Nat) : FnOk P w K mg base CX0 (0 + m) f__law_same fd__law_same ["found", "due"] (lift K 2 (T__law_same m)) := by
  induction m with
  | zero => exact fn_none
  | succ m G__law_same =>
    refine fn_D (k := 0 + m) 2 4 rfl rfl (by decide) E__law_same.F sc__law_same fun cdv A outer s H E hr => ⟨[], ?_⟩
    have nd := sc__law_same.nd
    exact (s_cons (s_if (bd_w (wb_or (bd_cmpT op_isN (nomark _) o2_is (ed_var (pv 1)) ed_non) (wb_or1 (bd_cmpT op_isN (nomark _) o2_is (ed_var (pv 0)) ed_non)))) (s_one (s_ret (ed_and (ed_cmp op_isN (nomark _) o2_is (ed_var (pv 1)) ed_non) (ed_one (ed_cmp op_isN (nomark _) o2_is (ed_var (pv 0)) ed_non))))) s_nil) (s_cons (s_if (bd_w (wb_or (bd_valT (ed_isi (T := "bool") B (by decide +kernel) (by rfl) (by rfl) (by decide) (by decide +kernel) (ed_var (pv 1)))) (wb_or1 (bd_valT (ed_isi (T := "bool") B (by decide +kernel) (by rfl) (by rfl) (by decide) (by decide +kernel) (ed_var (pv 0))))))) (s_one (s_ret (ed_and (ed_isi (T := "bool") B (by decide +kernel) (by rfl) (by rfl) (by decide) (by decide +kernel) (ed_var (pv 1))) (ed_and (ed_isi (T := "bool") B (by decide +kernel) (by rfl) (by rfl) (by decide) (by decide +kernel) (ed_var (pv 0))) (ed_one (ed_cmp ((op_eqD hr.units).or op_eq) (nomark _) o2_eq (ed_var (pv 0)) (ed_var (pv 1)))))))) s_nil) (s_cons (s_if (bd_valT (ed_isiIS B (by rfl) (by rfl) (by rfl) (ed_var (pv 1)))) (s_cons (s_if (bd_cmpT ((op_neD hr.units).or op_ne) (nomark _) o2_ne (ed_isi (T := "int") B (by decide +kernel) (by rfl) (by rfl) (by decide) (by decide +kernel) (ed_var (pv 0))) (ed_isi (T := "int") B (by decide +kernel) (by rfl) (by rfl) (by decide) (by decide +kernel) (ed_var (pv 1)))) (s_one (s_ret ed_bl)) s_nil) (s_one (s_ret (ed_and (ed_isiIS B (by rfl) (by rfl) (by rfl) (ed_var (pv 0))) (ed_one (ed_cmp ((op_eqD hr.units).or op_eq) (nomark _) o2_eq (ed_var (pv 0)) (ed_var (pv 1)))))))) s_nil) (s_cons (s_if (bd_w (wb_or (bd_cmpT ((op_neD hr.units).or op_ne) (nomark _) o2_ne (ed_isi (T := "tuple") B (by decide +kernel) (by rfl) (by rfl) (by decide) (by decide +kernel) (ed_var (pv 1))) (ed_isi (T := "tuple") B (by decide +kernel) (by rfl) (by rfl) (by decide) (by decide +kernel) (ed_var (pv 0)))) (wb_or1 (bd_cmpT ((op_neD hr.units).or op_ne) (nomark _) o2_ne (ed_isi (T := "list") B (by decide +kernel) (by rfl) (by rfl) (by decide) (by decide +kernel) (ed_var (pv 1))) (ed_isi (T := "list") B (by decide +kernel) (by rfl) (by rfl) (by decide) (by decide +kernel) (ed_var (pv 0))))))) (s_one (s_ret ed_bl)) s_nil) (s_cons (s_if (bd_cmpT ((op_neD hr.units).or op_ne) (nomark _) o2_ne (ed_len B (by rfl) (ad_cons (ed_var (pv 0)) ad_nil)) (ed_len B (by rfl) (ad_cons (ed_var (pv 1)) ad_nil))) (s_one (s_ret ed_bl)) s_nil) (s_one (s_ret (ed_cmp op_notIn_seq (by rfl) o2_in ed_bl (ed_lc (own := [("one", 2), ("other", 3)]) (by rfl) nd (wd_zip B (by rfl) (ad_cons (ed_var (pv 0)) (ad_cons (ed_var (pv 1)) ad_nil))) (blkOk_by (N := ["found", "due", "one", "other"]) (sc := defScope s__law_same) (by decide +kernel)) (tr_tup 2 (trs_cons (tr_name 2) (trs_cons (tr_name 3) trs_nil))) (fun _ _ _ _ _ => (pg_tup (by rfl) (pgs_cons (pg_name (i := 2) nd rfl (by first | exact .inl rfl | exact .inr rfl)) (pgs_cons (pg_name (i := 3) nd rfl (by first | exact .inl rfl | exact .inr rfl)) pgs_nil)))) (fun _ _ _ _ _ => ts_nil) (fun _ _ _ _ _ => (ed_call G__law_same (by first | exact hr | exact hr.mono (by decide) | exact hr.mono (by omega)) (by rfl) E__law_same.g E__law_same.F.kp E__law_same.b (ad_cons (ed_var (pv 2)) (ad_cons (ed_var (pv 3)) ad_nil)) (T__law_same_len m))))))))))))

abbrev s__law_one_of : Stmt := topS 19
theorem sc__law_one_of : FnScope ["pen", "some"] ["pen", "some"] (defScope s__law_one_of) := ⟨rfl, rfl, rfl, by decide +kernel, rfl, by decide +kernel, by decide +kernel⟩
def T__law_one_of : FT := fnD 2 2 (sRet (tOpD ixD (tVarD 1) (tCallD takeD (aCons (tVarD 0) (aCons (tCallB lenD (aCons (tVarD 1) aNil)) aNil)))))
theorem ok__law_one_of (B : NoB mg) {f__law_take : Addr} {fd__law_take : FuncData} (E__law_take : Ent K mg "_law_take" s__law_take ["pen", "amount"] f__law_take fd__law_take) (G__law_take : FnOk P w K mg base CX0 2 f__law_take fd__law_take ["pen", "amount"] (lift K 2 takeD)) {f__law_one_of : Addr} {fd__law_one_of : FuncData} (E__law_one_of : Ent K mg "_law_one_of" s__law_one_of ["pen", "some"] f__law_one_of fd__law_one_of) : FnOk P w K mg base CX0 3 f__law_one_of fd__law_one_of ["pen", "some"] (lift K 2 T__law_one_of) := by
  refine fn_D 2 2 rfl rfl (by decide) E__law_one_of.F sc__law_one_of fun cdv A outer s H E hr => ⟨[], ?_⟩
  have nd := sc__law_one_of.nd
  exact (s_one (s_ret (ed_ix (ed_var (pv 1)) (ed_call G__law_take (by first | exact hr | exact hr.mono (by decide) | exact hr.mono (by omega)) (by rfl) E__law_take.g E__law_take.F.kp E__law_take.b (ad_cons (ed_var (pv 0)) (ad_cons (ed_len B (by rfl) (ad_cons (ed_var (pv 1)) ad_nil)) ad_nil)) (takeD_len)))))

abbrev s__law_between : Stmt := topS 20
theorem sc__law_between : FnScope ["value", "low", "high"] ["value", "low", "high"] (defScope s__law_between) := ⟨rfl, rfl, rfl, by decide +kernel, rfl, by decide +kernel, by decide +kernel⟩
def T__law_between : FT := fnD 3 3 (sRet (tAndD (tIsi "int" (tVarD 0)) (tAndD (tNotD (tIsi "bool" (tVarD 0))) (tChainD leD leD (tVarD 1) (tVarD 0) (tVarD 2)))))
theorem ok__law_between (B : NoB mg) {f__law_between : Addr} {fd__law_between : FuncData} (E__law_between : Ent K mg "_law_between" s__law_between ["value", "low", "high"] f__law_between fd__law_between) : FnOk P w K mg base CX0 1 f__law_between fd__law_between ["value", "low", "high"] (lift K 3 T__law_between) := by
  refine fn_D 3 3 rfl rfl (by decide) E__law_between.F sc__law_between fun cdv A outer s H E hr => ⟨[], ?_⟩
  have nd := sc__law_between.nd
  exact (s_one (s_ret (ed_and (ed_isi (T := "int") B (by decide +kernel) (by rfl) (by rfl) (by decide) (by decide +kernel) (ed_var (pv 0))) (ed_and (ed_not (ed_isi (T := "bool") B (by decide +kernel) (by rfl) (by rfl) (by decide) (by decide +kernel) (ed_var (pv 0)))) (ed_one (ed_chain op_le op_le o2_cmpI o2_cmpI (ed_var (pv 1)) (ed_var (pv 0)) (ed_var (pv 2))))))))

abbrev s__law_draw_bounds : Stmt := topS 21
theorem sc__law_draw_bounds : FnScope ["pen", "low", "high"] ["pen"] (defScope s__law_draw_bounds) := ⟨rfl, rfl, rfl, by decide +kernel, rfl, by decide +kernel, by decide +kernel⟩
def T__law_draw_bounds : FT := fnD 1 3 (sSeq (sAsg [] (fName 1) (tCallD T__law_one_of (aCons (tVarD 0) (aCons (tLstD (aCons (tCD (.int 0)) (aCons (tCD (.int 0)) (aCons (tCD (.int 0)) (aCons (tOp1D negD (tCD (.int 1))) (aCons (tOpD subD (tCallD takeD (aCons (tVarD 0) (aCons (tCD (.int 9)) aNil))) (tCD (.int 4))) (aCons (tOp1D negD (tCD (.int 1000000))) aNil))))))) aNil)))) (sSeq (sAsg [] (fName 2) (tOpD addD (tVarD 1) (tCallD T__law_one_of (aCons (tVarD 0) (aCons (tLstD (aCons (tCD (.int 0)) (aCons (tCD (.int 1)) (aCons (tCD (.int 2)) (aCons (tCD (.int 3)) (aCons (tCD (.int 4)) (aCons (tCD (.int 9)) aNil))))))) aNil))))) (sRet (tIfD (bCmp eqD (tCallD takeD (aCons (tVarD 0) (aCons (tCD (.int 9)) aNil))) (tCD (.int 0))) (tTupD (aCons (tVarD 1) (aCons (tCD (.int 1000000)) aNil))) (tTupD (aCons (tVarD 1) (aCons (tVarD 2) aNil)))))))
theorem ok__law_draw_bounds (B : NoB mg) {f__law_one_of : Addr} {fd__law_one_of : FuncData} (E__law_one_of : Ent K mg "_law_one_of" s__law_one_of ["pen", "some"] f__law_one_of fd__law_one_of) (G__law_one_of : FnOk P w K mg base CX0 3 f__law_one_of fd__law_one_of ["pen", "some"] (lift K 2 T__law_one_of)) {f__law_take : Addr} {fd__law_take : FuncData} (E__law_take : Ent K mg "_law_take" s__law_take ["pen", "amount"] f__law_take fd__law_take) (G__law_take : FnOk P w K mg base CX0 2 f__law_take fd__law_take ["pen", "amount"] (lift K 2 takeD)) {f__law_draw_bounds : Addr} {fd__law_draw_bounds : FuncData} (E__law_draw_bounds : Ent K mg "_law_draw_bounds" s__law_draw_bounds ["pen"] f__law_draw_bounds fd__law_draw_bounds) : FnOk P w K mg base CX0 4 f__law_draw_bounds fd__law_draw_bounds ["pen"] (lift K 1 T__law_draw_bounds) := by
  refine fn_D 1 3 rfl rfl (by decide) E__law_draw_bounds.F sc__law_draw_bounds fun cdv A outer s H E hr => ⟨[], ?_⟩
  have nd := sc__law_draw_bounds.nd
  exact (s_cons (s_asg [] (fun _ h => ps_set (i := 1) nd rfl (by first | exact .inl rfl | exact .inr rfl) h) (ed_call G__law_one_of (by first | exact hr | exact hr.mono (by decide) | exact hr.mono (by omega)) (by rfl) E__law_one_of.g E__law_one_of.F.kp E__law_one_of.b (ad_cons (ed_var (pv 0)) (ad_cons (ed_lstT (ad_cons ed_int (ad_cons ed_int (ad_cons ed_int (ad_cons (ed_neg ed_int) (ad_cons (ed_sub (ed_call G__law_take (by first | exact hr | exact hr.mono (by decide) | exact hr.mono (by omega)) (by rfl) E__law_take.g E__law_take.F.kp E__law_take.b (ad_cons (ed_var (pv 0)) (ad_cons ed_int ad_nil)) (takeD_len)) ed_int) (ad_cons (ed_neg ed_int) ad_nil))))))) ad_nil)) (fun _ _ _ h => h.1)) (tr_name 1)) (s_cons (s_asg [] (fun _ h => ps_set (i := 2) nd rfl (by first | exact .inl rfl | exact .inr rfl) h) (ed_add (ed_var (pv 1)) (ed_call G__law_one_of (by first | exact hr | exact hr.mono (by decide) | exact hr.mono (by omega)) (by rfl) E__law_one_of.g E__law_one_of.F.kp E__law_one_of.b (ad_cons (ed_var (pv 0)) (ad_cons (ed_lstT (ad_cons ed_int (ad_cons ed_int (ad_cons ed_int (ad_cons ed_int (ad_cons ed_int (ad_cons ed_int ad_nil))))))) ad_nil)) (fun _ _ _ h => h.1))) (tr_name 2)) (s_one (s_ret (ed_if (bd_cmpT ((op_eqD hr.units).or op_eq) (nomark _) o2_eq (ed_call G__law_take (by first | exact hr | exact hr.mono (by decide) | exact hr.mono (by omega)) (by rfl) E__law_take.g E__law_take.F.kp E__law_take.b (ad_cons (ed_var (pv 0)) (ad_cons ed_int ad_nil)) (takeD_len)) ed_int) (ed_tupT (ad_cons (ed_var (pv 1)) (ad_cons ed_int ad_nil))) (ed_tupT (ad_cons (ed_var (pv 1)) (ad_cons (ed_var (pv 2)) ad_nil))))))))

abbrev s__law_draw_key : Stmt := topS 22
theorem sc__law_draw_key : FnScope ["pen", "many", "one", "two"] ["pen", "many"] (defScope s__law_draw_key) := ⟨rfl, rfl, rfl, by decide +kernel, rfl, by decide +kernel, by decide +kernel⟩
def T__law_draw_key : FT := fnD 2 4 (sSeq (sPar [] 2 3 (aCons (tCallD takeD (aCons (tVarD 0) (aCons (tVarD 1) aNil))) (aCons (tCallD takeD (aCons (tVarD 0) (aCons (tVarD 1) aNil))) aNil))) (sRet (tIfD (bOr (bCmp eqD (tVarD 2) (tVarD 3)) (bCmp eqD (tCallD takeD (aCons (tVarD 0) (aCons (tCD (.int 2)) aNil))) (tCD (.int 0)))) (tTupD (aCons (tVarD 2) aNil)) (tTupD (aCons (tCallB min2D (aCons (tVarD 2) (aCons (tVarD 3) aNil))) (aCons (tCallB max2D (aCons (tVarD 2) (aCons (tVarD 3) aNil))) aNil))))))
theorem ok__law_draw_key (B : NoB mg) {f__law_take : Addr} {fd__law_take : FuncData} (E__law_take : Ent K mg "_law_take" s__law_take ["pen", "amount"] f__law_take fd__law_take) (G__law_take : FnOk P w K mg base CX0 2 f__law_take fd__law_take ["pen", "amount"] (lift K 2 takeD)) {f__law_draw_key : Addr} {fd__law_draw_key : FuncData} (E__law_draw_key : Ent K mg "_law_draw_key" s__law_draw_key ["pen", "many"] f__law_draw_key fd__law_draw_key) : FnOk P w K mg base CX0 3 f__law_draw_key fd__law_draw_key ["pen", "many"] (lift K 2 T__law_draw_key) := by
  refine fn_D 2 4 rfl rfl (by decide) E__law_draw_key.F sc__law_draw_key fun cdv A outer s H E hr => ⟨[], ?_⟩
  have nd := sc__law_draw_key.nd
  exact (s_cons (s_par [] (fun _ h => ps_par (i := 2) (j := 3) (by rfl) nd rfl rfl (by decide) rfl rfl h (by rfl)) (ad_cons (ed_call G__law_take (by first | exact hr | exact hr.mono (by decide) | exact hr.mono (by omega)) (by rfl) E__law_take.g E__law_take.F.kp E__law_take.b (ad_cons (ed_var (pv 0)) (ad_cons (ed_var (pv 1)) ad_nil)) (takeD_len)) (ad_cons (ed_call G__law_take (by first | exact hr | exact hr.mono (by decide) | exact hr.mono (by omega)) (by rfl) E__law_take.g E__law_take.F.kp E__law_take.b (ad_cons (ed_var (pv 0)) (ad_cons (ed_var (pv 1)) ad_nil)) (takeD_len)) ad_nil))) (s_one (s_ret (ed_if (bd_w (wb_or (bd_cmpT ((op_eqD hr.units).or op_eq) (nomark _) o2_eq (ed_var (pv 2)) (ed_var (pv 3))) (wb_or1 (bd_cmpT ((op_eqD hr.units).or op_eq) (nomark _) o2_eq (ed_call G__law_take (by first | exact hr | exact hr.mono (by decide) | exact hr.mono (by omega)) (by rfl) E__law_take.g E__law_take.F.kp E__law_take.b (ad_cons (ed_var (pv 0)) (ad_cons ed_int ad_nil)) (takeD_len)) ed_int)))) (ed_tupT (ad_cons (ed_var (pv 2)) ad_nil)) (ed_tupT (ad_cons (ed_min2 B (by rfl) (by rfl) (ad_cons (ed_var (pv 2)) (ad_cons (ed_var (pv 3)) ad_nil))) (ad_cons (ed_max2 B (by rfl) (by rfl) (ad_cons (ed_var (pv 2)) (ad_cons (ed_var (pv 3)) ad_nil))) ad_nil)))))))

abbrev s__law_draw_reference : Stmt := topS 23
theorem sc__law_draw_reference : FnScope ["pen", "tables", "bounds", "some", "number", "columns", "rest", "own", "low", "high", "fit", "table", "column"] ["pen", "tables", "bounds"] (defScope s__law_draw_reference) := ⟨rfl, rfl, rfl, by decide +kernel, rfl, by decide +kernel, by decide +kernel⟩
def T__law_draw_reference : FT := fnD 3 13 (sSeq (sAsg [] (fName 3) (tL (tCompL (wEnum (aCons (tVarD 1) aNil)) (fTup 2 (fsCons (fName 4) (fsCons (fName 11) fsNil))) (bCmp eqD (tOpD ixD (tVarD 11) (tCD (.int 2))) (tTupD aNil)) (tVarD 4) [4, 11]))) (sSeq (sAsg [] (fName 4) (tIfD (bCmp neD (tVarD 3) (tLstD aNil)) (tCallD T__law_one_of (aCons (tVarD 0) (aCons (tVarD 3) aNil))) (tCD .non))) (sSeq (sIf (bOr (bCmp isD (tVarD 4) (tCD .non)) (bCmp ltD (tCallB lenD (aCons (tVarD 2) aNil)) (tCallB lenD (aCons (tOpD ixD (tOpD ixD (tVarD 1) (tVarD 4)) (tCD (.int 1))) aNil)))) (sRet (tCD .non)) sNil) (sSeq (sPar2 [] 5 6 (lLstD aNil) (lList_range1 (aCons (tCallB lenD (aCons (tVarD 2) aNil)) aNil))) (sSeq (sFor [6, 5] (wAny (tOpD ixD (tOpD ixD (tVarD 1) (tVarD 4)) (tCD (.int 1)))) (fName 7) (sSeq (sAsg [6, 5] (fTup 2 (fsCons (fName 8) (fsCons (fName 9) fsNil))) (tOpD ixD (tOpD ixD (tOpD ixD (tVarD 1) (tVarD 4)) (tCD (.int 0))) (tVarD 7))) (sSeq (sOwnP 10 (tCompL (wAny (tVarD 6)) (fName 12) (bAnd (bCmp leD (tVarD 8) (tOpD ixD (tOpD ixD (tVarD 2) (tVarD 12)) (tCD (.int 0)))) (bCmp leD (tOpD ixD (tOpD ixD (tVarD 2) (tVarD 12)) (tCD (.int 1))) (tVarD 9))) (tVarD 12) [12])) (sSeq (sIf (bCmp eqD (tVarD 10) (tLstD aNil)) (sRet (tCD .non)) sNil) (sSeq (sAppP 5 (tCallD T__law_one_of (aCons (tVarD 0) (aCons (tVarD 10) aNil)))) (sRem 6 (tOpD ixD (tVarD 5) (tOp1D negD (tCD (.int 1)))))))))) (sRet (tTupD (aCons (tCallB tupleD (aCons (tVarD 5) aNil)) (aCons (tVarD 4) aNil)))))))))
theorem ok__law_draw_reference (B : NoB mg) {f__law_one_of : Addr} {fd__law_one_of : FuncData} (E__law_one_of : Ent K mg "_law_one_of" s__law_one_of ["pen", "some"] f__law_one_of fd__law_one_of) (G__law_one_of : FnOk P w K mg base CX0 3 f__law_one_of fd__law_one_of ["pen", "some"] (lift K 2 T__law_one_of)) {f__law_draw_reference : Addr} {fd__law_draw_reference : FuncData} (E__law_draw_reference : Ent K mg "_law_draw_reference" s__law_draw_reference ["pen", "tables", "bounds"] f__law_draw_reference fd__law_draw_reference) : FnOk P w K mg base CX0 4 f__law_draw_reference fd__law_draw_reference ["pen", "tables", "bounds"] (lift K 3 T__law_draw_reference) := by
  refine fn_D 3 13 rfl rfl (by decide) E__law_draw_reference.F sc__law_draw_reference fun cdv A outer s H E hr => ⟨[], ?_⟩
  have nd := sc__law_draw_reference.nd
  exact (s_cons (s_asgT [] (ps_lcSet (i := 3) (by rfl) nd rfl rfl (sw_true rfl rfl rfl (by decide +kernel)) (own := [("number", 4), ("table", 11)]) (wd_enum B (by rfl) (ad_cons (ed_var (pv 1)) ad_nil)) (blkOk_by (N := ["pen", "tables", "bounds", "some", "number", "columns", "rest", "own", "low", "high", "fit", "table", "column"]) (sc := defScope s__law_draw_reference) (by decide +kernel)) (tr_tup 2 (trs_cons (tr_name 4) (trs_cons (tr_name 11) trs_nil))) (fun _ _ _ _ _ => (pg_tup (by rfl) (pgs_cons (pg_name (i := 4) nd rfl (by first | exact .inl rfl | exact .inr rfl)) (pgs_cons (pg_name (i := 11) nd rfl (by first | exact .inl rfl | exact .inr rfl)) pgs_nil)))) (fun _ _ _ _ _ => (ts_one (bd_cmpT ((op_eqD hr.units).or op_eq) (nomark _) o2_eq (ed_ix (ed_var (pv 11)) ed_int) (ed_tupT ad_nil)))) (fun _ _ _ _ _ => (ed_var (pv 4))))) (s_cons (s_asg [] (fun _ h => ps_set (i := 4) nd rfl (by first | exact .inl rfl | exact .inr rfl) h) (ed_if (bd_cmpT ((op_neD hr.units).or op_ne) (nomark _) o2_ne (ed_var (pv 3)) (ed_lstT ad_nil)) (ed_call G__law_one_of (by first | exact hr | exact hr.mono (by decide) | exact hr.mono (by omega)) (by rfl) E__law_one_of.g E__law_one_of.F.kp E__law_one_of.b (ad_cons (ed_var (pv 0)) (ad_cons (ed_var (pv 3)) ad_nil)) (fun _ _ _ h => h.1)) ed_non) (tr_name 4)) (s_cons (s_if (bd_w (wb_or (bd_cmpT op_isN (nomark _) o2_is (ed_var (pv 4)) ed_non) (wb_or1 (bd_cmpT op_lt (nomark _) o2_cmpI (ed_len B (by rfl) (ad_cons (ed_var (pv 2)) ad_nil)) (ed_len B (by rfl) (ad_cons (ed_ix (ed_ix (ed_var (pv 1)) (ed_var (pv 4))) ed_int) ad_nil)))))) (s_one (s_ret ed_non)) s_nil) (s_cons (s_par2 [] (fun _ h => ps_par (i := 5) (j := 6) (by rfl) nd rfl rfl (by decide) rfl rfl h (by rfl)) (ld_lstT ad_nil) (ld_list_range1 B (by rfl) (by rfl) (by rfl) (ed_len B (by rfl) (ad_cons (ed_var (pv 2)) ad_nil)))) (s_cons (s_for [6, 5] [10, 6, 5] PassesOwn.never (by rfl) (wd_seq (ed_ix (ed_ix (ed_var (pv 1)) (ed_var (pv 4))) ed_int)) (pg_name (i := 7) nd rfl (by first | exact .inl rfl | exact .inr rfl)) (tr_name 7) (s_cons (s_asg [6, 5] (fun _ h => ps_asg h (pg_tup (by rfl) (pgs_cons (pg_name (i := 8) nd rfl (by first | exact .inl rfl | exact .inr rfl)) (pgs_cons (pg_name (i := 9) nd rfl (by first | exact .inl rfl | exact .inr rfl)) pgs_nil)))) (ed_ix (ed_ix (ed_ix (ed_var (pv 1)) (ed_var (pv 4))) ed_int) (ed_var (pv 7))) (tr_tup 2 (trs_cons (tr_name 8) (trs_cons (tr_name 9) trs_nil)))) (s_cons (s_ownPT (ps_lcSet (i := 10) (by rfl) nd rfl rfl (sw_true rfl rfl rfl (by decide +kernel)) (own := [("column", 12)]) (wd_seq (ed_var (pv 6))) (blkOk_by (N := ["pen", "tables", "bounds", "some", "number", "columns", "rest", "own", "low", "high", "fit", "table", "column"]) (sc := defScope s__law_draw_reference) (by decide +kernel)) (tr_name 12) (fun _ _ _ _ _ => (pg_name (i := 12) nd rfl (by first | exact .inl rfl | exact .inr rfl))) (fun _ _ _ _ _ => (ts_one (bd_w (wb_and (bd_cmpT op_le (nomark _) o2_cmpI (ed_var (pv 8)) (ed_ix (ed_ix (ed_var (pv 2)) (ed_var (pv 12))) ed_int)) (wb_and1 (bd_cmpT op_le (nomark _) o2_cmpI (ed_ix (ed_ix (ed_var (pv 2)) (ed_var (pv 12))) ed_int) (ed_var (pv 9)))))))) (fun _ _ _ _ _ => (ed_var (pv 12))))) (s_cons (s_if (bd_cmpT ((op_eqD hr.units).or op_eq) (nomark _) o2_eq (ed_var (pv 10)) (ed_lstT ad_nil)) (s_one (s_ret ed_non)) s_nil) (s_cons (s_appP (fun _ h => ps_expr (pe_bm PySem.F.plainAttrs_list PySem.F.slot_list_append PySem.F.type_list_append mt_append (pv 5) (pa_cons h pa_nil))) (ed_call G__law_one_of (by first | exact hr | exact hr.mono (by decide) | exact hr.mono (by omega)) (by rfl) E__law_one_of.g E__law_one_of.F.kp E__law_one_of.b (ad_cons (ed_var (pv 0)) (ad_cons (ed_var (pv 10)) ad_nil)) (fun _ _ _ h => h.1))) (s_one (s_rem (fun _ h => ps_expr (pe_bm PySem.F.plainAttrs_list PySem.F.slot_list_remove PySem.F.type_list_remove mt_remove (pv 6) (pa_cons h pa_nil))) (ed_ix (ed_var (pv 5)) (ed_neg ed_int))))))))) (s_one (s_ret (ed_tupT (ad_cons (ed_tuple B (by rfl) (ad_cons (ed_var (pv 5)) ad_nil)) (ad_cons (ed_var (pv 4)) ad_nil))))))))))

abbrev s__law_draw_table : Stmt := topS 24
theorem sc__law_draw_table : FnScope ["pen", "tables", "columns", "bounds", "some", "other", "far", "k", "own", "references", "key", "number", "table", "again", "one"] ["pen", "tables", "columns"] (defScope s__law_draw_table) := ⟨rfl, rfl, rfl, by decide +kernel, rfl, by decide +kernel, by decide +kernel⟩
def T__law_draw_table : FT := fnD 3 15 (sSeq (sOwn [] 3 (tCompL (wRng1 (aCons (tOpD addD (tCD (.int 1)) (tCallD takeD (aCons (tVarD 0) (aCons (tVarD 2) aNil)))) aNil)) (fName 7) bYes (tCallD T__law_draw_bounds (aCons (tVarD 0) aNil)) [7])) (sSeq (sAsg [3] (fName 4) (tL (tCompL (wEnum (aCons (tVarD 1) aNil)) (fTup 2 (fsCons (fName 11) (fsCons (fName 12) fsNil))) (bCmp eqD (tOpD ixD (tVarD 12) (tCD (.int 2))) (tTupD aNil)) (tVarD 11) [11, 12]))) (sSeq (sIf (bAnd (bCmp neD (tVarD 4) (tLstD aNil)) (bCmp gtD (tCallD takeD (aCons (tVarD 0) (aCons (tCD (.int 4)) aNil))) (tCD (.int 0)))) (sSeq (sAsg [3] (fName 5) (tOpD ixD (tVarD 1) (tCallD T__law_one_of (aCons (tVarD 0) (aCons (tVarD 4) aNil))))) (sSeq (sAsgP (fName 6) (tCallB intD (aCons (tOpD gtD (tCallB lenD (aCons (tVarD 3) aNil)) (tCallB lenD (aCons (tOpD ixD (tVarD 5) (tCD (.int 1))) aNil))) aNil))) (sForP (wEnumP (aCons (tSlD (tOpD ixD (tVarD 5) (tCD (.int 1))) oNone (oSome (tCallB lenD (aCons (tVarD 3) aNil)))) aNil)) (fTup 2 (fsCons (fName 7) (fsCons (fName 8) fsNil))) (sSet 3 (tOpD ixD (tOpD ixD (tVarD 5) (tCD (.int 0))) (tVarD 8)) (tOpD addD (tVarD 7) (tVarD 6)))))) sNil) (sSeq (sOwnP 9 (tCompL (wRng1 (aCons (tCallD takeD (aCons (tVarD 0) (aCons (tCD (.int 3)) aNil))) aNil)) (fName 13) bYes (tCallD T__law_draw_reference (aCons (tVarD 0) (aCons (tVarD 1) (aCons (tVarD 3) aNil)))) [13])) (sSeq (sAsg [9] (fName 10) (tCallD T__law_draw_key (aCons (tVarD 0) (aCons (tCallB lenD (aCons (tVarD 3) aNil)) aNil)))) (sRet (tTupD (aCons (tCallB tupleD (aCons (tVarD 3) aNil)) (aCons (tVarD 10) (aCons (tCallB tupleD (aCons (tComp (wAny (tVarD 9)) (fName 14) (bCmp notD (tVarD 14) (tCD .non)) (tVarD 14) [14]) aNil)) aNil))))))))))
theorem ok__law_draw_table (B : NoB mg) {f__law_draw_bounds : Addr} {fd__law_draw_bounds : FuncData} (E__law_draw_bounds : Ent K mg "_law_draw_bounds" s__law_draw_bounds ["pen"] f__law_draw_bounds fd__law_draw_bounds) (G__law_draw_bounds : FnOk P w K mg base CX0 4 f__law_draw_bounds fd__law_draw_bounds ["pen"] (lift K 1 T__law_draw_bounds)) {f__law_draw_key : Addr} {fd__law_draw_key : FuncData} (E__law_draw_key : Ent K mg "_law_draw_key" s__law_draw_key ["pen", "many"] f__law_draw_key fd__law_draw_key) (G__law_draw_key : FnOk P w K mg base CX0 3 f__law_draw_key fd__law_draw_key ["pen", "many"] (lift K 2 T__law_draw_key)) {f__law_draw_reference : Addr} {fd__law_draw_reference : FuncData} (E__law_draw_reference : Ent K mg "_law_draw_reference" s__law_draw_reference ["pen", "tables", "bounds"] f__law_draw_reference fd__law_draw_reference) (G__law_draw_reference : FnOk P w K mg base CX0 4 f__law_draw_reference fd__law_draw_reference ["pen", "tables", "bounds"] (lift K 3 T__law_draw_reference)) {f__law_one_of : Addr} {fd__law_one_of : FuncData} (E__law_one_of : Ent K mg "_law_one_of" s__law_one_of ["pen", "some"] f__law_one_of fd__law_one_of) (G__law_one_of : FnOk P w K mg base CX0 3 f__law_one_of fd__law_one_of ["pen", "some"] (lift K 2 T__law_one_of)) {f__law_take : Addr} {fd__law_take : FuncData} (E__law_take : Ent K mg "_law_take" s__law_take ["pen", "amount"] f__law_take fd__law_take) (G__law_take : FnOk P w K mg base CX0 2 f__law_take fd__law_take ["pen", "amount"] (lift K 2 takeD)) {f__law_draw_table : Addr} {fd__law_draw_table : FuncData} (E__law_draw_table : Ent K mg "_law_draw_table" s__law_draw_table ["pen", "tables", "columns"] f__law_draw_table fd__law_draw_table) : FnOk P w K mg base CX0 5 f__law_draw_table fd__law_draw_table ["pen", "tables", "columns"] (lift K 3 T__law_draw_table) := by
  refine fn_D 3 15 rfl rfl (by decide) E__law_draw_table.F sc__law_draw_table fun cdv A outer s H E hr => ⟨[], ?_⟩
  have nd := sc__law_draw_table.nd
  exact (s_cons (s_own [] (fun _ h => ps_set (i := 3) nd rfl (by first | exact .inl rfl | exact .inr rfl) h) (ld_lc (own := [("k", 7)]) (by rfl) nd (wd_rng1 B (by rfl) (ad_cons (ed_add ed_int (ed_call G__law_take (by first | exact hr | exact hr.mono (by decide) | exact hr.mono (by omega)) (by rfl) E__law_take.g E__law_take.F.kp E__law_take.b (ad_cons (ed_var (pv 0)) (ad_cons (ed_var (pv 2)) ad_nil)) (takeD_len))) ad_nil)) (blkOk_by (N := ["pen", "tables", "columns", "bounds", "some", "other", "far", "k", "own", "references", "key", "number", "table", "again", "one"]) (sc := defScope s__law_draw_table) (by decide +kernel)) (tr_name 7) (fun _ _ _ _ _ => (pg_name (i := 7) nd rfl (by first | exact .inl rfl | exact .inr rfl))) (fun _ _ _ _ _ => ts_nil) (fun _ _ _ _ _ => (ed_call G__law_draw_bounds (by first | exact hr | exact hr.mono (by decide) | exact hr.mono (by omega)) (by rfl) E__law_draw_bounds.g E__law_draw_bounds.F.kp E__law_draw_bounds.b (ad_cons (ed_var (pv 0)) ad_nil) (fun _ _ _ h => h.1))))) (s_cons (s_asgT [3] (ps_lcSet (i := 4) (by rfl) nd rfl rfl (sw_true rfl rfl rfl (by decide +kernel)) (own := [("number", 11), ("table", 12)]) (wd_enum B (by rfl) (ad_cons (ed_var (pv 1)) ad_nil)) (blkOk_by (N := ["pen", "tables", "columns", "bounds", "some", "other", "far", "k", "own", "references", "key", "number", "table", "again", "one"]) (sc := defScope s__law_draw_table) (by decide +kernel)) (tr_tup 2 (trs_cons (tr_name 11) (trs_cons (tr_name 12) trs_nil))) (fun _ _ _ _ _ => (pg_tup (by rfl) (pgs_cons (pg_name (i := 11) nd rfl (by first | exact .inl rfl | exact .inr rfl)) (pgs_cons (pg_name (i := 12) nd rfl (by first | exact .inl rfl | exact .inr rfl)) pgs_nil)))) (fun _ _ _ _ _ => (ts_one (bd_cmpT ((op_eqD hr.units).or op_eq) (nomark _) o2_eq (ed_ix (ed_var (pv 12)) ed_int) (ed_tupT ad_nil)))) (fun _ _ _ _ _ => (ed_var (pv 11))))) (s_cons (s_if (bd_w (wb_and (bd_cmpT ((op_neD hr.units).or op_ne) (nomark _) o2_ne (ed_var (pv 4)) (ed_lstT ad_nil)) (wb_and1 (bd_cmpT op_gt (nomark _) o2_cmpI (ed_call G__law_take (by first | exact hr | exact hr.mono (by decide) | exact hr.mono (by omega)) (by rfl) E__law_take.g E__law_take.F.kp E__law_take.b (ad_cons (ed_var (pv 0)) (ad_cons ed_int ad_nil)) (takeD_len)) ed_int)))) (s_cons (s_asg [3] (fun _ h => ps_set (i := 5) nd rfl (by first | exact .inl rfl | exact .inr rfl) h) (ed_ix (ed_var (pv 1)) (ed_call G__law_one_of (by first | exact hr | exact hr.mono (by decide) | exact hr.mono (by omega)) (by rfl) E__law_one_of.g E__law_one_of.F.kp E__law_one_of.b (ad_cons (ed_var (pv 0)) (ad_cons (ed_var (pv 4)) ad_nil)) (fun _ _ _ h => h.1))) (tr_name 5)) (s_cons (s_asgP (fun _ h => ps_set (i := 6) nd rfl (by first | exact .inl rfl | exact .inr rfl) h) (ed_intC B (by rfl) (ad_cons (ed_cmp op_gt (nomark _) o2_cmpI (ed_len B (by rfl) (ad_cons (ed_var (pv 3)) ad_nil)) (ed_len B (by rfl) (ad_cons (ed_ix (ed_var (pv 5)) ed_int) ad_nil))) ad_nil)) (tr_name 6)) (s_one (s_forP [3] PassesOwn.never (by rfl) (wdp_enum B (by rfl) (ad_cons (ed_slice (ed_ix (ed_var (pv 5)) ed_int) od_none (od_some (ed_len B (by rfl) (ad_cons (ed_var (pv 3)) ad_nil)))) ad_nil)) (pg_tup (by rfl) (pgs_cons (pg_name (i := 7) nd rfl (by first | exact .inl rfl | exact .inr rfl)) (pgs_cons (pg_name (i := 8) nd rfl (by first | exact .inl rfl | exact .inr rfl)) pgs_nil))) (tr_tup 2 (trs_cons (tr_name 7) (trs_cons (tr_name 8) trs_nil))) (s_one (s_set (fun _ _ h h2 => ps_asg h (pg_sub (pv 3) h2 set_list)) (ed_ix (ed_ix (ed_var (pv 5)) ed_int) (ed_var (pv 8))) (ed_add (ed_var (pv 7)) (ed_var (pv 6))))))))) s_nil) (s_cons (s_ownPT (ps_lcSet (i := 9) (by rfl) nd rfl rfl (sw_true rfl rfl rfl (by decide +kernel)) (own := [("again", 13)]) (wd_rng1 B (by rfl) (ad_cons (ed_call G__law_take (by first | exact hr | exact hr.mono (by decide) | exact hr.mono (by omega)) (by rfl) E__law_take.g E__law_take.F.kp E__law_take.b (ad_cons (ed_var (pv 0)) (ad_cons ed_int ad_nil)) (takeD_len)) ad_nil)) (blkOk_by (N := ["pen", "tables", "columns", "bounds", "some", "other", "far", "k", "own", "references", "key", "number", "table", "again", "one"]) (sc := defScope s__law_draw_table) (by decide +kernel)) (tr_name 13) (fun _ _ _ _ _ => (pg_name (i := 13) nd rfl (by first | exact .inl rfl | exact .inr rfl))) (fun _ _ _ _ _ => ts_nil) (fun _ _ _ _ _ => (ed_call G__law_draw_reference (by first | exact hr | exact hr.mono (by decide) | exact hr.mono (by omega)) (by rfl) E__law_draw_reference.g E__law_draw_reference.F.kp E__law_draw_reference.b (ad_cons (ed_var (pv 0)) (ad_cons (ed_var (pv 1)) (ad_cons (ed_var (pv 3)) ad_nil))) (fun _ _ _ h => h.1))))) (s_cons (s_asg [9] (fun _ h => ps_set (i := 10) nd rfl (by first | exact .inl rfl | exact .inr rfl) h) (ed_call G__law_draw_key (by first | exact hr | exact hr.mono (by decide) | exact hr.mono (by omega)) (by rfl) E__law_draw_key.g E__law_draw_key.F.kp E__law_draw_key.b (ad_cons (ed_var (pv 0)) (ad_cons (ed_len B (by rfl) (ad_cons (ed_var (pv 3)) ad_nil)) ad_nil)) (fun _ _ _ h => h.1)) (tr_name 10)) (s_one (s_ret (ed_tupT (ad_cons (ed_tuple B (by rfl) (ad_cons (ed_var (pv 3)) ad_nil)) (ad_cons (ed_var (pv 10)) (ad_cons (ed_tuple B (by rfl) (ad_cons (ed_lc (own := [("one", 14)]) (by rfl) nd (wd_seq (ed_var (pv 9))) (blkOk_by (N := ["pen", "tables", "columns", "bounds", "some", "other", "far", "k", "own", "references", "key", "number", "table", "again", "one"]) (sc := defScope s__law_draw_table) (by decide +kernel)) (tr_name 14) (fun _ _ _ _ _ => (pg_name (i := 14) nd rfl (by first | exact .inl rfl | exact .inr rfl))) (fun _ _ _ _ _ => (ts_one (bd_cmpT op_notN (nomark _) o2_not (ed_var (pv 14)) ed_non))) (fun _ _ _ _ _ => (ed_var (pv 14)))) ad_nil)) ad_nil)))))))))))

abbrev s__law_draw_scheme : Stmt := topS 25
theorem sc__law_draw_scheme : FnScope ["pen", "many", "columns", "found", "again"] ["pen", "many", "columns"] (defScope s__law_draw_scheme) := ⟨rfl, rfl, rfl, by decide +kernel, rfl, by decide +kernel, by decide +kernel⟩
def T__law_draw_scheme : FT := fnD 3 5 (sSeq (sAsg [] (fName 3) (tTupD aNil)) (sSeq (sFor [] (wRng1 (aCons (tOpD addD (tCD (.int 1)) (tCallD takeD (aCons (tVarD 0) (aCons (tVarD 1) aNil)))) aNil)) (fName 4) (sAsg [] (fName 3) (tOpD addD (tVarD 3) (tTupD (aCons (tCallD T__law_draw_table (aCons (tVarD 0) (aCons (tVarD 3) (aCons (tVarD 2) aNil)))) aNil))))) (sRet (tVarD 3))))
theorem ok__law_draw_scheme (B : NoB mg) {f__law_draw_table : Addr} {fd__law_draw_table : FuncData} (E__law_draw_table : Ent K mg "_law_draw_table" s__law_draw_table ["pen", "tables", "columns"] f__law_draw_table fd__law_draw_table) (G__law_draw_table : FnOk P w K mg base CX0 5 f__law_draw_table fd__law_draw_table ["pen", "tables", "columns"] (lift K 3 T__law_draw_table)) {f__law_take : Addr} {fd__law_take : FuncData} (E__law_take : Ent K mg "_law_take" s__law_take ["pen", "amount"] f__law_take fd__law_take) (G__law_take : FnOk P w K mg base CX0 2 f__law_take fd__law_take ["pen", "amount"] (lift K 2 takeD)) {f__law_draw_scheme : Addr} {fd__law_draw_scheme : FuncData} (E__law_draw_scheme : Ent K mg "_law_draw_scheme" s__law_draw_scheme ["pen", "many", "columns"] f__law_draw_scheme fd__law_draw_scheme) : FnOk P w K mg base CX0 6 f__law_draw_scheme fd__law_draw_scheme ["pen", "many", "columns"] (lift K 3 T__law_draw_scheme) := by
  refine fn_D 3 5 rfl rfl (by decide) E__law_draw_scheme.F sc__law_draw_scheme fun cdv A outer s H E hr => ⟨[], ?_⟩
  have nd := sc__law_draw_scheme.nd
  exact (s_cons (s_asg [] (fun _ h => ps_set (i := 3) nd rfl (by first | exact .inl rfl | exact .inr rfl) h) (ed_tupT ad_nil) (tr_name 3)) (s_cons (s_for [] [] PassesOwn.never (by rfl) (wd_rng1 B (by rfl) (ad_cons (ed_add ed_int (ed_call G__law_take (by first | exact hr | exact hr.mono (by decide) | exact hr.mono (by omega)) (by rfl) E__law_take.g E__law_take.F.kp E__law_take.b (ad_cons (ed_var (pv 0)) (ad_cons (ed_var (pv 1)) ad_nil)) (takeD_len))) ad_nil)) (pg_name (i := 4) nd rfl (by first | exact .inl rfl | exact .inr rfl)) (tr_name 4) (s_one (s_asg [] (fun _ h => ps_set (i := 3) nd rfl (by first | exact .inl rfl | exact .inr rfl) h) (ed_add (ed_var (pv 3)) (ed_tupT (ad_cons (ed_call G__law_draw_table (by first | exact hr | exact hr.mono (by decide) | exact hr.mono (by omega)) (by rfl) E__law_draw_table.g E__law_draw_table.F.kp E__law_draw_table.b (ad_cons (ed_var (pv 0)) (ad_cons (ed_var (pv 3)) (ad_cons (ed_var (pv 2)) ad_nil))) (fun _ _ _ h => h.1)) ad_nil))) (tr_name 3)))) (s_one (s_ret (ed_var (pv 3))))))

abbrev s__law_odd : Stmt := topS 26
theorem sc__law_odd : FnScope ["pen", "some"] ["pen"] (defScope s__law_odd) := ⟨rfl, rfl, rfl, by decide +kernel, rfl, by decide +kernel, by decide +kernel⟩
def T__law_odd : FT := fnD 1 2 (sSeq (sAsg [] (fName 1) (tLstD (aCons (tCD .non) (aCons (tCD (.bl true)) (aCons (tCD (.bl false)) (aCons (tCD (.int 0)) (aCons (tCD (.int 1)) (aCons (tOp1D negD (tCD (.int 1))) (aCons (tCD (.int 2)) (aCons (tCD (.int 3)) (aCons (tCD (.int 4)) (aCons (tOpD powD (tCD (.int 10)) (tCD (.int 6))) (aCons (tOpD addD (tOpD powD (tCD (.int 10)) (tCD (.int 6))) (tCD (.int 1))) (aCons (tOpD powD (tCD (.int 10)) (tCD (.int 20))) (aCons (tCD (.str "")) (aCons (tCD (.str "a")) (aCons (tCD (.str "b")) (aCons (tCD (.str "e")) (aCons (tCD (.str "insert")) (aCons (tTupD aNil) aNil)))))))))))))))))))) (sSeq (sAsg [] (fName 1) (tOpD addD (tVarD 1) (tLstD (aCons (tTupD (aCons (tCD (.int 0)) aNil)) (aCons (tTupD (aCons (tCD (.int 0)) (aCons (tCD (.int 0)) aNil))) (aCons (tTupD (aCons (tCD (.int 0)) (aCons (tCD (.int 1)) aNil))) (aCons (tTupD (aCons (tCD (.int 1)) (aCons (tCD (.int 0)) aNil))) (aCons (tLstD (aCons (tCD (.int 0)) aNil)) (aCons (tTupD (aCons (tTupD (aCons (tCD (.int 0)) (aCons (tCD (.int 1)) aNil))) aNil)) (aCons (tTupD (aCons (tCD .non) (aCons (tCD (.int 0)) (aCons (tCD (.int 1)) aNil)))) (aCons (tTupD (aCons (tCD (.int 0)) (aCons (tCD .non) (aCons (tCD (.int 1)) aNil)))) (aCons (tTupD (aCons (tCD (.str "a")) (aCons (tCD .non) (aCons (tCD (.int 0)) aNil)))) (aCons (tCD (.str "delete")) aNil))))))))))))) (sSeq (sAsg [] (fName 1) (tOpD addD (tVarD 1) (tLstD (aCons (tLstD aNil) (aCons tNoDict aNil))))) (sRet (tCallD T__law_one_of (aCons (tVarD 0) (aCons (tVarD 1) aNil)))))))
theorem ok__law_odd (B : NoB mg) {f__law_one_of : Addr} {fd__law_one_of : FuncData} (E__law_one_of : Ent K mg "_law_one_of" s__law_one_of ["pen", "some"] f__law_one_of fd__law_one_of) (G__law_one_of : FnOk P w K mg base CX0 3 f__law_one_of fd__law_one_of ["pen", "some"] (lift K 2 T__law_one_of)) {f__law_odd : Addr} {fd__law_odd : FuncData} (E__law_odd : Ent K mg "_law_odd" s__law_odd ["pen"] f__law_odd fd__law_odd) : FnOk P w K mg base CX0 4 f__law_odd fd__law_odd ["pen"] (lift K 1 T__law_odd) := by
  refine fn_D 1 2 rfl rfl (by decide) E__law_odd.F sc__law_odd fun cdv A outer s H E hr => ⟨[], ?_⟩
  have nd := sc__law_odd.nd
  exact (s_cons (s_asg [] (fun _ h => ps_set (i := 1) nd rfl (by first | exact .inl rfl | exact .inr rfl) h) (ed_lstT (ad_cons ed_non (ad_cons ed_bl (ad_cons ed_bl (ad_cons ed_int (ad_cons ed_int (ad_cons (ed_neg ed_int) (ad_cons ed_int (ad_cons ed_int (ad_cons ed_int (ad_cons (ed_pow ed_int ed_int) (ad_cons (ed_add (ed_pow ed_int ed_int) ed_int) (ad_cons (ed_pow ed_int ed_int) (ad_cons ed_str (ad_cons ed_str (ad_cons ed_str (ad_cons ed_str (ad_cons ed_str (ad_cons (ed_tupT ad_nil) ad_nil))))))))))))))))))) (tr_name 1)) (s_cons (s_asg [] (fun _ h => ps_set (i := 1) nd rfl (by first | exact .inl rfl | exact .inr rfl) h) (ed_add (ed_var (pv 1)) (ed_lstT (ad_cons (ed_tupT (ad_cons ed_int ad_nil)) (ad_cons (ed_tupT (ad_cons ed_int (ad_cons ed_int ad_nil))) (ad_cons (ed_tupT (ad_cons ed_int (ad_cons ed_int ad_nil))) (ad_cons (ed_tupT (ad_cons ed_int (ad_cons ed_int ad_nil))) (ad_cons (ed_lstT (ad_cons ed_int ad_nil)) (ad_cons (ed_tupT (ad_cons (ed_tupT (ad_cons ed_int (ad_cons ed_int ad_nil))) ad_nil)) (ad_cons (ed_tupT (ad_cons ed_non (ad_cons ed_int (ad_cons ed_int ad_nil)))) (ad_cons (ed_tupT (ad_cons ed_int (ad_cons ed_non (ad_cons ed_int ad_nil)))) (ad_cons (ed_tupT (ad_cons ed_str (ad_cons ed_non (ad_cons ed_int ad_nil)))) (ad_cons ed_str ad_nil)))))))))))) (tr_name 1)) (s_cons (s_asg [] (fun _ h => ps_set (i := 1) nd rfl (by first | exact .inl rfl | exact .inr rfl) h) (ed_add (ed_var (pv 1)) (ed_lstT (ad_cons (ed_lstT ad_nil) (ad_cons ed_dnew ad_nil)))) (tr_name 1)) (s_one (s_ret (ed_call G__law_one_of (by first | exact hr | exact hr.mono (by decide) | exact hr.mono (by omega)) (by rfl) E__law_one_of.g E__law_one_of.F.kp E__law_one_of.b (ad_cons (ed_var (pv 0)) (ad_cons (ed_var (pv 1)) ad_nil)) (fun _ _ _ h => h.1)))))))

abbrev s__law_bent : Stmt := topS 27
theorem sc__law_bent : FnScope ["pen", "value", "k", "way", "some"] ["pen", "value"] (defScope s__law_bent) := ⟨rfl, rfl, rfl, by decide +kernel, rfl, by decide +kernel, by decide +kernel⟩
def T__law_bent : Nat → FT
  | 0 => fun _ _ _ => False
  | m + 1 => fnD 2 5 (sSeq (sIf (bOr (bNot (bVal (tIsi "tuple" (tVarD 1)))) (bOr (bCmp eqD (tVarD 1) (tTupD aNil)) (bCmp eqD (tCallD takeD (aCons (tVarD 0) (aCons (tCD (.int 7)) aNil))) (tCD (.int 0))))) (sRet (tCallD T__law_odd (aCons (tVarD 0) aNil))) sNil) (sSeq (sPar [] 2 3 (aCons (tCallD takeD (aCons (tVarD 0) (aCons (tCallB lenD (aCons (tVarD 1) aNil)) aNil))) (aCons (tCallD takeD (aCons (tVarD 0) (aCons (tCD (.int 13)) aNil))) aNil))) (sSeq (sIf (bCmp ltD (tVarD 3) (tCD (.int 8))) (sRet (tOpD addD (tOpD addD (tSlD (tVarD 1) oNone (oSome (tVarD 2))) (tTupD (aCons (tCallD (T__law_bent m) (aCons (tVarD 0) (aCons (tOpD ixD (tVarD 1) (tVarD 2)) aNil))) aNil))) (tSlD (tVarD 1) (oSome (tOpD addD (tVarD 2) (tCD (.int 1)))) oNone))) sNil) (sSeq (sAsg [] (fName 4) (tLstD (aCons (tOpD addD (tSlD (tVarD 1) oNone (oSome (tVarD 2))) (tSlD (tVarD 1) (oSome (tOpD addD (tVarD 2) (tCD (.int 1)))) oNone)) (aCons (tOpD addD (tOpD addD (tSlD (tVarD 1) oNone (oSome (tVarD 2))) (tTupD (aCons (tOpD ixD (tVarD 1) (tVarD 2)) aNil))) (tSlD (tVarD 1) (oSome (tVarD 2)) oNone)) (aCons (tCallB listD (aCons (tVarD 1) aNil)) (aCons (tRevD (tVarD 1) (tOp1D negD (tCD (.int 1)))) (aCons (tOpD mulD (tVarD 1) (tCD (.int 2))) aNil))))))) (sRet (tOpD ixD (tVarD 4) (tOpD subD (tVarD 3) (tCD (.int 8)))))))))
theorem T__law_bent_len : ∀ (m : Nat) (ds : List D) (n : Nat) (q : QD), T__law_bent m ds n q → ds.length = 2
  | 0, _, _, _, h => h.elim
  | _ + 1, _, _, _, h => h.1
theorem ok__law_bent (B : NoB mg) {f__law_odd : Addr} {fd__law_odd : FuncData} (E__law_odd : Ent K mg "_law_odd" s__law_odd ["pen"] f__law_odd fd__law_odd) (G__law_odd : FnOk P w K mg base CX0 4 f__law_odd fd__law_odd ["pen"] (lift K 1 T__law_odd)) {f__law_take : Addr} {fd__law_take : FuncData} (E__law_take : Ent K mg "_law_take" s__law_take ["pen", "amount"] f__law_take fd__law_take) (G__law_take : FnOk P w K mg base CX0 2 f__law_take fd__law_take ["pen", "amount"] (lift K 2 takeD)) {f__law_bent : Addr} {fd__law_bent : FuncData} (E__law_bent : Ent K mg "_law_bent" s__law_bent ["pen", "value"] f__law_bent fd__law_bent) (m : Nat) : FnOk P w K mg base CX0 (4 + m) f__law_bent fd__law_bent ["pen", "value"] (lift K 2 (T__law_bent m)) := by
  induction m with
  | zero => exact fn_none
  | succ m G__law_bent =>
    refine fn_D (k := 4 + m) 2 5 rfl rfl (by decide) E__law_bent.F sc__law_bent fun cdv A outer s H E hr => ⟨[], ?_⟩
    have nd := sc__law_bent.nd
    exact (s_cons (s_if (bd_w (wb_or (bd_not (bd_valT (ed_isi (T := "tuple") B (by decide +kernel) (by rfl) (by rfl) (by decide) (by decide +kernel) (ed_var (pv 1))))) (wb_or (bd_cmpT ((op_eqD hr.units).or op_eq) (nomark _) o2_eq (ed_var (pv 1)) (ed_tupT ad_nil)) (wb_or1 (bd_cmpT ((op_eqD hr.units).or op_eq) (nomark _) o2_eq (ed_call G__law_take (by first | exact hr | exact hr.mono (by decide) | exact hr.mono (by omega)) (by rfl) E__law_take.g E__law_take.F.kp E__law_take.b (ad_cons (ed_var (pv 0)) (ad_cons ed_int ad_nil)) (takeD_len)) ed_int))))) (s_one (s_ret (ed_call G__law_odd (by first | exact hr | exact hr.mono (by decide) | exact hr.mono (by omega)) (by rfl) E__law_odd.g E__law_odd.F.kp E__law_odd.b (ad_cons (ed_var (pv 0)) ad_nil) (fun _ _ _ h => h.1)))) s_nil) (s_cons (s_par [] (fun _ h => ps_par (i := 2) (j := 3) (by rfl) nd rfl rfl (by decide) rfl rfl h (by rfl)) (ad_cons (ed_call G__law_take (by first | exact hr | exact hr.mono (by decide) | exact hr.mono (by omega)) (by rfl) E__law_take.g E__law_take.F.kp E__law_take.b (ad_cons (ed_var (pv 0)) (ad_cons (ed_len B (by rfl) (ad_cons (ed_var (pv 1)) ad_nil)) ad_nil)) (takeD_len)) (ad_cons (ed_call G__law_take (by first | exact hr | exact hr.mono (by decide) | exact hr.mono (by omega)) (by rfl) E__law_take.g E__law_take.F.kp E__law_take.b (ad_cons (ed_var (pv 0)) (ad_cons ed_int ad_nil)) (takeD_len)) ad_nil))) (s_cons (s_if (bd_cmpT op_lt (nomark _) o2_cmpI (ed_var (pv 3)) ed_int) (s_one (s_ret (ed_add (ed_add (ed_slice (ed_var (pv 1)) od_none (od_some (ed_var (pv 2)))) (ed_tupT (ad_cons (ed_call G__law_bent (by first | exact hr | exact hr.mono (by decide) | exact hr.mono (by omega)) (by rfl) E__law_bent.g E__law_bent.F.kp E__law_bent.b (ad_cons (ed_var (pv 0)) (ad_cons (ed_ix (ed_var (pv 1)) (ed_var (pv 2))) ad_nil)) (T__law_bent_len m)) ad_nil))) (ed_slice (ed_var (pv 1)) (od_some (ed_add (ed_var (pv 2)) ed_int)) od_none)))) s_nil) (s_cons (s_asg [] (fun _ h => ps_set (i := 4) nd rfl (by first | exact .inl rfl | exact .inr rfl) h) (ed_lstT (ad_cons (ed_add (ed_slice (ed_var (pv 1)) od_none (od_some (ed_var (pv 2)))) (ed_slice (ed_var (pv 1)) (od_some (ed_add (ed_var (pv 2)) ed_int)) od_none)) (ad_cons (ed_add (ed_add (ed_slice (ed_var (pv 1)) od_none (od_some (ed_var (pv 2)))) (ed_tupT (ad_cons (ed_ix (ed_var (pv 1)) (ed_var (pv 2))) ad_nil))) (ed_slice (ed_var (pv 1)) (od_some (ed_var (pv 2))) od_none)) (ad_cons (ed_list B (by rfl) (ad_cons (ed_var (pv 1)) ad_nil)) (ad_cons (ed_rev (ed_var (pv 1)) (ed_neg ed_int)) (ad_cons (ed_mul (ed_var (pv 1)) ed_int) ad_nil)))))) (tr_name 4)) (s_one (s_ret (ed_ix (ed_var (pv 4)) (ed_sub (ed_var (pv 3)) ed_int))))))))

abbrev s__law_off : Stmt := topS 28
theorem sc__law_off : FnScope ["pen", "value", "k"] ["pen", "value"] (defScope s__law_off) := ⟨rfl, rfl, rfl, by decide +kernel, rfl, by decide +kernel, by decide +kernel⟩
def T__law_off : Nat → FT
  | 0 => fun _ _ _ => False
  | m + 1 => fnD 2 3 (sSeq (sIf (bAnd (bVal (tIsi "tuple" (tVarD 1))) (bCmp neD (tVarD 1) (tTupD aNil))) (sSeq (sAsg [] (fName 2) (tCallD takeD (aCons (tVarD 0) (aCons (tCallB lenD (aCons (tVarD 1) aNil)) aNil)))) (sRet (tOpD addD (tOpD addD (tSlD (tVarD 1) oNone (oSome (tVarD 2))) (tTupD (aCons (tCallD (T__law_off m) (aCons (tVarD 0) (aCons (tOpD ixD (tVarD 1) (tVarD 2)) aNil))) aNil))) (tSlD (tVarD 1) (oSome (tOpD addD (tVarD 2) (tCD (.int 1)))) oNone)))) sNil) (sRet (tIfD (bVal (tIsi "int" (tVarD 1))) (tOpD addD (tVarD 1) (tCallD T__law_one_of (aCons (tVarD 0) (aCons (tLstD (aCons (tCD (.int 1)) (aCons (tOp1D negD (tCD (.int 1))) aNil))) aNil)))) (tVarD 1))))
theorem T__law_off_len : ∀ (m : Nat) (ds : List D) (n : Nat) (q : QD), T__law_off m ds n q → ds.length = 2
  | 0, _, _, _, h => h.elim
  | _ + 1, _, _, _, h => h.1
theorem ok__law_off (B : NoB mg) {f__law_one_of : Addr} {fd__law_one_of : FuncData} (E__law_one_of : Ent K mg "_law_one_of" s__law_one_of ["pen", "some"] f__law_one_of fd__law_one_of) (G__law_one_of : FnOk P w K mg base CX0 3 f__law_one_of fd__law_one_of ["pen", "some"] (lift K 2 T__law_one_of)) {f__law_take : Addr} {fd__law_take : FuncData} (E__law_take : Ent K mg "_law_take" s__law_take ["pen", "amount"] f__law_take fd__law_take) (G__law_take : FnOk P w K mg base CX0 2 f__law_take fd__law_take ["pen", "amount"] (lift K 2 takeD)) {f__law_off : Addr} {fd__law_off : FuncData} (E__law_off : Ent K mg "_law_off" s__law_off ["pen", "value"] f__law_off fd__law_off) (m : Nat) : FnOk P w K mg base CX0 (3 + m) f__law_off fd__law_off ["pen", "value"] (lift K 2 (T__law_off m)) := by
  induction m with
  | zero => exact fn_none
  | succ m G__law_off =>
    refine fn_D (k := 3 + m) 2 3 rfl rfl (by decide) E__law_off.F sc__law_off fun cdv A outer s H E hr => ⟨[], ?_⟩
    have nd := sc__law_off.nd
    exact (s_cons (s_if (bd_w (wb_and (bd_valT (ed_isi (T := "tuple") B (by decide +kernel) (by rfl) (by rfl) (by decide) (by decide +kernel) (ed_var (pv 1)))) (wb_and1 (bd_cmpT ((op_neD hr.units).or op_ne) (nomark _) o2_ne (ed_var (pv 1)) (ed_tupT ad_nil))))) (s_cons (s_asg [] (fun _ h => ps_set (i := 2) nd rfl (by first | exact .inl rfl | exact .inr rfl) h) (ed_call G__law_take (by first | exact hr | exact hr.mono (by decide) | exact hr.mono (by omega)) (by rfl) E__law_take.g E__law_take.F.kp E__law_take.b (ad_cons (ed_var (pv 0)) (ad_cons (ed_len B (by rfl) (ad_cons (ed_var (pv 1)) ad_nil)) ad_nil)) (takeD_len)) (tr_name 2)) (s_one (s_ret (ed_add (ed_add (ed_slice (ed_var (pv 1)) od_none (od_some (ed_var (pv 2)))) (ed_tupT (ad_cons (ed_call G__law_off (by first | exact hr | exact hr.mono (by decide) | exact hr.mono (by omega)) (by rfl) E__law_off.g E__law_off.F.kp E__law_off.b (ad_cons (ed_var (pv 0)) (ad_cons (ed_ix (ed_var (pv 1)) (ed_var (pv 2))) ad_nil)) (T__law_off_len m)) ad_nil))) (ed_slice (ed_var (pv 1)) (od_some (ed_add (ed_var (pv 2)) ed_int)) od_none))))) s_nil) (s_one (s_ret (ed_if (bd_valT (ed_isi (T := "int") B (by decide +kernel) (by rfl) (by rfl) (by decide) (by decide +kernel) (ed_var (pv 1)))) (ed_add (ed_var (pv 1)) (ed_call G__law_one_of (by first | exact hr | exact hr.mono (by decide) | exact hr.mono (by omega)) (by rfl) E__law_one_of.g E__law_one_of.F.kp E__law_one_of.b (ad_cons (ed_var (pv 0)) (ad_cons (ed_lstT (ad_cons ed_int (ad_cons (ed_neg ed_int) ad_nil))) ad_nil)) (fun _ _ _ h => h.1))) (ed_var (pv 1))))))

abbrev s__law_is_bounds : Stmt := topS 29
theorem sc__law_is_bounds : FnScope ["value", "one"] ["value"] (defScope s__law_is_bounds) := ⟨rfl, rfl, rfl, by decide +kernel, rfl, by decide +kernel, by decide +kernel⟩
def T__law_is_bounds : FT := fnD 1 2 (sSeq (sIf (bOr (bNot (bVal (tIsi "tuple" (tVarD 0)))) (bCmp neD (tCallB lenD (aCons (tVarD 0) aNil)) (tCD (.int 2)))) (sRet (tCD (.bl false))) sNil) (sRet (tAndD (tOpD (inD true) (tCD (.bl false)) (tComp (wAny (tVarD 0)) (fName 1) bYes (tCallD T__law_between (aCons (tVarD 1) (aCons (tOp1D negD (tCD (.int 1000000))) (aCons (tCD (.int 1000000)) aNil)))) [1])) (tOpD leD (tOpD ixD (tVarD 0) (tCD (.int 0))) (tOpD ixD (tVarD 0) (tCD (.int 1)))))))
theorem ok__law_is_bounds (B : NoB mg) {f__law_between : Addr} {fd__law_between : FuncData} (E__law_between : Ent K mg "_law_between" s__law_between ["value", "low", "high"] f__law_between fd__law_between) (G__law_between : FnOk P w K mg base CX0 1 f__law_between fd__law_between ["value", "low", "high"] (lift K 3 T__law_between)) {f__law_is_bounds : Addr} {fd__law_is_bounds : FuncData} (E__law_is_bounds : Ent K mg "_law_is_bounds" s__law_is_bounds ["value"] f__law_is_bounds fd__law_is_bounds) : FnOk P w K mg base CX0 2 f__law_is_bounds fd__law_is_bounds ["value"] (lift K 1 T__law_is_bounds) := by
  refine fn_D 1 2 rfl rfl (by decide) E__law_is_bounds.F sc__law_is_bounds fun cdv A outer s H E hr => ⟨[], ?_⟩
  have nd := sc__law_is_bounds.nd
  exact (s_cons (s_if (bd_w (wb_or (bd_not (bd_valT (ed_isi (T := "tuple") B (by decide +kernel) (by rfl) (by rfl) (by decide) (by decide +kernel) (ed_var (pv 0))))) (wb_or1 (bd_cmpT ((op_neD hr.units).or op_ne) (nomark _) o2_ne (ed_len B (by rfl) (ad_cons (ed_var (pv 0)) ad_nil)) ed_int)))) (s_one (s_ret ed_bl)) s_nil) (s_one (s_ret (ed_and (ed_cmp op_notIn_seq (by rfl) o2_in ed_bl (ed_lc (own := [("one", 1)]) (by rfl) nd (wd_seq (ed_var (pv 0))) (blkOk_by (N := ["value", "one"]) (sc := defScope s__law_is_bounds) (by decide +kernel)) (tr_name 1) (fun _ _ _ _ _ => (pg_name (i := 1) nd rfl (by first | exact .inl rfl | exact .inr rfl))) (fun _ _ _ _ _ => ts_nil) (fun _ _ _ _ _ => (ed_call G__law_between (by first | exact hr | exact hr.mono (by decide) | exact hr.mono (by omega)) (by rfl) E__law_between.g E__law_between.F.kp E__law_between.b (ad_cons (ed_var (pv 1)) (ad_cons (ed_neg ed_int) (ad_cons ed_int ad_nil))) (fun _ _ _ h => h.1))))) (ed_one (ed_cmp op_le (nomark _) o2_cmpI (ed_ix (ed_var (pv 0)) ed_int) (ed_ix (ed_var (pv 0)) ed_int)))))))

abbrev s__law_are_columns : Stmt := topS 30
theorem sc__law_are_columns : FnScope ["value", "many", "one"] ["value", "many"] (defScope s__law_are_columns) := ⟨rfl, rfl, rfl, by decide +kernel, rfl, by decide +kernel, by decide +kernel⟩
def T__law_are_columns : FT := fnD 2 3 (sSeq (sIf (bOr (bNot (bVal (tIsi "tuple" (tVarD 0)))) (bNot (bChain leD leD (tCD (.int 1)) (tCallB lenD (aCons (tVarD 0) aNil)) (tCD (.int 2))))) (sRet (tCD (.bl false))) sNil) (sRet (tAndD (tOpD (inD true) (tCD (.bl false)) (tComp (wAny (tVarD 0)) (fName 2) bYes (tCallD T__law_between (aCons (tVarD 2) (aCons (tCD (.int 0)) (aCons (tOpD subD (tVarD 1) (tCD (.int 1))) aNil)))) [2])) (tOpD eqD (tOp1D lensetD (tVarD 0)) (tCallB lenD (aCons (tVarD 0) aNil))))))
theorem ok__law_are_columns (B : NoB mg) {f__law_between : Addr} {fd__law_between : FuncData} (E__law_between : Ent K mg "_law_between" s__law_between ["value", "low", "high"] f__law_between fd__law_between) (G__law_between : FnOk P w K mg base CX0 1 f__law_between fd__law_between ["value", "low", "high"] (lift K 3 T__law_between)) {f__law_are_columns : Addr} {fd__law_are_columns : FuncData} (E__law_are_columns : Ent K mg "_law_are_columns" s__law_are_columns ["value", "many"] f__law_are_columns fd__law_are_columns) : FnOk P w K mg base CX0 2 f__law_are_columns fd__law_are_columns ["value", "many"] (lift K 2 T__law_are_columns) := by
  refine fn_D 2 3 rfl rfl (by decide) E__law_are_columns.F sc__law_are_columns fun cdv A outer s H E hr => ⟨[], ?_⟩
  have nd := sc__law_are_columns.nd
  exact (s_cons (s_if (bd_w (wb_or (bd_not (bd_valT (ed_isi (T := "tuple") B (by decide +kernel) (by rfl) (by rfl) (by decide) (by decide +kernel) (ed_var (pv 0))))) (wb_or1 (bd_not (bd_chain op_le op_le o2_cmpI o2_cmpI ed_int (ed_len B (by rfl) (ad_cons (ed_var (pv 0)) ad_nil)) ed_int))))) (s_one (s_ret ed_bl)) s_nil) (s_one (s_ret (ed_and (ed_cmp op_notIn_seq (by rfl) o2_in ed_bl (ed_lc (own := [("one", 2)]) (by rfl) nd (wd_seq (ed_var (pv 0))) (blkOk_by (N := ["value", "many", "one"]) (sc := defScope s__law_are_columns) (by decide +kernel)) (tr_name 2) (fun _ _ _ _ _ => (pg_name (i := 2) nd rfl (by first | exact .inl rfl | exact .inr rfl))) (fun _ _ _ _ _ => ts_nil) (fun _ _ _ _ _ => (ed_call G__law_between (by first | exact hr | exact hr.mono (by decide) | exact hr.mono (by omega)) (by rfl) E__law_between.g E__law_between.F.kp E__law_between.b (ad_cons (ed_var (pv 2)) (ad_cons ed_int (ad_cons (ed_sub (ed_var (pv 1)) ed_int) ad_nil))) (fun _ _ _ h => h.1))))) (ed_one (ed_cmp ((op_eqD hr.units).or op_eq) (nomark _) o2_eq (ed_lenset B (by rfl) (by rfl) (by rfl) (ed_var (pv 0))) (ed_len B (by rfl) (ad_cons (ed_var (pv 0)) ad_nil))))))))

abbrev s__law_is_reference : Stmt := topS 31
theorem sc__law_is_reference : FnScope ["tables", "bounds", "value", "other", "own", "column", "low", "high"] ["tables", "bounds", "value"] (defScope s__law_is_reference) := ⟨rfl, rfl, rfl, by decide +kernel, rfl, by decide +kernel, by decide +kernel⟩
def T__law_is_reference : FT := fnD 3 8 (sSeq (sIf (bOr (bNot (bVal (tIsi "tuple" (tVarD 2)))) (bOr (bCmp neD (tCallB lenD (aCons (tVarD 2) aNil)) (tCD (.int 2))) (bNot (bVal (tCallD T__law_are_columns (aCons (tOpD ixD (tVarD 2) (tCD (.int 0))) (aCons (tCallB lenD (aCons (tVarD 1) aNil)) aNil))))))) (sRet (tCD (.bl false))) sNil) (sSeq (sIf (bNot (bVal (tCallD T__law_between (aCons (tOpD ixD (tVarD 2) (tCD (.int 1))) (aCons (tCD (.int 0)) (aCons (tOpD subD (tCallB lenD (aCons (tVarD 0) aNil)) (tCD (.int 1))) aNil)))))) (sRet (tCD (.bl false))) sNil) (sSeq (sAsg [] (fName 3) (tOpD ixD (tVarD 0) (tOpD ixD (tVarD 2) (tCD (.int 1))))) (sSeq (sIf (bOr (bCmp neD (tOpD ixD (tVarD 3) (tCD (.int 2))) (tTupD aNil)) (bCmp neD (tCallB lenD (aCons (tOpD ixD (tVarD 2) (tCD (.int 0))) aNil)) (tCallB lenD (aCons (tOpD ixD (tVarD 3) (tCD (.int 1))) aNil)))) (sRet (tCD (.bl false))) sNil) (sSeq (sFor [] (wZip (aCons (tOpD ixD (tVarD 2) (tCD (.int 0))) (aCons (tOpD ixD (tVarD 3) (tCD (.int 1))) aNil))) (fTup 2 (fsCons (fName 4) (fsCons (fName 5) fsNil))) (sSeq (sAsg [] (fTup 2 (fsCons (fName 6) (fsCons (fName 7) fsNil))) (tOpD ixD (tOpD ixD (tVarD 3) (tCD (.int 0))) (tVarD 5))) (sIf (bNot (bChain3 leD leD leD (tVarD 6) (tOpD ixD (tOpD ixD (tVarD 1) (tVarD 4)) (tCD (.int 0))) (tOpD ixD (tOpD ixD (tVarD 1) (tVarD 4)) (tCD (.int 1))) (tVarD 7))) (sRet (tCD (.bl false))) sNil))) (sRet (tCD (.bl true))))))))
theorem ok__law_is_reference (B : NoB mg) {f__law_are_columns : Addr} {fd__law_are_columns : FuncData} (E__law_are_columns : Ent K mg "_law_are_columns" s__law_are_columns ["value", "many"] f__law_are_columns fd__law_are_columns) (G__law_are_columns : FnOk P w K mg base CX0 2 f__law_are_columns fd__law_are_columns ["value", "many"] (lift K 2 T__law_are_columns)) {f__law_between : Addr} {fd__law_between : FuncData} (E__law_between : Ent K mg "_law_between" s__law_between ["value", "low", "high"] f__law_between fd__law_between) (G__law_between : FnOk P w K mg base CX0 1 f__law_between fd__law_between ["value", "low", "high"] (lift K 3 T__law_between)) {f__law_is_reference : Addr} {fd__law_is_reference : FuncData} (E__law_is_reference : Ent K mg "_law_is_reference" s__law_is_reference ["tables", "bounds", "value"] f__law_is_reference fd__law_is_reference) : FnOk P w K mg base CX0 3 f__law_is_reference fd__law_is_reference ["tables", "bounds", "value"] (lift K 3 T__law_is_reference) := by
  refine fn_D 3 8 rfl rfl (by decide) E__law_is_reference.F sc__law_is_reference fun cdv A outer s H E hr => ⟨[], ?_⟩
  have nd := sc__law_is_reference.nd
  exact (s_cons (s_if (bd_w (wb_or (bd_not (bd_valT (ed_isi (T := "tuple") B (by decide +kernel) (by rfl) (by rfl) (by decide) (by decide +kernel) (ed_var (pv 2))))) (wb_or (bd_cmpT ((op_neD hr.units).or op_ne) (nomark _) o2_ne (ed_len B (by rfl) (ad_cons (ed_var (pv 2)) ad_nil)) ed_int) (wb_or1 (bd_not (bd_valT (ed_call G__law_are_columns (by first | exact hr | exact hr.mono (by decide) | exact hr.mono (by omega)) (by rfl) E__law_are_columns.g E__law_are_columns.F.kp E__law_are_columns.b (ad_cons (ed_ix (ed_var (pv 2)) ed_int) (ad_cons (ed_len B (by rfl) (ad_cons (ed_var (pv 1)) ad_nil)) ad_nil)) (fun _ _ _ h => h.1)))))))) (s_one (s_ret ed_bl)) s_nil) (s_cons (s_if (bd_not (bd_valT (ed_call G__law_between (by first | exact hr | exact hr.mono (by decide) | exact hr.mono (by omega)) (by rfl) E__law_between.g E__law_between.F.kp E__law_between.b (ad_cons (ed_ix (ed_var (pv 2)) ed_int) (ad_cons ed_int (ad_cons (ed_sub (ed_len B (by rfl) (ad_cons (ed_var (pv 0)) ad_nil)) ed_int) ad_nil))) (fun _ _ _ h => h.1)))) (s_one (s_ret ed_bl)) s_nil) (s_cons (s_asg [] (fun _ h => ps_set (i := 3) nd rfl (by first | exact .inl rfl | exact .inr rfl) h) (ed_ix (ed_var (pv 0)) (ed_ix (ed_var (pv 2)) ed_int)) (tr_name 3)) (s_cons (s_if (bd_w (wb_or (bd_cmpT ((op_neD hr.units).or op_ne) (nomark _) o2_ne (ed_ix (ed_var (pv 3)) ed_int) (ed_tupT ad_nil)) (wb_or1 (bd_cmpT ((op_neD hr.units).or op_ne) (nomark _) o2_ne (ed_len B (by rfl) (ad_cons (ed_ix (ed_var (pv 2)) ed_int) ad_nil)) (ed_len B (by rfl) (ad_cons (ed_ix (ed_var (pv 3)) ed_int) ad_nil)))))) (s_one (s_ret ed_bl)) s_nil) (s_cons (s_for [] [] PassesOwn.never (by rfl) (wd_zip B (by rfl) (ad_cons (ed_ix (ed_var (pv 2)) ed_int) (ad_cons (ed_ix (ed_var (pv 3)) ed_int) ad_nil))) (pg_tup (by rfl) (pgs_cons (pg_name (i := 4) nd rfl (by first | exact .inl rfl | exact .inr rfl)) (pgs_cons (pg_name (i := 5) nd rfl (by first | exact .inl rfl | exact .inr rfl)) pgs_nil))) (tr_tup 2 (trs_cons (tr_name 4) (trs_cons (tr_name 5) trs_nil))) (s_cons (s_asg [] (fun _ h => ps_asg h (pg_tup (by rfl) (pgs_cons (pg_name (i := 6) nd rfl (by first | exact .inl rfl | exact .inr rfl)) (pgs_cons (pg_name (i := 7) nd rfl (by first | exact .inl rfl | exact .inr rfl)) pgs_nil)))) (ed_ix (ed_ix (ed_var (pv 3)) ed_int) (ed_var (pv 5))) (tr_tup 2 (trs_cons (tr_name 6) (trs_cons (tr_name 7) trs_nil)))) (s_one (s_if (bd_not (bd_chain3 op_le op_le op_le o2_cmpI o2_cmpI o2_cmpI (ed_var (pv 6)) (ed_ix (ed_ix (ed_var (pv 1)) (ed_var (pv 4))) ed_int) (ed_ix (ed_ix (ed_var (pv 1)) (ed_var (pv 4))) ed_int) (ed_var (pv 7)) )) (s_one (s_ret ed_bl)) s_nil)))) (s_one (s_ret ed_bl)))))))

abbrev s__law_is_scheme : Stmt := topS 32
theorem sc__law_is_scheme : FnScope ["value", "number", "table", "bounds", "key", "references", "one"] ["value"] (defScope s__law_is_scheme) := ⟨rfl, rfl, rfl, by decide +kernel, rfl, by decide +kernel, by decide +kernel⟩
def T__law_is_scheme : FT := fnD 1 7 (sSeq (sIf (bOr (bNot (bVal (tIsi "tuple" (tVarD 0)))) (bNot (bChain leD leD (tCD (.int 1)) (tCallB lenD (aCons (tVarD 0) aNil)) (tCD (.int 4))))) (sRet (tCD (.bl false))) sNil) (sSeq (sFor [] (wEnum (aCons (tVarD 0) aNil)) (fTup 2 (fsCons (fName 1) (fsCons (fName 2) fsNil))) (sSeq (sIf (bOr (bNot (bVal (tIsi "tuple" (tVarD 2)))) (bOr (bCmp neD (tCallB lenD (aCons (tVarD 2) aNil)) (tCD (.int 3))) (bNot (bVal (tIsi "tuple" (tOpD ixD (tVarD 2) (tCD (.int 0)))))))) (sRet (tCD (.bl false))) sNil) (sSeq (sAsg [] (fTup 3 (fsCons (fName 3) (fsCons (fName 4) (fsCons (fName 5) fsNil)))) (tVarD 2)) (sSeq (sIf (bOr (bNot (bChain leD leD (tCD (.int 1)) (tCallB lenD (aCons (tVarD 3) aNil)) (tCD (.int 4)))) (bCmp (inD false) (tCD (.bl false)) (tComp (wAny (tVarD 3)) (fName 6) bYes (tCallD T__law_is_bounds (aCons (tVarD 6) aNil)) [6]))) (sRet (tCD (.bl false))) sNil) (sSeq (sIf (bOr (bNot (bVal (tCallD T__law_are_columns (aCons (tVarD 4) (aCons (tCallB lenD (aCons (tVarD 3) aNil)) aNil))))) (bCmp neD (tCallB listD (aCons (tVarD 4) aNil)) (tCallB sortedAD (aCons (tVarD 4) aNil)))) (sRet (tCD (.bl false))) sNil) (sSeq (sIf (bOr (bNot (bVal (tIsi "tuple" (tVarD 5)))) (bCmp gtD (tCallB lenD (aCons (tVarD 5) aNil)) (tCD (.int 2)))) (sRet (tCD (.bl false))) sNil) (sIf (bCmp (inD false) (tCD (.bl false)) (tComp (wAny (tVarD 5)) (fName 6) bYes (tCallD T__law_is_reference (aCons (tSlD (tVarD 0) oNone (oSome (tVarD 1))) (aCons (tVarD 3) (aCons (tVarD 6) aNil)))) [6])) (sRet (tCD (.bl false))) sNil))))))) (sRet (tCD (.bl true)))))
theorem ok__law_is_scheme (B : NoB mg) {f__law_are_columns : Addr} {fd__law_are_columns : FuncData} (E__law_are_columns : Ent K mg "_law_are_columns" s__law_are_columns ["value", "many"] f__law_are_columns fd__law_are_columns) (G__law_are_columns : FnOk P w K mg base CX0 2 f__law_are_columns fd__law_are_columns ["value", "many"] (lift K 2 T__law_are_columns)) {f__law_is_bounds : Addr} {fd__law_is_bounds : FuncData} (E__law_is_bounds : Ent K mg "_law_is_bounds" s__law_is_bounds ["value"] f__law_is_bounds fd__law_is_bounds) (G__law_is_bounds : FnOk P w K mg base CX0 2 f__law_is_bounds fd__law_is_bounds ["value"] (lift K 1 T__law_is_bounds)) {f__law_is_reference : Addr} {fd__law_is_reference : FuncData} (E__law_is_reference : Ent K mg "_law_is_reference" s__law_is_reference ["tables", "bounds", "value"] f__law_is_reference fd__law_is_reference) (G__law_is_reference : FnOk P w K mg base CX0 3 f__law_is_reference fd__law_is_reference ["tables", "bounds", "value"] (lift K 3 T__law_is_reference)) {f__law_is_scheme : Addr} {fd__law_is_scheme : FuncData} (E__law_is_scheme : Ent K mg "_law_is_scheme" s__law_is_scheme ["value"] f__law_is_scheme fd__law_is_scheme) : FnOk P w K mg base CX0 4 f__law_is_scheme fd__law_is_scheme ["value"] (lift K 1 T__law_is_scheme) := by
  refine fn_D 1 7 rfl rfl (by decide) E__law_is_scheme.F sc__law_is_scheme fun cdv A outer s H E hr => ⟨[], ?_⟩
  have nd := sc__law_is_scheme.nd
  exact (s_cons (s_if (bd_w (wb_or (bd_not (bd_valT (ed_isi (T := "tuple") B (by decide +kernel) (by rfl) (by rfl) (by decide) (by decide +kernel) (ed_var (pv 0))))) (wb_or1 (bd_not (bd_chain op_le op_le o2_cmpI o2_cmpI ed_int (ed_len B (by rfl) (ad_cons (ed_var (pv 0)) ad_nil)) ed_int))))) (s_one (s_ret ed_bl)) s_nil) (s_cons (s_for [] [] PassesOwn.never (by rfl) (wd_enum B (by rfl) (ad_cons (ed_var (pv 0)) ad_nil)) (pg_tup (by rfl) (pgs_cons (pg_name (i := 1) nd rfl (by first | exact .inl rfl | exact .inr rfl)) (pgs_cons (pg_name (i := 2) nd rfl (by first | exact .inl rfl | exact .inr rfl)) pgs_nil))) (tr_tup 2 (trs_cons (tr_name 1) (trs_cons (tr_name 2) trs_nil))) (s_cons (s_if (bd_w (wb_or (bd_not (bd_valT (ed_isi (T := "tuple") B (by decide +kernel) (by rfl) (by rfl) (by decide) (by decide +kernel) (ed_var (pv 2))))) (wb_or (bd_cmpT ((op_neD hr.units).or op_ne) (nomark _) o2_ne (ed_len B (by rfl) (ad_cons (ed_var (pv 2)) ad_nil)) ed_int) (wb_or1 (bd_not (bd_valT (ed_isi (T := "tuple") B (by decide +kernel) (by rfl) (by rfl) (by decide) (by decide +kernel) (ed_ix (ed_var (pv 2)) ed_int)))))))) (s_one (s_ret ed_bl)) s_nil) (s_cons (s_asg [] (fun _ h => ps_asg h (pg_tup (by rfl) (pgs_cons (pg_name (i := 3) nd rfl (by first | exact .inl rfl | exact .inr rfl)) (pgs_cons (pg_name (i := 4) nd rfl (by first | exact .inl rfl | exact .inr rfl)) (pgs_cons (pg_name (i := 5) nd rfl (by first | exact .inl rfl | exact .inr rfl)) pgs_nil))))) (ed_var (pv 2)) (tr_tup 3 (trs_cons (tr_name 3) (trs_cons (tr_name 4) (trs_cons (tr_name 5) trs_nil))))) (s_cons (s_if (bd_w (wb_or (bd_not (bd_chain op_le op_le o2_cmpI o2_cmpI ed_int (ed_len B (by rfl) (ad_cons (ed_var (pv 3)) ad_nil)) ed_int)) (wb_or1 (bd_cmpT op_in_seq (by rfl) o2_in ed_bl (ed_lc (own := [("one", 6)]) (by rfl) nd (wd_seq (ed_var (pv 3))) (blkOk_by (N := ["value", "number", "table", "bounds", "key", "references", "one"]) (sc := defScope s__law_is_scheme) (by decide +kernel)) (tr_name 6) (fun _ _ _ _ _ => (pg_name (i := 6) nd rfl (by first | exact .inl rfl | exact .inr rfl))) (fun _ _ _ _ _ => ts_nil) (fun _ _ _ _ _ => (ed_call G__law_is_bounds (by first | exact hr | exact hr.mono (by decide) | exact hr.mono (by omega)) (by rfl) E__law_is_bounds.g E__law_is_bounds.F.kp E__law_is_bounds.b (ad_cons (ed_var (pv 6)) ad_nil) (fun _ _ _ h => h.1)))))))) (s_one (s_ret ed_bl)) s_nil) (s_cons (s_if (bd_w (wb_or (bd_not (bd_valT (ed_call G__law_are_columns (by first | exact hr | exact hr.mono (by decide) | exact hr.mono (by omega)) (by rfl) E__law_are_columns.g E__law_are_columns.F.kp E__law_are_columns.b (ad_cons (ed_var (pv 4)) (ad_cons (ed_len B (by rfl) (ad_cons (ed_var (pv 3)) ad_nil)) ad_nil)) (fun _ _ _ h => h.1)))) (wb_or1 (bd_cmpT ((op_neD hr.units).or op_ne) (nomark _) o2_ne (ed_list B (by rfl) (ad_cons (ed_var (pv 4)) ad_nil)) (ed_sortedA B (by rfl) (ad_cons (ed_var (pv 4)) ad_nil)))))) (s_one (s_ret ed_bl)) s_nil) (s_cons (s_if (bd_w (wb_or (bd_not (bd_valT (ed_isi (T := "tuple") B (by decide +kernel) (by rfl) (by rfl) (by decide) (by decide +kernel) (ed_var (pv 5))))) (wb_or1 (bd_cmpT op_gt (nomark _) o2_cmpI (ed_len B (by rfl) (ad_cons (ed_var (pv 5)) ad_nil)) ed_int)))) (s_one (s_ret ed_bl)) s_nil) (s_one (s_if (bd_cmpT op_in_seq (by rfl) o2_in ed_bl (ed_lc (own := [("one", 6)]) (by rfl) nd (wd_seq (ed_var (pv 5))) (blkOk_by (N := ["value", "number", "table", "bounds", "key", "references", "one"]) (sc := defScope s__law_is_scheme) (by decide +kernel)) (tr_name 6) (fun _ _ _ _ _ => (pg_name (i := 6) nd rfl (by first | exact .inl rfl | exact .inr rfl))) (fun _ _ _ _ _ => ts_nil) (fun _ _ _ _ _ => (ed_call G__law_is_reference (by first | exact hr | exact hr.mono (by decide) | exact hr.mono (by omega)) (by rfl) E__law_is_reference.g E__law_is_reference.F.kp E__law_is_reference.b (ad_cons (ed_slice (ed_var (pv 0)) od_none (od_some (ed_var (pv 1)))) (ad_cons (ed_var (pv 3)) (ad_cons (ed_var (pv 6)) ad_nil))) (fun _ _ _ h => h.1))))) (s_one (s_ret ed_bl)) s_nil)))))))) (s_one (s_ret ed_bl))))

abbrev s__law_near : Stmt := topS 33
theorem sc__law_near : FnScope ["pen", "scheme", "k", "bounds", "key", "references", "j", "column", "some", "wide", "keys", "table"] ["pen", "scheme"] (defScope s__law_near) := ⟨rfl, rfl, rfl, by decide +kernel, rfl, by decide +kernel, by decide +kernel⟩
def T__law_near : FT := fnD 2 12 (sSeq (sAsg [] (fName 2) (tCallD takeD (aCons (tVarD 0) (aCons (tCallB lenD (aCons (tVarD 1) aNil)) aNil)))) (sSeq (sAsg [] (fTup 3 (fsCons (fName 3) (fsCons (fName 4) (fsCons (fName 5) fsNil)))) (tOpD ixD (tVarD 1) (tVarD 2))) (sSeq (sPar [] 6 7 (aCons (tCallD takeD (aCons (tVarD 0) (aCons (tOpD addD (tCallB lenD (aCons (tVarD 1) aNil)) (tCD (.int 1))) aNil))) (aCons (tCallD takeD (aCons (tVarD 0) (aCons (tCallB lenD (aCons (tVarD 3) aNil)) aNil))) aNil))) (sSeq (sOwn [] 8 (lLstD (aCons (tOpD addD (tVarD 5) (tTupD (aCons (tTupD (aCons (tVarD 4) (aCons (tVarD 6) aNil))) aNil))) (aCons (tTupD (aCons (tTupD (aCons (tVarD 4) (aCons (tVarD 6) aNil))) aNil)) (aCons (tTupD (aCons (tTupD (aCons (tRevD (tVarD 4) (tOp1D negD (tCD (.int 1)))) (aCons (tVarD 6) aNil))) aNil)) (aCons (tOpD mulD (tVarD 5) (tCD (.int 3))) (aCons (tTupD (aCons (tTupD (aCons (tTupD (aCons (tVarD 7) aNil)) (aCons (tVarD 6) aNil))) aNil)) aNil))))))) (sSeq (sOwn [] 8 (ldAdd (tVarD 8) (tLstD (aCons (tTupD (aCons (tTupD (aCons (tTupD (aCons (tVarD 7) (aCons (tVarD 7) aNil))) (aCons (tVarD 6) aNil))) aNil)) (aCons (tTupD (aCons (tTupD (aCons (tTupD aNil) (aCons (tVarD 6) aNil))) aNil)) (aCons (tTupD (aCons (tTupD (aCons (tLstD (aCons (tVarD 7) aNil)) (aCons (tVarD 6) aNil))) aNil)) (aCons (tTupD (aCons (tTupD (aCons (tTupD (aCons (tVarD 7) aNil)) (aCons (tCD .non) aNil))) aNil)) (aCons (tRevD (tVarD 5) (tOp1D negD (tCD (.int 1)))) aNil)))))))) (sSeq (sApp [8] 8 (tTupD (aCons (tTupD (aCons (tTuple_range1 (aCons (tCallB lenD (aCons (tVarD 3) aNil)) aNil)) (aCons (tVarD 6) aNil))) aNil))) (sSeq (sAsg [8] (fName 9) (tLstD (aCons (tVarD 3) (aCons (tOpD mulD (tVarD 3) (tCD (.int 2))) (aCons (tOpD addD (tVarD 3) (tOpD mulD (tTupD (aCons (tTupD (aCons (tCD (.int 0)) (aCons (tCD (.int 0)) aNil))) aNil)) (tOpD subD (tCD (.int 5)) (tCallB lenD (aCons (tVarD 3) aNil))))) (aCons (tOpD mulD (tTupD (aCons (tTupD (aCons (tOp1D negD (tCD (.int 1000000))) (aCons (tCD (.int 1000000)) aNil))) aNil)) (tCallB lenD (aCons (tVarD 3) aNil))) aNil)))))) (sSeq (sAsg [8] (fName 10) (tLstD (aCons (tVarD 4) (aCons (tRevD (tVarD 4) (tOp1D negD (tCD (.int 1)))) (aCons (tTupD (aCons (tVarD 7) aNil)) (aCons (tOpD mulD (tVarD 4) (tCD (.int 2))) (aCons (tTuple_range1 (aCons (tCallB lenD (aCons (tVarD 3) aNil)) aNil)) (aCons (tOpD addD (tVarD 4) (tTupD (aCons (tOpD subD (tCallB lenD (aCons (tVarD 3) aNil)) (tCD (.int 1))) aNil))) aNil)))))))) (sSeq (sAsg [] (fName 11) (tTupD (aCons (tCallD T__law_one_of (aCons (tVarD 0) (aCons (tVarD 9) aNil))) (aCons (tCallD T__law_one_of (aCons (tVarD 0) (aCons (tVarD 10) aNil))) (aCons (tCallD T__law_one_of (aCons (tVarD 0) (aCons (tVarD 8) aNil))) aNil))))) (sRet (tOpD addD (tOpD addD (tSlD (tVarD 1) oNone (oSome (tVarD 2))) (tTupD (aCons (tVarD 11) aNil))) (tSlD (tVarD 1) (oSome (tOpD addD (tVarD 2) (tCD (.int 1)))) oNone))))))))))))
theorem ok__law_near (B : NoB mg) {f__law_one_of : Addr} {fd__law_one_of : FuncData} (E__law_one_of : Ent K mg "_law_one_of" s__law_one_of ["pen", "some"] f__law_one_of fd__law_one_of) (G__law_one_of : FnOk P w K mg base CX0 3 f__law_one_of fd__law_one_of ["pen", "some"] (lift K 2 T__law_one_of)) {f__law_take : Addr} {fd__law_take : FuncData} (E__law_take : Ent K mg "_law_take" s__law_take ["pen", "amount"] f__law_take fd__law_take) (G__law_take : FnOk P w K mg base CX0 2 f__law_take fd__law_take ["pen", "amount"] (lift K 2 takeD)) {f__law_near : Addr} {fd__law_near : FuncData} (E__law_near : Ent K mg "_law_near" s__law_near ["pen", "scheme"] f__law_near fd__law_near) : FnOk P w K mg base CX0 4 f__law_near fd__law_near ["pen", "scheme"] (lift K 2 T__law_near) := by
  refine fn_D 2 12 rfl rfl (by decide) E__law_near.F sc__law_near fun cdv A outer s H E hr => ⟨[], ?_⟩
  have nd := sc__law_near.nd
  exact (s_cons (s_asg [] (fun _ h => ps_set (i := 2) nd rfl (by first | exact .inl rfl | exact .inr rfl) h) (ed_call G__law_take (by first | exact hr | exact hr.mono (by decide) | exact hr.mono (by omega)) (by rfl) E__law_take.g E__law_take.F.kp E__law_take.b (ad_cons (ed_var (pv 0)) (ad_cons (ed_len B (by rfl) (ad_cons (ed_var (pv 1)) ad_nil)) ad_nil)) (takeD_len)) (tr_name 2)) (s_cons (s_asg [] (fun _ h => ps_asg h (pg_tup (by rfl) (pgs_cons (pg_name (i := 3) nd rfl (by first | exact .inl rfl | exact .inr rfl)) (pgs_cons (pg_name (i := 4) nd rfl (by first | exact .inl rfl | exact .inr rfl)) (pgs_cons (pg_name (i := 5) nd rfl (by first | exact .inl rfl | exact .inr rfl)) pgs_nil))))) (ed_ix (ed_var (pv 1)) (ed_var (pv 2))) (tr_tup 3 (trs_cons (tr_name 3) (trs_cons (tr_name 4) (trs_cons (tr_name 5) trs_nil))))) (s_cons (s_par [] (fun _ h => ps_par (i := 6) (j := 7) (by rfl) nd rfl rfl (by decide) rfl rfl h (by rfl)) (ad_cons (ed_call G__law_take (by first | exact hr | exact hr.mono (by decide) | exact hr.mono (by omega)) (by rfl) E__law_take.g E__law_take.F.kp E__law_take.b (ad_cons (ed_var (pv 0)) (ad_cons (ed_add (ed_len B (by rfl) (ad_cons (ed_var (pv 1)) ad_nil)) ed_int) ad_nil)) (takeD_len)) (ad_cons (ed_call G__law_take (by first | exact hr | exact hr.mono (by decide) | exact hr.mono (by omega)) (by rfl) E__law_take.g E__law_take.F.kp E__law_take.b (ad_cons (ed_var (pv 0)) (ad_cons (ed_len B (by rfl) (ad_cons (ed_var (pv 3)) ad_nil)) ad_nil)) (takeD_len)) ad_nil))) (s_cons (s_own [] (fun _ h => ps_set (i := 8) nd rfl (by first | exact .inl rfl | exact .inr rfl) h) (ld_lstT (ad_cons (ed_add (ed_var (pv 5)) (ed_tupT (ad_cons (ed_tupT (ad_cons (ed_var (pv 4)) (ad_cons (ed_var (pv 6)) ad_nil))) ad_nil))) (ad_cons (ed_tupT (ad_cons (ed_tupT (ad_cons (ed_var (pv 4)) (ad_cons (ed_var (pv 6)) ad_nil))) ad_nil)) (ad_cons (ed_tupT (ad_cons (ed_tupT (ad_cons (ed_rev (ed_var (pv 4)) (ed_neg ed_int)) (ad_cons (ed_var (pv 6)) ad_nil))) ad_nil)) (ad_cons (ed_mul (ed_var (pv 5)) ed_int) (ad_cons (ed_tupT (ad_cons (ed_tupT (ad_cons (ed_tupT (ad_cons (ed_var (pv 7)) ad_nil)) (ad_cons (ed_var (pv 6)) ad_nil))) ad_nil)) ad_nil))))))) (s_cons (s_own [] (fun _ h => ps_set (i := 8) nd rfl (by first | exact .inl rfl | exact .inr rfl) h) (ld_add (ed_var (pv 8)) (ed_lstT (ad_cons (ed_tupT (ad_cons (ed_tupT (ad_cons (ed_tupT (ad_cons (ed_var (pv 7)) (ad_cons (ed_var (pv 7)) ad_nil))) (ad_cons (ed_var (pv 6)) ad_nil))) ad_nil)) (ad_cons (ed_tupT (ad_cons (ed_tupT (ad_cons (ed_tupT ad_nil) (ad_cons (ed_var (pv 6)) ad_nil))) ad_nil)) (ad_cons (ed_tupT (ad_cons (ed_tupT (ad_cons (ed_lstT (ad_cons (ed_var (pv 7)) ad_nil)) (ad_cons (ed_var (pv 6)) ad_nil))) ad_nil)) (ad_cons (ed_tupT (ad_cons (ed_tupT (ad_cons (ed_tupT (ad_cons (ed_var (pv 7)) ad_nil)) (ad_cons ed_non ad_nil))) ad_nil)) (ad_cons (ed_rev (ed_var (pv 5)) (ed_neg ed_int)) ad_nil)))))))) (s_cons (s_app [8] (fun _ h => ps_expr (pe_bm PySem.F.plainAttrs_list PySem.F.slot_list_append PySem.F.type_list_append mt_append (pv 8) (pa_cons h pa_nil))) (ed_tupT (ad_cons (ed_tupT (ad_cons (ed_tuple_range1 B (by rfl) (by rfl) (by rfl) (ed_len B (by rfl) (ad_cons (ed_var (pv 3)) ad_nil))) (ad_cons (ed_var (pv 6)) ad_nil))) ad_nil))) (s_cons (s_asg [8] (fun _ h => ps_set (i := 9) nd rfl (by first | exact .inl rfl | exact .inr rfl) h) (ed_lstT (ad_cons (ed_var (pv 3)) (ad_cons (ed_mul (ed_var (pv 3)) ed_int) (ad_cons (ed_add (ed_var (pv 3)) (ed_mul (ed_tupT (ad_cons (ed_tupT (ad_cons ed_int (ad_cons ed_int ad_nil))) ad_nil)) (ed_sub ed_int (ed_len B (by rfl) (ad_cons (ed_var (pv 3)) ad_nil))))) (ad_cons (ed_mul (ed_tupT (ad_cons (ed_tupT (ad_cons (ed_neg ed_int) (ad_cons ed_int ad_nil))) ad_nil)) (ed_len B (by rfl) (ad_cons (ed_var (pv 3)) ad_nil))) ad_nil))))) (tr_name 9)) (s_cons (s_asg [8] (fun _ h => ps_set (i := 10) nd rfl (by first | exact .inl rfl | exact .inr rfl) h) (ed_lstT (ad_cons (ed_var (pv 4)) (ad_cons (ed_rev (ed_var (pv 4)) (ed_neg ed_int)) (ad_cons (ed_tupT (ad_cons (ed_var (pv 7)) ad_nil)) (ad_cons (ed_mul (ed_var (pv 4)) ed_int) (ad_cons (ed_tuple_range1 B (by rfl) (by rfl) (by rfl) (ed_len B (by rfl) (ad_cons (ed_var (pv 3)) ad_nil))) (ad_cons (ed_add (ed_var (pv 4)) (ed_tupT (ad_cons (ed_sub (ed_len B (by rfl) (ad_cons (ed_var (pv 3)) ad_nil)) ed_int) ad_nil))) ad_nil))))))) (tr_name 10)) (s_cons (s_asg [] (fun _ h => ps_set (i := 11) nd rfl (by first | exact .inl rfl | exact .inr rfl) h) (ed_tupT (ad_cons (ed_call G__law_one_of (by first | exact hr | exact hr.mono (by decide) | exact hr.mono (by omega)) (by rfl) E__law_one_of.g E__law_one_of.F.kp E__law_one_of.b (ad_cons (ed_var (pv 0)) (ad_cons (ed_var (pv 9)) ad_nil)) (fun _ _ _ h => h.1)) (ad_cons (ed_call G__law_one_of (by first | exact hr | exact hr.mono (by decide) | exact hr.mono (by omega)) (by rfl) E__law_one_of.g E__law_one_of.F.kp E__law_one_of.b (ad_cons (ed_var (pv 0)) (ad_cons (ed_var (pv 10)) ad_nil)) (fun _ _ _ h => h.1)) (ad_cons (ed_call G__law_one_of (by first | exact hr | exact hr.mono (by decide) | exact hr.mono (by omega)) (by rfl) E__law_one_of.g E__law_one_of.F.kp E__law_one_of.b (ad_cons (ed_var (pv 0)) (ad_cons (ed_var (pv 8)) ad_nil)) (fun _ _ _ h => h.1)) ad_nil)))) (tr_name 11)) (s_one (s_ret (ed_add (ed_add (ed_slice (ed_var (pv 1)) od_none (od_some (ed_var (pv 2)))) (ed_tupT (ad_cons (ed_var (pv 11)) ad_nil))) (ed_slice (ed_var (pv 1)) (od_some (ed_add (ed_var (pv 2)) ed_int)) od_none)))))))))))))

abbrev s_law : Stmt := topS 34
theorem sc_law : FnScope ["script", "pen", "turn", "scheme", "values", "odd", "value", "text", "again"] ["script"] (defScope s_law) := ⟨rfl, rfl, rfl, by decide +kernel, rfl, by decide +kernel, by decide +kernel⟩
def T_law1 : TDS := (sAsg [] (fName 1) (tCallD T__law_open (aCons (tVarD 0) aNil)))
def T_law2 : TDS := (sSeq (sFor [] (wRng1 (aCons (tCD (.int 4)) aNil)) (fName 2) (sSeq (sAsg [] (fName 3) (tCallD T__law_draw_scheme (aCons (tVarD 1) (aCons (tCD (.int 4)) (aCons (tCD (.int 4)) aNil))))) (sSeq (sOwn [] 4 (lLstD (aCons (tVarD 3) (aCons (tOpD mulD (tVarD 3) (tCD (.int 5))) (aCons (tRevD (tVarD 3) (tOp1D negD (tCD (.int 1)))) (aCons (tTupD aNil) (aCons (tCD .non) (aCons (tCD (.int 7)) (aCons tNoDict (aCons (tLstD (aCons (tVarD 3) aNil)) (aCons (tCallB listD (aCons (tVarD 3) aNil)) (aCons (tSlD (tVarD 3) (oSome (tCD (.int 1))) oNone) (aCons (tCD (.str "scheme")) aNil))))))))))))) (sSeq (sFor [4] (wAny (tLstD (aCons (tCD .non) (aCons (tTupD aNil) (aCons (tTupD (aCons (tOpD ixD (tOpD ixD (tVarD 3) (tCD (.int 0))) (tCD (.int 0))) aNil)) (aCons (tSlD (tOpD ixD (tVarD 3) (tCD (.int 0))) oNone (oSome (tCD (.int 2)))) (aCons (tLstD (aCons (tOpD ixD (tVarD 3) (tCD (.int 0))) aNil)) (aCons (tCD (.int 7)) aNil)))))))) (fName 5) (sApp [4] 4 (tOpD addD (tTupD (aCons (tVarD 5) aNil)) (tSlD (tVarD 3) (oSome (tCD (.int 1))) oNone)))) (sSeq (sOwn [] 4 (ldAdd (tVarD 4) (tComp (wRng1 (aCons (tCD (.int 12)) aNil)) (fName 8) bYes (tCallD (T__law_bent 12) (aCons (tVarD 1) (aCons (tVarD 3) aNil))) [8]))) (sSeq (sOwn [] 4 (ldAdd (tVarD 4) (tComp (wRng1 (aCons (tCD (.int 10)) aNil)) (fName 8) bYes (tCallD T__law_near (aCons (tVarD 1) (aCons (tVarD 3) aNil))) [8]))) (sFor [] (wAny (tOpD addD (tVarD 4) (tComp (wRng1 (aCons (tCD (.int 8)) aNil)) (fName 8) bYes (tCallD (T__law_off 12) (aCons (tVarD 1) (aCons (tVarD 3) aNil))) [8]))) (fName 6) (sSeq (sAsg [] (fName 7) (tCallB reprF (aCons (tVarD 6) aNil))) (sIf (bOr (bNot (bVal (tCallD (T__law_same 12) (aCons (tCallD T_is_scheme (aCons (tVarD 6) aNil)) (aCons (tCallD T__law_is_scheme (aCons (tVarD 6) aNil)) aNil))))) (bCmp neD (tCallB reprF (aCons (tVarD 6) aNil)) (tVarD 7))) (sRet (tCD (.bl false))) sNil))))))))) (sRet (tCD (.bl true))))
theorem run_law (B : NoB mg) {f__law_bent : Addr} {fd__law_bent : FuncData} (E__law_bent : Ent K mg "_law_bent" s__law_bent ["pen", "value"] f__law_bent fd__law_bent) (G__law_bent : FnOk P w K mg base CX0 16 f__law_bent fd__law_bent ["pen", "value"] (lift K 2 (T__law_bent 12))) {f__law_draw_scheme : Addr} {fd__law_draw_scheme : FuncData} (E__law_draw_scheme : Ent K mg "_law_draw_scheme" s__law_draw_scheme ["pen", "many", "columns"] f__law_draw_scheme fd__law_draw_scheme) (G__law_draw_scheme : FnOk P w K mg base CX0 6 f__law_draw_scheme fd__law_draw_scheme ["pen", "many", "columns"] (lift K 3 T__law_draw_scheme)) {f__law_is_scheme : Addr} {fd__law_is_scheme : FuncData} (E__law_is_scheme : Ent K mg "_law_is_scheme" s__law_is_scheme ["value"] f__law_is_scheme fd__law_is_scheme) (G__law_is_scheme : FnOk P w K mg base CX0 4 f__law_is_scheme fd__law_is_scheme ["value"] (lift K 1 T__law_is_scheme)) {f__law_near : Addr} {fd__law_near : FuncData} (E__law_near : Ent K mg "_law_near" s__law_near ["pen", "scheme"] f__law_near fd__law_near) (G__law_near : FnOk P w K mg base CX0 4 f__law_near fd__law_near ["pen", "scheme"] (lift K 2 T__law_near)) {f__law_off : Addr} {fd__law_off : FuncData} (E__law_off : Ent K mg "_law_off" s__law_off ["pen", "value"] f__law_off fd__law_off) (G__law_off : FnOk P w K mg base CX0 15 f__law_off fd__law_off ["pen", "value"] (lift K 2 (T__law_off 12))) {f__law_open : Addr} {fd__law_open : FuncData} (E__law_open : Ent K mg "_law_open" s__law_open ["script"] f__law_open fd__law_open) (G__law_open : FnOk P w K mg base CX0 1 f__law_open fd__law_open ["script"] (lift K 1 T__law_open)) {f__law_same : Addr} {fd__law_same : FuncData} (E__law_same : Ent K mg "_law_same" s__law_same ["found", "due"] f__law_same fd__law_same) (G__law_same : FnOk P w K mg base CX0 12 f__law_same fd__law_same ["found", "due"] (lift K 2 (T__law_same 12))) {f_is_scheme : Addr} {fd_is_scheme : FuncData} (E_is_scheme : Ent K mg "is_scheme" s_is_scheme ["value"] f_is_scheme fd_is_scheme) (G_is_scheme : FnOk P w K mg base CX0 6 f_is_scheme fd_is_scheme ["value"] (lift K 1 T_is_scheme)) (cdv : Value) (s : Shared) (H : Hp) (E : XK) (f : Addr) (hr : Room 16 (callerA.deeper (envOfC "law" (defScope s_law) s.heap.objs.size f cdv))) :
    LawRun (cxOf CX0 P w K mg base ["script", "pen", "turn", "scheme", "values", "odd", "value", "text", "again"] "law" (defScope s_law) f cdv callerA [] s H E).nox (defBody s_law) [] T_law1 T_law2 := by
  have nd := sc_law.nd
  have hgd : (cxOf CX0 P w K mg base ["script", "pen", "turn", "scheme", "values", "odd", "value", "text", "again"] "law" (defScope s_law) f cdv callerA [] s H E).nox.A.guards = some [] := rfl
  have hun : (cxOf CX0 P w K mg base ["script", "pen", "turn", "scheme", "values", "odd", "value", "text", "again"] "law" (defScope s_law) f cdv callerA [] s H E).nox.A.units + 200 < cLine := by
    show 4 + 3 + 200 < cLine
    decide
  exact law_cons (s_asg [] (fun _ h => ps_set (i := 1) nd rfl (by first | exact .inl rfl | exact .inr rfl) h) (ed_call G__law_open (by first | exact hr | exact hr.mono (by decide) | exact hr.mono (by omega)) (by rfl) E__law_open.g E__law_open.F.kp E__law_open.b (ad_cons (ed_var (pv 0)) ad_nil) (fun _ _ _ h => h.1)) (tr_name 1)) (s_cons (s_for [] [] PassesOwn.never (by rfl) (wd_rng1 B (by rfl) (ad_cons ed_int ad_nil)) (pg_name (i := 2) nd rfl (by first | exact .inl rfl | exact .inr rfl)) (tr_name 2) (s_cons (s_asg [] (fun _ h => ps_set (i := 3) nd rfl (by first | exact .inl rfl | exact .inr rfl) h) (ed_call G__law_draw_scheme (by first | exact hr | exact hr.mono (by decide) | exact hr.mono (by omega)) (by rfl) E__law_draw_scheme.g E__law_draw_scheme.F.kp E__law_draw_scheme.b (ad_cons (ed_var (pv 1)) (ad_cons ed_int (ad_cons ed_int ad_nil))) (fun _ _ _ h => h.1)) (tr_name 3)) (s_cons (s_own [] (fun _ h => ps_set (i := 4) nd rfl (by first | exact .inl rfl | exact .inr rfl) h) (ld_lstT (ad_cons (ed_var (pv 3)) (ad_cons (ed_mul (ed_var (pv 3)) ed_int) (ad_cons (ed_rev (ed_var (pv 3)) (ed_neg ed_int)) (ad_cons (ed_tupT ad_nil) (ad_cons ed_non (ad_cons ed_int (ad_cons ed_dnew (ad_cons (ed_lstT (ad_cons (ed_var (pv 3)) ad_nil)) (ad_cons (ed_list B (by rfl) (ad_cons (ed_var (pv 3)) ad_nil)) (ad_cons (ed_slice (ed_var (pv 3)) (od_some ed_int) od_none) (ad_cons ed_str ad_nil))))))))))))) (s_cons (s_for [4] [4] PassesOwn.never (by rfl) (wd_seq (ed_lstT (ad_cons ed_non (ad_cons (ed_tupT ad_nil) (ad_cons (ed_tupT (ad_cons (ed_ix (ed_ix (ed_var (pv 3)) ed_int) ed_int) ad_nil)) (ad_cons (ed_slice (ed_ix (ed_var (pv 3)) ed_int) od_none (od_some ed_int)) (ad_cons (ed_lstT (ad_cons (ed_ix (ed_var (pv 3)) ed_int) ad_nil)) (ad_cons ed_int ad_nil)))))))) (pg_name (i := 5) nd rfl (by first | exact .inl rfl | exact .inr rfl)) (tr_name 5) (s_one (s_app [4] (fun _ h => ps_expr (pe_bm PySem.F.plainAttrs_list PySem.F.slot_list_append PySem.F.type_list_append mt_append (pv 4) (pa_cons h pa_nil))) (ed_add (ed_tupT (ad_cons (ed_var (pv 5)) ad_nil)) (ed_slice (ed_var (pv 3)) (od_some ed_int) od_none))))) (s_cons (s_own [] (fun _ h => ps_set (i := 4) nd rfl (by first | exact .inl rfl | exact .inr rfl) h) (ld_add (ed_var (pv 4)) (ed_lc (own := [("again", 8)]) (by rfl) nd (wd_rng1 B (by rfl) (ad_cons ed_int ad_nil)) (blkOk_by (N := ["script", "pen", "turn", "scheme", "values", "odd", "value", "text", "again"]) (sc := defScope s_law) (by decide +kernel)) (tr_name 8) (fun _ _ _ _ _ => (pg_name (i := 8) nd rfl (by first | exact .inl rfl | exact .inr rfl))) (fun _ _ _ _ _ => ts_nil) (fun _ _ _ _ _ => (ed_call G__law_bent (by first | exact hr | exact hr.mono (by decide) | exact hr.mono (by omega)) (by rfl) E__law_bent.g E__law_bent.F.kp E__law_bent.b (ad_cons (ed_var (pv 1)) (ad_cons (ed_var (pv 3)) ad_nil)) (T__law_bent_len 12)))))) (s_cons (s_own [] (fun _ h => ps_set (i := 4) nd rfl (by first | exact .inl rfl | exact .inr rfl) h) (ld_add (ed_var (pv 4)) (ed_lc (own := [("again", 8)]) (by rfl) nd (wd_rng1 B (by rfl) (ad_cons ed_int ad_nil)) (blkOk_by (N := ["script", "pen", "turn", "scheme", "values", "odd", "value", "text", "again"]) (sc := defScope s_law) (by decide +kernel)) (tr_name 8) (fun _ _ _ _ _ => (pg_name (i := 8) nd rfl (by first | exact .inl rfl | exact .inr rfl))) (fun _ _ _ _ _ => ts_nil) (fun _ _ _ _ _ => (ed_call G__law_near (by first | exact hr | exact hr.mono (by decide) | exact hr.mono (by omega)) (by rfl) E__law_near.g E__law_near.F.kp E__law_near.b (ad_cons (ed_var (pv 1)) (ad_cons (ed_var (pv 3)) ad_nil)) (fun _ _ _ h => h.1)))))) (s_one (s_for [] [] PassesOwn.never (by rfl) (wd_seq (ed_add (ed_var (pv 4)) (ed_lc (own := [("again", 8)]) (by rfl) nd (wd_rng1 B (by rfl) (ad_cons ed_int ad_nil)) (blkOk_by (N := ["script", "pen", "turn", "scheme", "values", "odd", "value", "text", "again"]) (sc := defScope s_law) (by decide +kernel)) (tr_name 8) (fun _ _ _ _ _ => (pg_name (i := 8) nd rfl (by first | exact .inl rfl | exact .inr rfl))) (fun _ _ _ _ _ => ts_nil) (fun _ _ _ _ _ => (ed_call G__law_off (by first | exact hr | exact hr.mono (by decide) | exact hr.mono (by omega)) (by rfl) E__law_off.g E__law_off.F.kp E__law_off.b (ad_cons (ed_var (pv 1)) (ad_cons (ed_var (pv 3)) ad_nil)) (T__law_off_len 12)))))) (pg_name (i := 6) nd rfl (by first | exact .inl rfl | exact .inr rfl)) (tr_name 6) (s_cons (s_asg [] (fun _ h => ps_set (i := 7) nd rfl (by first | exact .inl rfl | exact .inr rfl) h) (ed_repr B hgd hun (by rfl) (ad_cons (ed_var (pv 6)) ad_nil)) (tr_name 7)) (s_one (s_if (bd_w (wb_or (bd_not (bd_valT (ed_call G__law_same (by first | exact hr | exact hr.mono (by decide) | exact hr.mono (by omega)) (by rfl) E__law_same.g E__law_same.F.kp E__law_same.b (ad_cons (ed_call G_is_scheme (by first | exact hr | exact hr.mono (by decide) | exact hr.mono (by omega)) (by rfl) E_is_scheme.g E_is_scheme.F.kp E_is_scheme.b (ad_cons (ed_var (pv 6)) ad_nil) (fun _ _ _ h => h.1)) (ad_cons (ed_call G__law_is_scheme (by first | exact hr | exact hr.mono (by decide) | exact hr.mono (by omega)) (by rfl) E__law_is_scheme.g E__law_is_scheme.F.kp E__law_is_scheme.b (ad_cons (ed_var (pv 6)) ad_nil) (fun _ _ _ h => h.1)) ad_nil)) (T__law_same_len 12)))) (wb_or1 (bd_cmpT ((op_neD hr.units).or op_ne) (nomark _) o2_ne (ed_repr B hgd hun (by rfl) (ad_cons (ed_var (pv 6)) ad_nil)) (ed_var (pv 7)))))) (s_one (s_ret ed_bl)) s_nil))))))))))) (s_one (s_ret ed_bl)))

end
end K01
set_option maxHeartbeats 4000000
namespace DL
open PySem PySem.Spec PyProof.Rows L2
theorem compD_map {f : D → DL.Env → Option DL.Env} {Te : TD} (g : D → D) {ρ : DL.Env} : ∀ (ds acc : List D) (n : Nat) (q : List D → Nat → Prop), (∀ d ∈ ds, ∃ ρ', f d ρ = some ρ' ∧ ∀ n k, Te ρ' n k ↔ k (g d) n) → acc.length + ds.length ≤ LIM → (compD f bYes Te ds acc ρ n q ↔ q (acc ++ ds.map g) n)
  | [], acc, n, q, _, _ => by simp [compD]
  | d :: ds, acc, n, q, h, hl => by
    obtain ⟨ρ', e1, e2⟩ := h d List.mem_cons_self
    have hl' : acc.length + ds.length + 1 ≤ LIM := by
      simp only [List.length_cons] at hl
      omega
    have ih := compD_map g ds (acc ++ [g d]) n q (fun d hd => h d (List.mem_cons_of_mem _ hd)) (by simp only [List.length_append, List.length_cons, List.length_nil]; omega)
    unfold compD
    constructor
    · rintro ⟨ρ2, e3, e4⟩
      rw [e1] at e3
      cases e3
      simp only [bYes, if_true] at e4
      rw [e2] at e4
      have := ih.mp e4.2
      simpa using this
    · intro hq
      refine ⟨ρ', e1, ?_⟩
      simp only [bYes, if_true]
      rw [e2]
      exact ⟨by omega, ih.mpr (by simpa using hq)⟩
theorem blsOf_map' {α : Type} (p : α → Bool) (ds : List α) : blsOf (ds.map fun d => .bl (p d)) = some (ds.map p) := by
  have := blsOf_map (ds.map p)
  rw [List.map_map] at this
  exact this
theorem inD_bls {α : Type} (p : α → Bool) (ds : List α) : inD false (.bl false) (.lst (ds.map fun d => .bl (p d))) = some (.bl (!ds.all p)) := by
  have h1 : (ds.map fun d => D.bl (p d)).all flatD = true := by simp [flatD]
  simp only [inD, h1, flatD, Bool.and_self, if_true]
  congr 2
  simp only [Bool.false_eq_true, if_false, inDs, toV, List.map_map]
  induction ds with
  | nil => rfl
  | cons d ds ih =>
    have e1 : eqV (.bl false) (.bl false) = true := by decide
    have e2 : eqV (.bl true) (.bl false) = false := by decide
    cases h : p d <;> simp_all [inV, toV]
theorem eqD_int (a b : Int) : eqD (.int a) (.int b) = some (.bl (decide (a = b))) := by
  have h1 : ∀ i : Int, okD (.int i) = true := fun i => by simp [okD, SeqAt.shaped, toPy, PyData.canLay0, PyData.depth]
  unfold eqD
  rw [h1, h1]
  simp only [toPy, PyData.eqv, Bool.and_self, if_true]
  congr 2
theorem neD_int (a b : Int) : neD (.int a) (.int b) = some (.bl (decide (¬ a = b))) := by
  have h1 : ∀ i : Int, okD (.int i) = true := fun i => by simp [okD, SeqAt.shaped, toPy, PyData.canLay0, PyData.depth]
  unfold neD
  rw [h1, h1]
  simp only [toPy, PyData.eqv, Bool.and_self, if_true]
  congr 2
  by_cases h : a = b <;> simp [h]
theorem inD_bls' {α : Type} (p : α → Bool) (ds : List α) : inD true (.bl false) (.lst (ds.map fun d => .bl (p d))) = some (.bl (ds.all p)) := by
  have h1 : (ds.map fun d => D.bl (p d)).all flatD = true := by simp [flatD]
  have := inD_bls p ds
  simp only [inD, h1, flatD, Bool.and_self, if_true, Bool.false_eq_true, if_false, Option.some.injEq, D.bl.injEq] at this ⊢
  rw [this, Bool.not_not]
theorem tComp_at {f : D → DL.Env → Option DL.Env} {Te : TD} (g : D → D) {i : Nat} {vs : List Nat} {ds : List D} {ρ : DL.Env} {d : D} (hd : d = .tup ds ∨ d = .lst ds) (h0 : ρ[i]? = some (some d)) (h : ∀ d ∈ ds, ∃ ρ', f d (wipeE ρ vs) = some ρ' ∧ ∀ n k, Te ρ' n k ↔ k (g d) n) (hl : ds.length ≤ LIM) (n : Nat) (q : QD) :
    tComp (wAny (tVarD i)) f bYes Te vs ρ n q ↔ q (.lst (ds.map g)) n := by
  unfold tComp wAny tVarD
  constructor
  · rintro ⟨d', e1, ds', e2, e3⟩
    rw [h0] at e1
    cases e1
    have : ds' = ds := by
      rcases e2 with rfl | rfl <;> rcases hd with hd | hd <;> cases hd <;> rfl
    subst this
    have := (compD_map g ds' [] n _ h (by simpa using hl)).mp e3
    simpa using this
  · intro hq
    refine ⟨d, h0, ds, hd.symm, ?_⟩
    refine (compD_map g ds [] n _ h (by simpa using hl)).mpr ?_
    simpa using hq
end DL
namespace K01
open PySem PySem.Spec PyProof.Rows L2 DL
def isI (d : D) : Bool := isTy "int" d && !isTy "bool" d
theorem m_is_integer (d : D) (n : Nat) (q : QD) : T_is_integer [d] n q ↔ q (.bl (isI d)) n := by
  simp [T_is_integer, isI, fnD, startE, hide_nil, sSeq, sNil, sIf, sRet, sRetN, sAsg, sAsgP, sFor, sForP, sOwn, sOwnP, sPar, sPar2, sApp, sAppP, sSet, sRem, sBreak, sCont, tVarD, tCD, tOpD, tOp1D, tCallD, tCallB, aNil, aCons, tAndD, tOrD, tNotD, tIfD, bAnd, bOr, bNot, bVal, bCmp, bChain, bChain3, bYes, tChainD, tIsi, tIsiIS, tTupD, tLstD, lLstD, tL, tSlD, oNone, oSome, tRevD, tNoDict, fName, fsNil, fsCons, fTup, ltD, leD, gtD, geD, cmpI, eqD, neD, isD, notD, addD, orD, arI, catT, catL, subD, mulD, mulID, arC, modD, fdivD, powD, negD, repT, repL, lenD, wEnum, wEnumP, wAny, wRng1, wRng2, wZip, List.replicate]
  cases isTy "int" d <;> simp
theorem isI_int {d : D} (h : isI d = true) : ∃ i, d = .int i := by
  cases d <;> simp [isI, isTy, tyN] at h ⊢
def btw (d : D) (lo hi : Int) : Bool := match d with
  | .int i => decide (lo ≤ i) && decide (i ≤ hi)
  | _ => false
theorem m_lies_between (d : D) (lo hi : Int) (n : Nat) (q : QD) : T_lies_between [d, .int lo, .int hi] n q ↔ q (.bl (btw d lo hi)) n := by
  simp [T_lies_between, m_is_integer, fnD, startE, hide_nil, sSeq, sNil, sIf, sRet, sRetN, sAsg, sAsgP, sFor, sForP, sOwn, sOwnP, sPar, sPar2, sApp, sAppP, sSet, sRem, sBreak, sCont, tVarD, tCD, tOpD, tOp1D, tCallD, tCallB, aNil, aCons, tAndD, tOrD, tNotD, tIfD, bAnd, bOr, bNot, bVal, bCmp, bChain, bChain3, bYes, tChainD, tIsi, tIsiIS, tTupD, tLstD, lLstD, tL, tSlD, oNone, oSome, tRevD, tNoDict, fName, fsNil, fsCons, fTup, ltD, leD, gtD, geD, cmpI, eqD, neD, isD, notD, addD, orD, arI, catT, catL, subD, mulD, mulID, arC, modD, fdivD, powD, negD, repT, repL, lenD, wEnum, wEnumP, wAny, wRng1, wRng2, wZip, List.replicate]
  cases h : isI d with
  | false =>
    simp
    cases d <;> simp [isI, isTy, tyN] at h <;> simp [btw]
  | true =>
    obtain ⟨i, rfl⟩ := isI_int h
    simp [btw]
    by_cases h1 : lo ≤ i
    · simp [h1, Int.not_lt.mpr h1]
    · simp [h1, Int.not_le.mp h1]
theorem m_law_between (d : D) (lo hi : Int) (n : Nat) (q : QD) : T__law_between [d, .int lo, .int hi] n q ↔ q (.bl (btw d lo hi)) n := by
  simp [T__law_between, fnD, startE, hide_nil, sSeq, sNil, sIf, sRet, sRetN, sAsg, sAsgP, sFor, sForP, sOwn, sOwnP, sPar, sPar2, sApp, sAppP, sSet, sRem, sBreak, sCont, tVarD, tCD, tOpD, tOp1D, tCallD, tCallB, aNil, aCons, tAndD, tOrD, tNotD, tIfD, bAnd, bOr, bNot, bVal, bCmp, bChain, bChain3, bYes, tChainD, tIsi, tIsiIS, tTupD, tLstD, lLstD, tL, tSlD, oNone, oSome, tRevD, tNoDict, fName, fsNil, fsCons, fTup, ltD, leD, gtD, geD, cmpI, eqD, neD, isD, notD, addD, orD, arI, catT, catL, subD, mulD, mulID, arC, modD, fdivD, powD, negD, repT, repL, lenD, wEnum, wEnumP, wAny, wRng1, wRng2, wZip, List.replicate]
  cases d <;> simp [isTy, tyN, btw]
  rename_i i
  by_cases h1 : lo ≤ i
  · simp [h1, Int.not_lt.mpr h1]
  · simp [h1, Int.not_le.mp h1]
def isT (d : D) (k : Int) : Bool := match d with
  | .tup ds => decide ((ds.length : Int) = k)
  | _ => false
theorem m_is_tuple_of (d : D) (k : Int) (n : Nat) (q : QD) : T_is_tuple_of [d, .int k] n q ↔ q (.bl (isT d k)) n := by
  simp [T_is_tuple_of, fnD, startE, sRet, tAndD, tIsi, tVarD, tOpD, tCallB, aCons, aNil]
  cases d <;> simp [isTy, tyN, isT, lenD, eqD_int]
theorem isT_get {d : D} {k : Int} (h : isT d k = true) : ∃ ds, d = .tup ds ∧ (ds.length : Int) = k := by
  cases d <;> simp [isT] at h ⊢
  exact h
def bndB (d : D) : Bool := match d with
  | .tup [.int a, .int b] => decide (-1000000 ≤ a) && decide (a ≤ 1000000) && decide (-1000000 ≤ b) && decide (b ≤ 1000000) && decide (a ≤ b)
  | _ => false
theorem m_are_bounds (d : D) (n : Nat) (q : QD) : T__are_bounds [d] n q ↔ q (.bl (bndB d)) n := by
  simp only [T__are_bounds, m_is_tuple_of, fnD, startE, hide_nil, sSeq, sNil, sIf, sRet, sRetN, tVarD, tCD, tOpD, tOp1D, tCallD, tCallB, aNil, aCons, bVal, bNot, bCmp, List.map_cons, List.map_nil, List.length_cons, List.length_nil, List.replicate, List.cons_append, List.nil_append, List.append_nil, List.getElem?_cons_zero, List.getElem?_cons_succ, Nat.zero_add, Nat.reduceAdd, Nat.reduceSub, Option.some.injEq, exists_eq_left', true_and, D.bl.injEq]
  cases h : isT d 2 with
  | false =>
    simp only [Bool.not_false, if_true]
    have : bndB d = false := by
      unfold bndB
      split
      · simp [isT] at h
      · rfl
    rw [this]
  | true =>
    obtain ⟨ds, rfl, hl⟩ := isT_get h
    match ds, hl with
    | [a, b], _ =>
      simp only [Bool.not_true, Bool.false_eq_true, if_false]
      rw [tComp_at (ds := [a, b]) (fun d => .bl (btw d (-1000000) 1000000)) (.inl rfl) rfl]
      · simp only [allD, blsOf_map', Option.map_some, Option.some.injEq, exists_eq_left', D.bl.injEq]
        have e0 : ixD (.tup [a, b]) (.int 0) = some a := rfl
        have e1 : ixD (.tup [a, b]) (.int 1) = some b := rfl
        simp only [e0, e1, Option.some.injEq, exists_eq_left', List.map_cons, List.map_nil, List.all_cons, List.all_nil, id]
        cases a <;> cases b <;> simp [btw, bndB, leD, cmpI]
        rename_i i j _
        by_cases h1 : -1000000 ≤ i <;> by_cases h2 : i ≤ 1000000 <;> by_cases h3 : -1000000 ≤ j <;> by_cases h4 : j ≤ 1000000 <;> simp [h1, h2, h3, h4]
        intro hh
        omega
      · intro d hd
        refine ⟨_, rfl, fun n k => ?_⟩
        simp only [fName, wipeE, List.set_cons_zero, List.set_cons_succ, negD, m_lies_between, fnD, startE, hide_nil, sSeq, sNil, sIf, sRet, sRetN, tVarD, tCD, tOpD, tOp1D, tCallD, tCallB, aNil, aCons, bVal, bNot, bCmp, List.map_cons, List.map_nil, List.length_cons, List.length_nil, List.replicate, List.cons_append, List.nil_append, List.append_nil, List.getElem?_cons_zero, List.getElem?_cons_succ, Nat.zero_add, Nat.reduceAdd, Nat.reduceSub, Option.some.injEq, exists_eq_left', true_and, D.bl.injEq]
      · show 2 ≤ 1000000; decide
theorem m_law_is_bounds (d : D) (n : Nat) (q : QD) : T__law_is_bounds [d] n q ↔ q (.bl (bndB d)) n := by
  simp only [T__law_is_bounds, tAndD, bOr, tIsi, fnD, startE, hide_nil, sSeq, sNil, sIf, sRet, sRetN, tVarD, tCD, tOpD, tOp1D, tCallD, tCallB, aNil, aCons, bVal, bNot, bCmp, List.map_cons, List.map_nil, List.length_cons, List.length_nil, List.replicate, List.cons_append, List.nil_append, List.append_nil, List.getElem?_cons_zero, List.getElem?_cons_succ, Nat.zero_add, Nat.reduceAdd, Nat.reduceSub, Option.some.injEq, exists_eq_left', true_and, D.bl.injEq]
  have no : ∀ d, (∀ ds, d ≠ .tup ds) → isTy "tuple" d = false ∧ bndB d = false := fun d h => by
    cases d <;> simp [isTy, tyN, bndB]
    exact h _ rfl
  by_cases ht : ∃ ds, d = .tup ds
  · obtain ⟨ds, rfl⟩ := ht
    have e : isTy "tuple" (.tup ds) = true := rfl
    simp only [e, exists_eq_left', Bool.not_true, Bool.false_eq_true, if_false]
    simp only [lenD, Option.some.injEq, exists_eq_left', neD_int, D.bl.injEq]
    match ds with
    | [a, b] =>
      have e3 : decide (¬ ((([a, b] : List D).length : Nat) : Int) = 2) = false := by simp
      simp only [e3, Bool.false_eq_true, if_false]
      rw [tComp_at (ds := [a, b]) (fun d => .bl (btw d (-1000000) 1000000)) (.inl rfl) rfl]
      · simp only [inD_bls', Option.some.injEq, exists_eq_left', D.bl.injEq]
        have e0 : ixD (.tup [a, b]) (.int 0) = some a := rfl
        have e1 : ixD (.tup [a, b]) (.int 1) = some b := rfl
        simp only [e0, e1, Option.some.injEq, exists_eq_left', List.map_cons, List.map_nil, List.all_cons, List.all_nil, id]
        cases a <;> cases b <;> simp [btw, bndB, leD, cmpI]
        rename_i i j
        by_cases h1 : -1000000 ≤ i <;> by_cases h2 : i ≤ 1000000 <;> by_cases h3 : -1000000 ≤ j <;> by_cases h4 : j ≤ 1000000 <;> simp [h1, h2, h3, h4]
      · intro d hd
        refine ⟨_, rfl, fun n k => ?_⟩
        simp only [fName, wipeE, List.set_cons_zero, List.set_cons_succ, negD, m_law_between, fnD, startE, hide_nil, sSeq, sNil, sIf, sRet, sRetN, tVarD, tCD, tOpD, tOp1D, tCallD, tCallB, aNil, aCons, bVal, bNot, bCmp, List.map_cons, List.map_nil, List.length_cons, List.length_nil, List.replicate, List.cons_append, List.nil_append, List.append_nil, List.getElem?_cons_zero, List.getElem?_cons_succ, Nat.zero_add, Nat.reduceAdd, Nat.reduceSub, Option.some.injEq, exists_eq_left', true_and, D.bl.injEq]
      · show 2 ≤ 1000000; decide
    | [] => simp [bndB]
    | [a] => simp [bndB]
    | a :: b :: c :: r =>
      have e3 : decide (¬ (((a :: b :: c :: r).length : Nat) : Int) = 2) = true := by
        apply decide_eq_true
        simp only [List.length_cons]
        omega
      simp only [e3, if_true]
      simp [bndB]
  · obtain ⟨e1, e2⟩ := no d fun ds h => ht ⟨ds, h⟩
    simp [e1, e2]
end K01
set_option maxHeartbeats 4000000
namespace K01
open PySem PySem.Spec PyProof.Rows L2 DL
theorem leD_int (a b : Int) : leD (.int a) (.int b) = some (.bl (decide (a ≤ b))) := rfl
theorem gtD_int (a b : Int) : gtD (.int a) (.int b) = some (.bl (decide (b < a))) := rfl
theorem subD_int (a b : Int) : subD (.int a) (.int b) = some (.int (a - b)) := rfl
theorem lenD_tup (ds : List D) : lenD [.tup ds] = some (.int (ds.length : Nat)) := rfl
theorem isTup_tup (ds : List D) : isTy "tuple" (.tup ds) = true := rfl
theorem isTup_no {d : D} (h : ∀ ds, d ≠ .tup ds) : isTy "tuple" d = false := by
  cases d <;> simp [isTy, tyN]
  exact h _ rfl
/-- whatever is a tuple of 1 to k -/
def tupLen (k : Int) (d : D) : Bool := match d with
  | .tup ds => decide (1 ≤ (ds.length : Int)) && decide ((ds.length : Int) ≤ k)
  | _ => false
theorem tupLen_no {k : Int} {d : D} (h : ∀ ds, d ≠ .tup ds) : tupLen k d = false := by
  unfold tupLen
  split
  · exact absurd rfl (h _)
  · rfl
/-- the two tests at the head: a tuple of 1 to k, else q -/
theorem head_tests (i : Nat) (k : Int) (ρ : DL.Env) (d : D) (hd : ρ[i]? = some (some d)) (n : Nat) (q : Bool → Nat → Prop) :
    bOr (bNot (bVal (tIsi "tuple" (tVarD i)))) (bNot (bChain leD leD (tCD (.int 1)) (tCallB lenD (aCons (tVarD i) aNil)) (tCD (.int k)))) ρ n q ↔ q (!tupLen k d) n := by
  simp only [bOr, tIsi, bChain, hd, fnD, startE, hide_nil, sSeq, sNil, sIf, sRet, sRetN, tVarD, tCD, tOpD, tOp1D, tCallD, tCallB, aNil, aCons, bVal, bNot, bCmp, List.map_cons, List.map_nil, List.length_cons, List.length_nil, List.replicate, List.cons_append, List.nil_append, List.append_nil, List.getElem?_cons_zero, List.getElem?_cons_succ, Nat.zero_add, Nat.reduceAdd, Nat.reduceSub, Option.some.injEq, exists_eq_left', true_and, D.bl.injEq]
  by_cases ht : ∃ ds, d = .tup ds
  · obtain ⟨ds, rfl⟩ := ht
    simp only [isTup_tup, exists_eq_left', Bool.not_true, Bool.false_eq_true, if_false, lenD_tup, Option.some.injEq, leD_int, D.bl.injEq, tupLen]
    by_cases h1 : (1 : Int) ≤ (ds.length : Int) <;> simp [h1]
  · have h : ∀ ds, d ≠ .tup ds := fun ds h => ht ⟨ds, h⟩
    simp [isTup_no h, tupLen_no h]
theorem tupLen_get {k : Int} {d : D} (h : tupLen k d = true) : ∃ ds, d = .tup ds ∧ 1 ≤ ds.length ∧ (ds.length : Int) ≤ k := by
  unfold tupLen at h
  split at h
  · simp only [Bool.and_eq_true, decide_eq_true_eq] at h
    exact ⟨_, rfl, by omega, h.2⟩
  · cases h
def colsB (d : D) : Bool := tupLen 4 d && (match d with
  | .tup ds => ds.all bndB
  | _ => false)
theorem m_are_columns (d : D) (n : Nat) (q : QD) : T__are_columns [d] n q ↔ q (.bl (colsB d)) n := by
  simp only [T__are_columns, fnD, startE, sSeq, sIf, sNil, sRet, List.map_cons, List.map_nil, List.length_cons, List.length_nil, List.replicate, List.cons_append, List.nil_append, Nat.zero_add, Nat.reduceSub]
  rw [head_tests 0 4 _ d rfl]
  cases h : tupLen 4 d with
  | false => simp [colsB, h, tCD]
  | true =>
    obtain ⟨ds, rfl, h1, h2⟩ := tupLen_get h
    simp only [Bool.not_true, Bool.false_eq_true, if_false, tCallB, aCons, aNil]
    rw [tComp_at (ds := ds) (fun d => .bl (bndB d)) (.inl rfl) rfl]
    · simp [allD, blsOf_map', colsB, h]
    · intro d hd
      refine ⟨_, rfl, fun n k => ?_⟩
      simp only [fName, wipeE, List.set_cons_zero, List.set_cons_succ, m_are_bounds, fnD, startE, hide_nil, sSeq, sNil, sIf, sRet, sRetN, tVarD, tCD, tOpD, tOp1D, tCallD, tCallB, aNil, aCons, bVal, bNot, bCmp, List.map_cons, List.map_nil, List.length_cons, List.length_nil, List.replicate, List.cons_append, List.nil_append, List.append_nil, List.getElem?_cons_zero, List.getElem?_cons_succ, Nat.zero_add, Nat.reduceAdd, Nat.reduceSub, Option.some.injEq, exists_eq_left', true_and, D.bl.injEq]
    · have : LIM = 1000000 := rfl
      omega
/-! different columns -/
def difB (m : Int) (ds : List D) : Bool := ds.all (fun x => btw x 0 (m - 1)) && (match intsOf ds with
  | some ns => decide (((dist ns : Nat) : Int) = (ds.length : Int))
  | none => false)
theorem ints_of_btw {lo hi : Int} : ∀ {ds : List D}, (ds.all fun x => btw x lo hi) = true → ∃ ns : List Int, ds = ns.map D.int ∧ intsOf ds = some ns ∧ ∀ k ∈ ns, lo ≤ k ∧ k ≤ hi
  | [], _ => ⟨[], rfl, rfl, by simp⟩
  | d :: ds, h => by
    simp only [List.all_cons, Bool.and_eq_true] at h
    obtain ⟨ns, e1, e2, e3⟩ := ints_of_btw h.2
    have hb := h.1
    cases d <;> simp [btw] at hb
    rename_i i
    refine ⟨i :: ns, by rw [e1]; rfl, by simp [intsOf, e2], fun k hk => ?_⟩
    rcases List.mem_cons.mp hk with rfl | hk
    · exact hb
    · exact e3 k hk
theorem lenset_ints (ns : List Int) (h : ns.length ≤ 4000) : lensetD (.tup (ns.map D.int)) = some (.int (dist ns : Nat)) := by
  simp [lensetD, intsOf_map, h]
theorem m_are_dif (ds : List D) (m : Int) (hs : ds.length ≤ 4000) (n : Nat) (q : QD) : T__are_different_columns [.tup ds, .int m] n q ↔ q (.bl (difB m ds)) n := by
  simp only [T__are_different_columns, fnD, startE, hide_nil, sSeq, sNil, sIf, sRet, sRetN, tVarD, tCD, tOpD, tOp1D, tCallD, tCallB, aNil, aCons, bVal, bNot, bCmp, List.map_cons, List.map_nil, List.length_cons, List.length_nil, List.replicate, List.cons_append, List.nil_append, List.append_nil, List.getElem?_cons_zero, List.getElem?_cons_succ, Nat.zero_add, Nat.reduceAdd, Nat.reduceSub, Option.some.injEq, exists_eq_left', true_and, D.bl.injEq]
  rw [tComp_at (ds := ds) (fun d => .bl (btw d 0 (m - 1))) (.inl rfl) rfl]
  · simp only [allD, blsOf_map', Option.map_some, Option.some.injEq, exists_eq_left', D.bl.injEq, List.all_map, Function.comp_def, id]
    cases h : ds.all (fun x => btw x 0 (m - 1)) with
    | false => simp [difB, h]
    | true =>
      obtain ⟨ns, e1, e2, e3⟩ := ints_of_btw h
      subst e1
      simp only [List.length_map] at hs
      simp [difB, h, e2, lenset_ints ns hs, lenD_tup, eqD_int]
  · intro d hd
    refine ⟨_, rfl, fun n k => ?_⟩
    simp only [fName, wipeE, List.set_cons_zero, List.set_cons_succ, subD_int, m_lies_between, fnD, startE, hide_nil, sSeq, sNil, sIf, sRet, sRetN, tVarD, tCD, tOpD, tOp1D, tCallD, tCallB, aNil, aCons, bVal, bNot, bCmp, List.map_cons, List.map_nil, List.length_cons, List.length_nil, List.replicate, List.cons_append, List.nil_append, List.append_nil, List.getElem?_cons_zero, List.getElem?_cons_succ, Nat.zero_add, Nat.reduceAdd, Nat.reduceSub, Option.some.injEq, exists_eq_left', true_and, D.bl.injEq]
  · have : LIM = 1000000 := rfl
    omega
def dcolB (m : Int) (d : D) : Bool := tupLen 2 d && (match d with
  | .tup ds => difB m ds
  | _ => false)
theorem m_law_are_columns (d : D) (m : Int) (n : Nat) (q : QD) : T__law_are_columns [d, .int m] n q ↔ q (.bl (dcolB m d)) n := by
  unfold dcolB
  simp only [T__law_are_columns, fnD, startE, sSeq, sIf, sNil, sRet, List.map_cons, List.map_nil, List.length_cons, List.length_nil, List.replicate, List.cons_append, List.nil_append, Nat.zero_add, Nat.reduceSub, Nat.reduceAdd]
  rw [head_tests 0 2 _ d rfl]
  cases h : tupLen 2 d with
  | false => simp [tCD]
  | true =>
    obtain ⟨ds, rfl, h1, h2⟩ := tupLen_get h
    simp only [Bool.not_true, Bool.false_eq_true, if_false, Bool.true_and]
    simp only [tAndD, fnD, startE, hide_nil, sSeq, sNil, sIf, sRet, sRetN, tVarD, tCD, tOpD, tOp1D, tCallD, tCallB, aNil, aCons, bVal, bNot, bCmp, List.map_cons, List.map_nil, List.length_cons, List.length_nil, List.replicate, List.cons_append, List.nil_append, List.append_nil, List.getElem?_cons_zero, List.getElem?_cons_succ, Nat.zero_add, Nat.reduceAdd, Nat.reduceSub, Option.some.injEq, exists_eq_left', true_and, D.bl.injEq]
    rw [tComp_at (ds := ds) (fun d => .bl (btw d 0 (m - 1))) (.inl rfl) rfl]
    · simp only [inD_bls', Option.some.injEq, exists_eq_left', D.bl.injEq]
      cases h : ds.all (fun x => btw x 0 (m - 1)) with
      | false => simp [difB, h]
      | true =>
        obtain ⟨ns, e1, e2, e3⟩ := ints_of_btw h
        subst e1
        simp only [List.length_map] at h2
        simp [difB, h, e2, lenset_ints ns (by omega), lenD_tup, eqD_int]
    · intro d hd
      refine ⟨_, rfl, fun n k => ?_⟩
      simp only [fName, wipeE, List.set_cons_zero, List.set_cons_succ, subD_int, m_law_between, fnD, startE, hide_nil, sSeq, sNil, sIf, sRet, sRetN, tVarD, tCD, tOpD, tOp1D, tCallD, tCallB, aNil, aCons, bVal, bNot, bCmp, List.map_cons, List.map_nil, List.length_cons, List.length_nil, List.replicate, List.cons_append, List.nil_append, List.append_nil, List.getElem?_cons_zero, List.getElem?_cons_succ, Nat.zero_add, Nat.reduceAdd, Nat.reduceSub, Option.some.injEq, exists_eq_left', true_and, D.bl.injEq]
    · have : LIM = 1000000 := rfl
      omega
end K01
set_option maxHeartbeats 4000000
namespace DL
open PySem PySem.Spec PyProof.Rows L2
/-- neither dict nor pen within, no deeper than k -/
def Sh (k : Nat) (d : D) : Prop := (toPy d).canLay0 = true ∧ (toPy d).depth ≤ k
theorem Sh.ok {k : Nat} {d : D} (h : Sh k d) (hk : k ≤ 64) : okD d = true := by
  unfold okD SeqAt.shaped
  rw [h.1, decide_eq_true (Nat.le_trans h.2 hk)]
  rfl
theorem Sh.mono {k m : Nat} {d : D} (h : Sh k d) (hk : k ≤ m) : Sh m d := ⟨h.1, Nat.le_trans h.2 hk⟩
theorem sh_int (k : Nat) (i : Int) : Sh k (.int i) := ⟨by simp [toPy, PyData.canLay0], by simp [toPy, PyData.depth]⟩
theorem sh_all {k : Nat} : ∀ {ds : List D}, (∀ d ∈ ds, Sh k d) → PyData.canLayAll0 (toPys ds) = true ∧ PyData.depthAll (toPys ds) ≤ k
  | [], _ => ⟨by simp [toPys, PyData.canLayAll0], by simp [toPys, PyData.depthAll]⟩
  | d :: ds, h => by
    obtain ⟨h1, h2⟩ := sh_all (ds := ds) fun d hd => h d (List.mem_cons_of_mem _ hd)
    obtain ⟨h3, h4⟩ := h d List.mem_cons_self
    exact ⟨by simp [toPys, PyData.canLayAll0, h1, h3], by simp only [toPys, PyData.depthAll]; omega⟩
theorem sh_tup {k : Nat} {ds : List D} (h : ∀ d ∈ ds, Sh k d) : Sh (k + 1) (.tup ds) := by
  obtain ⟨h1, h2⟩ := sh_all h
  exact ⟨by simpa [toPy, PyData.canLay0] using h1, by simp only [toPy, PyData.depth]; omega⟩
theorem sh_lst {k : Nat} {ds : List D} (h : ∀ d ∈ ds, Sh k d) : Sh (k + 1) (.lst ds) := by
  obtain ⟨h1, h2⟩ := sh_all h
  exact ⟨by simpa [toPy, PyData.canLay0] using h1, by simp only [toPy, PyData.depth]; omega⟩
theorem sh_ints (k : Nat) (ns : List Int) : ∀ d ∈ ns.map D.int, Sh k d := fun d hd => by
  obtain ⟨i, _, rfl⟩ := List.mem_map.mp hd
  exact sh_int k i
theorem eqD_ok {a b : D} (ha : okD a = true) (hb : okD b = true) : eqD a b = some (.bl (PyData.eqv (toPy a) (toPy b))) := by simp [eqD, ha, hb]
theorem neD_ok {a b : D} (ha : okD a = true) (hb : okD b = true) : neD a b = some (.bl (!PyData.eqv (toPy a) (toPy b))) := by simp [neD, ha, hb]
theorem atI_nat' {α : Type} {xs : List α} {i : Int} (h0 : 0 ≤ i) (h1 : i < xs.length) : ∃ x, xs[i.toNat]? = some x ∧ atI xs i = some x := by
  have hi : i.toNat < xs.length := by omega
  refine ⟨xs[i.toNat], List.getElem?_eq_getElem hi, ?_⟩
  have := atI_nat (xs := xs) (j := i.toNat) (List.getElem?_eq_getElem hi)
  rw [show ((i.toNat : Nat) : Int) = i by omega] at this
  exact this
end DL
namespace K01
open PySem PySem.Spec PyProof.Rows L2 DL
def srtB (ds : List D) : Bool := match intsOf ds with
  | some ns => PyData.eqv (toPy (.lst (ns.map D.int))) (toPy (.lst ((sortI ns).map D.int)))
  | none => false
def keyB (m : Int) (d : D) : Bool := tupLen 2 d && (match d with
  | .tup ds => difB m ds && srtB ds
  | _ => false)
theorem difB_ints {m : Int} {ds : List D} (h : difB m ds = true) : ∃ ns : List Int, ds = ns.map D.int ∧ intsOf ds = some ns ∧ (∀ k ∈ ns, 0 ≤ k ∧ k < m) := by
  unfold difB at h
  rw [Bool.and_eq_true] at h
  obtain ⟨ns, e1, e2, e3⟩ := ints_of_btw h.1
  exact ⟨ns, e1, e2, fun k hk => ⟨(e3 k hk).1, by have := (e3 k hk).2; omega⟩⟩
theorem m_is_key (d : D) (m : Int) (n : Nat) (q : QD) : T__is_key [d, .int m] n q ↔ q (.bl (keyB m d)) n := by
  simp only [T__is_key, fnD, startE, sSeq, sIf, sNil, sRet, List.map_cons, List.map_nil, List.length_cons, List.length_nil, List.replicate, List.cons_append, List.nil_append, Nat.zero_add, Nat.reduceSub, Nat.reduceAdd, List.append_nil, true_and]
  rw [head_tests 0 2 _ d rfl]
  cases h : tupLen 2 d with
  | false => simp [keyB, h, tCD]
  | true =>
    obtain ⟨ds, rfl, h1, h2⟩ := tupLen_get h
    simp only [Bool.not_true, Bool.false_eq_true, if_false]
    simp only [tAndD, fnD, startE, hide_nil, sSeq, sNil, sIf, sRet, sRetN, tVarD, tCD, tOpD, tOp1D, tCallD, tCallB, aNil, aCons, bVal, bNot, bCmp, List.map_cons, List.map_nil, List.length_cons, List.length_nil, List.replicate, List.cons_append, List.nil_append, List.append_nil, List.getElem?_cons_zero, List.getElem?_cons_succ, Nat.zero_add, Nat.reduceAdd, Nat.reduceSub, Option.some.injEq, exists_eq_left', true_and, D.bl.injEq]
    rw [m_are_dif ds m (by omega)]
    simp only [D.bl.injEq, exists_eq_left']
    cases h : difB m ds with
    | false => simp [keyB, tupLen, h]
    | true =>
      obtain ⟨ns, e1, e2, e3⟩ := difB_ints h
      subst e1
      have o1 : okD (.lst (ns.map D.int)) = true := (sh_lst (sh_ints 0 ns)).ok (by decide)
      have o2 : okD (.lst ((sortI ns).map D.int)) = true := (sh_lst (sh_ints 0 _)).ok (by decide)
      have k : keyB m (.tup (ns.map D.int)) = PyData.eqv (toPy (.lst (ns.map D.int))) (toPy (.lst ((sortI ns).map D.int))) := by
        have h1' : (1 : Int) ≤ ((ns.map D.int).length : Int) := by omega
        simp only [keyB, tupLen, h, decide_eq_true h1', decide_eq_true h2, srtB, e2, Bool.and_self, Bool.true_and]
      simp [listD, sortedAD, e2, eqD_ok o1 o2, k]
def ix {α : Type} [Inhabited α] (xs : List α) (i : Int) : α := xs[i.toNat]?.getD default
instance : Inhabited D := ⟨.non⟩
theorem at_ix {α : Type} [Inhabited α] {xs : List α} {i : Int} (h0 : 0 ≤ i) (h1 : i < xs.length) : atI xs i = some (ix xs i) := by
  obtain ⟨x, e1, e2⟩ := atI_nat' h0 h1
  rw [e2]
  unfold ix
  rw [e1]
  rfl
theorem m_picked (xs : List D) (ns : List Int) (h : ∀ k ∈ ns, 0 ≤ k ∧ k < xs.length) (hl : ns.length ≤ LIM) (n : Nat) (q : QD) : T_picked [.tup xs, .tup (ns.map D.int)] n q ↔ q (.tup (ns.map fun k => ix xs k)) n := by
  simp only [T_picked, fnD, startE, hide_nil, sSeq, sNil, sIf, sRet, sRetN, tVarD, tCD, tOpD, tOp1D, tCallD, tCallB, aNil, aCons, bVal, bNot, bCmp, List.map_cons, List.map_nil, List.length_cons, List.length_nil, List.replicate, List.cons_append, List.nil_append, List.append_nil, List.getElem?_cons_zero, List.getElem?_cons_succ, Nat.zero_add, Nat.reduceAdd, Nat.reduceSub, Option.some.injEq, exists_eq_left', true_and, D.bl.injEq]
  rw [tComp_at (ds := ns.map D.int) (fun d => match d with
    | .int k => ix xs k
    | _ => .non) (.inl rfl) rfl]
  · simp [tupleD, List.map_map, Function.comp_def]
  · intro d hd
    obtain ⟨k, hk, rfl⟩ := List.mem_map.mp hd
    refine ⟨_, rfl, fun n q => ?_⟩
    simp only [fName, wipeE, List.set_cons_zero, List.set_cons_succ, ixD, fnD, startE, hide_nil, sSeq, sNil, sIf, sRet, sRetN, tVarD, tCD, tOpD, tOp1D, tCallD, tCallB, aNil, aCons, bVal, bNot, bCmp, List.map_cons, List.map_nil, List.length_cons, List.length_nil, List.replicate, List.cons_append, List.nil_append, List.append_nil, List.getElem?_cons_zero, List.getElem?_cons_succ, Nat.zero_add, Nat.reduceAdd, Nat.reduceSub, Option.some.injEq, exists_eq_left', true_and, D.bl.injEq]
    rw [at_ix (h k hk).1 (h k hk).2]
    simp
  · simpa using hl
structure Tab where
  cols : List (Int × Int)
  key : List Int
  refs : List (List Int × Int)
instance : Inhabited Tab := ⟨⟨[], [], []⟩⟩
def colD (c : Int × Int) : D := .tup [.int c.1, .int c.2]
def refD (r : List Int × Int) : D := .tup [.tup (r.1.map D.int), .int r.2]
def tabD (t : Tab) : D := .tup [.tup (t.cols.map colD), .tup (t.key.map D.int), .tup (t.refs.map refD)]
structure Tab.Ok (t : Tab) : Prop where
  len : 1 ≤ t.cols.length ∧ t.cols.length ≤ 4
  low : ∀ c ∈ t.cols, c.1 ≤ c.2
  keyLen : 1 ≤ t.key.length ∧ t.key.length ≤ 2
  keyIn : ∀ k ∈ t.key, 0 ≤ k ∧ k < t.cols.length
theorem sh_ref (r : List Int × Int) : Sh 2 (refD r) := sh_tup (k := 1) fun d hd => by
  rcases List.mem_cons.mp hd with rfl | hd
  · exact sh_tup (sh_ints 0 _)
  · rw [List.mem_singleton.mp hd]
    exact sh_int 1 _
theorem ok_refs (rs : List (List Int × Int)) : okD (.tup (rs.map refD)) = true := (sh_tup (k := 2) fun d hd => by
  obtain ⟨r, _, rfl⟩ := List.mem_map.mp hd
  exact sh_ref r).ok (by decide)
theorem ne_none (rs : List (List Int × Int)) : neD (.tup (rs.map refD)) (.tup []) = some (.bl (!rs.isEmpty)) := by
  rw [neD_ok (ok_refs rs) ((sh_tup (k := 0) (ds := []) (by simp)).ok (by decide))]
  cases rs <;> simp [toPy, toPys, PyData.eqv, PyData.eqvAll]
/-- the columns that refer lie within those that are referred to -/
def pairsB (cols : List (Int × Int)) (t : Tab) (os : List Int) : Bool := (os.zip t.key).all fun p => decide ((ix t.cols p.2).1 ≤ (ix cols p.1).1) && decide ((ix cols p.1).2 ≤ (ix t.cols p.2).2)
def pairO (cols : List (Int × Int)) (t : Tab) (os : List D) : Bool := match intsOf os with
  | some ns => pairsB cols t ns
  | none => false
def refB (cols : List (Int × Int)) (earlier : List Tab) (d : D) : Bool := match d with
  | .tup [.tup os, .int j] => decide (0 ≤ j) && decide (j ≤ (earlier.length : Int) - 1) && (ix earlier j).refs.isEmpty && decide (os.length = (ix earlier j).key.length) && difB cols.length os && pairO cols (ix earlier j) os
  | _ => false
end K01
set_option maxHeartbeats 4000000
namespace K01
open PySem PySem.Spec PyProof.Rows L2 DL
theorem btw_get {d : D} {lo hi : Int} (h : btw d lo hi = true) : ∃ i, d = .int i ∧ lo ≤ i ∧ i ≤ hi := by
  cases d <;> simp [btw] at h ⊢
  exact h
theorem ix_map {α : Type} [Inhabited α] {f : α → D} {xs : List α} {i : Int} (h0 : 0 ≤ i) (h1 : i < xs.length) : ix (xs.map f) i = f (ix xs i) := by
  obtain ⟨x, e1, _⟩ := atI_nat' h0 h1
  unfold ix
  rw [List.getElem?_map, e1]
  rfl
theorem zipD_maps {α β : Type} (f : α → D) (g : β → D) : ∀ (xs : List α) (ys : List β), zipD (xs.map f) (ys.map g) = (xs.zip ys).map fun p => .tup [f p.1, g p.2]
  | [], _ => by simp [zipD]
  | _ :: _, [] => by simp [zipD]
  | x :: xs, y :: ys => by simp [zipD, zipD_maps f g xs ys]
theorem m_is_reference (d : D) (cols : List (Int × Int)) (es : List Tab) (hes : ∀ t ∈ es, t.Ok) (n : Nat) (q : QD) : T__is_reference [d, .tup (cols.map colD), .tup (es.map tabD)] n q ↔ q (.bl (refB cols es d)) n := by
  simp only [T__is_reference, m_is_tuple_of, fnD, startE, hide_nil, sSeq, sNil, sIf, sRet, sRetN, tVarD, tCD, tOpD, tOp1D, tCallD, tCallB, aNil, aCons, bVal, bNot, bCmp, List.map_cons, List.map_nil, List.length_cons, List.length_nil, List.replicate, List.cons_append, List.nil_append, List.append_nil, List.getElem?_cons_zero, List.getElem?_cons_succ, Nat.zero_add, Nat.reduceAdd, Nat.reduceSub, Option.some.injEq, exists_eq_left', true_and, D.bl.injEq]
  cases h : isT d 2 with
  | false =>
    simp only [Bool.not_false, if_true]
    have : refB cols es d = false := by
      unfold refB
      split
      · simp [isT] at h
      · rfl
    rw [this]
  | true =>
    obtain ⟨ds, rfl, hl⟩ := isT_get h
    match ds, hl with
    | [a, b], _ =>
      simp only [m_lies_between, sSeq, sNil, sIf, sRet, sRetN, tVarD, tCD, tOpD, tOp1D, tCallD, tCallB, aNil, aCons, bVal, bNot, bCmp, bOr, tTupD, sAsg, hide_nil, fTup, fsCons, fsNil, fName, Option.bind_some, List.set_cons_zero, List.set_cons_succ, List.map_cons, List.map_nil, List.length_cons, List.length_nil, List.getElem?_cons_zero, List.getElem?_cons_succ, Nat.zero_add, Nat.reduceAdd, Option.some.injEq, exists_eq_left', true_and, D.bl.injEq, Bool.not_true, Bool.not_false, Bool.false_eq_true, if_false, if_true, lenD_tup, List.length_map, subD_int]
      cases hb : btw b 0 ((es.length : Int) - 1) with
      | false =>
        simp only [Bool.not_false, if_true]
        have : refB cols es (.tup [a, b]) = false := by
          unfold refB
          split
          · rename_i e
            injection e with e
            injection e with e1 e
            injection e with e2 e
            subst e2
            simp only [btw] at hb
            rw [hb]
            simp
          · rfl
        rw [this]
      | true =>
        obtain ⟨j, rfl, j0, j1⟩ := btw_get hb
        have j2 : j < es.length := by omega
        have e1 : ixD (.tup (es.map tabD)) (.int j) = some (tabD (ix es j)) := by
          show atI (es.map tabD) j = _
          rw [at_ix j0 (by simpa using j2), ix_map j0 j2]
        simp only [e1, sSeq, sNil, sIf, sRet, sRetN, tVarD, tCD, tOpD, tOp1D, tCallD, tCallB, aNil, aCons, bVal, bNot, bCmp, bOr, tTupD, sAsg, hide_nil, fTup, fsCons, fsNil, fName, Option.bind_some, List.set_cons_zero, List.set_cons_succ, List.map_cons, List.map_nil, List.length_cons, List.length_nil, List.getElem?_cons_zero, List.getElem?_cons_succ, Nat.zero_add, Nat.reduceAdd, Option.some.injEq, exists_eq_left', true_and, D.bl.injEq, Bool.not_true, Bool.not_false, Bool.false_eq_true, if_false, if_true, lenD_tup, List.length_map, subD_int]
        simp only [tabD, ne_none, m_is_tuple_of, sSeq, sNil, sIf, sRet, sRetN, tVarD, tCD, tOpD, tOp1D, tCallD, tCallB, aNil, aCons, bVal, bNot, bCmp, bOr, tTupD, sAsg, hide_nil, fTup, fsCons, fsNil, fName, Option.bind_some, List.set_cons_zero, List.set_cons_succ, List.map_cons, List.map_nil, List.length_cons, List.length_nil, List.getElem?_cons_zero, List.getElem?_cons_succ, Nat.zero_add, Nat.reduceAdd, Option.some.injEq, exists_eq_left', true_and, D.bl.injEq, Bool.not_true, Bool.not_false, Bool.false_eq_true, if_false, if_true, lenD_tup, List.length_map, subD_int]
        simp only [Nat.zero_le, true_and]
        have hj : ix es j ∈ es := by
          obtain ⟨x, e1, _⟩ := atI_nat' j0 j2
          unfold ix
          rw [e1]
          exact List.mem_of_getElem? e1
        have ok := hes _ hj
        have jj : (decide (0 ≤ j) && decide (j ≤ (es.length : Int) - 1)) = true := by simp [j0, j1]
        cases he : (ix es j).refs.isEmpty with
        | false =>
          have : refB cols es (.tup [a, .int j]) = false := by
            unfold refB
            split
            · rename_i e
              injection e with e
              injection e with e1 e
              injection e with e2 e
              injection e2 with e2
              subst e2
              simp [he]
            · rfl
          simp [this]
        | true =>
          simp only [Bool.not_true, Bool.false_eq_true, if_false]
          cases hT : isT a ((ix es j).key.length : Nat) with
          | false =>
            have : refB cols es (.tup [a, .int j]) = false := by
              unfold refB
              split
              · rename_i os j' e
                injection e with e
                injection e with e1 e
                injection e with e2 e
                injection e2 with e2
                subst e1 e2
                have : decide (os.length = (ix es j).key.length) = false := decide_eq_false fun e => by
                  simp [isT, e] at hT
                simp [this]
              · rfl
            simp [this]
          | true =>
            obtain ⟨os, rfl, hos⟩ := isT_get hT
            have hos' : os.length = (ix es j).key.length := by omega
            have hk2 := ok.keyLen
            simp only [Bool.not_true, Bool.false_eq_true, if_false]
            rw [m_are_dif os _ (by omega)]
            simp only [D.bl.injEq, exists_eq_left']
            have rB : refB cols es (.tup [.tup os, .int j]) = (difB cols.length os && pairO cols (ix es j) os) := by
              simp only [refB, jj, he, hos', decide_true, Bool.true_and, Bool.and_self]
            rw [rB]
            cases hd : difB cols.length os with
            | false => simp
            | true =>
              obtain ⟨ns, rfl, e2, e3⟩ := difB_ints hd
              simp only [Bool.not_true, Bool.false_eq_true, if_false, e2, Bool.true_and, pairO]
              have hns : ns.length ≤ 2 := by
                simp only [List.length_map] at hos'
                omega
              have LL : LIM = 1000000 := rfl
              have p1 : ∀ n q, T_picked [.tup (cols.map colD), .tup (ns.map D.int)] n q ↔ q (.tup (ns.map fun k => colD (ix cols k))) n := fun n q => by
                rw [m_picked _ _ (fun k hk => ⟨(e3 k hk).1, by simpa using (e3 k hk).2⟩) (by omega)]
                rw [List.map_congr_left fun k hk => ix_map (e3 k hk).1 (e3 k hk).2]
              have p2 : ∀ n q, T_picked [.tup ((ix es j).cols.map colD), .tup ((ix es j).key.map D.int)] n q ↔ q (.tup ((ix es j).key.map fun k => colD (ix (ix es j).cols k))) n := fun n q => by
                rw [m_picked _ _ (fun k hk => ⟨(ok.keyIn k hk).1, by simpa using (ok.keyIn k hk).2⟩) (by omega)]
                rw [List.map_congr_left fun k hk => ix_map (ok.keyIn k hk).1 (ok.keyIn k hk).2]
              simp only [tList_zip2, p1, p2, sSeq, sNil, sIf, sRet, sRetN, tVarD, tCD, tOpD, tOp1D, tCallD, tCallB, aNil, aCons, bVal, bNot, bCmp, bOr, tTupD, sAsg, hide_nil, fTup, fsCons, fsNil, fName, Option.bind_some, List.set_cons_zero, List.set_cons_succ, List.map_cons, List.map_nil, List.length_cons, List.length_nil, List.getElem?_cons_zero, List.getElem?_cons_succ, Nat.zero_add, Nat.reduceAdd, Option.some.injEq, exists_eq_left', true_and, D.bl.injEq, Bool.not_true, Bool.not_false, Bool.false_eq_true, if_false, if_true, lenD_tup, List.length_map, subD_int]
              have z : ∀ (A B : List D) (P : List D → List D → Prop), (∃ ds es, ([.tup A, .tup B] : List D) = [.tup ds, .tup es] ∧ P ds es) ↔ P A B := fun A B P => by
                constructor
                · rintro ⟨ds, es, e, h⟩
                  injection e with e1 e
                  injection e with e2 e
                  injection e1 with e1
                  injection e2 with e2
                  rw [e1, e2]
                  exact h
                · exact fun h => ⟨A, B, rfl, h⟩
              rw [z]
              simp only [List.length_map]
              have hm : min ns.length (ix es j).key.length ≤ LIM := by omega
              simp only [hm, true_and, zipD_maps]
              rw [tComp_at (ds := (ns.zip (ix es j).key).map fun p => .tup [colD (ix cols p.1), colD (ix (ix es j).cols p.2)]) (fun d => .bl (match d with
                | .tup [.tup [.int ol, .int oh], .tup [.int l, .int h]] => decide (l ≤ ol) && decide (oh ≤ h)
                | _ => false)) (.inr rfl) rfl]
              · simp only [allD, blsOf_map', Option.map_some, Option.some.injEq, exists_eq_left', D.bl.injEq, List.all_map, Function.comp_def, id, pairsB, colD]
              · intro d hd
                obtain ⟨p, hp, rfl⟩ := List.mem_map.mp hd
                refine ⟨_, rfl, fun n k => ?_⟩
                simp only [wipeE, tAndD, leD_int, colD, sSeq, sNil, sIf, sRet, sRetN, tVarD, tCD, tOpD, tOp1D, tCallD, tCallB, aNil, aCons, bVal, bNot, bCmp, bOr, tTupD, sAsg, hide_nil, fTup, fsCons, fsNil, fName, Option.bind_some, List.set_cons_zero, List.set_cons_succ, List.map_cons, List.map_nil, List.length_cons, List.length_nil, List.getElem?_cons_zero, List.getElem?_cons_succ, Nat.zero_add, Nat.reduceAdd, Option.some.injEq, exists_eq_left', true_and, D.bl.injEq, Bool.not_true, Bool.not_false, Bool.false_eq_true, if_false, if_true, lenD_tup, List.length_map, subD_int]
                by_cases h1 : (ix (ix es j).cols p.2).1 ≤ (ix cols p.1).1 <;> simp [h1, leD_int]
              · simp only [List.length_map, List.length_zip]
                omega
end K01
set_option maxHeartbeats 4000000
namespace K01
open PySem PySem.Spec PyProof.Rows L2 DL
theorem refB_true {cols : List (Int × Int)} {es : List Tab} {d : D} (h : refB cols es d = true) : ∃ os j, d = .tup [.tup os, .int j] ∧ 0 ≤ j ∧ j ≤ (es.length : Int) - 1 ∧ (ix es j).refs.isEmpty = true ∧ os.length = (ix es j).key.length ∧ difB cols.length os = true ∧ pairO cols (ix es j) os = true := by
  unfold refB at h
  split at h
  · simp only [Bool.and_eq_true, decide_eq_true_eq] at h
    obtain ⟨⟨⟨⟨⟨h1, h2⟩, h3⟩, h4⟩, h5⟩, h6⟩ := h
    exact ⟨_, _, rfl, h1, h2, h3, h4, h5, h6⟩
  · cases h
theorem ix_mem {α : Type} [Inhabited α] {xs : List α} {i : Int} (h0 : 0 ≤ i) (h1 : i < xs.length) : ix xs i ∈ xs := by
  obtain ⟨x, e1, _⟩ := atI_nat' h0 h1
  unfold ix
  rw [e1]
  exact List.mem_of_getElem? e1
/-- a loop that ends at the first wrong one -/
theorem forD_all {f : D → DL.Env → Option DL.Env} {Tb : TDS} {Dd : DE} {R : DL.Env → Prop} {p : D → Bool} (g : D → DL.Env → DL.Env) {all : List D}
    (hend : ∀ ρ n, R ρ → (Dd.nx ρ n ↔ Dd.rt (.bl true) n)) : ∀ (ds pre : List D), all = pre ++ ds → pre.all p = true →
    (∀ (pre' : List D) (d : D) (post : List D), all = pre' ++ d :: post → pre'.all p = true → ∀ ρ, R ρ → R (g d ρ) ∧ ∃ ρ', f d ρ = some ρ' ∧ ∀ (De : DE) (n : Nat), De.rt = Dd.rt → (Tb De ρ' n ↔ if p d = true then De.nx (g d ρ) n else De.rt (.bl false) n)) →
    ∀ (ρ : DL.Env) (n : Nat), R ρ → (forD f Tb Dd ds ρ n ↔ Dd.rt (.bl (ds.all p)) n)
  | [], pre, _, _, _, ρ, n, hR => by
    unfold forD
    exact hend ρ n hR
  | d :: ds, pre, e, hp, hb, ρ, n, hR => by
    obtain ⟨h1, ρ', h2, h3⟩ := hb pre d ds e hp ρ hR
    unfold forD
    rw [h2]
    simp only [Option.some.injEq, exists_eq_left']
    rw [h3 { nx := forD f Tb Dd ds, rt := Dd.rt, bk := Dd.nx, ct := forD f Tb Dd ds } n rfl]
    cases hd : p d with
    | false => simp [hd]
    | true =>
      simp only [if_true, List.all_cons, hd, Bool.true_and]
      exact forD_all g hend ds (pre ++ [d]) (by simp [e]) (by simp [hp, hd]) hb _ n h1
theorem ix0 (a : D) (r : List D) : ixD (.tup (a :: r)) (.int 0) = some a := by
  have := at_ix (xs := a :: r) (i := 0) (by decide) (by simp)
  show atI (a :: r) 0 = _
  rw [this]
  rfl
theorem ix1 (a b : D) (r : List D) : ixD (.tup (a :: b :: r)) (.int 1) = some b := by
  have := at_ix (xs := a :: b :: r) (i := 1) (by decide) (by simp; omega)
  show atI (a :: b :: r) 1 = _
  rw [this]
  rfl
theorem ix2 (a b c : D) (r : List D) : ixD (.tup (a :: b :: c :: r)) (.int 2) = some c := by
  have := at_ix (xs := a :: b :: c :: r) (i := 2) (by decide) (by simp; omega)
  show atI (a :: b :: c :: r) 2 = _
  rw [this]
  rfl
theorem zz (A B : List D) (P : List D → List D → Prop) : (∃ ds es, (([.tup A, .tup B] : List D) = [.lst ds, .lst es] ∨ ([.tup A, .tup B] : List D) = [.tup ds, .tup es]) ∧ P ds es) ↔ P A B := by
  constructor
  · rintro ⟨ds, es, e | e, h⟩
    · injection e with e1 e
      cases e1
    · injection e with e1 e
      injection e with e2 e
      injection e1 with e1
      injection e2 with e2
      rw [e1, e2]
      exact h
  · exact fun h => ⟨A, B, .inr rfl, h⟩
theorem ee (A : List D) (P : List D → Prop) : (∃ ds, (([.tup A] : List D) = [.lst ds] ∨ ([.tup A] : List D) = [.tup ds]) ∧ P ds) ↔ P A := by
  constructor
  · rintro ⟨ds, e | e, h⟩
    · injection e with e1 e
      cases e1
    · injection e with e1 e
      injection e1 with e1
      rw [e1]
      exact h
  · exact fun h => ⟨A, .inr rfl, h⟩
theorem m_law_is_reference (d : D) (cols : List (Int × Int)) (hlow : ∀ c ∈ cols, c.1 ≤ c.2) (es : List Tab) (hes : ∀ t ∈ es, t.Ok) (n : Nat) (q : QD) : T__law_is_reference [.tup (es.map tabD), .tup (cols.map colD), d] n q ↔ q (.bl (refB cols es d)) n := by
  have F : ∀ P : Prop, (refB cols es d = true → P) → ¬ P → refB cols es d = false := fun P h1 h2 => by
    cases e : refB cols es d with
    | false => rfl
    | true => exact absurd (h1 e) h2
  by_cases ht : ∃ a b, d = .tup [a, b]
  · obtain ⟨a, b, rfl⟩ := ht
    have i0 : ixD (.tup [a, b]) (.int 0) = some a := rfl
    have i1 : ixD (.tup [a, b]) (.int 1) = some b := rfl
    have l2 : lenD [.tup [a, b]] = some (.int 2) := rfl
    simp only [T__law_is_reference, fnD, startE, List.replicate, List.cons_append, List.nil_append, tIsi, isTup_tup, l2, neD_int, i0, i1, m_law_are_columns, m_law_between, not_true, decide_false, sSeq, sNil, sIf, sRet, sRetN, tVarD, tCD, tOpD, tOp1D, tCallD, tCallB, aNil, aCons, bVal, bNot, bCmp, bOr, tTupD, sAsg, hide_nil, fTup, fsCons, fsNil, fName, Option.bind_some, List.set_cons_zero, List.set_cons_succ, List.map_cons, List.map_nil, List.length_cons, List.length_nil, List.getElem?_cons_zero, List.getElem?_cons_succ, Nat.zero_add, Nat.reduceAdd, Option.some.injEq, exists_eq_left', true_and, D.bl.injEq, Bool.not_true, Bool.not_false, Bool.false_eq_true, if_false, if_true, lenD_tup, List.length_map, subD_int]
    cases hL : dcolB cols.length a with
    | false =>
      have : refB cols es (.tup [a, b]) = false := F (dcolB cols.length a = true) (fun h => by
          obtain ⟨os, j, e, h1, h2, h3, h4, h5, h6⟩ := refB_true h
          injection e with e
          injection e with e1 e
          subst e1
          have hj := (hes _ (ix_mem h1 (by omega))).keyLen
          simp only [dcolB, h5, Bool.and_true, tupLen, Bool.and_eq_true, decide_eq_true_eq]
          omega) (by rw [hL]; simp)
      simp only [Bool.not_false, if_true, this]
    | true =>
      simp only [Bool.not_true, Bool.false_eq_true, if_false]
      unfold dcolB at hL
      rw [Bool.and_eq_true] at hL
      obtain ⟨os, rfl, o1, o2⟩ := tupLen_get hL.1
      have hdif : difB cols.length os = true := hL.2
      obtain ⟨ns, rfl, e2, e3⟩ := difB_ints hdif
      cases hb : btw b 0 ((es.length : Int) - 1) with
      | false =>
        have : refB cols es (.tup [.tup (ns.map D.int), b]) = false := F (btw b 0 ((es.length : Int) - 1) = true) (fun h => by
          obtain ⟨os, j, e, h1, h2, _⟩ := refB_true h
          injection e with e
          injection e with e1 e
          injection e with e2 e
          rw [e2]
          simp [btw, h1, h2]) (by rw [hb]; simp)
        simp only [Bool.not_false, if_true, this]
      | true =>
        obtain ⟨j, rfl, j0, j1⟩ := btw_get hb
        have j2 : j < es.length := by omega
        have ok := hes _ (ix_mem j0 j2)
        have e1 : ixD (.tup (es.map tabD)) (.int j) = some (tabD (ix es j)) := by
          show atI (es.map tabD) j = _
          rw [at_ix j0 (by simpa using j2), ix_map j0 j2]
        have t0 : ixD (tabD (ix es j)) (.int 0) = some (.tup ((ix es j).cols.map colD)) := rfl
        have t1 : ixD (tabD (ix es j)) (.int 1) = some (.tup ((ix es j).key.map D.int)) := rfl
        have t2 : ixD (tabD (ix es j)) (.int 2) = some (.tup ((ix es j).refs.map refD)) := rfl
        simp only [e1, t1, t2, ne_none, Nat.zero_le, neD_int, sSeq, sNil, sIf, sRet, sRetN, tVarD, tCD, tOpD, tOp1D, tCallD, tCallB, aNil, aCons, bVal, bNot, bCmp, bOr, tTupD, sAsg, hide_nil, fTup, fsCons, fsNil, fName, Option.bind_some, List.set_cons_zero, List.set_cons_succ, List.map_cons, List.map_nil, List.length_cons, List.length_nil, List.getElem?_cons_zero, List.getElem?_cons_succ, Nat.zero_add, Nat.reduceAdd, Option.some.injEq, exists_eq_left', true_and, D.bl.injEq, Bool.not_true, Bool.not_false, Bool.false_eq_true, if_false, if_true, lenD_tup, List.length_map, subD_int]
        have rB : refB cols es (.tup [.tup (ns.map D.int), .int j]) = ((ix es j).refs.isEmpty && decide (ns.length = (ix es j).key.length) && pairsB cols (ix es j) ns) := by
          simp only [refB, j0, j1, decide_true, Bool.true_and, hdif, pairO, e2, Bool.and_true, List.length_map]
        rw [rB]
        cases he : (ix es j).refs.isEmpty with
        | false => simp
        | true =>
          simp only [Bool.not_true, Bool.false_eq_true, if_false, Bool.true_and]
          have hc : (((ns.length : Nat) : Int) = (((ix es j).key.length : Nat) : Int)) ↔ ns.length = (ix es j).key.length := by omega
          by_cases hlen : ns.length = (ix es j).key.length
          · simp only [hc, hlen, not_true, decide_false, decide_true, Bool.false_eq_true, if_false, Bool.true_and]
            simp only [sFor, wZip, i0, t1, sSeq, sNil, sIf, sRet, sRetN, tVarD, tCD, tOpD, tOp1D, tCallD, tCallB, aNil, aCons, bVal, bNot, bCmp, bOr, tTupD, sAsg, hide_nil, fTup, fsCons, fsNil, fName, Option.bind_some, List.set_cons_zero, List.set_cons_succ, List.map_cons, List.map_nil, List.length_cons, List.length_nil, List.getElem?_cons_zero, List.getElem?_cons_succ, Nat.zero_add, Nat.reduceAdd, Option.some.injEq, exists_eq_left', true_and, D.bl.injEq, Bool.not_true, Bool.not_false, Bool.false_eq_true, if_false, if_true, lenD_tup, List.length_map, subD_int]
            rw [zz, zipD_maps]
            rw [forD_all (R := fun ρ => ∃ x4 x5 x6 x7, ρ = [some (.tup (es.map tabD)), some (.tup (cols.map colD)), some (.tup [.tup (ns.map D.int), .int j]), some (tabD (ix es j)), x4, x5, x6, x7])
              (p := fun d => match d with
                | .tup [.int o, .int k] => decide ((ix (ix es j).cols k).1 ≤ (ix cols o).1) && decide ((ix cols o).2 ≤ (ix (ix es j).cols k).2)
                | _ => false)
              (g := fun d ρ => match d with
                | .tup [.int o, .int k] => (((ρ.set 4 (some (.int o))).set 5 (some (.int k))).set 6 (some (.int (ix (ix es j).cols k).1))).set 7 (some (.int (ix (ix es j).cols k).2))
                | _ => ρ)
              (all := (ns.zip (ix es j).key).map fun p => .tup [.int p.1, .int p.2]) (fun ρ n _ => Iff.rfl) _ [] rfl rfl ?_ _ _ ⟨_, _, _, _, rfl⟩]
            · simp only [List.all_map, Function.comp_def, pairsB]
            · intro pre d post e _ ρ hR
              obtain ⟨x4, x5, x6, x7, rfl⟩ := hR
              have hd : d ∈ (ns.zip (ix es j).key).map fun p => D.tup [.int p.1, .int p.2] := by
                rw [e]
                simp
              obtain ⟨⟨o, k⟩, hp, rfl⟩ := List.mem_map.mp hd
              have ho := e3 o (List.of_mem_zip hp).1
              have hk := ok.keyIn k (List.of_mem_zip hp).2
              have c1 : ixD (.tup (cols.map colD)) (.int o) = some (colD (ix cols o)) := by
                show atI (cols.map colD) o = _
                rw [at_ix ho.1 (by simpa using ho.2), ix_map ho.1 ho.2]
              have c2 : ixD (.tup ((ix es j).cols.map colD)) (.int k) = some (colD (ix (ix es j).cols k)) := by
                show atI ((ix es j).cols.map colD) k = _
                rw [at_ix hk.1 (by simpa using hk.2), ix_map hk.1 hk.2]
              have c3 : ixD (colD (ix cols o)) (.int 0) = some (.int (ix cols o).1) := rfl
              have c4 : ixD (colD (ix cols o)) (.int 1) = some (.int (ix cols o).2) := rfl
              refine ⟨⟨_, _, _, _, rfl⟩, _, rfl, fun De n hrt => ?_⟩
              simp only [bChain3, t0, c1, c2, colD, ix0, ix1, leD_int, sSeq, sNil, sIf, sRet, sRetN, tVarD, tCD, tOpD, tOp1D, tCallD, tCallB, aNil, aCons, bVal, bNot, bCmp, bOr, tTupD, sAsg, hide_nil, fTup, fsCons, fsNil, fName, Option.bind_some, List.set_cons_zero, List.set_cons_succ, List.map_cons, List.map_nil, List.length_cons, List.length_nil, List.getElem?_cons_zero, List.getElem?_cons_succ, Nat.zero_add, Nat.reduceAdd, Option.some.injEq, exists_eq_left', true_and, D.bl.injEq, Bool.not_true, Bool.not_false, Bool.false_eq_true, if_false, if_true, lenD_tup, List.length_map, subD_int]
              have hle := hlow _ (ix_mem ho.1 ho.2)
              by_cases h1 : (ix (ix es j).cols k).1 ≤ (ix cols o).1 <;> by_cases h2 : (ix cols o).2 ≤ (ix (ix es j).cols k).2 <;> simp [h1, h2, hle]
          · simp only [hc, hlen, not_false_eq_true, decide_true, decide_false, if_true, Bool.false_and]
  · have : refB cols es d = false := F _ (fun h => let ⟨os, j, e, _⟩ := refB_true h; (⟨_, _, e⟩ : ∃ a b, d = .tup [a, b])) ht
    rw [this]
    simp only [T__law_is_reference, fnD, startE, List.replicate, List.cons_append, List.nil_append, tIsi, sSeq, sNil, sIf, sRet, sRetN, tVarD, tCD, tOpD, tOp1D, tCallD, tCallB, aNil, aCons, bVal, bNot, bCmp, bOr, tTupD, sAsg, hide_nil, fTup, fsCons, fsNil, fName, Option.bind_some, List.set_cons_zero, List.set_cons_succ, List.map_cons, List.map_nil, List.length_cons, List.length_nil, List.getElem?_cons_zero, List.getElem?_cons_succ, Nat.zero_add, Nat.reduceAdd, Option.some.injEq, exists_eq_left', true_and, D.bl.injEq, Bool.not_true, Bool.not_false, Bool.false_eq_true, if_false, if_true, lenD_tup, List.length_map, subD_int]
    by_cases htt : ∃ ds, d = .tup ds
    · obtain ⟨ds, rfl⟩ := htt
      have hne : ¬ ((ds.length : Nat) : Int) = 2 := fun e => ht (by
        match ds, e with
        | [a, b], _ => exact ⟨a, b, rfl⟩)
      simp only [isTup_tup, neD_int, hne, not_false_eq_true, decide_true, sSeq, sNil, sIf, sRet, sRetN, tVarD, tCD, tOpD, tOp1D, tCallD, tCallB, aNil, aCons, bVal, bNot, bCmp, bOr, tTupD, sAsg, hide_nil, fTup, fsCons, fsNil, fName, Option.bind_some, List.set_cons_zero, List.set_cons_succ, List.map_cons, List.map_nil, List.length_cons, List.length_nil, List.getElem?_cons_zero, List.getElem?_cons_succ, Nat.zero_add, Nat.reduceAdd, Option.some.injEq, exists_eq_left', true_and, D.bl.injEq, Bool.not_true, Bool.not_false, Bool.false_eq_true, if_false, if_true, lenD_tup, List.length_map, subD_int]
    · simp [isTup_no fun ds h => htt ⟨ds, h⟩]
end K01
set_option maxHeartbeats 4000000
namespace K01
open PySem PySem.Spec PyProof.Rows L2 DL
def colOf : D → Int × Int
  | .tup [.int a, .int b] => (a, b)
  | _ => (0, 0)
theorem bndB_col {d : D} (h : bndB d = true) : colD (colOf d) = d ∧ (colOf d).1 ≤ (colOf d).2 := by
  unfold bndB at h
  split at h
  · simp only [Bool.and_eq_true, decide_eq_true_eq] at h
    exact ⟨rfl, h.2⟩
  · cases h
theorem bnds_cols : ∀ {cs : List D}, cs.all bndB = true → (cs.map colOf).map colD = cs ∧ ∀ c ∈ cs.map colOf, c.1 ≤ c.2
  | [], _ => ⟨rfl, by simp⟩
  | d :: cs, h => by
    simp only [List.all_cons, Bool.and_eq_true] at h
    obtain ⟨e1, e2⟩ := bndB_col h.1
    obtain ⟨e3, e4⟩ := bnds_cols h.2
    exact ⟨by simp only [List.map_cons, e1, e3], fun c hc => by
      rcases List.mem_cons.mp hc with rfl | hc
      · exact e2
      · exact e4 c hc⟩
def intOf : D → Int
  | .int i => i
  | _ => 0
def refOf : D → List Int × Int
  | .tup [.tup os, .int j] => (os.map intOf, j)
  | _ => ([], 0)
theorem ints_map (ns : List Int) : (ns.map D.int).map intOf = ns := by
  rw [List.map_map]
  exact (List.map_congr_left fun _ _ => rfl).trans (List.map_id' ns)
theorem refB_ref {cols : List (Int × Int)} {es : List Tab} {d : D} (h : refB cols es d = true) : refD (refOf d) = d := by
  obtain ⟨os, j, rfl, _, _, _, _, h5, _⟩ := refB_true h
  obtain ⟨ns, rfl, _, _⟩ := difB_ints h5
  show D.tup [.tup ((((ns.map D.int).map intOf)).map D.int), .int j] = _
  rw [ints_map]
theorem refs_refs {cols : List (Int × Int)} {es : List Tab} : ∀ {rs : List D}, rs.all (refB cols es) = true → (rs.map refOf).map refD = rs
  | [], _ => rfl
  | d :: rs, h => by
    simp only [List.all_cons, Bool.and_eq_true] at h
    simp only [List.map_cons, refB_ref h.1, refs_refs h.2]
def itemsOf : D → List D
  | .tup ds => ds
  | _ => []
def refsB (cols : List (Int × Int)) (es : List Tab) (r : D) : Bool := isTy "tuple" r && decide ((itemsOf r).length ≤ 2) && (itemsOf r).all (refB cols es)
def tabB (es : List Tab) (d : D) : Bool := match d with
  | .tup [c, k, r] => colsB c && keyB (itemsOf c).length k && refsB ((itemsOf c).map colOf) es r
  | _ => false
def tabOf : D → Tab
  | .tup [c, k, r] => ⟨(itemsOf c).map colOf, (itemsOf k).map intOf, (itemsOf r).map refOf⟩
  | _ => ⟨[], [], []⟩
theorem colsB_get {c : D} (h : colsB c = true) : ∃ cs : List (Int × Int), c = .tup (cs.map colD) ∧ (itemsOf c).map colOf = cs ∧ (itemsOf c).length = cs.length ∧ 1 ≤ cs.length ∧ cs.length ≤ 4 ∧ ∀ c ∈ cs, c.1 ≤ c.2 := by
  unfold colsB at h
  rw [Bool.and_eq_true] at h
  obtain ⟨ds, rfl, h1, h2⟩ := tupLen_get h.1
  obtain ⟨e1, e2⟩ := bnds_cols (show ds.all bndB = true from h.2)
  exact ⟨ds.map colOf, by rw [e1], rfl, by simp [itemsOf], by simpa using h1, by simp; omega, e2⟩
theorem keyB_get {m : Int} {k : D} (h : keyB m k = true) : ∃ ns : List Int, k = .tup (ns.map D.int) ∧ 1 ≤ ns.length ∧ ns.length ≤ 2 ∧ ∀ i ∈ ns, 0 ≤ i ∧ i < m := by
  unfold keyB at h
  rw [Bool.and_eq_true] at h
  obtain ⟨ds, rfl, h1, h2⟩ := tupLen_get h.1
  have h3 : (difB m ds && srtB ds) = true := h.2
  rw [Bool.and_eq_true] at h3
  obtain ⟨ns, rfl, _, e3⟩ := difB_ints h3.1
  simp only [List.length_map] at h1 h2
  exact ⟨ns, rfl, h1, by omega, e3⟩
theorem tabB_ok {es : List Tab} {d : D} (h : tabB es d = true) : tabD (tabOf d) = d ∧ (tabOf d).Ok := by
  unfold tabB at h
  split at h
  · rename_i c k r
    simp only [Bool.and_eq_true] at h
    obtain ⟨⟨h1, h2⟩, h3⟩ := h
    obtain ⟨cs, rfl, e2, e3, e4, e5, e6⟩ := colsB_get h1
    obtain ⟨ns, rfl, f1, f2, f3⟩ := keyB_get h2
    unfold refsB at h3
    simp only [Bool.and_eq_true, decide_eq_true_eq] at h3
    obtain ⟨⟨h4, h5⟩, h6⟩ := h3
    have hr : ∃ rs, r = .tup rs := by
      cases r <;> simp [isTy, tyN] at h4 ⊢
    obtain ⟨rs, rfl⟩ := hr
    have g := refs_refs (show rs.all _ = true from h6)
    refine ⟨?_, ?_⟩
    · show D.tup [.tup (((itemsOf (.tup (cs.map colD))).map colOf).map colD), .tup ((((ns.map D.int).map intOf)).map D.int), .tup ((rs.map refOf).map refD)] = _
      rw [e2, g, ints_map]
    · show Tab.Ok ⟨(itemsOf (.tup (cs.map colD))).map colOf, (ns.map D.int).map intOf, rs.map refOf⟩
      rw [e2, ints_map]
      rw [e3] at f3
      exact ⟨⟨e4, e5⟩, e6, ⟨f1, f2⟩, f3⟩
  · cases h
theorem allD_map (p : D → Bool) (ds : List D) : allD [.lst (ds.map fun d => .bl (p d))] = some (.bl (ds.all p)) := by
  simp only [allD, blsOf_map', Option.map_some, List.all_map, Function.comp_def, id]
theorem m_is_table (d : D) (es : List Tab) (hes : ∀ t ∈ es, t.Ok) (n : Nat) (q : QD) : T__is_table [d, .tup (es.map tabD)] n q ↔ q (.bl (tabB es d)) n := by
  simp only [T__is_table, fnD, startE, List.replicate, List.cons_append, List.nil_append, m_is_tuple_of, sSeq, sNil, sIf, sRet, sRetN, tVarD, tCD, tOpD, tOp1D, tCallD, tCallB, aNil, aCons, bVal, bNot, bCmp, bOr, tTupD, sAsg, hide_nil, fTup, fsCons, fsNil, fName, Option.bind_some, List.set_cons_zero, List.set_cons_succ, List.map_cons, List.map_nil, List.length_cons, List.length_nil, List.getElem?_cons_zero, List.getElem?_cons_succ, Nat.zero_add, Nat.reduceAdd, Option.some.injEq, exists_eq_left', true_and, D.bl.injEq, Bool.not_true, Bool.not_false, Bool.false_eq_true, if_false, if_true, lenD_tup, List.length_map, subD_int]
  cases h : isT d 3 with
  | false =>
    have : tabB es d = false := by
      unfold tabB
      split
      · simp [isT] at h
      · rfl
    simp only [Bool.not_false, if_true, this]
  | true =>
    obtain ⟨ds, rfl, hl⟩ := isT_get h
    match ds, hl with
    | [c, k, r], _ =>
      simp only [m_are_columns, tabB, sSeq, sNil, sIf, sRet, sRetN, tVarD, tCD, tOpD, tOp1D, tCallD, tCallB, aNil, aCons, bVal, bNot, bCmp, bOr, tTupD, sAsg, hide_nil, fTup, fsCons, fsNil, fName, Option.bind_some, List.set_cons_zero, List.set_cons_succ, List.map_cons, List.map_nil, List.length_cons, List.length_nil, List.getElem?_cons_zero, List.getElem?_cons_succ, Nat.zero_add, Nat.reduceAdd, Option.some.injEq, exists_eq_left', true_and, D.bl.injEq, Bool.not_true, Bool.not_false, Bool.false_eq_true, if_false, if_true, lenD_tup, List.length_map, subD_int]
      cases hc : colsB c with
      | false => simp
      | true =>
        obtain ⟨cs, rfl, e2, e3, e4, e5, e6⟩ := colsB_get hc
        rw [e3] 
        simp only [m_is_key, Bool.true_and, sSeq, sNil, sIf, sRet, sRetN, tVarD, tCD, tOpD, tOp1D, tCallD, tCallB, aNil, aCons, bVal, bNot, bCmp, bOr, tTupD, sAsg, hide_nil, fTup, fsCons, fsNil, fName, Option.bind_some, List.set_cons_zero, List.set_cons_succ, List.map_cons, List.map_nil, List.length_cons, List.length_nil, List.getElem?_cons_zero, List.getElem?_cons_succ, Nat.zero_add, Nat.reduceAdd, Option.some.injEq, exists_eq_left', true_and, D.bl.injEq, Bool.not_true, Bool.not_false, Bool.false_eq_true, if_false, if_true, lenD_tup, List.length_map, subD_int]
        cases hk : keyB (cs.length : Nat) k with
        | false => simp
        | true =>
          simp only [tIsi, Bool.true_and, e2, refsB, sSeq, sNil, sIf, sRet, sRetN, tVarD, tCD, tOpD, tOp1D, tCallD, tCallB, aNil, aCons, bVal, bNot, bCmp, bOr, tTupD, sAsg, hide_nil, fTup, fsCons, fsNil, fName, Option.bind_some, List.set_cons_zero, List.set_cons_succ, List.map_cons, List.map_nil, List.length_cons, List.length_nil, List.getElem?_cons_zero, List.getElem?_cons_succ, Nat.zero_add, Nat.reduceAdd, Option.some.injEq, exists_eq_left', true_and, D.bl.injEq, Bool.not_true, Bool.not_false, Bool.false_eq_true, if_false, if_true, lenD_tup, List.length_map, subD_int]
          by_cases hr : ∃ rs, r = .tup rs
          · obtain ⟨rs, rfl⟩ := hr
            simp only [isTup_tup, itemsOf, gtD_int, Bool.true_and, sSeq, sNil, sIf, sRet, sRetN, tVarD, tCD, tOpD, tOp1D, tCallD, tCallB, aNil, aCons, bVal, bNot, bCmp, bOr, tTupD, sAsg, hide_nil, fTup, fsCons, fsNil, fName, Option.bind_some, List.set_cons_zero, List.set_cons_succ, List.map_cons, List.map_nil, List.length_cons, List.length_nil, List.getElem?_cons_zero, List.getElem?_cons_succ, Nat.zero_add, Nat.reduceAdd, Option.some.injEq, exists_eq_left', true_and, D.bl.injEq, Bool.not_true, Bool.not_false, Bool.false_eq_true, if_false, if_true, lenD_tup, List.length_map, subD_int]
            by_cases h2 : rs.length ≤ 2
            · have h3 : ¬ (2 : Int) < ((rs.length : Nat) : Int) := by omega
              simp only [h2, h3, decide_true, decide_false, Bool.false_eq_true, if_false, Bool.true_and]
              rw [tComp_at (ds := rs) (fun d => .bl (refB cs es d)) (.inl rfl) rfl]
              · simp only [allD_map, Option.some.injEq, exists_eq_left']
              · intro d hd
                refine ⟨_, rfl, fun n k => ?_⟩
                simp only [wipeE, m_is_reference _ _ _ hes, sSeq, sNil, sIf, sRet, sRetN, tVarD, tCD, tOpD, tOp1D, tCallD, tCallB, aNil, aCons, bVal, bNot, bCmp, bOr, tTupD, sAsg, hide_nil, fTup, fsCons, fsNil, fName, Option.bind_some, List.set_cons_zero, List.set_cons_succ, List.map_cons, List.map_nil, List.length_cons, List.length_nil, List.getElem?_cons_zero, List.getElem?_cons_succ, Nat.zero_add, Nat.reduceAdd, Option.some.injEq, exists_eq_left', true_and, D.bl.injEq, Bool.not_true, Bool.not_false, Bool.false_eq_true, if_false, if_true, lenD_tup, List.length_map, subD_int]
              · have : LIM = 1000000 := rfl
                omega
            · have h3 : (2 : Int) < ((rs.length : Nat) : Int) := by omega
              simp [h2, h3]
          · simp [isTup_no fun ds h => hr ⟨ds, h⟩]
end K01
set_option maxHeartbeats 4000000
namespace K01
open PySem PySem.Spec PyProof.Rows L2 DL
/-- the item number i of vs, with its number -/
def pE (vs : List D) : D → Bool
  | .tup [.int i, t] => tabB ((vs.take i.toNat).map tabOf) t
  | _ => false
def schB (d : D) : Bool := tupLen 4 d && (enumD 0 (itemsOf d)).all (pE (itemsOf d))
theorem enumD_split : ∀ (vs : List D) (k : Nat) (pre : List D) (x : D) (post : List D), enumD k vs = pre ++ x :: post → ∃ (i : Nat) (t : D), x = .tup [.int ((k + i : Nat) : Int), t] ∧ pre = enumD k (vs.take i) ∧ vs[i]? = some t ∧ pre.length = i
  | [], k, pre, x, post, e => by
    cases pre <;> simp [enumD] at e
  | v :: vs, k, [], x, post, e => by
    simp only [enumD, List.nil_append] at e
    injection e with e1 e2
    exact ⟨0, v, e1.symm, rfl, rfl, rfl⟩
  | v :: vs, k, p :: pre, x, post, e => by
    simp only [enumD, List.cons_append] at e
    injection e with e1 e2
    obtain ⟨i, t, h1, h2, h3, h4⟩ := enumD_split vs (k + 1) pre x post e2
    refine ⟨i + 1, t, ?_, ?_, by simpa using h3, by simp [h4]⟩
    · rw [h1, show k + 1 + i = k + (i + 1) by omega]
    · rw [← e1, h2]
      rfl
theorem pE_take {vs : List D} : ∀ (k : Nat) (ws : List D), (∀ i, i < ws.length → (vs.take (k + i)) = vs.take k ++ ws.take i) → (enumD k ws).all (pE vs) = true → (ws.map tabOf).map tabD = ws ∧ ∀ t ∈ ws.map tabOf, t.Ok
  | k, [], _, _ => ⟨rfl, by simp⟩
  | k, w :: ws, h, hp => by
    simp only [enumD, List.all_cons, Bool.and_eq_true] at hp
    have h0 : tabB ((vs.take k).map tabOf) w = true := by simpa [pE] using hp.1
    obtain ⟨e1, e2⟩ := tabB_ok h0
    obtain ⟨e3, e4⟩ := pE_take (vs := vs) (k + 1) ws (fun i hi => by
      have a := h (i + 1) (by simp; omega)
      have b := h 1 (by
        have : 0 < ws.length := by omega
        simp
        omega)
      rw [show k + 1 + i = k + (i + 1) by omega, a, b]
      simp) hp.2
    refine ⟨by simp only [List.map_cons, e1, e3], fun t ht => ?_⟩
    rcases List.mem_cons.mp ht with rfl | ht
    · exact e2
    · exact e4 t ht
theorem pre_ok {vs pre post : List D} {x : D} (e : enumD 0 vs = pre ++ x :: post) (hp : pre.all (pE vs) = true) : ∃ (i : Nat) (t : D) (es : List Tab), x = .tup [.int (i : Int), t] ∧ vs.take i = es.map tabD ∧ es = (vs.take i).map tabOf ∧ (∀ t ∈ es, t.Ok) ∧ i < vs.length := by
  obtain ⟨i, t, h1, h2, h3, h4⟩ := enumD_split vs 0 pre x post e
  rw [h2] at hp
  have hlt : i < vs.length := (List.getElem?_eq_some_iff.mp h3).1
  obtain ⟨e1, e2⟩ := pE_take (vs := vs) 0 (vs.take i) (fun j hj => by
    have : j < i := by
      rw [List.length_take] at hj
      omega
    rw [Nat.zero_add, List.take_zero, List.nil_append, List.take_take, Nat.min_eq_left (by omega)]) hp
  exact ⟨i, t, _, by rw [h1, Nat.zero_add], e1.symm, rfl, e2, hlt⟩
theorem cut_take (ds : List D) (i : Nat) (h : i < ds.length) : DL.cutD (.tup ds) none (some (i : Int)) = some (.tup (ds.take i)) := by
  show some (D.tup (DL.cutL ds none (some (i : Int)))) = _
  have e2 : HT.sIx ds.length ds.length (some (i : Int)) = i := by
    rw [HT.sIx_nat]
    omega
  have e1 : DL.cutL ds none (some (i : Int)) = ds.take i := by
    unfold DL.cutL
    rw [e2]
    show (ds.drop 0).take (i - 0) = _
    simp
  rw [e1]
theorem m_is_scheme (d : D) (n : Nat) (q : QD) : T_is_scheme [d] n q ↔ q (.bl (schB d)) n := by
  simp only [T_is_scheme, fnD, startE, sSeq, sIf, sNil, sRet, List.map_cons, List.map_nil, List.length_cons, List.length_nil, List.replicate, List.cons_append, List.nil_append, Nat.zero_add, Nat.reduceSub, Nat.reduceAdd, List.append_nil, true_and]
  rw [head_tests 0 4 _ d rfl]
  cases h : tupLen 4 d with
  | false => simp [schB, h, tCD]
  | true =>
    obtain ⟨ds, rfl, h1, h2⟩ := tupLen_get h
    simp only [sFor, wEnum, sSeq, sNil, sIf, sRet, sRetN, tVarD, tCD, tOpD, tOp1D, tCallD, tCallB, aNil, aCons, bVal, bNot, bCmp, bOr, tTupD, sAsg, hide_nil, fTup, fsCons, fsNil, fName, Option.bind_some, List.set_cons_zero, List.set_cons_succ, List.map_cons, List.map_nil, List.length_cons, List.length_nil, List.getElem?_cons_zero, List.getElem?_cons_succ, Nat.zero_add, Nat.reduceAdd, Option.some.injEq, exists_eq_left', true_and, D.bl.injEq, Bool.not_true, Bool.not_false, Bool.false_eq_true, if_false, if_true, lenD_tup, List.length_map, subD_int]
    rw [ee]
    rw [forD_all (R := fun ρ => ∃ x1 x2, ρ = [some (.tup ds), x1, x2]) (p := pE ds) (g := fun d ρ => match d with
        | .tup [i, t] => (ρ.set 1 (some i)).set 2 (some t)
        | _ => ρ) (all := enumD 0 ds) (fun ρ n _ => Iff.rfl) _ [] rfl rfl ?_ _ _ ⟨_, _, rfl⟩]
    · simp [schB, h, itemsOf]
    · intro pre x post e hp ρ hR
      obtain ⟨x1, x2, rfl⟩ := hR
      obtain ⟨i, t, es, rfl, e1, e2, ok, hi⟩ := pre_ok e hp
      refine ⟨⟨_, _, rfl⟩, _, rfl, fun De n hrt => ?_⟩
      simp only [tSlD, oNone, oSome, D.int.injEq, cut_take ds i hi, e1, m_is_table _ _ ok, sSeq, sNil, sIf, sRet, sRetN, tVarD, tCD, tOpD, tOp1D, tCallD, tCallB, aNil, aCons, bVal, bNot, bCmp, bOr, tTupD, sAsg, hide_nil, fTup, fsCons, fsNil, fName, Option.bind_some, List.set_cons_zero, List.set_cons_succ, List.map_cons, List.map_nil, List.length_cons, List.length_nil, List.getElem?_cons_zero, List.getElem?_cons_succ, Nat.zero_add, Nat.reduceAdd, Option.some.injEq, exists_eq_left', true_and, D.bl.injEq, Bool.not_true, Bool.not_false, Bool.false_eq_true, if_false, if_true, lenD_tup, List.length_map, subD_int]
      have : pE ds (.tup [.int (i : Int), t]) = tabB es t := by
        simp only [pE, Int.toNat_natCast, e2]
      rw [this]
      cases tabB es t <;> simp
end K01
set_option maxHeartbeats 4000000
namespace K01
open PySem PySem.Spec PyProof.Rows L2 DL
theorem any_not {α : Type} (p : α → Bool) (ds : List α) : (!ds.all p) = true ↔ ¬ ds.all p = true := by
  cases ds.all p <;> simp
theorem keyB_parts {m : Int} {ds : List D} : keyB m (.tup ds) = (dcolB m (.tup ds) && srtB ds) := by
  unfold keyB dcolB
  cases tupLen 2 (.tup ds) <;> simp
theorem chain_len (i : Nat) (k : Int) (ρ : DL.Env) (ds : List D) (hd : ρ[i]? = some (some (.tup ds))) (n : Nat) (q : Bool → Nat → Prop) :
    bChain leD leD (tCD (.int 1)) (tCallB lenD (aCons (tVarD i) aNil)) (tCD (.int k)) ρ n q ↔ q (tupLen k (.tup ds)) n := by
  simp only [bChain, hd, fnD, startE, hide_nil, sSeq, sNil, sIf, sRet, sRetN, tVarD, tCD, tOpD, tOp1D, tCallD, tCallB, aNil, aCons, bVal, bNot, bCmp, List.map_cons, List.map_nil, List.length_cons, List.length_nil, List.replicate, List.cons_append, List.nil_append, List.append_nil, List.getElem?_cons_zero, List.getElem?_cons_succ, Nat.zero_add, Nat.reduceAdd, Nat.reduceSub, Option.some.injEq, exists_eq_left', true_and, D.bl.injEq]
  simp only [lenD_tup, Option.some.injEq, exists_eq_left', leD_int, D.bl.injEq, tupLen]
  by_cases h1 : (1 : Int) ≤ (ds.length : Int)
  · simp only [h1, decide_true, if_true, Bool.true_and]
  · simp only [h1, decide_false, Bool.false_eq_true, if_false, Bool.false_and]
theorem keyB_no {m : Int} {k : D} (h : dcolB m k = false) : keyB m k = false := by
  unfold dcolB at h
  unfold keyB
  cases ht : tupLen 2 k with
  | false => rfl
  | true =>
    obtain ⟨ks, rfl, _⟩ := tupLen_get ht
    rw [ht, Bool.true_and] at h
    have h' : difB m ks = false := h
    show (true && (difB m ks && srtB ks)) = false
    rw [h']
    rfl
theorem dcolB_get {m : Int} {k : D} (h : dcolB m k = true) : ∃ ns : List Int, k = .tup (ns.map D.int) := by
  unfold dcolB at h
  rw [Bool.and_eq_true] at h
  obtain ⟨ks, rfl, _⟩ := tupLen_get h.1
  obtain ⟨ns, rfl, _⟩ := difB_ints (show difB m ks = true from h.2)
  exact ⟨ns, rfl⟩
theorem sort_test (ns : List Int) (n : Nat) (q : Bool → Nat → Prop) : (∃ z, listD [.tup (ns.map D.int)] = some z ∧ ∃ z1, sortedAD [.tup (ns.map D.int)] = some z1 ∧ ∃ z2, neD z z1 = some z2 ∧ ∃ b, z2 = .bl b ∧ q b n) ↔ q (!srtB (ns.map D.int)) n := by
  have o1 : okD (.lst (ns.map D.int)) = true := (sh_lst (sh_ints 0 ns)).ok (by decide)
  have o2 : okD (.lst ((sortI ns).map D.int)) = true := (sh_lst (sh_ints 0 _)).ok (by decide)
  simp [listD, sortedAD, intsOf_map, neD_ok o1 o2, srtB]
  cases PyData.eqv (toPy (.lst (ns.map D.int))) (toPy (.lst ((sortI ns).map D.int))) <;> simp
theorem m_law_is_scheme (d : D) (n : Nat) (q : QD) : T__law_is_scheme [d] n q ↔ q (.bl (schB d)) n := by
  simp only [T__law_is_scheme, fnD, startE, sSeq, sIf, sNil, sRet, List.map_cons, List.map_nil, List.length_cons, List.length_nil, List.replicate, List.cons_append, List.nil_append, Nat.zero_add, Nat.reduceSub, Nat.reduceAdd, List.append_nil, true_and]
  rw [head_tests 0 4 _ d rfl]
  cases h : tupLen 4 d with
  | false => simp [schB, h, tCD]
  | true =>
    obtain ⟨ds, rfl, h1, h2⟩ := tupLen_get h
    simp only [sFor, wEnum, sSeq, sNil, sIf, sRet, sRetN, tVarD, tCD, tOpD, tOp1D, tCallD, tCallB, aNil, aCons, bVal, bNot, bCmp, bOr, tTupD, sAsg, hide_nil, fTup, fsCons, fsNil, fName, Option.bind_some, List.set_cons_zero, List.set_cons_succ, List.map_cons, List.map_nil, List.length_cons, List.length_nil, List.getElem?_cons_zero, List.getElem?_cons_succ, Nat.zero_add, Nat.reduceAdd, Option.some.injEq, exists_eq_left', true_and, D.bl.injEq, Bool.not_true, Bool.not_false, Bool.false_eq_true, if_false, if_true, lenD_tup, List.length_map, subD_int]
    rw [ee]
    rw [forD_all (R := fun ρ => ∃ x1 x2 x3 x4 x5, ρ = [some (.tup ds), x1, x2, x3, x4, x5, none]) (p := pE ds) (g := fun d ρ => match d with
        | .tup [i, .tup [c, k, r]] => ((((ρ.set 1 (some i)).set 2 (some (.tup [c, k, r]))).set 3 (some c)).set 4 (some k)).set 5 (some r)
        | _ => ρ) (all := enumD 0 ds) (fun ρ n _ => Iff.rfl) _ [] rfl rfl ?_ _ _ ⟨_, _, _, _, _, rfl⟩]
    · simp [schB, h, itemsOf]
    · intro pre x post e hp ρ hR
      obtain ⟨x1, x2, x3, x4, x5, rfl⟩ := hR
      obtain ⟨i, t, es, rfl, e1, e2, ok, hi⟩ := pre_ok e hp
      have hpE : pE ds (.tup [.int (i : Int), t]) = tabB es t := by
        simp only [pE, Int.toNat_natCast, e2]
      rw [hpE]
      refine ⟨?_, _, rfl, fun De n hrt => ?_⟩
      · by_cases hx : ∃ c k r, t = .tup [c, k, r]
        · obtain ⟨c, k, r, rfl⟩ := hx
          exact ⟨_, _, _, _, _, rfl⟩
        · split
          · rename_i c k r e
            exact absurd ⟨c, k, r, by
              injection e with e
              injection e with _ e
              injection e⟩ hx
          · exact ⟨_, _, _, _, _, rfl⟩
      · have F : ∀ P : Prop, (tabB es t = true → P) → ¬ P → tabB es t = false := fun P h1 h2 => by
          cases e : tabB es t with
          | false => rfl
          | true => exact absurd (h1 e) h2
        simp only [tIsi, sSeq, sNil, sIf, sRet, sRetN, tVarD, tCD, tOpD, tOp1D, tCallD, tCallB, aNil, aCons, bVal, bNot, bCmp, bOr, tTupD, sAsg, hide_nil, fTup, fsCons, fsNil, fName, Option.bind_some, List.set_cons_zero, List.set_cons_succ, List.map_cons, List.map_nil, List.length_cons, List.length_nil, List.getElem?_cons_zero, List.getElem?_cons_succ, Nat.zero_add, Nat.reduceAdd, Option.some.injEq, exists_eq_left', true_and, D.bl.injEq, Bool.not_true, Bool.not_false, Bool.false_eq_true, if_false, if_true, lenD_tup, List.length_map, subD_int]
        by_cases ht : ∃ us, t = .tup us
        · obtain ⟨us, rfl⟩ := ht
          simp only [isTup_tup, neD_int, sSeq, sNil, sIf, sRet, sRetN, tVarD, tCD, tOpD, tOp1D, tCallD, tCallB, aNil, aCons, bVal, bNot, bCmp, bOr, tTupD, sAsg, hide_nil, fTup, fsCons, fsNil, fName, Option.bind_some, List.set_cons_zero, List.set_cons_succ, List.map_cons, List.map_nil, List.length_cons, List.length_nil, List.getElem?_cons_zero, List.getElem?_cons_succ, Nat.zero_add, Nat.reduceAdd, Option.some.injEq, exists_eq_left', true_and, D.bl.injEq, Bool.not_true, Bool.not_false, Bool.false_eq_true, if_false, if_true, lenD_tup, List.length_map, subD_int]
          match us with
          | [c, k, r] =>
            have l3 : ¬ ((([c, k, r] : List D).length : Nat) : Int) = 3 ↔ False := by simp
            simp only [l3, decide_false, Bool.false_eq_true, if_false, ix0, Option.some.injEq, exists_eq_left', D.bl.injEq]
            have l3' : ([c, k, r] : List D).length = 3 := rfl
            simp only [l3', sSeq, sNil, sIf, sRet, sRetN, tVarD, tCD, tOpD, tOp1D, tCallD, tCallB, aNil, aCons, bVal, bNot, bCmp, bOr, tTupD, sAsg, hide_nil, fTup, fsCons, fsNil, fName, Option.bind_some, List.set_cons_zero, List.set_cons_succ, List.map_cons, List.map_nil, List.length_cons, List.length_nil, List.getElem?_cons_zero, List.getElem?_cons_succ, Nat.zero_add, Nat.reduceAdd, Option.some.injEq, exists_eq_left', true_and, D.bl.injEq, Bool.not_true, Bool.not_false, Bool.false_eq_true, if_false, if_true, lenD_tup, List.length_map, subD_int]
            have tB : tabB es (.tup [c, k, r]) = (colsB c && keyB (itemsOf c).length k && refsB ((itemsOf c).map colOf) es r) := rfl
            rw [tB]
            by_cases hc : ∃ cs, c = .tup cs
            · obtain ⟨cs, rfl⟩ := hc
              simp only [isTup_tup, Bool.not_true, Bool.false_eq_true, if_false]
              rw [chain_len 3 4 _ cs rfl]
              have cB : colsB (.tup cs) = (tupLen 4 (.tup cs) && cs.all bndB) := rfl
              rw [cB]
              cases hl : tupLen 4 (.tup cs) with
              | false => simp
              | true =>
                obtain ⟨cs', e, c1, c2⟩ := tupLen_get hl
                injection e with e
                subst e
                simp only [Bool.not_true, Bool.false_eq_true, if_false, Bool.true_and]
                rw [tComp_at (ds := cs) (fun d => .bl (bndB d)) (.inl rfl) rfl]
                · simp only [inD_bls, Option.some.injEq, exists_eq_left', D.bl.injEq]
                  cases hb : cs.all bndB with
                  | false => simp
                  | true =>
                    obtain ⟨f1, f2⟩ := bnds_cols hb
                    simp only [Bool.not_true, Bool.false_eq_true, if_false, Bool.true_and]
                    simp only [m_law_are_columns, itemsOf, sSeq, sNil, sIf, sRet, sRetN, tVarD, tCD, tOpD, tOp1D, tCallD, tCallB, aNil, aCons, bVal, bNot, bCmp, bOr, tTupD, sAsg, hide_nil, fTup, fsCons, fsNil, fName, Option.bind_some, List.set_cons_zero, List.set_cons_succ, List.map_cons, List.map_nil, List.length_cons, List.length_nil, List.getElem?_cons_zero, List.getElem?_cons_succ, Nat.zero_add, Nat.reduceAdd, Option.some.injEq, exists_eq_left', true_and, D.bl.injEq, Bool.not_true, Bool.not_false, Bool.false_eq_true, if_false, if_true, lenD_tup, List.length_map, subD_int]
                    cases hk : dcolB (cs.length : Nat) k with
                    | false => simp [keyB_no hk]
                    | true =>
                      obtain ⟨ns, rfl⟩ := dcolB_get hk
                      have kB : keyB (cs.length : Nat) (.tup (ns.map D.int)) = srtB (ns.map D.int) := by
                        rw [keyB_parts, hk]
                        rfl
                      simp only [kB, Bool.not_true, Bool.false_eq_true, if_false]
                      rw [sort_test ns n fun b n => if b = true then De.rt (.bl false) n else _]
                      cases hs : srtB (ns.map D.int) with
                      | false => simp
                      | true =>
                        simp only [Bool.not_true, Bool.false_eq_true, if_false, Bool.true_and, refsB]
                        by_cases hr : ∃ rs, r = .tup rs
                        · obtain ⟨rs, rfl⟩ := hr
                          simp only [isTup_tup, itemsOf, gtD_int, Bool.true_and, sSeq, sNil, sIf, sRet, sRetN, tVarD, tCD, tOpD, tOp1D, tCallD, tCallB, aNil, aCons, bVal, bNot, bCmp, bOr, tTupD, sAsg, hide_nil, fTup, fsCons, fsNil, fName, Option.bind_some, List.set_cons_zero, List.set_cons_succ, List.map_cons, List.map_nil, List.length_cons, List.length_nil, List.getElem?_cons_zero, List.getElem?_cons_succ, Nat.zero_add, Nat.reduceAdd, Option.some.injEq, exists_eq_left', true_and, D.bl.injEq, Bool.not_true, Bool.not_false, Bool.false_eq_true, if_false, if_true, lenD_tup, List.length_map, subD_int]
                          by_cases h2 : rs.length ≤ 2
                          · have h3 : ¬ (2 : Int) < ((rs.length : Nat) : Int) := by omega
                            simp only [h2, h3, decide_true, decide_false, Bool.false_eq_true, if_false, Bool.true_and]
                            rw [tComp_at (ds := rs) (fun d => .bl (refB (cs.map colOf) es d)) (.inl rfl) rfl]
                            · simp only [inD_bls, Option.some.injEq, exists_eq_left', D.bl.injEq]
                              cases rs.all (refB (cs.map colOf) es) <;> simp
                            · intro d hd
                              refine ⟨_, rfl, fun n k => ?_⟩
                              have := m_law_is_reference d (cs.map colOf) f2 es ok n k
                              rw [f1] at this
                              simp only [wipeE, tSlD, oNone, oSome, D.int.injEq, cut_take ds i hi, e1, this, sSeq, sNil, sIf, sRet, sRetN, tVarD, tCD, tOpD, tOp1D, tCallD, tCallB, aNil, aCons, bVal, bNot, bCmp, bOr, tTupD, sAsg, hide_nil, fTup, fsCons, fsNil, fName, Option.bind_some, List.set_cons_zero, List.set_cons_succ, List.map_cons, List.map_nil, List.length_cons, List.length_nil, List.getElem?_cons_zero, List.getElem?_cons_succ, Nat.zero_add, Nat.reduceAdd, Option.some.injEq, exists_eq_left', true_and, D.bl.injEq, Bool.not_true, Bool.not_false, Bool.false_eq_true, if_false, if_true, lenD_tup, List.length_map, subD_int]
                            · have : LIM = 1000000 := rfl
                              omega
                          · have h3 : (2 : Int) < ((rs.length : Nat) : Int) := by omega
                            simp [h2, h3]
                        · simp [isTup_no fun ds h => hr ⟨ds, h⟩]
                · intro d hd
                  refine ⟨_, rfl, fun n k => ?_⟩
                  simp only [wipeE, m_law_is_bounds, sSeq, sNil, sIf, sRet, sRetN, tVarD, tCD, tOpD, tOp1D, tCallD, tCallB, aNil, aCons, bVal, bNot, bCmp, bOr, tTupD, sAsg, hide_nil, fTup, fsCons, fsNil, fName, Option.bind_some, List.set_cons_zero, List.set_cons_succ, List.map_cons, List.map_nil, List.length_cons, List.length_nil, List.getElem?_cons_zero, List.getElem?_cons_succ, Nat.zero_add, Nat.reduceAdd, Option.some.injEq, exists_eq_left', true_and, D.bl.injEq, Bool.not_true, Bool.not_false, Bool.false_eq_true, if_false, if_true, lenD_tup, List.length_map, subD_int]
                · have : LIM = 1000000 := rfl
                  omega
            · have : colsB c = false := by
                unfold colsB
                rw [tupLen_no fun ds e => hc ⟨ds, e⟩]
                rfl
              simp [isTup_no fun ds e => hc ⟨ds, e⟩, this]
          | [] => simp [tabB]
          | [_] => simp [tabB]
          | [_, _] => simp [tabB]
          | a :: b :: c :: d :: r =>
            have e3 : ¬ (((a :: b :: c :: d :: r).length : Nat) : Int) = 3 := by
              simp only [List.length_cons]
              omega
            simp only [e3, not_false_eq_true, decide_true, if_true]
            simp [tabB]
        · have : tabB es t = false := F _ (fun h => by
            have := (tabB_ok h).1
            exact (⟨_, this.symm⟩ : ∃ us, t = .tup us)) ht
          simp [isTup_no fun ds h => ht ⟨ds, h⟩, this]
end K01
set_option maxHeartbeats 8000000
namespace K01
open PySem PySem.Spec PyProof.Rows L2 DL
theorem eqD_bl (a b : Bool) : eqD (.bl a) (.bl b) = some (.bl (a == b)) := by
  have h1 : ∀ i : Bool, okD (.bl i) = true := fun i => by simp [okD, SeqAt.shaped, toPy, PyData.canLay0, PyData.depth]
  rw [eqD_ok (h1 a) (h1 b)]
  simp [toPy, PyData.eqv]
theorem m_law_same (m : Nat) (a b : Bool) (n : Nat) (q : QD) : T__law_same (m + 1) [.bl a, .bl b] n q ↔ q (.bl (a == b)) n := by
  have t1 : ∀ b, isTy "bool" (.bl b) = true := fun _ => rfl
  simp only [T__law_same, fnD, startE, List.replicate, List.cons_append, List.nil_append, tIsi, isD, isN, tAndD, t1, eqD_bl, sSeq, sNil, sIf, sRet, sRetN, tVarD, tCD, tOpD, tOp1D, tCallD, tCallB, aNil, aCons, bVal, bNot, bCmp, bOr, tTupD, sAsg, hide_nil, fTup, fsCons, fsNil, fName, Option.bind_some, List.set_cons_zero, List.set_cons_succ, List.map_cons, List.map_nil, List.length_cons, List.length_nil, List.getElem?_cons_zero, List.getElem?_cons_succ, Nat.zero_add, Nat.reduceAdd, Option.some.injEq, exists_eq_left', true_and, D.bl.injEq, Bool.not_true, Bool.not_false, Bool.false_eq_true, if_false, if_true, lenD_tup, List.length_map, subD_int]
theorem mod_list (ps : List Int) (h0 : ps ≠ []) (a : Int) (h : 0 ≤ a) : ∃ p, p ∈ ps ∧ ixD (.lst (ps.map D.int)) (.int (a.fmod (ps.length : Nat))) = some (.int p) := by
  have hl : (0 : Int) < ((ps.length : Nat) : Int) := by
    have := List.length_pos_iff.mpr h0
    omega
  have h1 := Int.fmod_nonneg_of_pos a hl
  have h2 := Int.fmod_lt_of_pos a hl
  refine ⟨ix ps (a.fmod (ps.length : Nat)), ix_mem h1 h2, ?_⟩
  show atI (ps.map D.int) _ = _
  rw [at_ix h1 (by simpa using h2), ix_map h1 h2]
def prs : List Int := [2147483629, 2147483587, 2147483579, 2147483563, 2147483549, 2147483543, 2147483497, 2147483489, 2147483477, 2147483423, 2147483399, 2147483353, 2147483323]
theorem prs_in {p : Int} (h : p ∈ prs) : 2147483323 ≤ p ∧ p ≤ 2147483629 := by
  have : prs.all (fun p => decide (2147483323 ≤ p) && decide (p ≤ 2147483629)) = true := by decide
  rw [List.all_eq_true] at this
  have := this p h
  simpa using this
theorem addD_int (a b : Int) : addD (.int a) (.int b) = some (.int (a + b)) := rfl
theorem mulD_int (a b : Int) (h : -(2 ^ 64) < b ∧ b < 2 ^ 64) : mulD (.int a) (.int b) = some (.int (a * b)) := by
  unfold mulD orD mulID arC
  simp only [decide_eq_true (show (-(2 ^ 64) < a ∧ a < 2 ^ 64) ∨ (-(2 ^ 64) < b ∧ b < 2 ^ 64) from .inr h), if_true]
  rfl
theorem modD_int (a b : Int) (h : b ≠ 0) : modD (.int a) (.int b) = some (.int (a.fmod b)) := by
  unfold modD arC
  simp [h]
theorem powD_int (a : Int) (k : Nat) (h : a.natAbs < 2 ^ 64) (hk : k ≤ 1000) : powD (.int a) (.int (k : Nat)) = some (.int (a ^ k)) := by
  unfold powD arC
  have : (0 : Int) ≤ (k : Int) ∧ (k : Int) ≤ 1000000 ∧ a.natAbs < 2 ^ 64 := ⟨by omega, by omega, h⟩
  simp [this]
theorem m_spread : SpreadOk T__law_spread := by
  intro c a n q h0 h1 hq
  have p18 : powD (.int 10) (.int 18) = some (.int (10 ^ 18)) := powD_int 10 18 (by decide) (by decide)
  have ge : ∀ a b : Int, geD (.int a) (.int b) = some (.bl (decide (b ≤ a))) := fun a b => rfl
  have cat : addD (.lst (([2147483629, 2147483587, 2147483579, 2147483563, 2147483549, 2147483543, 2147483497, 2147483489] : List Int).map D.int)) (.lst (([2147483477, 2147483423, 2147483399, 2147483353, 2147483323] : List Int).map D.int)) = some (.lst (prs.map D.int)) := by
    simp [addD, orD, arI, catT, catL, prs, LIM]
  have iI : ∀ i : Int, intD [.int i] = some (.int i) := fun i => rfl
  have ll : ∀ k : Nat, k ≤ 100 → k ≤ LIM := fun k h => by
    have : LIM = 1000000 := rfl
    omega
  simp only [T__law_spread, fnD, startE, List.replicate, List.cons_append, List.nil_append, p18, ge, tLstD, iI, addD_int, sSeq, sNil, sIf, sRet, sRetN, tVarD, tCD, tOpD, tOp1D, tCallD, tCallB, aNil, aCons, bVal, bNot, bCmp, bOr, tTupD, sAsg, hide_nil, fTup, fsCons, fsNil, fName, Option.bind_some, List.set_cons_zero, List.set_cons_succ, List.map_cons, List.map_nil, List.length_cons, List.length_nil, List.getElem?_cons_zero, List.getElem?_cons_succ, Nat.zero_add, Nat.reduceAdd, Option.some.injEq, exists_eq_left', true_and, D.bl.injEq, Bool.not_true, Bool.not_false, Bool.false_eq_true, if_false, if_true, lenD_tup, List.length_map, subD_int]
  have bd : ∀ x y A B : Int, 0 ≤ x → x ≤ A → 0 ≤ y → y ≤ B → 0 ≤ x * y ∧ x * y ≤ A * B := fun x y A B h1 h2 h3 h4 => ⟨Int.mul_nonneg h1 h3, Int.mul_le_mul h2 h4 h3 (by omega)⟩
  have pick : ∀ x : Int, 0 ≤ x → ∃ p, p ∈ prs ∧ ixD (.lst (prs.map D.int)) (.int (x.fmod 13)) = some (.int p) := fun x hx => mod_list prs (by decide) x hx
  have fm : ∀ x m : Int, 0 < m → 0 ≤ x.fmod m ∧ x.fmod m < m := fun x m h => ⟨Int.fmod_nonneg_of_pos x h, Int.fmod_lt_of_pos x h⟩
  by_cases hb : (10 : Int) ^ 18 ≤ c
  · simp only [hb, decide_true, if_true]
    exact hq c
  · simp only [hb, decide_false, Bool.false_eq_true, if_false]
    refine ⟨ll _ (by decide), ll _ (by decide), _, cat, ?_⟩
    have f0 := fm c 1000000007 (by decide)
    refine ⟨_, modD_int _ _ (by decide), _, mulD_int _ _ (by omega), _, addD_int _ _, _, mulD_int _ _ (by omega), _, mulD_int _ _ (by decide), _, addD_int _ _, _, addD_int _ _, ?_⟩
    have b1 := bd (c.fmod 1000000007) (2 * a + 69069) 1000000006 2000069067 (by omega) (by omega) (by omega) (by omega)
    refine ⟨_, powD_int _ 3 (by omega) (by decide), _, iI _, _, modD_int _ _ (by decide), ?_⟩
    obtain ⟨p1, m1, e1⟩ := pick a h0
    have k1 := prs_in m1
    refine ⟨_, e1, _, modD_int _ _ (by omega), ?_⟩
    have f1 := fm ((c.fmod 1000000007 * (2 * a + 69069) + a * 40503 + 977) ^ 3) p1 (by omega)
    have b2 := bd (((c.fmod 1000000007 * (2 * a + 69069) + a * 40503 + 977) ^ 3).fmod p1) (a + 3) 2147483629 1000000002 (by omega) (by omega) (by omega) (by omega)
    have f2 := fm c 65537 (by decide)
    refine ⟨_, mulD_int _ _ (by omega), _, modD_int _ _ (by decide), _, addD_int _ _, _, addD_int _ _, _, powD_int _ 5 (by omega) (by decide), _, iI _, ?_⟩
    obtain ⟨p2, m2, e2⟩ := pick (a + 5) (by omega)
    have k2 := prs_in m2
    refine ⟨_, modD_int _ _ (by decide), _, e2, _, modD_int _ _ (by omega), ?_⟩
    have f3 := fm ((((c.fmod 1000000007 * (2 * a + 69069) + a * 40503 + 977) ^ 3).fmod p1 * (a + 3) + c.fmod 65537 + 5) ^ 5) p2 (by omega)
    have f4 := fm (((c.fmod 1000000007 * (2 * a + 69069) + a * 40503 + 977) ^ 3).fmod p1) 1009 (by decide)
    refine ⟨_, iI _, _, modD_int _ _ (by decide), _, addD_int _ _, _, addD_int _ _, _, powD_int _ 3 (by omega) (by decide), _, iI _, _, modD_int _ _ (by decide), ?_⟩
    obtain ⟨p3, m3, e3⟩ := pick (a + 7) (by omega)
    have k3 := prs_in m3
    refine ⟨_, e3, _, modD_int _ _ (by omega), _, mulD_int _ _ (by decide), _, addD_int _ _, _, mulD_int _ _ (by decide), _, addD_int _ _, hq _⟩
end K01
set_option maxHeartbeats 4000000
namespace DL
open PySem PySem.Spec PyProof.Rows L2
/-- as many draws as ever are made -/
def NN : Nat := 1000000000
/-- a loop by an invariant -/
theorem forD_inv {f : D → DL.Env → Option DL.Env} {Tb : TDS} {Dd : DE} {all : List D} (R : Nat → DL.Env → Nat → Prop)
    (hstep : ∀ (i : Nat) (d : D), all[i]? = some d → ∀ ρ n, R i ρ n → ∃ ρ', f d ρ = some ρ' ∧ ∀ De : DE, De.rt = Dd.rt → De.bk = Dd.nx → (∀ ρ2 n2, R (i + 1) ρ2 n2 → De.nx ρ2 n2) → (∀ ρ2 n2, R (i + 1) ρ2 n2 → De.ct ρ2 n2) → Tb De ρ' n)
    (hend : ∀ ρ n, R all.length ρ n → Dd.nx ρ n) : ∀ (ds : List D) (i : Nat) (ρ : DL.Env) (n : Nat), all.drop i = ds → i ≤ all.length → R i ρ n → forD f Tb Dd ds ρ n
  | [], i, ρ, n, e, hi, hR => by
    have : all.length ≤ i := by
      have := congrArg List.length e
      simp only [List.length_drop, List.length_nil] at this
      omega
    obtain rfl : i = all.length := by omega
    exact hend ρ n hR
  | d :: ds, i, ρ, n, e, hi, hR => by
    have hlt : i < all.length := by
      have := congrArg List.length e
      simp only [List.length_drop, List.length_cons] at this
      omega
    have hd : all[i]? = some d := by
      have : (all.drop i)[0]? = some d := by rw [e]; rfl
      rw [List.getElem?_drop] at this
      simpa using this
    have e' : all.drop (i + 1) = ds := by
      have : (all.drop i).drop 1 = ds := by rw [e]; rfl
      rw [List.drop_drop] at this
      rw [← this]
    obtain ⟨ρ', h1, h2⟩ := hstep i d hd ρ n hR
    unfold forD
    exact ⟨ρ', h1, h2 { nx := forD f Tb Dd ds, rt := Dd.rt, bk := Dd.nx, ct := forD f Tb Dd ds } rfl rfl (fun ρ2 n2 h => forD_inv R hstep hend ds (i + 1) ρ2 n2 e' hlt h) fun ρ2 n2 h => forD_inv R hstep hend ds (i + 1) ρ2 n2 e' hlt h⟩
/-- a comprehension that draws -/
theorem compD_inv {f : D → DL.Env → Option DL.Env} {Te : TD} {ρ : DL.Env} (P : D → Prop) (C : Nat) : ∀ (ds acc : List D) (n : Nat) (q : List D → Nat → Prop),
    (∀ d ∈ ds, ∃ ρ', f d ρ = some ρ' ∧ ∀ n k, n + C ≤ NN → (∀ y n', P y → n ≤ n' → n' ≤ n + C → k y n') → Te ρ' n k) → n + C * ds.length ≤ NN → acc.length + ds.length ≤ LIM →
    (∀ ys n', ys.length = ds.length → (∀ y ∈ ys, P y) → n ≤ n' → n' ≤ n + C * ds.length → q (acc ++ ys) n') → compD f bYes Te ds acc ρ n q
  | [], acc, n, q, _, _, _, h => by
    have := h [] n rfl (by simp) (Nat.le_refl _) (by omega)
    simpa [compD] using this
  | d :: ds, acc, n, q, hd, hn, hl, h => by
    obtain ⟨ρ', e1, e2⟩ := hd d List.mem_cons_self
    simp only [List.length_cons] at hn hl
    have hC : C * (ds.length + 1) = C * ds.length + C := by rw [Nat.mul_add, Nat.mul_one]
    refine ⟨ρ', e1, ?_⟩
    simp only [bYes, if_true]
    refine e2 n _ (by omega) fun y n' hy h1 h2 => ⟨by omega, ?_⟩
    refine compD_inv P C ds (acc ++ [y]) n' q (fun d hd' => hd d (List.mem_cons_of_mem _ hd')) (by omega) (by simp only [List.length_append, List.length_cons, List.length_nil]; omega) fun ys n'' l1 l2 l3 l4 => ?_
    rw [List.append_assoc]
    refine h (y :: ys) n'' (by simp [l1]) (fun z hz => ?_) (by omega) (by simp only [List.length_cons]; omega)
    rcases List.mem_cons.mp hz with rfl | hz
    · exact hy
    · exact l2 z hz
/-- a comprehension with a test, without draws -/
theorem compD_filter {f : D → DL.Env → Option DL.Env} {tt : TDb} {Te : TD} (p : D → Bool) (g : D → D) {ρ : DL.Env} : ∀ (ds acc : List D) (n : Nat) (q : List D → Nat → Prop),
    (∀ d ∈ ds, ∃ ρ', f d ρ = some ρ' ∧ (∀ n k, tt ρ' n k ↔ k (p d) n) ∧ ∀ n k, Te ρ' n k ↔ k (g d) n) → acc.length + ds.length ≤ LIM → (compD f tt Te ds acc ρ n q ↔ q (acc ++ (ds.filter p).map g) n)
  | [], acc, n, q, _, _ => by simp [compD]
  | d :: ds, acc, n, q, h, hl => by
    obtain ⟨ρ', e1, e2, e3⟩ := h d List.mem_cons_self
    simp only [List.length_cons] at hl
    unfold compD
    rw [e1]
    simp only [Option.some.injEq, exists_eq_left']
    rw [e2]
    cases hp : p d with
    | false =>
      simp only [Bool.false_eq_true, if_false]
      rw [compD_filter p g ds acc n q (fun d hd => h d (List.mem_cons_of_mem _ hd)) (by omega)]
      simp [hp]
    | true =>
      simp only [if_true]
      rw [e3]
      have : acc.length < LIM := by omega
      simp only [this, true_and]
      rw [compD_filter p g ds (acc ++ [g d]) n q (fun d hd => h d (List.mem_cons_of_mem _ hd)) (by simp only [List.length_append, List.length_cons, List.length_nil]; omega)]
      simp [hp]
end DL
namespace K01
open PySem PySem.Spec PyProof.Rows L2 DL
theorem take_ok {m : Int} {n : Nat} {q : QD} (h0 : 0 < m) (h1 : m ≤ 1000000) (hn : n + 1 ≤ NN) (h : ∀ k : Int, 0 ≤ k → k < m → q (.int k) (n + 1)) : takeD [.pen, .int m] n q :=
  ⟨m, rfl, h0, by omega, by unfold NN at hn; omega, h⟩
theorem one_ok {ds : List D} {n : Nat} {q : QD} (h0 : ds ≠ []) (h1 : ds.length ≤ 1000) (hn : n + 1 ≤ NN) (h : ∀ d ∈ ds, q d (n + 1)) : T__law_one_of [.pen, .lst ds] n q := by
  have hl := List.length_pos_iff.mpr h0
  have e : lenD [.lst ds] = some (.int (ds.length : Nat)) := rfl
  simp only [T__law_one_of, fnD, startE, List.replicate, Nat.reduceSub, List.append_nil, List.cons_append, List.nil_append, e, sSeq, sNil, sIf, sRet, sRetN, tVarD, tCD, tOpD, tOp1D, tCallD, tCallB, aNil, aCons, bVal, bNot, bCmp, bOr, tTupD, sAsg, hide_nil, fTup, fsCons, fsNil, fName, Option.bind_some, List.set_cons_zero, List.set_cons_succ, List.map_cons, List.map_nil, List.length_cons, List.length_nil, List.getElem?_cons_zero, List.getElem?_cons_succ, Nat.zero_add, Nat.reduceAdd, Option.some.injEq, exists_eq_left', true_and, D.bl.injEq, Bool.not_true, Bool.not_false, Bool.false_eq_true, if_false, if_true, lenD_tup, List.length_map, subD_int]
  refine take_ok (m := ((ds.length : Nat) : Int)) (by omega) (by omega) hn fun k k0 k1 => ?_
  refine ⟨ix ds k, ?_, h _ (ix_mem k0 k1)⟩
  show atI ds k = _
  rw [at_ix k0 k1]
theorem m_draw_bounds {n : Nat} {q : QD} (hn : n + 4 ≤ NN) (h : ∀ (a b : Int) (n' : Nat), -1000000 ≤ a → a ≤ b → b ≤ 1000013 → n ≤ n' → n' ≤ n + 4 → q (colD (a, b)) n') : T__law_draw_bounds [.pen] n q := by
  simp only [T__law_draw_bounds, fnD, startE, List.replicate, List.cons_append, List.nil_append, tLstD, sSeq, sNil, sIf, sRet, sRetN, tVarD, tCD, tOpD, tOp1D, tCallD, tCallB, aNil, aCons, bVal, bNot, bCmp, bOr, tTupD, sAsg, hide_nil, fTup, fsCons, fsNil, fName, Option.bind_some, List.set_cons_zero, List.set_cons_succ, List.map_cons, List.map_nil, List.length_cons, List.length_nil, List.getElem?_cons_zero, List.getElem?_cons_succ, Nat.zero_add, Nat.reduceAdd, Option.some.injEq, exists_eq_left', true_and, D.bl.injEq, Bool.not_true, Bool.not_false, Bool.false_eq_true, if_false, if_true, lenD_tup, List.length_map, subD_int]
  have LL : LIM = 1000000 := rfl
  refine ⟨.int (-1), rfl, take_ok (by decide) (by decide) (by omega) fun k k0 k1 => ⟨.int (k - 4), rfl, .int (-1000000), rfl, by omega, one_ok (by simp) (by simp) (by omega) fun d hd => ?_⟩⟩
  have hd' : ∃ a : Int, d = .int a ∧ -1000000 ≤ a ∧ a ≤ 4 := by
    simp only [List.mem_cons, List.not_mem_nil, or_false] at hd
    rcases hd with rfl | rfl | rfl | rfl | rfl | rfl
    all_goals exact ⟨_, rfl, by omega, by omega⟩
  obtain ⟨a, rfl, a0, a1⟩ := hd'
  refine ⟨by omega, one_ok (by simp) (by simp) (by omega) fun d hd => ?_⟩
  have hd' : ∃ b : Int, d = .int b ∧ 0 ≤ b ∧ b ≤ 9 := by
    simp only [List.mem_cons, List.not_mem_nil, or_false] at hd
    rcases hd with rfl | rfl | rfl | rfl | rfl | rfl
    all_goals exact ⟨_, rfl, by omega, by omega⟩
  obtain ⟨b, rfl, b0, b1⟩ := hd'
  refine ⟨_, addD_int _ _, ?_⟩
  simp only [tIfD, sSeq, sNil, sIf, sRet, sRetN, tVarD, tCD, tOpD, tOp1D, tCallD, tCallB, aNil, aCons, bVal, bNot, bCmp, bOr, tTupD, sAsg, hide_nil, fTup, fsCons, fsNil, fName, Option.bind_some, List.set_cons_zero, List.set_cons_succ, List.map_cons, List.map_nil, List.length_cons, List.length_nil, List.getElem?_cons_zero, List.getElem?_cons_succ, Nat.zero_add, Nat.reduceAdd, Option.some.injEq, exists_eq_left', true_and, D.bl.injEq, Bool.not_true, Bool.not_false, Bool.false_eq_true, if_false, if_true, lenD_tup, List.length_map, subD_int]
  refine take_ok (by decide) (by decide) (by omega) fun k2 _ _ => ?_
  simp only [eqD_int, sSeq, sNil, sIf, sRet, sRetN, tVarD, tCD, tOpD, tOp1D, tCallD, tCallB, aNil, aCons, bVal, bNot, bCmp, bOr, tTupD, sAsg, hide_nil, fTup, fsCons, fsNil, fName, Option.bind_some, List.set_cons_zero, List.set_cons_succ, List.map_cons, List.map_nil, List.length_cons, List.length_nil, List.getElem?_cons_zero, List.getElem?_cons_succ, Nat.zero_add, Nat.reduceAdd, Option.some.injEq, exists_eq_left', true_and, D.bl.injEq, Bool.not_true, Bool.not_false, Bool.false_eq_true, if_false, if_true, lenD_tup, List.length_map, subD_int]
  by_cases hk : k2 = 0
  · simp only [hk, decide_true, if_true]
    exact ⟨by omega, h a 1000000 _ (by omega) (by omega) (by omega) (by omega) (by omega)⟩
  · simp only [hk, decide_false, Bool.false_eq_true, if_false]
    exact ⟨by omega, h a (a + b) _ (by omega) (by omega) (by omega) (by omega) (by omega)⟩
theorem m_draw_key {m : Int} {n : Nat} {q : QD} (h0 : 0 < m) (h1 : m ≤ 100) (hn : n + 3 ≤ NN) (h : ∀ (ks : List Int) (n' : Nat), 1 ≤ ks.length → ks.length ≤ 2 → (∀ k ∈ ks, 0 ≤ k ∧ k < m) → n ≤ n' → n' ≤ n + 3 → q (.tup (ks.map D.int)) n') : T__law_draw_key [.pen, .int m] n q := by
  have LL : LIM = 1000000 := rfl
  simp only [T__law_draw_key, fnD, startE, List.replicate, List.cons_append, List.nil_append, sPar, sSeq, sNil, sIf, sRet, sRetN, tVarD, tCD, tOpD, tOp1D, tCallD, tCallB, aNil, aCons, bVal, bNot, bCmp, bOr, tTupD, sAsg, hide_nil, fTup, fsCons, fsNil, fName, Option.bind_some, List.set_cons_zero, List.set_cons_succ, List.map_cons, List.map_nil, List.length_cons, List.length_nil, List.getElem?_cons_zero, List.getElem?_cons_succ, Nat.zero_add, Nat.reduceAdd, Option.some.injEq, exists_eq_left', true_and, D.bl.injEq, Bool.not_true, Bool.not_false, Bool.false_eq_true, if_false, if_true, lenD_tup, List.length_map, subD_int]
  refine take_ok h0 (by omega) (by omega) fun k k0 k1 => take_ok h0 (by omega) (by omega) fun j j0 j1 => ?_
  refine ⟨_, _, rfl, ?_⟩
  simp only [tIfD, eqD_int, min2D, max2D, sSeq, sNil, sIf, sRet, sRetN, tVarD, tCD, tOpD, tOp1D, tCallD, tCallB, aNil, aCons, bVal, bNot, bCmp, bOr, tTupD, sAsg, hide_nil, fTup, fsCons, fsNil, fName, Option.bind_some, List.set_cons_zero, List.set_cons_succ, List.map_cons, List.map_nil, List.length_cons, List.length_nil, List.getElem?_cons_zero, List.getElem?_cons_succ, Nat.zero_add, Nat.reduceAdd, Option.some.injEq, exists_eq_left', true_and, D.bl.injEq, Bool.not_true, Bool.not_false, Bool.false_eq_true, if_false, if_true, lenD_tup, List.length_map, subD_int]
  have end1 : ∀ n', n + 2 ≤ n' → n' ≤ n + 3 → 1 ≤ LIM ∧ q (.tup [.int k]) n' := fun n' h1 h2 => ⟨by omega, h [k] n' (by simp) (by simp) (by simp; omega) (by omega) (by omega)⟩
  by_cases hk : k = j
  · simp only [hk, decide_true, if_true]
    rw [← hk]
    exact end1 _ (by omega) (by omega)
  · simp only [hk, decide_false, Bool.false_eq_true, if_false]
    refine take_ok (by decide) (by decide) (by omega) fun b _ _ => ?_
    simp only [eqD_int, sSeq, sNil, sIf, sRet, sRetN, tVarD, tCD, tOpD, tOp1D, tCallD, tCallB, aNil, aCons, bVal, bNot, bCmp, bOr, tTupD, sAsg, hide_nil, fTup, fsCons, fsNil, fName, Option.bind_some, List.set_cons_zero, List.set_cons_succ, List.map_cons, List.map_nil, List.length_cons, List.length_nil, List.getElem?_cons_zero, List.getElem?_cons_succ, Nat.zero_add, Nat.reduceAdd, Option.some.injEq, exists_eq_left', true_and, D.bl.injEq, Bool.not_true, Bool.not_false, Bool.false_eq_true, if_false, if_true, lenD_tup, List.length_map, subD_int]
    by_cases hb : b = 0
    · simp only [hb, decide_true, if_true]
      exact end1 _ (by omega) (by omega)
    · simp only [hb, decide_false, Bool.false_eq_true, if_false]
      refine ⟨by omega, h [if j < k then j else k, if j > k then j else k] _ (by simp) (by simp) ?_ (by omega) (by omega)⟩
      intro z hz
      simp only [List.mem_cons, List.not_mem_nil, or_false] at hz
      rcases hz with rfl | rfl
      · split <;> omega
      · split <;> omega
theorem cutL_map {α β : Type} (f : α → β) (xs : List α) (lo hi : Option Int) : DL.cutL (xs.map f) lo hi = (DL.cutL xs lo hi).map f := by
  unfold DL.cutL
  simp only [List.length_map, List.map_drop, List.map_take]
theorem cut_front {α : Type} (xs : List α) (k : Nat) : DL.cutL xs none (some (k : Int)) = xs.take k := by
  unfold DL.cutL
  rw [HT.sIx_nat]
  show (xs.drop 0).take (min k xs.length - 0) = _
  rw [List.drop_zero, Nat.sub_zero]
  by_cases h : k ≤ xs.length
  · rw [Nat.min_eq_left h]
  · rw [Nat.min_eq_right (by omega), List.take_length, List.take_of_length_le (by omega)]
theorem cut_mid {α : Type} (xs : List α) (i k : Nat) : (DL.cutL xs (some (i : Int)) (some (k : Int))).length ≤ xs.length - i := by
  unfold DL.cutL
  rw [HT.sIx_nat, HT.sIx_nat, List.length_take, List.length_drop]
  omega
theorem at_set {α : Type} {xs : List α} {i : Int} {j : Nat} (h : ixN xs.length i = some j) : j < xs.length := (ixN_seq h).2.1
theorem m_open {ns : List Int} {n : Nat} {q : QD} (hns : ns.length ≤ 63) (h : ∀ cs : List Int, cs.length ≤ 12 → q (.lst [.lst (cs.map D.int), .int 0, .int 0]) n) : T__law_open [.scr ns] n q := by
  have LL : LIM = 1000000 := rfl
  have c1 : DL.cutD (.scr ns) none (some 12) = some (.lst ((ns.take 12).map D.int)) := by
    show some (D.lst (DL.cutL (ns.map D.int) none (some ((12 : Nat) : Int)))) = _
    rw [cutL_map, cut_front]
  have c2 : DL.cutD (.scr ns) (some 12) (some 63) = some (.lst ((DL.cutL ns (some ((12 : Nat) : Int)) (some ((63 : Nat) : Int))).map D.int)) := by
    show some (D.lst (DL.cutL (ns.map D.int) (some ((12 : Nat) : Int)) (some ((63 : Nat) : Int)))) = _
    rw [cutL_map]
  have lB := cut_mid ns 12 63
  generalize DL.cutL ns (some ((12 : Nat) : Int)) (some ((63 : Nat) : Int)) = B at c2 lB
  simp only [T__law_open, fnD, startE, List.replicate, List.cons_append, List.nil_append, sOwn, ldList, tSlD, oNone, oSome, sSeq, sNil, sIf, sRet, sRetN, tVarD, tCD, tOpD, tOp1D, tCallD, tCallB, aNil, aCons, bVal, bNot, bCmp, bOr, tTupD, sAsg, hide_nil, fTup, fsCons, fsNil, fName, Option.bind_some, List.set_cons_zero, List.set_cons_succ, List.map_cons, List.map_nil, List.length_cons, List.length_nil, List.getElem?_cons_zero, List.getElem?_cons_succ, Nat.zero_add, Nat.reduceAdd, Option.some.injEq, exists_eq_left', true_and, D.bl.injEq, Bool.not_true, Bool.not_false, Bool.false_eq_true, if_false, if_true, lenD_tup, List.length_map, subD_int]
  refine ⟨12, rfl, _, c1, _, .inl rfl, by decide, ?_⟩
  have hh : ∀ a b c d : Option D, hide [1] [a, b, c, d] = [a, none, c, d] := fun a b c d => by simp [hide, hideFrom]
  simp only [sFor, wEnum, hh, tSlD, oSome, sSeq, sNil, sIf, sRet, sRetN, tVarD, tCD, tOpD, tOp1D, tCallD, tCallB, aNil, aCons, bVal, bNot, bCmp, bOr, tTupD, sAsg, hide_nil, fTup, fsCons, fsNil, fName, Option.bind_some, List.set_cons_zero, List.set_cons_succ, List.map_cons, List.map_nil, List.length_cons, List.length_nil, List.getElem?_cons_zero, List.getElem?_cons_succ, Nat.zero_add, Nat.reduceAdd, Option.some.injEq, exists_eq_left', true_and, D.bl.injEq, Bool.not_true, Bool.not_false, Bool.false_eq_true, if_false, if_true, lenD_tup, List.length_map, subD_int]
  refine ⟨12, rfl, 63, rfl, _, c2, _, .inl rfl, ?_⟩
  refine forD_inv (all := enumD 0 (B.map D.int)) (fun i ρ n' => ∃ (cs : List Int) (x2 x3 : Option D), ρ = [some (.scr ns), some (.lst (cs.map D.int)), x2, x3] ∧ cs.length = (ns.take 12).length ∧ n' = n) ?_ ?_ _ 0 _ _ rfl (Nat.zero_le _) ⟨_, none, none, rfl, rfl, rfl⟩
  · rintro i d hd ρ n' ⟨cs, x2, x3, rfl, hl, rfl⟩
    rw [enumD_get] at hd
    obtain ⟨b, hb, rfl⟩ := Option.map_eq_some_iff.mp hd
    rw [List.getElem?_map] at hb
    obtain ⟨z, hz, rfl⟩ := Option.map_eq_some_iff.mp hb
    have hBpos : i < B.length := (List.getElem?_eq_some_iff.mp hz).1
    have h12 : cs.length = 12 := by
      rw [hl, List.length_take]
      omega
    refine ⟨_, rfl, fun De _ _ hnx _ => ?_⟩
    have iI : ∀ i : Int, DL.intD [.int i] = some (.int i) := fun i => rfl
    simp only [sSet, iI, modD_int _ 12 (by decide), sSeq, sNil, sIf, sRet, sRetN, tVarD, tCD, tOpD, tOp1D, tCallD, tCallB, aNil, aCons, bVal, bNot, bCmp, bOr, tTupD, sAsg, hide_nil, fTup, fsCons, fsNil, fName, Option.bind_some, List.set_cons_zero, List.set_cons_succ, List.map_cons, List.map_nil, List.length_cons, List.length_nil, List.getElem?_cons_zero, List.getElem?_cons_succ, Nat.zero_add, Nat.reduceAdd, Option.some.injEq, exists_eq_left', true_and, D.bl.injEq, Bool.not_true, Bool.not_false, Bool.false_eq_true, if_false, if_true, lenD_tup, List.length_map, subD_int]
    have f0 : 0 ≤ ((i : Nat) : Int).fmod 12 := Int.fmod_nonneg_of_pos _ (by decide)
    have f1 : ((i : Nat) : Int).fmod 12 < 12 := Int.fmod_lt_of_pos _ (by decide)
    have e1 : ixD (.lst (cs.map D.int)) (.int (((i : Nat) : Int).fmod 12)) = some (.int (ix cs (((i : Nat) : Int).fmod 12))) := by
      show atI (cs.map D.int) _ = _
      rw [at_ix f0 (by rw [List.length_map, h12]; exact f1), ix_map f0 (by rw [h12]; exact f1)]
    have e2 : ixN (cs.map D.int).length (((i : Nat) : Int).fmod 12) = some (((i : Nat) : Int).fmod 12).toNat := by
      unfold ixN
      rw [if_pos f0, List.length_map, h12]
      exact if_pos f1
    refine ⟨_, e1, _, addD_int _ _, rfl, _, _, _, rfl, rfl, e2, hnx _ _ ⟨cs.set (((i : Nat) : Int).fmod 12).toNat (ix cs (((i : Nat) : Int).fmod 12) + z), _, _, by rw [List.map_set], by rw [List.length_set]; exact hl, rfl⟩⟩
  · rintro ρ n' ⟨cs, x2, x3, rfl, hl, rfl⟩
    simp only [tLstD, sSeq, sNil, sIf, sRet, sRetN, tVarD, tCD, tOpD, tOp1D, tCallD, tCallB, aNil, aCons, bVal, bNot, bCmp, bOr, tTupD, sAsg, hide_nil, fTup, fsCons, fsNil, fName, Option.bind_some, List.set_cons_zero, List.set_cons_succ, List.map_cons, List.map_nil, List.length_cons, List.length_nil, List.getElem?_cons_zero, List.getElem?_cons_succ, Nat.zero_add, Nat.reduceAdd, Option.some.injEq, exists_eq_left', true_and, D.bl.injEq, Bool.not_true, Bool.not_false, Bool.false_eq_true, if_false, if_true, lenD_tup, List.length_map, subD_int]
    exact ⟨by omega, h cs (by rw [hl, List.length_take]; omega)⟩
end K01
set_option maxHeartbeats 8000000
namespace DL
open PySem PySem.Spec PyProof.Rows L2
/-- a comprehension, by what its items are -/
theorem compD_post {f : D → DL.Env → Option DL.Env} {tt : TDb} {Te : TD} (S P : D → Prop) {ρ : DL.Env} : ∀ (ds acc : List D) (n : Nat) (q : List D → Nat → Prop),
    (∀ d ∈ ds, ∃ ρ', f d ρ = some ρ' ∧ (∀ n k, (∀ b, (b = true → S d) → k b n) → tt ρ' n k) ∧ ∀ n k, S d → (∀ y, P y → k y n) → Te ρ' n k) → acc.length + ds.length ≤ LIM →
    (∀ ys, ys.length ≤ ds.length → (∀ y ∈ ys, P y) → q (acc ++ ys) n) → compD f tt Te ds acc ρ n q
  | [], acc, n, q, _, _, h => by
    have := h [] (Nat.le_refl _) (by simp)
    simpa [compD] using this
  | d :: ds, acc, n, q, hd, hl, h => by
    obtain ⟨ρ', e1, e2, e3⟩ := hd d List.mem_cons_self
    simp only [List.length_cons] at hl
    refine ⟨ρ', e1, e2 n _ fun b hb => ?_⟩
    cases b with
    | false =>
      simp only [Bool.false_eq_true, if_false]
      exact compD_post S P ds acc n q (fun d hd' => hd d (List.mem_cons_of_mem _ hd')) (by omega) fun ys l1 l2 => h ys (by simp only [List.length_cons]; omega) l2
    | true =>
      simp only [if_true]
      refine e3 n _ (hb rfl) fun y hy => ⟨by omega, ?_⟩
      refine compD_post S P ds (acc ++ [y]) n q (fun d hd' => hd d (List.mem_cons_of_mem _ hd')) (by simp only [List.length_append, List.length_cons, List.length_nil]; omega) fun ys l1 l2 => ?_
      rw [List.append_assoc]
      refine h (y :: ys) (by simp only [List.length_cons]; omega) fun z hz => ?_
      rcases List.mem_cons.mp hz with rfl | hz
      · exact hy
      · exact l2 z hz
theorem list_of {α : Type} {g : α → D} {Q : α → Prop} : ∀ {ys : List D}, (∀ y ∈ ys, ∃ a, y = g a ∧ Q a) → ∃ as : List α, ys = as.map g ∧ ∀ a ∈ as, Q a
  | [], _ => ⟨[], rfl, by simp⟩
  | y :: ys, h => by
    obtain ⟨a, e, qa⟩ := h y List.mem_cons_self
    obtain ⟨as, e2, q2⟩ := list_of (ys := ys) fun z hz => h z (List.mem_cons_of_mem _ hz)
    refine ⟨a :: as, by rw [e, e2]; rfl, fun b hb => ?_⟩
    rcases List.mem_cons.mp hb with rfl | hb
    · exact qa
    · exact q2 b hb
end DL
namespace K01
open PySem PySem.Spec PyProof.Rows L2 DL
theorem pure_ints : ∀ ns : List Int, pureDs (ns.map D.int) = true
  | [] => rfl
  | n :: ns => by simp [pureDs, pureD, pure_ints ns]
theorem last_int (cs : List Int) (c : Int) : ixD (.lst ((cs ++ [c]).map D.int)) (.int (-1)) = some (.int c) := by
  show atI ((cs ++ [c]).map D.int) (-1) = _
  unfold atI ixN
  have h1 : ¬ (0 : Int) ≤ -1 := by decide
  have h2 : -((((cs ++ [c]).map D.int).length : Nat) : Int) ≤ -1 := by
    simp only [List.length_map, List.length_append, List.length_cons, List.length_nil]
    omega
  rw [if_neg h1, if_pos h2]
  have h3 : (-1 + ((((cs ++ [c]).map D.int).length : Nat) : Int)).toNat = cs.length := by
    simp only [List.length_map, List.length_append, List.length_cons, List.length_nil]
    omega
  rw [h3]
  simp
theorem eq_none (rs : List (List Int × Int)) : eqD (.tup (rs.map refD)) (.tup []) = some (.bl rs.isEmpty) := by
  rw [eqD_ok (ok_refs rs) ((sh_tup (k := 0) (ds := []) (by simp)).ok (by decide))]
  cases rs <;> simp [toPy, toPys, PyData.eqv, PyData.eqvAll]
theorem ints_ne (ns : List Int) : neD (.lst (ns.map D.int)) (.lst []) = some (.bl (!ns.isEmpty)) := by
  rw [neD_ok ((sh_lst (sh_ints 0 ns)).ok (by decide)) ((sh_lst (k := 0) (ds := []) (by simp)).ok (by decide))]
  cases ns <;> simp [toPy, toPys, PyData.eqv, PyData.eqvAll]
theorem ints_eq (ns : List Int) : eqD (.lst (ns.map D.int)) (.lst []) = some (.bl ns.isEmpty) := by
  rw [eqD_ok ((sh_lst (sh_ints 0 ns)).ok (by decide)) ((sh_lst (k := 0) (ds := []) (by simp)).ok (by decide))]
  cases ns <;> simp [toPy, toPys, PyData.eqv, PyData.eqvAll]
theorem one_int {ns : List Int} {n : Nat} {q : QD} (h0 : ns ≠ []) (h1 : ns.length ≤ 1000) (hn : n + 1 ≤ NN) (h : ∀ i ∈ ns, q (.int i) (n + 1)) : T__law_one_of [.pen, .lst (ns.map D.int)] n q :=
  one_ok (by simpa using h0) (by simpa using h1) hn fun d hd => by
    obtain ⟨i, hi, rfl⟩ := List.mem_map.mp hd
    exact h i hi
theorem tab_at {ts : List Tab} {j : Int} (h0 : 0 ≤ j) (h1 : j < ts.length) : ixD (.tup (ts.map tabD)) (.int j) = some (tabD (ix ts j)) := by
  show atI (ts.map tabD) j = _
  rw [at_ix h0 (by simpa using h1), ix_map h0 h1]
theorem col_at {cs : List (Int × Int)} {j : Int} (h0 : 0 ≤ j) (h1 : j < cs.length) : ixD (.tup (cs.map colD)) (.int j) = some (colD (ix cs j)) := by
  show atI (cs.map colD) j = _
  rw [at_ix h0 (by simpa using h1), ix_map h0 h1]
theorem colL_at {cs : List (Int × Int)} {j : Int} (h0 : 0 ≤ j) (h1 : j < cs.length) : ixD (.lst (cs.map colD)) (.int j) = some (colD (ix cs j)) := by
  show atI (cs.map colD) j = _
  rw [at_ix h0 (by simpa using h1), ix_map h0 h1]
/-- the numbers of those tables that refer to none, whatever they are -/
theorem m_some {ts : List Tab} (hl : ts.length ≤ 1000) {f : D → DL.Env → Option DL.Env} {tt : TDb} {Te : TD} {ρ : DL.Env} {n : Nat} {q : List D → Nat → Prop}
    (hf : ∀ (i : Int) (t : Tab), ∃ ρ', f (.tup [.int i, tabD t]) ρ = some ρ' ∧ (∀ n k, (∀ b, k b n) → tt ρ' n k) ∧ ∀ n k, k (.int i) n → Te ρ' n k)
    (h : ∀ js : List Int, js.length ≤ ts.length → (∀ j ∈ js, 0 ≤ j ∧ j < ts.length) → q (js.map D.int) n) : compD f tt Te (enumD 0 (ts.map tabD)) [] ρ n q := by
  have LL : LIM = 1000000 := rfl
  refine compD_post (fun _ => True) (fun y => ∃ i : Int, y = .int i ∧ (0 ≤ i ∧ i < ts.length)) _ _ _ _ (fun d hd => ?_) (by rw [enumD_len]; simp; omega) fun ys l1 l2 => ?_
  · obtain ⟨i, hi⟩ := List.mem_iff_getElem?.mp hd
    rw [enumD_get, List.getElem?_map] at hi
    cases ht : ts[i]? with
    | none =>
      rw [ht] at hi
      cases hi
    | some t =>
      rw [ht] at hi
      cases hi
      have hlt := (List.getElem?_eq_some_iff.mp ht).1
      obtain ⟨ρ', e1, e2, e3⟩ := hf ((0 + i : Nat) : Int) t
      exact ⟨ρ', e1, fun n k hk => e2 n k fun b => hk b fun _ => trivial, fun n k _ hk => e3 n k (hk _ ⟨_, rfl, by omega, by omega⟩)⟩
  · rw [enumD_len, List.length_map] at l1
    obtain ⟨js, rfl, hj⟩ := list_of l2
    exact h js (by simpa using l1) hj
def RefRes (L T : Nat) (d : D) : Prop := d = .non ∨ ∃ (os : List Int) (j : Int), d = refD (os, j) ∧ os.length ≤ 2 ∧ (∀ o ∈ os, 0 ≤ o ∧ o < L) ∧ 0 ≤ j ∧ j < T
theorem m_draw_reference {ts : List Tab} (hts : ∀ t ∈ ts, t.Ok) (hl : ts.length ≤ 100) {bs : List (Int × Int)} (hb : bs.length ≤ 100) {n : Nat} {q : QD} (hn : n + 3 ≤ NN)
    (h : ∀ d n', RefRes bs.length ts.length d → n ≤ n' → n' ≤ n + 3 → q d n') : T__law_draw_reference [.pen, .tup (ts.map tabD), .lst (bs.map colD)] n q := by
  have LL : LIM = 1000000 := rfl
  have t0 : ∀ t, ixD (tabD t) (.int 0) = some (.tup (t.cols.map colD)) := fun _ => rfl
  have t1 : ∀ t, ixD (tabD t) (.int 1) = some (.tup (t.key.map D.int)) := fun _ => rfl
  have t2 : ∀ t, ixD (tabD t) (.int 2) = some (.tup (t.refs.map refD)) := fun _ => rfl
  simp only [T__law_draw_reference, fnD, startE, List.replicate, List.cons_append, List.nil_append, Nat.reduceSub, tL, tCompL, wEnum, sSeq, sNil, sIf, sRet, sRetN, tVarD, tCD, tOpD, tOp1D, tCallD, tCallB, aNil, aCons, bVal, bNot, bCmp, bOr, tTupD, sAsg, hide_nil, fTup, fsCons, fsNil, fName, Option.bind_some, List.set_cons_zero, List.set_cons_succ, List.map_cons, List.map_nil, List.length_cons, List.length_nil, List.getElem?_cons_zero, List.getElem?_cons_succ, Nat.zero_add, Nat.reduceAdd, Option.some.injEq, exists_eq_left', true_and, D.bl.injEq, Bool.not_true, Bool.not_false, Bool.false_eq_true, if_false, if_true, lenD_tup, List.length_map, subD_int]
  rw [ee]
  refine m_some (by omega) (fun i t => ⟨_, rfl, fun n k hk => ?_, fun n k hk => ?_⟩) fun js l1 l2 => ?_
  · simp only [wipeE, t2, eq_none, sSeq, sNil, sIf, sRet, sRetN, tVarD, tCD, tOpD, tOp1D, tCallD, tCallB, aNil, aCons, bVal, bNot, bCmp, bOr, tTupD, sAsg, hide_nil, fTup, fsCons, fsNil, fName, Option.bind_some, List.set_cons_zero, List.set_cons_succ, List.map_cons, List.map_nil, List.length_cons, List.length_nil, List.getElem?_cons_zero, List.getElem?_cons_succ, Nat.zero_add, Nat.reduceAdd, Option.some.injEq, exists_eq_left', true_and, D.bl.injEq, Bool.not_true, Bool.not_false, Bool.false_eq_true, if_false, if_true, lenD_tup, List.length_map, subD_int]
    exact ⟨by omega, hk _⟩
  · simp only [wipeE, sSeq, sNil, sIf, sRet, sRetN, tVarD, tCD, tOpD, tOp1D, tCallD, tCallB, aNil, aCons, bVal, bNot, bCmp, bOr, tTupD, sAsg, hide_nil, fTup, fsCons, fsNil, fName, Option.bind_some, List.set_cons_zero, List.set_cons_succ, List.map_cons, List.map_nil, List.length_cons, List.length_nil, List.getElem?_cons_zero, List.getElem?_cons_succ, Nat.zero_add, Nat.reduceAdd, Option.some.injEq, exists_eq_left', true_and, D.bl.injEq, Bool.not_true, Bool.not_false, Bool.false_eq_true, if_false, if_true, lenD_tup, List.length_map, subD_int]
    exact hk
  simp only [tIfD, tLstD, ints_ne, sSeq, sNil, sIf, sRet, sRetN, tVarD, tCD, tOpD, tOp1D, tCallD, tCallB, aNil, aCons, bVal, bNot, bCmp, bOr, tTupD, sAsg, hide_nil, fTup, fsCons, fsNil, fName, Option.bind_some, List.set_cons_zero, List.set_cons_succ, List.map_cons, List.map_nil, List.length_cons, List.length_nil, List.getElem?_cons_zero, List.getElem?_cons_succ, Nat.zero_add, Nat.reduceAdd, Option.some.injEq, exists_eq_left', true_and, D.bl.injEq, Bool.not_true, Bool.not_false, Bool.false_eq_true, if_false, if_true, lenD_tup, List.length_map, subD_int]
  refine ⟨by omega, ?_⟩
  have non : ∀ n', n ≤ n' → n' ≤ n + 3 → q .non n' := fun n' h1 h2 => h _ _ (.inl rfl) h1 h2
  cases hj : js.isEmpty with
  | true =>
    simp only [Bool.not_true, Bool.false_eq_true, if_false]
    simp only [isD, isN, sSeq, sNil, sIf, sRet, sRetN, tVarD, tCD, tOpD, tOp1D, tCallD, tCallB, aNil, aCons, bVal, bNot, bCmp, bOr, tTupD, sAsg, hide_nil, fTup, fsCons, fsNil, fName, Option.bind_some, List.set_cons_zero, List.set_cons_succ, List.map_cons, List.map_nil, List.length_cons, List.length_nil, List.getElem?_cons_zero, List.getElem?_cons_succ, Nat.zero_add, Nat.reduceAdd, Option.some.injEq, exists_eq_left', true_and, D.bl.injEq, Bool.not_true, Bool.not_false, Bool.false_eq_true, if_false, if_true, lenD_tup, List.length_map, subD_int]
    exact non _ (by omega) (by omega)
  | false =>
    simp only [Bool.not_false, if_true]
    refine one_int (by
      intro e
      rw [e] at hj
      cases hj) (by omega) (by omega) fun j hjm => ?_
    obtain ⟨j0, j1⟩ := l2 j hjm
    have ok := hts _ (ix_mem j0 j1)
    have e1 := tab_at j0 j1
    have ln : lenD [.lst (bs.map colD)] = some (.int (bs.length : Nat)) := by simp [lenD]
    simp only [isD, isN, e1, t1, ln, ltD, cmpI, sSeq, sNil, sIf, sRet, sRetN, tVarD, tCD, tOpD, tOp1D, tCallD, tCallB, aNil, aCons, bVal, bNot, bCmp, bOr, tTupD, sAsg, hide_nil, fTup, fsCons, fsNil, fName, Option.bind_some, List.set_cons_zero, List.set_cons_succ, List.map_cons, List.map_nil, List.length_cons, List.length_nil, List.getElem?_cons_zero, List.getElem?_cons_succ, Nat.zero_add, Nat.reduceAdd, Option.some.injEq, exists_eq_left', true_and, D.bl.injEq, Bool.not_true, Bool.not_false, Bool.false_eq_true, if_false, if_true, lenD_tup, List.length_map, subD_int]
    by_cases hlt : ((bs.length : Nat) : Int) < (((ix ts j).key.length : Nat) : Int)
    · simp only [hlt, decide_true, if_true]
      exact non _ (by omega) (by omega)
    · simp only [hlt, decide_false, Bool.false_eq_true, if_false]
      simp only [sPar2, lLstD, lList_range1, ln, sFor, wAny, sSeq, sNil, sIf, sRet, sRetN, tVarD, tCD, tOpD, tOp1D, tCallD, tCallB, aNil, aCons, bVal, bNot, bCmp, bOr, tTupD, sAsg, hide_nil, fTup, fsCons, fsNil, fName, Option.bind_some, List.set_cons_zero, List.set_cons_succ, List.map_cons, List.map_nil, List.length_cons, List.length_nil, List.getElem?_cons_zero, List.getElem?_cons_succ, Nat.zero_add, Nat.reduceAdd, Option.some.injEq, exists_eq_left', true_and, D.bl.injEq, Bool.not_true, Bool.not_false, Bool.false_eq_true, if_false, if_true, lenD_tup, List.length_map, subD_int]
      have hh : ∀ a0 a1 a2 a3 a4 a5 a6 a7 a8 a9 a10 a11 a12 : Option D, hide [6, 5] [a0, a1, a2, a3, a4, a5, a6, a7, a8, a9, a10, a11, a12] = [a0, a1, a2, a3, a4, none, none, a7, a8, a9, a10, a11, a12] := fun a0 a1 a2 a3 a4 a5 a6 a7 a8 a9 a10 a11 a12 => by simp [hide, hideFrom]
      refine ⟨by omega, _, rfl, by omega, by omega, by decide, ?_⟩
      simp only [hh, e1, t1, sSeq, sNil, sIf, sRet, sRetN, tVarD, tCD, tOpD, tOp1D, tCallD, tCallB, aNil, aCons, bVal, bNot, bCmp, bOr, tTupD, sAsg, hide_nil, fTup, fsCons, fsNil, fName, Option.bind_some, List.set_cons_zero, List.set_cons_succ, List.map_cons, List.map_nil, List.length_cons, List.length_nil, List.getElem?_cons_zero, List.getElem?_cons_succ, Nat.zero_add, Nat.reduceAdd, Option.some.injEq, exists_eq_left', true_and, D.bl.injEq, Bool.not_true, Bool.not_false, Bool.false_eq_true, if_false, if_true, lenD_tup, List.length_map, subD_int]
      refine ⟨_, .inr rfl, ?_⟩
      have rr : rangeD 0 ((bs.length : Nat) : Int).toNat = ((List.range bs.length).map fun (k : Nat) => (0 : Int) + (k : Int)).map D.int := by
        unfold rangeD
        rw [List.map_map, Int.toNat_natCast]
        rfl
      rw [rr]
      refine forD_inv (all := (ix ts j).key.map D.int) (fun i ρ n' => ∃ (cs rs : List Int) (x7 x8 x9 x10 : Option D), ρ = [some .pen, some (.tup (ts.map tabD)), some (.lst (bs.map colD)), some (.lst (js.map D.int)), some (.int j), some (.lst (cs.map D.int)), some (.lst (rs.map D.int)), x7, x8, x9, x10, none, none] ∧
        cs.length = i ∧ (∀ c ∈ cs, 0 ≤ c ∧ c < bs.length) ∧ (∀ c ∈ rs, 0 ≤ c ∧ c < bs.length) ∧ rs.length ≤ bs.length ∧ n + 1 ≤ n' ∧ n' ≤ n + 1 + i) ?_ ?_ _ 0 _ _ rfl (Nat.zero_le _) ⟨[], _, none, none, none, none, rfl, rfl, by simp, ?_, by simp, by omega, by omega⟩
      · rintro i d hd ρ n' ⟨cs, rs, x7, x8, x9, x10, rfl, hcl, hcs, hrs, hrl, n0, n1⟩
        rw [List.getElem?_map] at hd
        obtain ⟨k, hk, rfl⟩ := Option.map_eq_some_iff.mp hd
        have hik : i < (ix ts j).key.length := (List.getElem?_eq_some_iff.mp hk).1
        have hk2 := ok.keyLen
        obtain ⟨k0, k1⟩ := ok.keyIn k (List.mem_of_getElem? hk)
        refine ⟨_, rfl, fun De hrt _ hnx _ => ?_⟩
        simp only [hh, e1, t0, col_at k0 k1, colD, sOwnP, tCompL, wAny, sSeq, sNil, sIf, sRet, sRetN, tVarD, tCD, tOpD, tOp1D, tCallD, tCallB, aNil, aCons, bVal, bNot, bCmp, bOr, tTupD, sAsg, hide_nil, fTup, fsCons, fsNil, fName, Option.bind_some, List.set_cons_zero, List.set_cons_succ, List.map_cons, List.map_nil, List.length_cons, List.length_nil, List.getElem?_cons_zero, List.getElem?_cons_succ, Nat.zero_add, Nat.reduceAdd, Option.some.injEq, exists_eq_left', true_and, D.bl.injEq, Bool.not_true, Bool.not_false, Bool.false_eq_true, if_false, if_true, lenD_tup, List.length_map, subD_int]
        refine ⟨_, .inl rfl, ?_⟩
        refine compD_post (fun _ => True) (fun y => ∃ c : Int, y = .int c ∧ c ∈ rs) _ _ _ _ (fun d hd => ?_) (by simp; omega) fun ys l1 l2 => ?_
        · obtain ⟨c, hc, rfl⟩ := List.mem_map.mp hd
          obtain ⟨c0, c1⟩ := hrs c hc
          refine ⟨_, rfl, fun n k hk => ?_, fun n k _ hk => ?_⟩
          · simp only [wipeE, bAnd, colL_at c0 c1, sSeq, sNil, sIf, sRet, sRetN, tVarD, tCD, tOpD, tOp1D, tCallD, tCallB, aNil, aCons, bVal, bNot, bCmp, bOr, tTupD, sAsg, hide_nil, fTup, fsCons, fsNil, fName, Option.bind_some, List.set_cons_zero, List.set_cons_succ, List.map_cons, List.map_nil, List.length_cons, List.length_nil, List.getElem?_cons_zero, List.getElem?_cons_succ, Nat.zero_add, Nat.reduceAdd, Option.some.injEq, exists_eq_left', true_and, D.bl.injEq, Bool.not_true, Bool.not_false, Bool.false_eq_true, if_false, if_true, lenD_tup, List.length_map, subD_int]
            refine ⟨_, ix0 _ _, ?_⟩
            simp only [leD_int, sSeq, sNil, sIf, sRet, sRetN, tVarD, tCD, tOpD, tOp1D, tCallD, tCallB, aNil, aCons, bVal, bNot, bCmp, bOr, tTupD, sAsg, hide_nil, fTup, fsCons, fsNil, fName, Option.bind_some, List.set_cons_zero, List.set_cons_succ, List.map_cons, List.map_nil, List.length_cons, List.length_nil, List.getElem?_cons_zero, List.getElem?_cons_succ, Nat.zero_add, Nat.reduceAdd, Option.some.injEq, exists_eq_left', true_and, D.bl.injEq, Bool.not_true, Bool.not_false, Bool.false_eq_true, if_false, if_true, lenD_tup, List.length_map, subD_int]
            split
            · refine ⟨_, ix1 _ _ _, ?_⟩
              simp only [leD_int, sSeq, sNil, sIf, sRet, sRetN, tVarD, tCD, tOpD, tOp1D, tCallD, tCallB, aNil, aCons, bVal, bNot, bCmp, bOr, tTupD, sAsg, hide_nil, fTup, fsCons, fsNil, fName, Option.bind_some, List.set_cons_zero, List.set_cons_succ, List.map_cons, List.map_nil, List.length_cons, List.length_nil, List.getElem?_cons_zero, List.getElem?_cons_succ, Nat.zero_add, Nat.reduceAdd, Option.some.injEq, exists_eq_left', true_and, D.bl.injEq, Bool.not_true, Bool.not_false, Bool.false_eq_true, if_false, if_true, lenD_tup, List.length_map, subD_int]
              exact hk _ fun _ => trivial
            · exact hk _ fun _ => trivial
          · simp only [wipeE, sSeq, sNil, sIf, sRet, sRetN, tVarD, tCD, tOpD, tOp1D, tCallD, tCallB, aNil, aCons, bVal, bNot, bCmp, bOr, tTupD, sAsg, hide_nil, fTup, fsCons, fsNil, fName, Option.bind_some, List.set_cons_zero, List.set_cons_succ, List.map_cons, List.map_nil, List.length_cons, List.length_nil, List.getElem?_cons_zero, List.getElem?_cons_succ, Nat.zero_add, Nat.reduceAdd, Option.some.injEq, exists_eq_left', true_and, D.bl.injEq, Bool.not_true, Bool.not_false, Bool.false_eq_true, if_false, if_true, lenD_tup, List.length_map, subD_int]
            exact hk _ ⟨c, rfl, hc⟩
        · obtain ⟨fs, rfl, hfs⟩ := list_of l2
          rw [List.nil_append]
          refine ⟨pure_ints fs, by decide, ?_⟩
          simp only [tLstD, ints_eq, sSeq, sNil, sIf, sRet, sRetN, tVarD, tCD, tOpD, tOp1D, tCallD, tCallB, aNil, aCons, bVal, bNot, bCmp, bOr, tTupD, sAsg, hide_nil, fTup, fsCons, fsNil, fName, Option.bind_some, List.set_cons_zero, List.set_cons_succ, List.map_cons, List.map_nil, List.length_cons, List.length_nil, List.getElem?_cons_zero, List.getElem?_cons_succ, Nat.zero_add, Nat.reduceAdd, Option.some.injEq, exists_eq_left', true_and, D.bl.injEq, Bool.not_true, Bool.not_false, Bool.false_eq_true, if_false, if_true, lenD_tup, List.length_map, subD_int]
          refine ⟨by omega, ?_⟩
          cases hf : fs.isEmpty with
          | true =>
            simp only [if_true]
            rw [hrt]
            exact non _ (by omega) (by omega)
          | false =>
            simp only [Bool.false_eq_true, if_false]
            simp only [sAppP, sSeq, sNil, sIf, sRet, sRetN, tVarD, tCD, tOpD, tOp1D, tCallD, tCallB, aNil, aCons, bVal, bNot, bCmp, bOr, tTupD, sAsg, hide_nil, fTup, fsCons, fsNil, fName, Option.bind_some, List.set_cons_zero, List.set_cons_succ, List.map_cons, List.map_nil, List.length_cons, List.length_nil, List.getElem?_cons_zero, List.getElem?_cons_succ, Nat.zero_add, Nat.reduceAdd, Option.some.injEq, exists_eq_left', true_and, D.bl.injEq, Bool.not_true, Bool.not_false, Bool.false_eq_true, if_false, if_true, lenD_tup, List.length_map, subD_int]
            rw [List.length_map, List.length_map] at l1
            refine one_int (by
              intro e
              rw [e] at hf
              cases hf) (by omega) (by omega) fun c hc => ?_
            have hcr := hfs c hc
            refine ⟨rfl, _, rfl, by rw [List.length_map]; omega, ?_⟩
            have e5 : cs.map D.int ++ [D.int c] = (cs ++ [c]).map D.int := by rw [List.map_append]; rfl
            have ng : negD (.int 1) = some (.int (-1)) := rfl
            rw [e5]
            simp only [sRem, ng, last_int, sSeq, sNil, sIf, sRet, sRetN, tVarD, tCD, tOpD, tOp1D, tCallD, tCallB, aNil, aCons, bVal, bNot, bCmp, bOr, tTupD, sAsg, hide_nil, fTup, fsCons, fsNil, fName, Option.bind_some, List.set_cons_zero, List.set_cons_succ, List.map_cons, List.map_nil, List.length_cons, List.length_nil, List.getElem?_cons_zero, List.getElem?_cons_succ, Nat.zero_add, Nat.reduceAdd, Option.some.injEq, exists_eq_left', true_and, D.bl.injEq, Bool.not_true, Bool.not_false, Bool.false_eq_true, if_false, if_true, lenD_tup, List.length_map, subD_int]
            refine ⟨rs, c, rfl, rfl, hcr, hnx _ _ ⟨cs ++ [c], rs.erase c, _, _, _, _, rfl, by simp [hcl], fun z hz => ?_, fun z hz => hrs z (List.mem_of_mem_erase hz), ?_, by omega, by omega⟩⟩
            · rcases List.mem_append.mp hz with hz | hz
              · exact hcs z hz
              · rw [List.mem_singleton.mp hz]
                exact hrs c hcr
            · have := List.length_erase_of_mem hcr
              omega
      · rintro ρ n' ⟨cs, rs, x7, x8, x9, x10, rfl, hcl, hcs, hrs, hrl, n0, n1⟩
        have hk2 := ok.keyLen
        rw [List.length_map] at hcl n1
        simp only [tupleD, sSeq, sNil, sIf, sRet, sRetN, tVarD, tCD, tOpD, tOp1D, tCallD, tCallB, aNil, aCons, bVal, bNot, bCmp, bOr, tTupD, sAsg, hide_nil, fTup, fsCons, fsNil, fName, Option.bind_some, List.set_cons_zero, List.set_cons_succ, List.map_cons, List.map_nil, List.length_cons, List.length_nil, List.getElem?_cons_zero, List.getElem?_cons_succ, Nat.zero_add, Nat.reduceAdd, Option.some.injEq, exists_eq_left', true_and, D.bl.injEq, Bool.not_true, Bool.not_false, Bool.false_eq_true, if_false, if_true, lenD_tup, List.length_map, subD_int]
        exact ⟨by omega, h _ _ (.inr ⟨cs, j, rfl, by omega, hcs, j0, j1⟩) (by omega) (by omega)⟩
      · intro c hc
        obtain ⟨k, hk, rfl⟩ := List.mem_map.mp hc
        have := List.mem_range.mp hk
        omega
end K01
set_option maxHeartbeats 8000000
namespace K01
open PySem PySem.Spec PyProof.Rows L2 DL
structure Fine (t : Tab) : Prop where
  ok : t.Ok
  cb : ∀ c ∈ t.cols, -1000000 ≤ c.1 ∧ c.2 ≤ 1000013
  rl : t.refs.length ≤ 2
  rb : ∀ r ∈ t.refs, r.1.length ≤ 2 ∧ (∀ o ∈ r.1, 0 ≤ o ∧ o < 10) ∧ 0 ≤ r.2 ∧ r.2 < 10
def BOk (c : Int × Int) : Prop := -1000000 ≤ c.1 ∧ c.1 ≤ c.2 ∧ c.2 ≤ 1000013
theorem pure_cols : ∀ cs : List (Int × Int), pureDs (cs.map colD) = true
  | [] => rfl
  | c :: cs => by simp [pureDs, colD, pureD, pure_cols cs]
theorem refres_pure {L T : Nat} {d : D} (h : RefRes L T d) : pureD d = true := by
  rcases h with rfl | ⟨os, j, rfl, _⟩
  · rfl
  · simp [refD, pureD, pureDs, pure_ints]
theorem pures_all : ∀ {ds : List D}, (∀ d ∈ ds, pureD d = true) → pureDs ds = true
  | [], _ => rfl
  | d :: ds, h => by simp [pureDs, h d List.mem_cons_self, pures_all (ds := ds) fun z hz => h z (List.mem_cons_of_mem _ hz)]
def tabRest : TDS := (sSeq (sOwnP 9 (tCompL (wRng1 (aCons (tCallD takeD (aCons (tVarD 0) (aCons (tCD (.int 3)) aNil))) aNil)) (fName 13) bYes (tCallD T__law_draw_reference (aCons (tVarD 0) (aCons (tVarD 1) (aCons (tVarD 3) aNil)))) [13])) (sSeq (sAsg [9] (fName 10) (tCallD T__law_draw_key (aCons (tVarD 0) (aCons (tCallB lenD (aCons (tVarD 3) aNil)) aNil)))) (sRet (tTupD (aCons (tCallB tupleD (aCons (tVarD 3) aNil)) (aCons (tVarD 10) (aCons (tCallB tupleD (aCons (tComp (wAny (tVarD 9)) (fName 14) (bCmp notD (tVarD 14) (tCD .non)) (tVarD 14) [14]) aNil)) aNil)))))))
theorem m_tabRest {ts : List Tab} (hts : ∀ t ∈ ts, t.Ok) (hl : ts.length ≤ 10) {bs : List (Int × Int)} (hb : 1 ≤ bs.length ∧ bs.length ≤ 4) (hB : ∀ c ∈ bs, BOk c) {m : Int} {x4 x5 x6 x7 x8 : Option D} {n : Nat} {De : DE} (hn : n + 12 ≤ NN)
    (h : ∀ (t : Tab) (n' : Nat), Fine t → n ≤ n' → n' ≤ n + 12 → De.rt (tabD t) n') : tabRest De [some .pen, some (.tup (ts.map tabD)), some (.int m), some (.lst (bs.map colD)), x4, x5, x6, x7, x8, none, none, none, none, none, none] n := by
  have LL : LIM = 1000000 := rfl
  simp only [tabRest, sOwnP, tCompL, wRng1, sSeq, sNil, sIf, sRet, sRetN, tVarD, tCD, tOpD, tOp1D, tCallD, tCallB, aNil, aCons, bVal, bNot, bCmp, bOr, tTupD, sAsg, hide_nil, fTup, fsCons, fsNil, fName, Option.bind_some, List.set_cons_zero, List.set_cons_succ, List.map_cons, List.map_nil, List.length_cons, List.length_nil, List.getElem?_cons_zero, List.getElem?_cons_succ, Nat.zero_add, Nat.reduceAdd, Option.some.injEq, exists_eq_left', true_and, D.bl.injEq, Bool.not_true, Bool.not_false, Bool.false_eq_true, if_false, if_true, lenD_tup, List.length_map, subD_int]
  refine take_ok (by decide) (by decide) (by omega) fun r r0 r1 => ⟨r, rfl, by omega, by omega, ?_⟩
  have lr : (rangeD 0 r.toNat).length = r.toNat := by simp [rangeD]
  refine compD_inv (RefRes bs.length ts.length) 3 _ _ _ _ (fun d hd => ⟨_, rfl, fun n k hn' hk => ?_⟩) (by rw [lr]; omega) (by rw [lr]; simp; omega) fun ys n' l1 l2 l3 l4 => ?_
  · simp only [wipeE, sSeq, sNil, sIf, sRet, sRetN, tVarD, tCD, tOpD, tOp1D, tCallD, tCallB, aNil, aCons, bVal, bNot, bCmp, bOr, tTupD, sAsg, hide_nil, fTup, fsCons, fsNil, fName, Option.bind_some, List.set_cons_zero, List.set_cons_succ, List.map_cons, List.map_nil, List.length_cons, List.length_nil, List.getElem?_cons_zero, List.getElem?_cons_succ, Nat.zero_add, Nat.reduceAdd, Option.some.injEq, exists_eq_left', true_and, D.bl.injEq, Bool.not_true, Bool.not_false, Bool.false_eq_true, if_false, if_true, lenD_tup, List.length_map, subD_int]
    exact m_draw_reference hts (by omega) (by omega) hn' fun d n' hd h1 h2 => hk d n' hd h1 h2
  · rw [lr] at l1 l4
    refine ⟨pures_all fun d hd => refres_pure (l2 d (by simpa using hd)), by decide, ?_⟩
    have ln : lenD [.lst (bs.map colD)] = some (.int (bs.length : Nat)) := by simp [lenD]
    have hh : ∀ a0 a1 a2 a3 a4 a5 a6 a7 a8 a9 a10 a11 a12 a13 a14 : Option D, hide [9] [a0, a1, a2, a3, a4, a5, a6, a7, a8, a9, a10, a11, a12, a13, a14] = [a0, a1, a2, a3, a4, a5, a6, a7, a8, none, a10, a11, a12, a13, a14] := fun a0 a1 a2 a3 a4 a5 a6 a7 a8 a9 a10 a11 a12 a13 a14 => by simp [hide, hideFrom]
    simp only [List.nil_append, hh, ln, sSeq, sNil, sIf, sRet, sRetN, tVarD, tCD, tOpD, tOp1D, tCallD, tCallB, aNil, aCons, bVal, bNot, bCmp, bOr, tTupD, sAsg, hide_nil, fTup, fsCons, fsNil, fName, Option.bind_some, List.set_cons_zero, List.set_cons_succ, List.map_cons, List.map_nil, List.length_cons, List.length_nil, List.getElem?_cons_zero, List.getElem?_cons_succ, Nat.zero_add, Nat.reduceAdd, Option.some.injEq, exists_eq_left', true_and, D.bl.injEq, Bool.not_true, Bool.not_false, Bool.false_eq_true, if_false, if_true, lenD_tup, List.length_map, subD_int]
    refine m_draw_key (by omega) (by omega) (by omega) fun ks n2 k1 k2 k3 k4 k5 => ?_
    simp only [tupleD, tComp, wAny, sSeq, sNil, sIf, sRet, sRetN, tVarD, tCD, tOpD, tOp1D, tCallD, tCallB, aNil, aCons, bVal, bNot, bCmp, bOr, tTupD, sAsg, hide_nil, fTup, fsCons, fsNil, fName, Option.bind_some, List.set_cons_zero, List.set_cons_succ, List.map_cons, List.map_nil, List.length_cons, List.length_nil, List.getElem?_cons_zero, List.getElem?_cons_succ, Nat.zero_add, Nat.reduceAdd, Option.some.injEq, exists_eq_left', true_and, D.bl.injEq, Bool.not_true, Bool.not_false, Bool.false_eq_true, if_false, if_true, lenD_tup, List.length_map, subD_int]
    refine ⟨_, .inl rfl, ?_⟩
    refine compD_post (fun d => d ≠ .non ∧ RefRes bs.length ts.length d) (fun y => ∃ r : List Int × Int, y = refD r ∧ r.1.length ≤ 2 ∧ (∀ o ∈ r.1, 0 ≤ o ∧ o < 10) ∧ 0 ≤ r.2 ∧ r.2 < 10) _ _ _ _ (fun d hd => ⟨_, rfl, fun n k hk => ?_, fun n k hS hk => ?_⟩) (by simp; omega) fun zs z1 z2 => ?_
    · simp only [wipeE, notD, sSeq, sNil, sIf, sRet, sRetN, tVarD, tCD, tOpD, tOp1D, tCallD, tCallB, aNil, aCons, bVal, bNot, bCmp, bOr, tTupD, sAsg, hide_nil, fTup, fsCons, fsNil, fName, Option.bind_some, List.set_cons_zero, List.set_cons_succ, List.map_cons, List.map_nil, List.length_cons, List.length_nil, List.getElem?_cons_zero, List.getElem?_cons_succ, Nat.zero_add, Nat.reduceAdd, Option.some.injEq, exists_eq_left', true_and, D.bl.injEq, Bool.not_true, Bool.not_false, Bool.false_eq_true, if_false, if_true, lenD_tup, List.length_map, subD_int]
      refine hk _ fun hb => ⟨?_, l2 d hd⟩
      intro e
      rw [e] at hb
      cases hb
    · simp only [wipeE, sSeq, sNil, sIf, sRet, sRetN, tVarD, tCD, tOpD, tOp1D, tCallD, tCallB, aNil, aCons, bVal, bNot, bCmp, bOr, tTupD, sAsg, hide_nil, fTup, fsCons, fsNil, fName, Option.bind_some, List.set_cons_zero, List.set_cons_succ, List.map_cons, List.map_nil, List.length_cons, List.length_nil, List.getElem?_cons_zero, List.getElem?_cons_succ, Nat.zero_add, Nat.reduceAdd, Option.some.injEq, exists_eq_left', true_and, D.bl.injEq, Bool.not_true, Bool.not_false, Bool.false_eq_true, if_false, if_true, lenD_tup, List.length_map, subD_int]
      rcases hS.2 with e | ⟨os, j, rfl, q1, q2, q3, q4⟩
      · exact absurd e hS.1
      · exact hk _ ⟨(os, j), rfl, q1, fun o ho => ⟨(q2 o ho).1, by have := (q2 o ho).2; omega⟩, q3, by omega⟩
    · obtain ⟨rs, rfl, hrs⟩ := list_of z2
      rw [List.nil_append]
      refine ⟨by omega, h ⟨bs, ks, rs⟩ n2 ⟨⟨hb, fun c hc => (hB c hc).2.1, ⟨k1, k2⟩, k3⟩, fun c hc => ⟨(hB c hc).1, (hB c hc).2.2⟩, ?_, hrs⟩ (by omega) (by omega)⟩
      rw [List.length_map] at z1
      show rs.length ≤ 2
      omega
def tabIf : TDS := sIf (bAnd (bCmp neD (tVarD 4) (tLstD aNil)) (bCmp gtD (tCallD takeD (aCons (tVarD 0) (aCons (tCD (.int 4)) aNil))) (tCD (.int 0)))) (sSeq (sAsg [3] (fName 5) (tOpD ixD (tVarD 1) (tCallD T__law_one_of (aCons (tVarD 0) (aCons (tVarD 4) aNil))))) (sSeq (sAsgP (fName 6) (tCallB intD (aCons (tOpD gtD (tCallB lenD (aCons (tVarD 3) aNil)) (tCallB lenD (aCons (tOpD ixD (tVarD 5) (tCD (.int 1))) aNil))) aNil))) (sForP (wEnumP (aCons (tSlD (tOpD ixD (tVarD 5) (tCD (.int 1))) oNone (oSome (tCallB lenD (aCons (tVarD 3) aNil)))) aNil)) (fTup 2 (fsCons (fName 7) (fsCons (fName 8) fsNil))) (sSet 3 (tOpD ixD (tOpD ixD (tVarD 5) (tCD (.int 0))) (tVarD 8)) (tOpD addD (tVarD 7) (tVarD 6)))))) sNil
theorem table_eq : T__law_draw_table = fnD 3 15 (sSeq (sOwn [] 3 (tCompL (wRng1 (aCons (tOpD addD (tCD (.int 1)) (tCallD takeD (aCons (tVarD 0) (aCons (tVarD 2) aNil)))) aNil)) (fName 7) bYes (tCallD T__law_draw_bounds (aCons (tVarD 0) aNil)) [7])) (sSeq (sAsg [3] (fName 4) (tL (tCompL (wEnum (aCons (tVarD 1) aNil)) (fTup 2 (fsCons (fName 11) (fsCons (fName 12) fsNil))) (bCmp eqD (tOpD ixD (tVarD 12) (tCD (.int 2))) (tTupD aNil)) (tVarD 11) [11, 12]))) (sSeq tabIf tabRest))) := rfl
theorem m_tabIf {ts : List Tab} (hts : ∀ t ∈ ts, Fine t) (hl : ts.length ≤ 10) {bs : List (Int × Int)} (hb : 1 ≤ bs.length ∧ bs.length ≤ 4) (hB : ∀ c ∈ bs, BOk c) {js : List Int} (hj : ∀ j ∈ js, 0 ≤ j ∧ j < ts.length) (hjl : js.length ≤ 10) {m : Int} {n : Nat} {De : DE} (hn : n + 2 ≤ NN)
    (h : ∀ (bs' : List (Int × Int)) (x5 x6 x7 x8 : Option D) (n' : Nat), bs'.length = bs.length → (∀ c ∈ bs', BOk c) → n ≤ n' → n' ≤ n + 2 → De.nx [some .pen, some (.tup (ts.map tabD)), some (.int m), some (.lst (bs'.map colD)), some (.lst (js.map D.int)), x5, x6, x7, x8, none, none, none, none, none, none] n') :
    tabIf De [some .pen, some (.tup (ts.map tabD)), some (.int m), some (.lst (bs.map colD)), some (.lst (js.map D.int)), none, none, none, none, none, none, none, none, none, none] n := by
  have LL : LIM = 1000000 := rfl
  have t0 : ∀ t, ixD (tabD t) (.int 0) = some (.tup (t.cols.map colD)) := fun _ => rfl
  have t1 : ∀ t, ixD (tabD t) (.int 1) = some (.tup (t.key.map D.int)) := fun _ => rfl
  simp only [tabIf, bAnd, tLstD, ints_ne, sSeq, sNil, sIf, sRet, sRetN, tVarD, tCD, tOpD, tOp1D, tCallD, tCallB, aNil, aCons, bVal, bNot, bCmp, bOr, tTupD, sAsg, hide_nil, fTup, fsCons, fsNil, fName, Option.bind_some, List.set_cons_zero, List.set_cons_succ, List.map_cons, List.map_nil, List.length_cons, List.length_nil, List.getElem?_cons_zero, List.getElem?_cons_succ, Nat.zero_add, Nat.reduceAdd, Option.some.injEq, exists_eq_left', true_and, D.bl.injEq, Bool.not_true, Bool.not_false, Bool.false_eq_true, if_false, if_true, lenD_tup, List.length_map, subD_int]
  refine ⟨by omega, ?_⟩
  cases he : js.isEmpty with
  | true =>
    simp only [Bool.not_true, Bool.false_eq_true, if_false]
    exact h bs _ _ _ _ n rfl hB (by omega) (by omega)
  | false =>
    simp only [Bool.not_false, if_true]
    refine take_ok (by decide) (by decide) (by omega) fun k k0 k1 => ?_
    simp only [gtD_int, sSeq, sNil, sIf, sRet, sRetN, tVarD, tCD, tOpD, tOp1D, tCallD, tCallB, aNil, aCons, bVal, bNot, bCmp, bOr, tTupD, sAsg, hide_nil, fTup, fsCons, fsNil, fName, Option.bind_some, List.set_cons_zero, List.set_cons_succ, List.map_cons, List.map_nil, List.length_cons, List.length_nil, List.getElem?_cons_zero, List.getElem?_cons_succ, Nat.zero_add, Nat.reduceAdd, Option.some.injEq, exists_eq_left', true_and, D.bl.injEq, Bool.not_true, Bool.not_false, Bool.false_eq_true, if_false, if_true, lenD_tup, List.length_map, subD_int]
    by_cases hk : 0 < k
    · simp only [hk, decide_true, if_true]
      have hh : ∀ a0 a1 a2 a3 a4 a5 a6 a7 a8 a9 a10 a11 a12 a13 a14 : Option D, hide [3] [a0, a1, a2, a3, a4, a5, a6, a7, a8, a9, a10, a11, a12, a13, a14] = [a0, a1, a2, none, a4, a5, a6, a7, a8, a9, a10, a11, a12, a13, a14] := fun a0 a1 a2 a3 a4 a5 a6 a7 a8 a9 a10 a11 a12 a13 a14 => by simp [hide, hideFrom]
      simp only [hh, sSeq, sNil, sIf, sRet, sRetN, tVarD, tCD, tOpD, tOp1D, tCallD, tCallB, aNil, aCons, bVal, bNot, bCmp, bOr, tTupD, sAsg, hide_nil, fTup, fsCons, fsNil, fName, Option.bind_some, List.set_cons_zero, List.set_cons_succ, List.map_cons, List.map_nil, List.length_cons, List.length_nil, List.getElem?_cons_zero, List.getElem?_cons_succ, Nat.zero_add, Nat.reduceAdd, Option.some.injEq, exists_eq_left', true_and, D.bl.injEq, Bool.not_true, Bool.not_false, Bool.false_eq_true, if_false, if_true, lenD_tup, List.length_map, subD_int]
      refine one_int (by
        intro e
        rw [e] at he
        cases he) (by omega) (by omega) fun j hjm => ?_
      obtain ⟨j0, j1⟩ := hj j hjm
      have fine := hts _ (ix_mem j0 j1)
      have ok := fine.ok
      have ln : lenD [.lst (bs.map colD)] = some (.int (bs.length : Nat)) := by simp [lenD]
      have iB : ∀ b : Bool, DL.intD [.bl b] = some (.int (if b then 1 else 0)) := fun _ => rfl
      simp only [tab_at j0 j1, sAsgP, t1, ln, gtD_int, iB, sSeq, sNil, sIf, sRet, sRetN, tVarD, tCD, tOpD, tOp1D, tCallD, tCallB, aNil, aCons, bVal, bNot, bCmp, bOr, tTupD, sAsg, hide_nil, fTup, fsCons, fsNil, fName, Option.bind_some, List.set_cons_zero, List.set_cons_succ, List.map_cons, List.map_nil, List.length_cons, List.length_nil, List.getElem?_cons_zero, List.getElem?_cons_succ, Nat.zero_add, Nat.reduceAdd, Option.some.injEq, exists_eq_left', true_and, D.bl.injEq, Bool.not_true, Bool.not_false, Bool.false_eq_true, if_false, if_true, lenD_tup, List.length_map, subD_int]
      refine ⟨rfl, ?_⟩
      simp only [sForP, wEnumP, tSlD, oNone, oSome, t1, ln, sSeq, sNil, sIf, sRet, sRetN, tVarD, tCD, tOpD, tOp1D, tCallD, tCallB, aNil, aCons, bVal, bNot, bCmp, bOr, tTupD, sAsg, hide_nil, fTup, fsCons, fsNil, fName, Option.bind_some, List.set_cons_zero, List.set_cons_succ, List.map_cons, List.map_nil, List.length_cons, List.length_nil, List.getElem?_cons_zero, List.getElem?_cons_succ, Nat.zero_add, Nat.reduceAdd, Option.some.injEq, exists_eq_left', true_and, D.bl.injEq, Bool.not_true, Bool.not_false, Bool.false_eq_true, if_false, if_true, lenD_tup, List.length_map, subD_int]
      have c1 : DL.cutD (.tup ((ix ts j).key.map D.int)) none (some ((bs.length : Nat) : Int)) = some (.tup (((ix ts j).key.take bs.length).map D.int)) := by
        show some (D.tup (DL.cutL ((ix ts j).key.map D.int) none (some ((bs.length : Nat) : Int)))) = _
        rw [cutL_map, cut_front]
      refine ⟨_, rfl, _, c1, _, rfl, pure_ints _, ?_⟩
      have hkl := ok.keyLen
      refine forD_inv (all := enumD 0 (((ix ts j).key.take bs.length).map D.int)) (fun i ρ n' => ∃ (bs' : List (Int × Int)) (x7 x8 : Option D), ρ = [some .pen, some (.tup (ts.map tabD)), some (.int m), some (.lst (bs'.map colD)), some (.lst (js.map D.int)), some (tabD (ix ts j)), some (.int (if decide (((ix ts j).key.length : Int) < (bs.length : Int)) = true then 1 else 0)), x7, x8, none, none, none, none, none, none] ∧ bs'.length = bs.length ∧ (∀ c ∈ bs', BOk c) ∧ n' = n + 1 + 1) ?_ ?_ _ 0 _ _ rfl (Nat.zero_le _) ⟨bs, none, none, rfl, rfl, hB, rfl⟩
      · rintro i d hd ρ n' ⟨bs', x7, x8, rfl, hl', hB', rfl⟩
        rw [enumD_get, List.getElem?_map] at hd
        obtain ⟨d', hd', rfl⟩ := Option.map_eq_some_iff.mp hd
        obtain ⟨o, ho, rfl⟩ := Option.map_eq_some_iff.mp hd'
        have hi := (List.getElem?_eq_some_iff.mp ho).1
        rw [List.length_take] at hi
        obtain ⟨o0, o1⟩ := ok.keyIn o (List.mem_of_mem_take (List.mem_of_getElem? ho))
        refine ⟨_, rfl, fun De' _ _ hnx _ => ?_⟩
        simp only [sSet, t0, col_at o0 o1, addD_int, sSeq, sNil, sIf, sRet, sRetN, tVarD, tCD, tOpD, tOp1D, tCallD, tCallB, aNil, aCons, bVal, bNot, bCmp, bOr, tTupD, sAsg, hide_nil, fTup, fsCons, fsNil, fName, Option.bind_some, List.set_cons_zero, List.set_cons_succ, List.map_cons, List.map_nil, List.length_cons, List.length_nil, List.getElem?_cons_zero, List.getElem?_cons_succ, Nat.zero_add, Nat.reduceAdd, Option.some.injEq, exists_eq_left', true_and, D.bl.injEq, Bool.not_true, Bool.not_false, Bool.false_eq_true, if_false, if_true, lenD_tup, List.length_map, subD_int]
        have e2 : ixN (bs'.map colD).length (((0 + i : Nat) : Int) + (if decide (((ix ts j).key.length : Int) < (bs.length : Int)) = true then 1 else 0)) = some (((0 + i : Nat) : Int) + (if decide (((ix ts j).key.length : Int) < (bs.length : Int)) = true then 1 else 0)).toNat := by
          unfold ixN
          rw [List.length_map, hl']
          by_cases hc : ((ix ts j).key.length : Int) < (bs.length : Int)
          · simp only [hc, decide_true, if_true]
            rw [if_pos (by omega), if_pos (by omega)]
          · simp only [hc, decide_false, Bool.false_eq_true, if_false]
            rw [if_pos (by omega), if_pos (by omega)]
        rw [Nat.zero_add] at e2
        refine ⟨rfl, _, _, _, rfl, rfl, e2, hnx _ _ ⟨bs'.set _ (ix (ix ts j).cols o), _, _, by rw [List.map_set], by rw [List.length_set]; exact hl', fun c hc => ?_, rfl⟩⟩
        rcases List.mem_or_eq_of_mem_set hc with hc | rfl
        · exact hB' c hc
        · have hm := ix_mem o0 o1
          exact ⟨(fine.cb _ hm).1, ok.low _ hm, (fine.cb _ hm).2⟩
      · rintro ρ n' ⟨bs', x7, x8, rfl, hl', hB', rfl⟩
        exact h bs' _ _ _ _ _ hl' hB' (by omega) (by omega)
    · simp only [hk, decide_false, Bool.false_eq_true, if_false]
      exact h bs _ _ _ _ _ rfl hB (by omega) (by omega)
theorem m_draw_table {ts : List Tab} (hts : ∀ t ∈ ts, Fine t) (hl : ts.length ≤ 10) {m : Int} (hm : 0 < m ∧ m ≤ 4) {n : Nat} {q : QD} (hn : n + 40 ≤ NN) (h : ∀ (t : Tab) (n' : Nat), Fine t → n ≤ n' → n' ≤ n + 40 → q (tabD t) n') : T__law_draw_table [.pen, .tup (ts.map tabD), .int m] n q := by
  have LL : LIM = 1000000 := rfl
  have t2 : ∀ t, ixD (tabD t) (.int 2) = some (.tup (t.refs.map refD)) := fun _ => rfl
  rw [table_eq]
  simp only [fnD, startE, List.replicate, List.cons_append, List.nil_append, Nat.reduceSub, sOwn, tCompL, wRng1, sSeq, sNil, sIf, sRet, sRetN, tVarD, tCD, tOpD, tOp1D, tCallD, tCallB, aNil, aCons, bVal, bNot, bCmp, bOr, tTupD, sAsg, hide_nil, fTup, fsCons, fsNil, fName, Option.bind_some, List.set_cons_zero, List.set_cons_succ, List.map_cons, List.map_nil, List.length_cons, List.length_nil, List.getElem?_cons_zero, List.getElem?_cons_succ, Nat.zero_add, Nat.reduceAdd, Option.some.injEq, exists_eq_left', true_and, D.bl.injEq, Bool.not_true, Bool.not_false, Bool.false_eq_true, if_false, if_true, lenD_tup, List.length_map, subD_int]
  refine take_ok hm.1 (by omega) (by omega) fun r r0 r1 => ?_
  simp only [addD_int, sSeq, sNil, sIf, sRet, sRetN, tVarD, tCD, tOpD, tOp1D, tCallD, tCallB, aNil, aCons, bVal, bNot, bCmp, bOr, tTupD, sAsg, hide_nil, fTup, fsCons, fsNil, fName, Option.bind_some, List.set_cons_zero, List.set_cons_succ, List.map_cons, List.map_nil, List.length_cons, List.length_nil, List.getElem?_cons_zero, List.getElem?_cons_succ, Nat.zero_add, Nat.reduceAdd, Option.some.injEq, exists_eq_left', true_and, D.bl.injEq, Bool.not_true, Bool.not_false, Bool.false_eq_true, if_false, if_true, lenD_tup, List.length_map, subD_int]
  refine ⟨1 + r, rfl, by omega, by omega, ?_⟩
  have lr : (rangeD 0 (1 + r).toNat).length = (1 + r).toNat := by simp [rangeD]
  refine compD_inv (fun y => ∃ c : Int × Int, y = colD c ∧ BOk c) 4 _ _ _ _ (fun d hd => ⟨_, rfl, fun n k hn' hk => ?_⟩) (by rw [lr]; omega) (by rw [lr]; simp; omega) fun ys n' l1 l2 l3 l4 => ?_
  · simp only [wipeE, sSeq, sNil, sIf, sRet, sRetN, tVarD, tCD, tOpD, tOp1D, tCallD, tCallB, aNil, aCons, bVal, bNot, bCmp, bOr, tTupD, sAsg, hide_nil, fTup, fsCons, fsNil, fName, Option.bind_some, List.set_cons_zero, List.set_cons_succ, List.map_cons, List.map_nil, List.length_cons, List.length_nil, List.getElem?_cons_zero, List.getElem?_cons_succ, Nat.zero_add, Nat.reduceAdd, Option.some.injEq, exists_eq_left', true_and, D.bl.injEq, Bool.not_true, Bool.not_false, Bool.false_eq_true, if_false, if_true, lenD_tup, List.length_map, subD_int]
    exact m_draw_bounds hn' fun a b n' h1 h2 h3 h4 h5 => hk _ _ ⟨(a, b), rfl, h1, h2, h3⟩ h4 h5
  · rw [lr] at l1 l4
    obtain ⟨bs, rfl, hB⟩ := list_of l2
    rw [List.length_map] at l1
    rw [List.nil_append]
    refine ⟨by decide, ?_⟩
    have hh : ∀ a0 a1 a2 a3 a4 a5 a6 a7 a8 a9 a10 a11 a12 a13 a14 : Option D, hide [3] [a0, a1, a2, a3, a4, a5, a6, a7, a8, a9, a10, a11, a12, a13, a14] = [a0, a1, a2, none, a4, a5, a6, a7, a8, a9, a10, a11, a12, a13, a14] := fun a0 a1 a2 a3 a4 a5 a6 a7 a8 a9 a10 a11 a12 a13 a14 => by simp [hide, hideFrom]
    simp only [hh, tL, tCompL, wEnum, sSeq, sNil, sIf, sRet, sRetN, tVarD, tCD, tOpD, tOp1D, tCallD, tCallB, aNil, aCons, bVal, bNot, bCmp, bOr, tTupD, sAsg, hide_nil, fTup, fsCons, fsNil, fName, Option.bind_some, List.set_cons_zero, List.set_cons_succ, List.map_cons, List.map_nil, List.length_cons, List.length_nil, List.getElem?_cons_zero, List.getElem?_cons_succ, Nat.zero_add, Nat.reduceAdd, Option.some.injEq, exists_eq_left', true_and, D.bl.injEq, Bool.not_true, Bool.not_false, Bool.false_eq_true, if_false, if_true, lenD_tup, List.length_map, subD_int]
    rw [ee]
    refine m_some (by omega) (fun i t => ⟨_, rfl, fun n k hk => ?_, fun n k hk => ?_⟩) fun js j1 j2 => ?_
    · simp only [wipeE, t2, eq_none, sSeq, sNil, sIf, sRet, sRetN, tVarD, tCD, tOpD, tOp1D, tCallD, tCallB, aNil, aCons, bVal, bNot, bCmp, bOr, tTupD, sAsg, hide_nil, fTup, fsCons, fsNil, fName, Option.bind_some, List.set_cons_zero, List.set_cons_succ, List.map_cons, List.map_nil, List.length_cons, List.length_nil, List.getElem?_cons_zero, List.getElem?_cons_succ, Nat.zero_add, Nat.reduceAdd, Option.some.injEq, exists_eq_left', true_and, D.bl.injEq, Bool.not_true, Bool.not_false, Bool.false_eq_true, if_false, if_true, lenD_tup, List.length_map, subD_int]
      exact ⟨by omega, hk _⟩
    · simp only [wipeE, sSeq, sNil, sIf, sRet, sRetN, tVarD, tCD, tOpD, tOp1D, tCallD, tCallB, aNil, aCons, bVal, bNot, bCmp, bOr, tTupD, sAsg, hide_nil, fTup, fsCons, fsNil, fName, Option.bind_some, List.set_cons_zero, List.set_cons_succ, List.map_cons, List.map_nil, List.length_cons, List.length_nil, List.getElem?_cons_zero, List.getElem?_cons_succ, Nat.zero_add, Nat.reduceAdd, Option.some.injEq, exists_eq_left', true_and, D.bl.injEq, Bool.not_true, Bool.not_false, Bool.false_eq_true, if_false, if_true, lenD_tup, List.length_map, subD_int]
      exact hk
    refine m_tabIf hts hl (bs := bs) (by omega) hB j2 (by omega) (by omega) fun bs' x5 x6 x7 x8 n2 b1 b2 b3 b4 => ?_
    refine m_tabRest (fun t ht => (hts t ht).ok) hl (by omega) b2 (by omega) fun t n3 hF h1 h2 => h t n3 hF (by omega) (by omega)
theorem add_tup {xs ys : List D} (h : xs.length + ys.length ≤ LIM) : addD (.tup xs) (.tup ys) = some (.tup (xs ++ ys)) := by
  unfold addD orD arI catT
  simp [h]
def SchD (d : D) : Prop := ∃ ts : List Tab, d = .tup (ts.map tabD) ∧ 1 ≤ ts.length ∧ ts.length ≤ 4 ∧ ∀ t ∈ ts, Fine t
theorem m_draw_scheme {n : Nat} {q : QD} (hn : n + 200 ≤ NN) (h : ∀ d n', SchD d → n ≤ n' → n' ≤ n + 200 → q d n') : T__law_draw_scheme [.pen, .int 4, .int 4] n q := by
  have LL : LIM = 1000000 := rfl
  simp only [T__law_draw_scheme, fnD, startE, List.replicate, List.cons_append, List.nil_append, Nat.reduceSub, sFor, wRng1, sSeq, sNil, sIf, sRet, sRetN, tVarD, tCD, tOpD, tOp1D, tCallD, tCallB, aNil, aCons, bVal, bNot, bCmp, bOr, tTupD, sAsg, hide_nil, fTup, fsCons, fsNil, fName, Option.bind_some, List.set_cons_zero, List.set_cons_succ, List.map_cons, List.map_nil, List.length_cons, List.length_nil, List.getElem?_cons_zero, List.getElem?_cons_succ, Nat.zero_add, Nat.reduceAdd, Option.some.injEq, exists_eq_left', true_and, D.bl.injEq, Bool.not_true, Bool.not_false, Bool.false_eq_true, if_false, if_true, lenD_tup, List.length_map, subD_int]
  refine ⟨by omega, take_ok (by decide) (by decide) (by omega) fun r r0 r1 => ?_⟩
  simp only [addD_int, sSeq, sNil, sIf, sRet, sRetN, tVarD, tCD, tOpD, tOp1D, tCallD, tCallB, aNil, aCons, bVal, bNot, bCmp, bOr, tTupD, sAsg, hide_nil, fTup, fsCons, fsNil, fName, Option.bind_some, List.set_cons_zero, List.set_cons_succ, List.map_cons, List.map_nil, List.length_cons, List.length_nil, List.getElem?_cons_zero, List.getElem?_cons_succ, Nat.zero_add, Nat.reduceAdd, Option.some.injEq, exists_eq_left', true_and, D.bl.injEq, Bool.not_true, Bool.not_false, Bool.false_eq_true, if_false, if_true, lenD_tup, List.length_map, subD_int]
  refine ⟨1 + r, rfl, by omega, by omega, ?_⟩
  have lr : (rangeD 0 (1 + r).toNat).length = (1 + r).toNat := by simp [rangeD]
  refine forD_inv (all := rangeD 0 (1 + r).toNat) (fun i ρ n' => ∃ (ts : List Tab) (x4 : Option D), ρ = [some .pen, some (.int 4), some (.int 4), some (.tup (ts.map tabD)), x4] ∧ ts.length = i ∧ (∀ t ∈ ts, Fine t) ∧ n + 1 ≤ n' ∧ n' ≤ n + 1 + 40 * i) ?_ ?_ _ 0 _ _ rfl (Nat.zero_le _) ⟨[], none, rfl, rfl, by simp, by omega, by omega⟩
  · rintro i d hd ρ n' ⟨ts, x4, rfl, hl, hF, n0, n1⟩
    have hi := (List.getElem?_eq_some_iff.mp hd).1
    rw [lr] at hi
    refine ⟨_, rfl, fun De _ _ hnx _ => ?_⟩
    simp only [catT, sSeq, sNil, sIf, sRet, sRetN, tVarD, tCD, tOpD, tOp1D, tCallD, tCallB, aNil, aCons, bVal, bNot, bCmp, bOr, tTupD, sAsg, hide_nil, fTup, fsCons, fsNil, fName, Option.bind_some, List.set_cons_zero, List.set_cons_succ, List.map_cons, List.map_nil, List.length_cons, List.length_nil, List.getElem?_cons_zero, List.getElem?_cons_succ, Nat.zero_add, Nat.reduceAdd, Option.some.injEq, exists_eq_left', true_and, D.bl.injEq, Bool.not_true, Bool.not_false, Bool.false_eq_true, if_false, if_true, lenD_tup, List.length_map, subD_int]
    refine m_draw_table hF (by omega) (by decide) (by omega) fun t n2 hFt h1 h2 => ?_
    refine ⟨by omega, _, add_tup (by rw [List.length_map]; simp; omega), ?_⟩
    have e : ts.map tabD ++ [tabD t] = (ts ++ [t]).map tabD := by simp
    rw [e]
    refine hnx _ _ ⟨ts ++ [t], _, rfl, by simp [hl], fun u hu => ?_, by omega, by rw [Nat.mul_add]; omega⟩
    rcases List.mem_append.mp hu with hu | hu
    · exact hF u hu
    · rw [List.mem_singleton.mp hu]
      exact hFt
  · rintro ρ n' ⟨ts, x4, rfl, hl, hF, n0, n1⟩
    rw [lr] at hl n1
    simp only [hl, sSeq, sNil, sIf, sRet, sRetN, tVarD, tCD, tOpD, tOp1D, tCallD, tCallB, aNil, aCons, bVal, bNot, bCmp, bOr, tTupD, sAsg, hide_nil, fTup, fsCons, fsNil, fName, Option.bind_some, List.set_cons_zero, List.set_cons_succ, List.map_cons, List.map_nil, List.length_cons, List.length_nil, List.getElem?_cons_zero, List.getElem?_cons_succ, Nat.zero_add, Nat.reduceAdd, Option.some.injEq, exists_eq_left', true_and, D.bl.injEq, Bool.not_true, Bool.not_false, Bool.false_eq_true, if_false, if_true, lenD_tup, List.length_map, subD_int]
    exact h _ _ ⟨ts, rfl, by omega, by omega, hF⟩ (by omega) (by omega)
end K01
set_option maxHeartbeats 8000000
namespace DL
open PySem PySem.Spec PyProof.Rows L2
/-- how big: short leaves, so many things, so deep -/
structure VL (w k : Nat) (ds : List D) : Prop where
  lf : PyData.leavesShortAll 80 (toPys ds) = true
  sh : PyData.showableAll (toPys ds) = true
  wt : PyData.weightAll (toPys ds) ≤ w
  dp : PyData.depthAll (toPys ds) ≤ k
structure VD (w k : Nat) (d : D) : Prop where
  lf : (toPy d).leavesShort 80 = true
  sh : (toPy d).showable = true
  wt : (toPy d).weight ≤ w
  dp : (toPy d).depth ≤ k
theorem VL.nil (k : Nat) : VL 0 k [] := ⟨rfl, rfl, Nat.le_refl _, Nat.zero_le _⟩
theorem VL.cons {w w' k : Nat} {d : D} {ds : List D} (h : VD w k d) (hs : VL w' k ds) : VL (w + 1 + w') k (d :: ds) := by
  refine ⟨?_, ?_, ?_, ?_⟩
  · simp only [toPys, PyData.leavesShortAll, h.lf, hs.lf, Bool.and_self]
  · simp only [toPys, PyData.showableAll, h.sh, hs.sh, Bool.and_self]
  · have := h.wt
    have := hs.wt
    simp only [toPys, PyData.weightAll]
    omega
  · have := h.dp
    have := hs.dp
    simp only [toPys, PyData.depthAll]
    omega
theorem VL.head {w k : Nat} {d : D} {ds : List D} (h : VL w k (d :: ds)) : VD w k d ∧ VL (w - (toPy d).weight - 1) k ds ∧ (toPy d).weight + 1 ≤ w := by
  obtain ⟨h1, h2, h3, h4⟩ := h
  simp only [toPys, PyData.leavesShortAll, Bool.and_eq_true] at h1
  simp only [toPys, PyData.showableAll, Bool.and_eq_true] at h2
  simp only [toPys, PyData.weightAll] at h3
  simp only [toPys, PyData.depthAll] at h4
  exact ⟨⟨h1.1, h2.1, by omega, by omega⟩, ⟨h1.2, h2.2, by omega, by omega⟩, by omega⟩
theorem VL.mono {w w' k k' : Nat} {ds : List D} (h : VL w k ds) (h1 : w ≤ w') (h2 : k ≤ k') : VL w' k' ds := ⟨h.lf, h.sh, Nat.le_trans h.wt h1, Nat.le_trans h.dp h2⟩
theorem VD.mono {w w' k k' : Nat} {ds : D} (h : VD w k ds) (h1 : w ≤ w') (h2 : k ≤ k') : VD w' k' ds := ⟨h.lf, h.sh, Nat.le_trans h.wt h1, Nat.le_trans h.dp h2⟩
theorem VL.append {k : Nat} : ∀ {w w' : Nat} {ds es : List D}, VL w k ds → VL w' k es → VL (w + w') k (ds ++ es)
  | w, w', [], es, h, h' => h'.mono (by omega) (Nat.le_refl _)
  | w, w', d :: ds, es, h, h' => by
    obtain ⟨h1, h2, h3⟩ := VL.head h
    have := VL.append h2 h'
    have h4 : VD (toPy d).weight k d := ⟨h1.lf, h1.sh, Nat.le_refl _, h1.dp⟩
    exact (VL.cons h4 this).mono (by omega) (Nat.le_refl _)
theorem VL.of_mem {w k : Nat} : ∀ {ds : List D} {d : D}, VL w k ds → d ∈ ds → VD w k d
  | e :: ds, d, h, hm => by
    obtain ⟨h1, h2, h3⟩ := VL.head h
    rcases List.mem_cons.mp hm with rfl | hm
    · exact h1
    · exact (VL.of_mem h2 hm).mono (by omega) (Nat.le_refl _)
theorem VL.split {w k : Nat} : ∀ {ds es : List D}, VL w k (ds ++ es) → ∃ w1 w2, VL w1 k ds ∧ VL w2 k es ∧ w1 + w2 ≤ w
  | [], es, h => ⟨0, w, VL.nil k, h, by omega⟩
  | d :: ds, es, h => by
    obtain ⟨h1, h2, h3⟩ := VL.head h
    obtain ⟨w1, w2, h4, h5, h6⟩ := VL.split h2
    exact ⟨(toPy d).weight + 1 + w1, w2, VL.cons ⟨h1.lf, h1.sh, Nat.le_refl _, h1.dp⟩ h4, h5, by omega⟩
theorem VL.len {w k : Nat} : ∀ {ds : List D}, VL w k ds → ds.length ≤ w
  | [], _ => Nat.zero_le _
  | d :: ds, h => by
    obtain ⟨h1, h2, h3⟩ := VL.head h
    have := VL.len h2
    simp only [List.length_cons]
    omega
theorem VL.tup {w k : Nat} {ds : List D} (h : VL w k ds) : VD w (k + 1) (.tup ds) :=
  ⟨by simpa only [toPy, PyData.leavesShort] using h.lf, by simpa only [toPy, PyData.showable] using h.sh, by simpa only [toPy, PyData.weight] using h.wt, by
    have := h.dp
    simp only [toPy, PyData.depth]
    omega⟩
theorem VL.lst {w k : Nat} {ds : List D} (h : VL w k ds) : VD w (k + 1) (.lst ds) :=
  ⟨by simpa only [toPy, PyData.leavesShort] using h.lf, by simpa only [toPy, PyData.showable] using h.sh, by simpa only [toPy, PyData.weight] using h.wt, by
    have := h.dp
    simp only [toPy, PyData.depth]
    omega⟩
theorem VD.tup {w k : Nat} {ds : List D} (h : VD w (k + 1) (.tup ds)) : VL w k ds :=
  ⟨by simpa only [toPy, PyData.leavesShort] using h.lf, by simpa only [toPy, PyData.showable] using h.sh, by simpa only [toPy, PyData.weight] using h.wt, by
    have := h.dp
    simp only [toPy, PyData.depth] at this
    omega⟩
theorem log_bits {i : Int} (h : i.natAbs ≤ 10 ^ 20) : (if i == 0 then 0 else i.natAbs.log2 + 1) ≤ 68 ∧ i.natAbs.log2 < 1920 := by
  have h1 : i.natAbs.log2 < 68 := by
    by_cases h0 : i.natAbs = 0
    · rw [h0]
      decide
    · exact (Nat.log2_lt h0).mpr (Nat.lt_of_le_of_lt h (by decide))
  constructor
  · split <;> omega
  · omega
theorem vd_int {i : Int} (h : i.natAbs ≤ 10 ^ 20) (k : Nat) : VD 68 k (.int i) := by
  obtain ⟨h1, h2⟩ := log_bits h
  refine ⟨?_, ?_, ?_, ?_⟩
  · simp only [toPy, PyData.leavesShort]
    refine decide_eq_true ?_
    have e := int_text_length_le10 (a := i) (k := 21) (by decide) (Nat.lt_of_le_of_lt h (by decide))
    show (Str.ofString (toString i)).length ≤ 80
    rw [PySem.ofString_length]
    omega
  · simp only [toPy, PyData.showable]
    exact decide_eq_true h2
  · simp only [toPy, PyData.weight]
    exact h1
  · simp [toPy, PyData.depth]
theorem vd_small {i : Int} (h : i.natAbs ≤ 2 ^ 21) (k : Nat) : VD 22 k (.int i) := by
  have h0 := vd_int (i := i) (Nat.le_trans h (by decide)) k
  refine ⟨h0.lf, h0.sh, ?_, h0.dp⟩
  simp only [toPy, PyData.weight]
  split
  · omega
  · have : i.natAbs.log2 < 22 := by
      by_cases h1 : i.natAbs = 0
      · rw [h1]
        decide
      · exact (Nat.log2_lt h1).mpr (Nat.lt_of_le_of_lt h (by decide))
    omega
theorem vd_non (k : Nat) : VD 0 k .non := ⟨rfl, rfl, by simp [toPy, PyData.weight], by simp [toPy, PyData.depth]⟩
theorem vd_bl (b : Bool) (k : Nat) : VD 0 k (.bl b) := ⟨rfl, rfl, by simp [toPy, PyData.weight], by simp [toPy, PyData.depth]⟩
theorem vd_dct (k : Nat) : VD 0 (k + 1) (.dct []) := ⟨rfl, rfl, by simp [toPy, PyData.weight, PyData.weightKv], by simp [toPy, PyData.depth, PyData.depthKv]⟩
/-- what repr may be asked of -/
theorem repD_ok {w k : Nat} {d : D} (h : VD w k d) (hw : w ≤ 12000) (hk : k ≤ 100) (hn : noD d = true ∨ nlD d = true) : repD d = true := by
  have h1 := PyData.shown_le 80 (by decide) (toPy d) h.lf
  have h2 := h.wt
  have h3 := h.dp
  have LL : LIM = 1000000 := rfl
  unfold repD
  have : (noD d || nlD d) = true := by
    rcases hn with e | e <;> simp [e]
  rw [this, h.sh, decide_eq_true (show (toPy d).depth ≤ 100 by omega), decide_eq_true (show (toPy d).shown.length ≤ LIM by omega)]
  rfl
end DL
set_option maxHeartbeats 8000000
namespace K01
open PySem PySem.Spec PyProof.Rows L2 DL
/-- what is drawn may be handed in: repr may be asked -/
def Any (w k : Nat) (d : D) : Prop := VD w k d ∧ (noD d = true ∨ nlD d = true)
mutual
/-- ints and tuples alone -/
def itD : D → Bool
  | .int i => decide (i.natAbs ≤ 2 ^ 21)
  | .tup ds => itDs ds
  | _ => false
def itDs : List D → Bool
  | [] => true
  | d :: ds => itD d && itDs ds
end
theorem itDs_append : ∀ (a b : List D), itDs (a ++ b) = (itDs a && itDs b)
  | [], b => by simp [itDs]
  | d :: a, b => by simp [itDs, itDs_append a b, Bool.and_assoc]
theorem noDs_append : ∀ (a b : List D), noDs (a ++ b) = (noDs a && noDs b)
  | [], b => by simp [noDs]
  | d :: a, b => by simp [noDs, noDs_append a b, Bool.and_assoc]
theorem nlDs_append : ∀ (a b : List D), nlDs (a ++ b) = (nlDs a && nlDs b)
  | [], b => by simp [nlDs]
  | d :: a, b => by simp [nlDs, nlDs_append a b, Bool.and_assoc]
theorem itDs_mem : ∀ {ds : List D} {d : D}, itDs ds = true → d ∈ ds → itD d = true
  | e :: ds, d, h, hm => by
    simp only [itDs, Bool.and_eq_true] at h
    rcases List.mem_cons.mp hm with rfl | hm
    · exact h.1
    · exact itDs_mem h.2 hm
mutual
theorem it_no : ∀ d, itD d = true → noD d = true ∧ nlD d = true ∧ (toPy d).canLay0 = true
  | .int i, _ => ⟨rfl, rfl, by simp [toPy, PyData.canLay0]⟩
  | .tup ds, h => by
    obtain ⟨h1, h2, h3⟩ := its_no ds (by simpa [itD] using h)
    exact ⟨by simpa [noD] using h1, by simpa [nlD] using h2, by simpa [toPy, PyData.canLay0] using h3⟩
  | .non, h => by simp [itD] at h
  | .bl _, h => by simp [itD] at h
  | .str _, h => by simp [itD] at h
  | .lst _, h => by simp [itD] at h
  | .dct _, h => by simp [itD] at h
  | .pen, h => by simp [itD] at h
  | .scr _, h => by simp [itD] at h
theorem its_no : ∀ ds, itDs ds = true → noDs ds = true ∧ nlDs ds = true ∧ PyData.canLayAll0 (toPys ds) = true
  | [], _ => ⟨rfl, rfl, rfl⟩
  | d :: ds, h => by
    simp only [itDs, Bool.and_eq_true] at h
    obtain ⟨h1, h2, h3⟩ := it_no d h.1
    obtain ⟨h4, h5, h6⟩ := its_no ds h.2
    exact ⟨by simp [noDs, h1, h4], by simp [nlDs, h2, h5], by simp [toPys, PyData.canLayAll0, h3, h6]⟩
end
/-- a list of the odd things -/
def oddL : List D := [.non, .bl true, .bl false, .int 0, .int 1, .int (-1), .int 2, .int 3, .int 4, .int 1000000, .int 1000001, .int 100000000000000000000, .str "", .str "a", .str "b", .str "e", .str "insert", .tup [],
  .tup [.int 0], .tup [.int 0, .int 0], .tup [.int 0, .int 1], .tup [.int 1, .int 0], .lst [.int 0], .tup [.tup [.int 0, .int 1]], .tup [.non, .int 0, .int 1], .tup [.int 0, .non, .int 1], .tup [.str "a", .non, .int 0], .str "delete", .lst [], .dct []]
def vdB (w k : Nat) (d : D) : Bool := (toPy d).leavesShort 80 && (toPy d).showable && decide ((toPy d).weight ≤ w) && decide ((toPy d).depth ≤ k)
theorem odd_any {d : D} (h : d ∈ oddL) : Any 100 3 d := by
  have h1 : oddL.all (fun d => (noD d || nlD d)) = true := by decide
  have h2 : oddL.all (vdB 100 3) = true := by decide +kernel
  rw [List.all_eq_true] at h1 h2
  have h3 := h2 d h
  unfold vdB at h3
  simp only [Bool.and_eq_true, decide_eq_true_eq] at h3
  exact ⟨⟨h3.1.1.1, h3.1.1.2, h3.1.2, h3.2⟩, by simpa using h1 d h⟩
theorem add_lst {xs ys : List D} (h : xs.length + ys.length ≤ LIM) : addD (.lst xs) (.lst ys) = some (.lst (xs ++ ys)) := by
  unfold addD orD arI catT
  simp [catL, h]
theorem m_odd {n : Nat} {q : QD} (hn : n + 1 ≤ NN) (h : ∀ d, Any 100 3 d → q d (n + 1)) : T__law_odd [.pen] n q := by
  have LL : LIM = 1000000 := rfl
  have p6 : powD (.int 10) (.int 6) = some (.int 1000000) := powD_int 10 6 (by decide) (by decide)
  have p20 : powD (.int 10) (.int 20) = some (.int 100000000000000000000) := powD_int 10 20 (by decide) (by decide)
  have ng : negD (.int 1) = some (.int (-1)) := rfl
  simp only [T__law_odd, fnD, startE, List.replicate, List.cons_append, List.nil_append, Nat.reduceSub, tLstD, tNoDict, p6, p20, ng, addD_int, sSeq, sNil, sIf, sRet, sRetN, tVarD, tCD, tOpD, tOp1D, tCallD, tCallB, aNil, aCons, bVal, bNot, bCmp, bOr, tTupD, sAsg, hide_nil, fTup, fsCons, fsNil, fName, Option.bind_some, List.set_cons_zero, List.set_cons_succ, List.map_cons, List.map_nil, List.length_cons, List.length_nil, List.getElem?_cons_zero, List.getElem?_cons_succ, Nat.zero_add, Nat.reduceAdd, Option.some.injEq, exists_eq_left', true_and, D.bl.injEq, Bool.not_true, Bool.not_false, Bool.false_eq_true, if_false, if_true, lenD_tup, List.length_map, subD_int]
  refine ⟨by omega, by omega, by omega, by omega, by omega, by omega, by omega, by omega, by omega, by omega, by omega, by omega, by omega, _, add_lst (by simp; omega), by omega, by omega, _, add_lst (by simp; omega), one_ok (by simp) (by simp) hn fun d hd => h d (odd_any ?_)⟩
  exact hd
theorem cut_back {α : Type} (xs : List α) (k : Nat) : DL.cutL xs (some (k : Int)) none = xs.drop k := by
  unfold DL.cutL
  rw [HT.sIx_nat]
  show (xs.drop (min k xs.length)).take (xs.length - min k xs.length) = _
  by_cases h : k ≤ xs.length
  · rw [Nat.min_eq_left h, List.take_of_length_le (by rw [List.length_drop]; omega)]
  · rw [Nat.min_eq_right (by omega), List.drop_length, List.drop_of_length_le (by omega)]
    simp
theorem cut_lo (ds : List D) (k : Nat) : DL.cutD (.tup ds) none (some ((k : Nat) : Int)) = some (.tup (ds.take k)) := by
  show some (D.tup (DL.cutL ds none (some ((k : Nat) : Int)))) = _
  rw [cut_front]
theorem cut_hi (ds : List D) (k : Nat) : DL.cutD (.tup ds) (some ((k : Nat) : Int)) none = some (.tup (ds.drop k)) := by
  show some (D.tup (DL.cutL ds (some ((k : Nat) : Int)) none)) = _
  rw [cut_back]
/-- a scheme-like thing within: ints and tuples, so big, so deep -/
structure It (w k : Nat) (d : D) : Prop where
  it : itD d = true
  vd : VD w k d
theorem It.any {w k : Nat} {d : D} (h : It w k d) : Any w k d := ⟨h.vd, .inl (it_no d h.it).1⟩
theorem ok_it {w k : Nat} {d : D} (h : It w k d) (hk : k ≤ 64) : okD d = true := by
  unfold okD SeqAt.shaped
  rw [(it_no d h.it).2.2, decide_eq_true (Nat.le_trans h.vd.dp hk)]
  rfl
theorem eq_unit (ds : List D) (h : okD (.tup ds) = true) : eqD (.tup ds) (.tup []) = some (.bl ds.isEmpty) ∧ neD (.tup ds) (.tup []) = some (.bl (!ds.isEmpty)) := by
  have h2 : okD (.tup []) = true := (sh_tup (k := 0) (ds := []) (by simp)).ok (by decide)
  rw [eqD_ok h h2, neD_ok h h2]
  cases ds <;> simp [toPy, toPys, PyData.eqv, PyData.eqvAll]
/-- a part replaced -/
theorem any_put {w k : Nat} {pre post : List D} {d z : D} (hi : itDs (pre ++ d :: post) = true) (hv : VL w k (pre ++ d :: post)) (hz : Any (2 * (toPy d).weight + 1000) k z) : Any (2 * w + 1000) (k + 1) (.tup (pre ++ z :: post)) := by
  obtain ⟨w1, w2, h1, h2, h3⟩ := VL.split hv
  obtain ⟨h4, h5, h6⟩ := VL.head h2
  refine ⟨(VL.append h1 (VL.cons hz.1 h5)).tup.mono (by omega) (Nat.le_refl _), ?_⟩
  rw [itDs_append] at hi
  simp only [itDs, Bool.and_eq_true] at hi
  obtain ⟨a1, a2, _⟩ := its_no pre hi.1
  obtain ⟨b1, b2, _⟩ := its_no post hi.2.2
  rcases hz.2 with e | e
  · left
    simp only [noD, noDs_append, noDs, a1, b1, e, Bool.and_self]
  · right
    simp only [nlD, nlDs_append, nlDs, a2, b2, e, Bool.and_self]
theorem it_any {w w' k k' : Nat} {ds : List D} (hi : itDs ds = true) (hv : VL w k ds) (h1 : w ≤ w') (h2 : k + 1 ≤ k') : Any w' k' (.tup ds) :=
  ⟨hv.tup.mono h1 h2, .inl (by simpa [noD] using (its_no ds hi).1)⟩
theorem mul_tup (ds : List D) (j : Nat) (h0 : 1 ≤ j) (h1 : j ≤ 1000) (h : ds.length ≤ 1000) : mulD (.tup ds) (.int (j : Nat)) = some (.tup (List.replicate j ds).flatten) := by
  have : (1 : Int) ≤ (j : Int) ∧ (j : Int) ≤ 1000 ∧ ds.length ≤ 1000 := ⟨by omega, by omega, h⟩
  unfold mulD orD mulID arC repT
  simp [this]
theorem itDs_rev : ∀ ds : List D, itDs ds.reverse = itDs ds
  | [] => rfl
  | d :: ds => by
    rw [List.reverse_cons, itDs_append, itDs_rev ds]
    simp only [itDs, Bool.and_true]
    exact Bool.and_comm _ _
theorem vl_rev {k : Nat} : ∀ {w : Nat} {ds : List D}, VL w k ds → VL w k ds.reverse
  | w, [], h => h
  | w, d :: ds, h => by
    obtain ⟨h1, h2, h3⟩ := VL.head h
    rw [List.reverse_cons]
    have h4 : VD (toPy d).weight k d := ⟨h1.lf, h1.sh, Nat.le_refl _, h1.dp⟩
    exact (VL.append (vl_rev h2) (VL.cons h4 (VL.nil k))).mono (by omega) (Nat.le_refl _)
theorem split_at {ds : List D} {i : Nat} (h : i < ds.length) : ds = ds.take i ++ ds[i] :: ds.drop (i + 1) := by
  rw [← List.drop_eq_getElem_cons h, List.take_append_drop]
theorem m_bent : ∀ (m k w : Nat) (d : D) (n : Nat) (q : QD), k < m → k ≤ 50 → w ≤ 1000 → It w k d → n + 3 * (k + 1) ≤ NN → (∀ z n', Any (2 * w + 1000) (k + 3) z → n ≤ n' → n' ≤ n + 3 * (k + 1) → q z n') → T__law_bent m [.pen, d] n q
  | 0, k, w, d, n, q, hm, _, _, _, _, _ => absurd hm (Nat.not_lt_zero _)
  | m + 1, k, w, d, n, q, hm, hk, hw, hd, hn, h => by
    have LL : LIM = 1000000 := rfl
    have odd : ∀ n', n ≤ n' → n' + 1 ≤ n + 3 * (k + 1) → T__law_odd [.pen] n' q := fun n' h1 h2 => m_odd (by omega) fun z hz => h z _ ⟨hz.1.mono (by omega) (by omega), hz.2⟩ (by omega) (by omega)
    simp only [T__law_bent, fnD, startE, List.replicate, List.cons_append, List.nil_append, Nat.reduceSub, tIsi, sSeq, sNil, sIf, sRet, sRetN, tVarD, tCD, tOpD, tOp1D, tCallD, tCallB, aNil, aCons, bVal, bNot, bCmp, bOr, tTupD, sAsg, hide_nil, fTup, fsCons, fsNil, fName, Option.bind_some, List.set_cons_zero, List.set_cons_succ, List.map_cons, List.map_nil, List.length_cons, List.length_nil, List.getElem?_cons_zero, List.getElem?_cons_succ, Nat.zero_add, Nat.reduceAdd, Option.some.injEq, exists_eq_left', true_and, D.bl.injEq, Bool.not_true, Bool.not_false, Bool.false_eq_true, if_false, if_true, lenD_tup, List.length_map, subD_int]
    by_cases ht : ∃ ds, d = .tup ds
    · obtain ⟨ds, rfl⟩ := ht
      obtain ⟨k, rfl⟩ : ∃ k', k = k' + 1 := by
        have := hd.vd.dp
        simp only [toPy, PyData.depth] at this
        exact ⟨k - 1, by omega⟩
      have eu := (eq_unit ds (ok_it hd (by omega))).1
      simp only [isTup_tup, eu, sSeq, sNil, sIf, sRet, sRetN, tVarD, tCD, tOpD, tOp1D, tCallD, tCallB, aNil, aCons, bVal, bNot, bCmp, bOr, tTupD, sAsg, hide_nil, fTup, fsCons, fsNil, fName, Option.bind_some, List.set_cons_zero, List.set_cons_succ, List.map_cons, List.map_nil, List.length_cons, List.length_nil, List.getElem?_cons_zero, List.getElem?_cons_succ, Nat.zero_add, Nat.reduceAdd, Option.some.injEq, exists_eq_left', true_and, D.bl.injEq, Bool.not_true, Bool.not_false, Bool.false_eq_true, if_false, if_true, lenD_tup, List.length_map, subD_int]
      refine ⟨by omega, ?_⟩
      cases he : ds.isEmpty with
      | true =>
        simp only [if_true]
        exact odd n (by omega) (by omega)
      | false =>
        simp only [Bool.false_eq_true, if_false]
        refine take_ok (by decide) (by decide) (by omega) fun r r0 r1 => ?_
        simp only [eqD_int, sSeq, sNil, sIf, sRet, sRetN, tVarD, tCD, tOpD, tOp1D, tCallD, tCallB, aNil, aCons, bVal, bNot, bCmp, bOr, tTupD, sAsg, hide_nil, fTup, fsCons, fsNil, fName, Option.bind_some, List.set_cons_zero, List.set_cons_succ, List.map_cons, List.map_nil, List.length_cons, List.length_nil, List.getElem?_cons_zero, List.getElem?_cons_succ, Nat.zero_add, Nat.reduceAdd, Option.some.injEq, exists_eq_left', true_and, D.bl.injEq, Bool.not_true, Bool.not_false, Bool.false_eq_true, if_false, if_true, lenD_tup, List.length_map, subD_int]
        by_cases hr : r = 0
        · simp only [hr, decide_true, if_true]
          exact odd _ (by omega) (by omega)
        · simp only [hr, decide_false, Bool.false_eq_true, if_false]
          have hv := hd.vd.tup
          have hlen := hv.len
          have hpos : 0 < ds.length := by
            cases ds with
            | nil => cases he
            | cons _ _ => simp
          simp only [sPar, sSeq, sNil, sIf, sRet, sRetN, tVarD, tCD, tOpD, tOp1D, tCallD, tCallB, aNil, aCons, bVal, bNot, bCmp, bOr, tTupD, sAsg, hide_nil, fTup, fsCons, fsNil, fName, Option.bind_some, List.set_cons_zero, List.set_cons_succ, List.map_cons, List.map_nil, List.length_cons, List.length_nil, List.getElem?_cons_zero, List.getElem?_cons_succ, Nat.zero_add, Nat.reduceAdd, Option.some.injEq, exists_eq_left', true_and, D.bl.injEq, Bool.not_true, Bool.not_false, Bool.false_eq_true, if_false, if_true, lenD_tup, List.length_map, subD_int]
          refine take_ok (m := ((ds.length : Nat) : Int)) (by omega) (by omega) (by omega) fun i i0 i1 => take_ok (by decide) (by decide) (by omega) fun y y0 y1 => ?_
          refine ⟨_, _, rfl, ?_⟩
          obtain ⟨i, rfl⟩ : ∃ i' : Nat, i = (i' : Int) := ⟨i.toNat, by omega⟩
          have hi : i < ds.length := by omega
          have hx : ixD (.tup ds) (.int (i : Nat)) = some ds[i] := by
            show atI ds _ = _
            rw [at_ix (by omega) (by omega)]
            unfold ix
            rw [Int.toNat_natCast, List.getElem?_eq_getElem hi]
            rfl
          have c1 : ((i : Nat) : Int) + 1 = ((i + 1 : Nat) : Int) := by omega
          simp only [ltD, cmpI, sSeq, sNil, sIf, sRet, sRetN, tVarD, tCD, tOpD, tOp1D, tCallD, tCallB, aNil, aCons, bVal, bNot, bCmp, bOr, tTupD, sAsg, hide_nil, fTup, fsCons, fsNil, fName, Option.bind_some, List.set_cons_zero, List.set_cons_succ, List.map_cons, List.map_nil, List.length_cons, List.length_nil, List.getElem?_cons_zero, List.getElem?_cons_succ, Nat.zero_add, Nat.reduceAdd, Option.some.injEq, exists_eq_left', true_and, D.bl.injEq, Bool.not_true, Bool.not_false, Bool.false_eq_true, if_false, if_true, lenD_tup, List.length_map, subD_int]
          have hsp := split_at hi
          have hits : itDs ds = true := by simpa [itD] using hd.it
          have hmem : ds[i] ∈ ds := List.getElem_mem hi
          have hvd := hv.of_mem hmem
          have h12 : (ds.take i).length + 1 ≤ LIM ∧ ((ds.take i).length + 1) + (ds.drop (i + 1)).length ≤ LIM := by
            simp only [List.length_take, List.length_drop]
            omega
          by_cases hy : y < 8
          · simp only [hy, decide_true, if_true]
            simp only [tSlD, oNone, oSome, D.int.injEq, cut_lo, hx, addD_int, c1, cut_hi, sSeq, sNil, sIf, sRet, sRetN, tVarD, tCD, tOpD, tOp1D, tCallD, tCallB, aNil, aCons, bVal, bNot, bCmp, bOr, tTupD, sAsg, hide_nil, fTup, fsCons, fsNil, fName, Option.bind_some, List.set_cons_zero, List.set_cons_succ, List.map_cons, List.map_nil, List.length_cons, List.length_nil, List.getElem?_cons_zero, List.getElem?_cons_succ, Nat.zero_add, Nat.reduceAdd, Option.some.injEq, exists_eq_left', true_and, D.bl.injEq, Bool.not_true, Bool.not_false, Bool.false_eq_true, if_false, if_true, lenD_tup, List.length_map, subD_int]
            refine m_bent m k (toPy ds[i]).weight ds[i] _ _ (by omega) (by omega) (Nat.le_trans hvd.wt hw) ⟨itDs_mem hits hmem, ⟨hvd.lf, hvd.sh, Nat.le_refl _, hvd.dp⟩⟩ (by omega) fun z n' hz n0 n1 => ?_
            refine ⟨by omega, _, add_tup (by simpa using h12.1), _, add_tup (by simpa using h12.2), ?_⟩
            have ep : ds.take i ++ [z] ++ ds.drop (i + 1) = ds.take i ++ z :: ds.drop (i + 1) := by simp
            rw [ep]
            refine h _ _ (any_put (pre := ds.take i) (post := ds.drop (i + 1)) (d := ds[i]) (k := k + 3) (by rw [← hsp]; exact hits) (by rw [← hsp]; exact hv.mono (Nat.le_refl _) (by omega)) hz) (by omega) (by omega)
          · simp only [hy, decide_false, Bool.false_eq_true, if_false]
            have m2 := mul_tup ds 2 (by decide) (by decide) (by omega)
            have ng : negD (.int 1) = some (.int (-1)) := rfl
            have lD : listD [.tup ds] = some (.lst ds) := rfl
            have e1 : addD (.tup (ds.take i)) (.tup (ds.drop (i + 1))) = some (.tup (ds.take i ++ ds.drop (i + 1))) := add_tup (by omega)
            have e2 : addD (.tup (ds.take i)) (.tup [ds[i]]) = some (.tup (ds.take i ++ [ds[i]])) := add_tup (by simpa using h12.1)
            have e3 : addD (.tup (ds.take i ++ [ds[i]])) (.tup (ds.drop i)) = some (.tup (ds.take i ++ [ds[i]] ++ ds.drop i)) := add_tup (by
              simp only [List.length_append, List.length_take, List.length_drop, List.length_cons, List.length_nil]
              omega)
            simp only [tLstD, tSlD, oNone, oSome, D.int.injEq, cut_lo, hx, addD_int, c1, cut_hi, e1, e2, e3, lD, tRevD, ng, D.tup.injEq, sSeq, sNil, sIf, sRet, sRetN, tVarD, tCD, tOpD, tOp1D, tCallD, tCallB, aNil, aCons, bVal, bNot, bCmp, bOr, tTupD, sAsg, hide_nil, fTup, fsCons, fsNil, fName, Option.bind_some, List.set_cons_zero, List.set_cons_succ, List.map_cons, List.map_nil, List.length_cons, List.length_nil, List.getElem?_cons_zero, List.getElem?_cons_succ, Nat.zero_add, Nat.reduceAdd, Option.some.injEq, exists_eq_left', true_and, D.bl.injEq, Bool.not_true, Bool.not_false, Bool.false_eq_true, if_false, if_true, lenD_tup, List.length_map, subD_int]
            refine ⟨by omega, _, m2, by omega, _, at_ix (by omega) (by simp only [List.length_cons, List.length_nil]; omega), ?_⟩
            have hq : ∀ z, Any (2 * w + 1000) (k + 1 + 3) z → q z (n + 1 + 1 + 1) := fun z hz => h z _ hz (by omega) (by omega)
            have hm := ix_mem (xs := [D.tup (ds.take i ++ ds.drop (i + 1)), .tup (ds.take i ++ [ds[i]] ++ ds.drop i), .lst ds, .tup ds.reverse, .tup (List.replicate 2 ds).flatten]) (i := y - 8) (by omega) (by simp only [List.length_cons, List.length_nil]; omega)
            have it2 := hits
            rw [hsp, itDs_append] at it2
            simp only [itDs, Bool.and_eq_true] at it2
            have v2 := hv
            rw [hsp] at v2
            obtain ⟨w1, w2, v3, v4, v5⟩ := VL.split v2
            obtain ⟨v6, v7, v8⟩ := VL.head v4
            have dr : itDs (ds.drop i) = true ∧ VL w k (ds.drop i) := by
              rw [List.drop_eq_getElem_cons hi]
              exact ⟨by simp only [itDs, it2.2.1, it2.2.2, Bool.and_self], v4.mono (by omega) (Nat.le_refl _)⟩
            generalize ix [D.tup (ds.take i ++ ds.drop (i + 1)), .tup (ds.take i ++ [ds[i]] ++ ds.drop i), .lst ds, .tup ds.reverse, .tup (List.replicate 2 ds).flatten] (y - 8) = z at hm
            simp only [List.mem_cons, List.not_mem_nil, or_false] at hm
            rcases hm with rfl | rfl | rfl | rfl | rfl
            · exact hq _ (it_any (by rw [itDs_append, it2.1, it2.2.2]; rfl) (VL.append v3 v7) (by omega) (by omega))
            · refine hq _ (it_any (by rw [itDs_append, itDs_append, it2.1, dr.1]; simp only [itDs, it2.2.1, Bool.and_self]) (VL.append (VL.append v3 (VL.cons v6 (VL.nil k))) dr.2) ?_ (by omega))
              omega
            · exact hq _ ⟨hv.lst.mono (by omega) (by omega), .inl (by simpa [noD] using (its_no ds hits).1)⟩
            · exact hq _ (it_any (by rw [itDs_rev]; exact hits) (vl_rev hv) (by omega) (by omega))
            · have e : (List.replicate 2 ds).flatten = ds ++ ds := by simp
              rw [e]
              exact hq _ (it_any (by rw [itDs_append, hits]; rfl) (VL.append hv hv) (by omega) (by omega))
    · simp only [isTup_no fun ds e => ht ⟨ds, e⟩, Bool.not_false, if_true]
      exact odd n (by omega) (by omega)
theorem m_off : ∀ (m k w : Nat) (d : D) (n : Nat) (q : QD), k < m → k ≤ 50 → w ≤ 1000 → It w k d → n + 2 * (k + 1) ≤ NN → (∀ z n', Any (2 * w + 1000) k z → n ≤ n' → n' ≤ n + 2 * (k + 1) → q z n') → T__law_off m [.pen, d] n q
  | 0, k, w, d, n, q, hm, _, _, _, _, _ => absurd hm (Nat.not_lt_zero _)
  | m + 1, k, w, d, n, q, hm, hk, hw, hd, hn, h => by
    have LL : LIM = 1000000 := rfl
    have self : q d n := h d n ⟨hd.vd.mono (by omega) (Nat.le_refl _), hd.any.2⟩ (by omega) (by omega)
    simp only [T__law_off, fnD, startE, List.replicate, List.cons_append, List.nil_append, Nat.reduceSub, tIsi, bAnd, tIfD, sSeq, sNil, sIf, sRet, sRetN, tVarD, tCD, tOpD, tOp1D, tCallD, tCallB, aNil, aCons, bVal, bNot, bCmp, bOr, tTupD, sAsg, hide_nil, fTup, fsCons, fsNil, fName, Option.bind_some, List.set_cons_zero, List.set_cons_succ, List.map_cons, List.map_nil, List.length_cons, List.length_nil, List.getElem?_cons_zero, List.getElem?_cons_succ, Nat.zero_add, Nat.reduceAdd, Option.some.injEq, exists_eq_left', true_and, D.bl.injEq, Bool.not_true, Bool.not_false, Bool.false_eq_true, if_false, if_true, lenD_tup, List.length_map, subD_int]
    by_cases ht : ∃ ds, d = .tup ds
    · obtain ⟨ds, rfl⟩ := ht
      obtain ⟨k, rfl⟩ : ∃ k', k = k' + 1 := by
        have := hd.vd.dp
        simp only [toPy, PyData.depth] at this
        exact ⟨k - 1, by omega⟩
      have eu := (eq_unit ds (ok_it hd (by omega))).2
      have ti : isTy "int" (.tup ds) = false := rfl
      simp only [isTup_tup, eu, ti, sSeq, sNil, sIf, sRet, sRetN, tVarD, tCD, tOpD, tOp1D, tCallD, tCallB, aNil, aCons, bVal, bNot, bCmp, bOr, tTupD, sAsg, hide_nil, fTup, fsCons, fsNil, fName, Option.bind_some, List.set_cons_zero, List.set_cons_succ, List.map_cons, List.map_nil, List.length_cons, List.length_nil, List.getElem?_cons_zero, List.getElem?_cons_succ, Nat.zero_add, Nat.reduceAdd, Option.some.injEq, exists_eq_left', true_and, D.bl.injEq, Bool.not_true, Bool.not_false, Bool.false_eq_true, if_false, if_true, lenD_tup, List.length_map, subD_int]
      refine ⟨by omega, ?_⟩
      cases he : ds.isEmpty with
      | true =>
        simp only [Bool.not_true, Bool.false_eq_true, if_false]
        exact self
      | false =>
        simp only [Bool.not_false, if_true]
        have hv := hd.vd.tup
        have hlen := hv.len
        have hpos : 0 < ds.length := by
          cases ds with
          | nil => cases he
          | cons _ _ => simp
        refine take_ok (m := ((ds.length : Nat) : Int)) (by omega) (by omega) (by omega) fun i i0 i1 => ?_
        obtain ⟨i, rfl⟩ : ∃ i' : Nat, i = (i' : Int) := ⟨i.toNat, by omega⟩
        have hi : i < ds.length := by omega
        have hx : ixD (.tup ds) (.int (i : Nat)) = some ds[i] := by
          show atI ds _ = _
          rw [at_ix (by omega) (by omega)]
          unfold ix
          rw [Int.toNat_natCast, List.getElem?_eq_getElem hi]
          rfl
        have c1 : ((i : Nat) : Int) + 1 = ((i + 1 : Nat) : Int) := by omega
        have hsp := split_at hi
        have hits : itDs ds = true := by simpa [itD] using hd.it
        have hmem : ds[i] ∈ ds := List.getElem_mem hi
        have hvd := hv.of_mem hmem
        have h12 : (ds.take i).length + 1 ≤ LIM ∧ ((ds.take i).length + 1) + (ds.drop (i + 1)).length ≤ LIM := by
          simp only [List.length_take, List.length_drop]
          omega
        simp only [tSlD, oNone, oSome, D.int.injEq, cut_lo, hx, addD_int, c1, cut_hi, sSeq, sNil, sIf, sRet, sRetN, tVarD, tCD, tOpD, tOp1D, tCallD, tCallB, aNil, aCons, bVal, bNot, bCmp, bOr, tTupD, sAsg, hide_nil, fTup, fsCons, fsNil, fName, Option.bind_some, List.set_cons_zero, List.set_cons_succ, List.map_cons, List.map_nil, List.length_cons, List.length_nil, List.getElem?_cons_zero, List.getElem?_cons_succ, Nat.zero_add, Nat.reduceAdd, Option.some.injEq, exists_eq_left', true_and, D.bl.injEq, Bool.not_true, Bool.not_false, Bool.false_eq_true, if_false, if_true, lenD_tup, List.length_map, subD_int]
        refine m_off m k (toPy ds[i]).weight ds[i] _ _ (by omega) (by omega) (Nat.le_trans hvd.wt hw) ⟨itDs_mem hits hmem, ⟨hvd.lf, hvd.sh, Nat.le_refl _, hvd.dp⟩⟩ (by omega) fun z n' hz n0 n1 => ?_
        refine ⟨by omega, _, add_tup (by simpa using h12.1), _, add_tup (by simpa using h12.2), ?_⟩
        have ep : ds.take i ++ [z] ++ ds.drop (i + 1) = ds.take i ++ z :: ds.drop (i + 1) := by simp
        rw [ep]
        exact h _ _ (any_put (pre := ds.take i) (post := ds.drop (i + 1)) (d := ds[i]) (k := k) (by rw [← hsp]; exact hits) (by rw [← hsp]; exact hv) hz) (by omega) (by omega)
    · simp only [isTup_no fun ds e => ht ⟨ds, e⟩, Bool.false_eq_true, if_false]
      by_cases hint : ∃ i, d = .int i
      · obtain ⟨i, rfl⟩ := hint
        have hb : i.natAbs ≤ 2 ^ 21 := by simpa [itD] using hd.it
        have ti : isTy "int" (.int i) = true := rfl
        have ng : negD (.int 1) = some (.int (-1)) := rfl
        simp only [ti, if_true]
        simp only [tLstD, ng, sSeq, sNil, sIf, sRet, sRetN, tVarD, tCD, tOpD, tOp1D, tCallD, tCallB, aNil, aCons, bVal, bNot, bCmp, bOr, tTupD, sAsg, hide_nil, fTup, fsCons, fsNil, fName, Option.bind_some, List.set_cons_zero, List.set_cons_succ, List.map_cons, List.map_nil, List.length_cons, List.length_nil, List.getElem?_cons_zero, List.getElem?_cons_succ, Nat.zero_add, Nat.reduceAdd, Option.some.injEq, exists_eq_left', true_and, D.bl.injEq, Bool.not_true, Bool.not_false, Bool.false_eq_true, if_false, if_true, lenD_tup, List.length_map, subD_int]
        refine ⟨by omega, one_ok (by simp) (by simp) (by omega) fun e he => ?_⟩
        have : ∃ s : Int, e = .int s ∧ (s = 1 ∨ s = -1) := by
          simp only [List.mem_cons, List.not_mem_nil, or_false] at he
          rcases he with rfl | rfl
          · exact ⟨_, rfl, .inl rfl⟩
          · exact ⟨_, rfl, .inr rfl⟩
        obtain ⟨s, rfl, hs⟩ := this
        refine ⟨_, addD_int _ _, h _ _ ⟨(vd_int (by omega) k).mono (by omega) (Nat.le_refl _), .inl rfl⟩ (by omega) (by omega)⟩
      · have : itD d = false := by
          cases d <;> simp [itD]
          · exact absurd ⟨_, rfl⟩ hint
          · exact absurd ⟨_, rfl⟩ ht
        rw [hd.it] at this
        cases this
end K01
set_option maxHeartbeats 8000000
namespace K01
open PySem PySem.Spec PyProof.Rows L2 DL
theorem vd_tiny {i : Int} (h : i.natAbs < 16) (k : Nat) : VD 4 k (.int i) := by
  have h0 := vd_int (i := i) (Nat.le_trans (Nat.le_of_lt h) (by decide)) k
  refine ⟨h0.lf, h0.sh, ?_, h0.dp⟩
  simp only [toPy, PyData.weight]
  split
  · omega
  · have : i.natAbs.log2 < 4 := by
      by_cases h1 : i.natAbs = 0
      · rw [h1]
        decide
      · exact (Nat.log2_lt h1).mpr h
    omega
theorem vl_map {α : Type} {g : α → D} {w k : Nat} : ∀ {as : List α}, (∀ a ∈ as, VD w k (g a)) → VL ((w + 1) * as.length) k (as.map g)
  | [], _ => VL.nil k
  | a :: as, h => (VL.cons (h a List.mem_cons_self) (vl_map (as := as) fun b hb => h b (List.mem_cons_of_mem _ hb))).mono (by rw [List.length_cons, Nat.mul_add]; omega) (Nat.le_refl _)
theorem itDs_map {α : Type} {g : α → D} : ∀ {as : List α}, (∀ a ∈ as, itD (g a) = true) → itDs (as.map g) = true
  | [], _ => rfl
  | a :: as, h => by simp only [List.map_cons, itDs, h a List.mem_cons_self, itDs_map (as := as) fun b hb => h b (List.mem_cons_of_mem _ hb), Bool.and_self]
theorem it_int {i : Int} (h : i.natAbs ≤ 2 ^ 21) : itD (.int i) = true := decide_eq_true h
theorem it_col {c : Int × Int} (h : -1000000 ≤ c.1 ∧ c.1 ≤ c.2 ∧ c.2 ≤ 1000013) : It 46 1 (colD c) := by
  have a1 : c.1.natAbs ≤ 2 ^ 21 := by omega
  have a2 : c.2.natAbs ≤ 2 ^ 21 := by omega
  exact ⟨by simp only [colD, itD, itDs, decide_eq_true a1, decide_eq_true a2, Bool.and_self], (VL.cons (vd_small a1 0) (VL.cons (vd_small a2 0) (VL.nil 0))).tup.mono (by omega) (by omega)⟩
theorem it_ints {ns : List Int} {L : Nat} (hl : ns.length ≤ L) (h : ∀ i ∈ ns, 0 ≤ i ∧ i < 16) : It (5 * L) 1 (.tup (ns.map D.int)) := by
  refine ⟨?_, ?_⟩
  · simp only [itD]
    exact itDs_map fun i hi => it_int (by have := h i hi; omega)
  · exact (vl_map (w := 4) (k := 0) fun i hi => vd_tiny (by have := h i hi; omega) 0).tup.mono (Nat.mul_le_mul_left 5 hl) (by omega)
theorem It.mono {w w' k k' : Nat} {d : D} (h : It w k d) (h1 : w ≤ w') (h2 : k ≤ k') : It w' k' d := ⟨h.it, h.vd.mono h1 h2⟩
theorem it_tup2 {w w' k : Nat} {a b : D} (h : It w k a) (h' : It w' k b) : It (w + w' + 2) (k + 1) (.tup [a, b]) :=
  ⟨by simp only [itD, itDs, h.it, h'.it, Bool.and_self], (VL.cons h.vd (VL.cons h'.vd (VL.nil k))).tup.mono (by omega) (Nat.le_refl _)⟩
theorem it_tup3 {w w' w'' k : Nat} {a b c : D} (h : It w k a) (h' : It w' k b) (h'' : It w'' k c) : It (w + w' + w'' + 3) (k + 1) (.tup [a, b, c]) :=
  ⟨by simp only [itD, itDs, h.it, h'.it, h''.it, Bool.and_self], (VL.cons h.vd (VL.cons h'.vd (VL.cons h''.vd (VL.nil k)))).tup.mono (by omega) (Nat.le_refl _)⟩
theorem it_map {α : Type} {g : α → D} {w k L : Nat} {as : List α} (hl : as.length ≤ L) (h : ∀ a ∈ as, It w k (g a)) : It ((w + 1) * L) (k + 1) (.tup (as.map g)) :=
  ⟨by simp only [itD]; exact itDs_map fun a ha => (h a ha).it, (vl_map fun a ha => (h a ha).vd).tup.mono (Nat.mul_le_mul_left _ hl) (Nat.le_refl _)⟩
theorem it_tab {t : Tab} (h : Fine t) : It 235 4 (tabD t) := by
  have h1 : It 188 2 (.tup (t.cols.map colD)) := it_map (L := 4) (w := 46) (k := 1) h.ok.len.2 fun c hc => it_col ⟨(h.cb c hc).1, h.ok.low c hc, (h.cb c hc).2⟩
  have hl := h.ok.len
  have h2 : It 10 1 (.tup (t.key.map D.int)) := it_ints (L := 2) h.ok.keyLen.2 fun i hi => by
    have := h.ok.keyIn i hi
    omega
  have h3 : It 34 3 (.tup (t.refs.map refD)) := it_map (L := 2) (w := 16) (k := 2) h.rl fun r hr => by
    obtain ⟨q1, q2, q3, q4⟩ := h.rb r hr
    have a : It 10 1 (.tup (r.1.map D.int)) := it_ints (L := 2) q1 fun i hi => by
      have := q2 i hi
      omega
    have b : It 4 1 (.int r.2) := ⟨it_int (by omega), vd_tiny (by omega) 1⟩
    exact (it_tup2 a b).mono (by omega) (by omega)
  exact (it_tup3 (h1.mono (Nat.le_refl _) (by omega)) (h2.mono (Nat.le_refl _) (by omega)) h3).mono (by omega) (by omega)
theorem it_sch {d : D} (h : SchD d) : It 944 5 d := by
  obtain ⟨ts, rfl, h1, h2, h3⟩ := h
  exact it_map (L := 4) (w := 235) (k := 4) h2 fun t ht => it_tab (h3 t ht)
theorem it_append {w w' k : Nat} {a b : List D} (h : It w (k + 1) (.tup a)) (h' : It w' (k + 1) (.tup b)) : It (w + w') (k + 1) (.tup (a ++ b)) := by
  have i1 : itDs a = true := by simpa [itD] using h.it
  have i2 : itDs b = true := by simpa [itD] using h'.it
  exact ⟨by simp only [itD, itDs_append, i1, i2, Bool.and_self], (VL.append h.vd.tup h'.vd.tup).tup⟩
theorem it_rev {w k : Nat} {a : List D} (h : It w (k + 1) (.tup a)) : It w (k + 1) (.tup a.reverse) := by
  have i1 : itDs a = true := by simpa [itD] using h.it
  exact ⟨by simp only [itD, itDs_rev, i1], (vl_rev h.vd.tup).tup⟩
theorem it_unit (k : Nat) : It 0 (k + 1) (.tup []) := ⟨rfl, (VL.nil k).tup⟩
theorem it_rep {w k : Nat} {a : List D} (h : It w (k + 1) (.tup a)) : ∀ j : Nat, It (w * j) (k + 1) (.tup (List.replicate j a).flatten)
  | 0 => it_unit k
  | j + 1 => by
    rw [List.replicate_succ, List.flatten_cons]
    exact (it_append h (it_rep h j)).mono (by rw [Nat.mul_add]; omega) (Nat.le_refl _)
theorem it_one {w k : Nat} {a : D} (h : It w k a) : It (w + 1) (k + 1) (.tup [a]) :=
  ⟨by simp only [itD, itDs, h.it, Bool.and_self], (VL.cons h.vd (VL.nil k)).tup.mono (by omega) (Nat.le_refl _)⟩
theorem it_tiny {i : Int} (h0 : 0 ≤ i) (h1 : i < 16) (k : Nat) : It 4 k (.int i) := ⟨it_int (by omega), vd_tiny (by omega) k⟩
theorem it_range (m : Nat) (h : m ≤ 10) : It 50 1 (.tup (rangeD 0 m)) := by
  have e : rangeD 0 m = ((List.range m).map fun (k : Nat) => (0 : Int) + (k : Int)).map D.int := by
    unfold rangeD
    rw [List.map_map]
    rfl
  rw [e]
  exact it_ints (L := 10) (by simpa using h) fun i hi => by
    obtain ⟨k, hk, rfl⟩ := List.mem_map.mp hi
    have := List.mem_range.mp hk
    omega
/-- a part put in the place of one -/
theorem any_put2 {w w' k : Nat} {pre post : List D} {d z : D} (hi : itDs (pre ++ d :: post) = true) (hv : VL w k (pre ++ d :: post)) (hz : Any w' k z) : Any (w + w') (k + 1) (.tup (pre ++ z :: post)) := by
  obtain ⟨w1, w2, h1, h2, h3⟩ := VL.split hv
  obtain ⟨h4, h5, h6⟩ := VL.head h2
  refine ⟨(VL.append h1 (VL.cons hz.1 h5)).tup.mono (by omega) (Nat.le_refl _), ?_⟩
  rw [itDs_append] at hi
  simp only [itDs, Bool.and_eq_true] at hi
  obtain ⟨a1, a2, _⟩ := its_no pre hi.1
  obtain ⟨b1, b2, _⟩ := its_no post hi.2.2
  rcases hz.2 with e | e
  · left
    simp only [noD, noDs_append, noDs, a1, b1, e, Bool.and_self]
  · right
    simp only [nlD, nlDs_append, nlDs, a2, b2, e, Bool.and_self]
theorem any_table {w w' w'' k : Nat} {a b c : D} (h : It w k a) (h' : It w' k b) (h'' : Any w'' k c) : Any (w + w' + w'' + 3) (k + 1) (.tup [a, b, c]) := by
  refine ⟨(VL.cons h.vd (VL.cons h'.vd (VL.cons h''.1 (VL.nil k)))).tup.mono (by omega) (Nat.le_refl _), ?_⟩
  obtain ⟨a1, a2, _⟩ := it_no a h.it
  obtain ⟨b1, b2, _⟩ := it_no b h'.it
  rcases h''.2 with e | e
  · left
    simp only [noD, noDs, a1, b1, e, Bool.and_self]
  · right
    simp only [nlD, nlDs, a2, b2, e, Bool.and_self]
theorem m_near {ts : List Tab} (h1 : 1 ≤ ts.length ∧ ts.length ≤ 4) (hF : ∀ t ∈ ts, Fine t) {n : Nat} {q : QD} (hn : n + 6 ≤ NN) (h : ∀ z n', Any 5000 20 z → n ≤ n' → n' ≤ n + 6 → q z n') : T__law_near [.pen, .tup (ts.map tabD)] n q := by
  have LL : LIM = 1000000 := rfl
  simp only [T__law_near, fnD, startE, List.replicate, List.cons_append, List.nil_append, Nat.reduceSub, sSeq, sNil, sIf, sRet, sRetN, tVarD, tCD, tOpD, tOp1D, tCallD, tCallB, aNil, aCons, bVal, bNot, bCmp, bOr, tTupD, sAsg, hide_nil, fTup, fsCons, fsNil, fName, Option.bind_some, List.set_cons_zero, List.set_cons_succ, List.map_cons, List.map_nil, List.length_cons, List.length_nil, List.getElem?_cons_zero, List.getElem?_cons_succ, Nat.zero_add, Nat.reduceAdd, Option.some.injEq, exists_eq_left', true_and, D.bl.injEq, Bool.not_true, Bool.not_false, Bool.false_eq_true, if_false, if_true, lenD_tup, List.length_map, subD_int]
  refine take_ok (m := ((ts.length : Nat) : Int)) (by omega) (by omega) (by omega) fun k k0 k1 => ?_
  have fine := hF _ (ix_mem k0 k1)
  simp only [tab_at k0 k1, sSeq, sNil, sIf, sRet, sRetN, tVarD, tCD, tOpD, tOp1D, tCallD, tCallB, aNil, aCons, bVal, bNot, bCmp, bOr, tTupD, sAsg, hide_nil, fTup, fsCons, fsNil, fName, Option.bind_some, List.set_cons_zero, List.set_cons_succ, List.map_cons, List.map_nil, List.length_cons, List.length_nil, List.getElem?_cons_zero, List.getElem?_cons_succ, Nat.zero_add, Nat.reduceAdd, Option.some.injEq, exists_eq_left', true_and, D.bl.injEq, Bool.not_true, Bool.not_false, Bool.false_eq_true, if_false, if_true, lenD_tup, List.length_map, subD_int]
  simp only [tabD, sPar, addD_int, sSeq, sNil, sIf, sRet, sRetN, tVarD, tCD, tOpD, tOp1D, tCallD, tCallB, aNil, aCons, bVal, bNot, bCmp, bOr, tTupD, sAsg, hide_nil, fTup, fsCons, fsNil, fName, Option.bind_some, List.set_cons_zero, List.set_cons_succ, List.map_cons, List.map_nil, List.length_cons, List.length_nil, List.getElem?_cons_zero, List.getElem?_cons_succ, Nat.zero_add, Nat.reduceAdd, Option.some.injEq, exists_eq_left', true_and, D.bl.injEq, Bool.not_true, Bool.not_false, Bool.false_eq_true, if_false, if_true, lenD_tup, List.length_map, subD_int]
  have hlen := fine.ok.len
  refine take_ok (by omega) (by omega) (by omega) fun j j0 j1 => take_ok (m := (((ix ts k).cols.length : Nat) : Int)) (by omega) (by omega) (by omega) fun c c0 c1 => ?_
  refine ⟨_, _, rfl, ?_⟩
  have ng : negD (.int 1) = some (.int (-1)) := rfl
  have hkl := fine.ok.keyLen
  have hrl := fine.rl
  generalize hK : (ix ts k).key.map D.int = K
  generalize hR : (ix ts k).refs.map refD = R
  generalize hB : (ix ts k).cols.map colD = B
  have lK : 1 ≤ K.length ∧ K.length ≤ 2 := by rw [← hK]; simpa using hkl
  have lR : R.length ≤ 2 := by rw [← hR]; simpa using hrl
  have lB : 1 ≤ B.length ∧ B.length ≤ 4 := by rw [← hB]; simpa using hlen
  have lB2 : (ix ts k).cols.length = B.length := by rw [← hB]; simp
  have a1 : ∀ d, addD (.tup R) (.tup [d]) = some (.tup (R ++ [d])) := fun d => add_tup (by simp; omega)
  have a2 : ∀ d, addD (.tup K) (.tup [d]) = some (.tup (K ++ [d])) := fun d => add_tup (by simp; omega)
  have m1 := mul_tup R 3 (by decide) (by decide) (by omega)
  have m2 := mul_tup B 2 (by decide) (by decide) (by omega)
  have m3 := mul_tup K 2 (by decide) (by decide) (by omega)
  have m1' : mulD (.tup R) (.int 3) = some (.tup (List.replicate 3 R).flatten) := m1
  have m2' : mulD (.tup B) (.int 2) = some (.tup (List.replicate 2 B).flatten) := m2
  have m3' : mulD (.tup K) (.int 2) = some (.tup (List.replicate 2 K).flatten) := m3
  simp only [sOwn, lLstD, a1, m1', tRevD, ng, D.tup.injEq, sSeq, sNil, sIf, sRet, sRetN, tVarD, tCD, tOpD, tOp1D, tCallD, tCallB, aNil, aCons, bVal, bNot, bCmp, bOr, tTupD, sAsg, hide_nil, fTup, fsCons, fsNil, fName, Option.bind_some, List.set_cons_zero, List.set_cons_succ, List.map_cons, List.map_nil, List.length_cons, List.length_nil, List.getElem?_cons_zero, List.getElem?_cons_succ, Nat.zero_add, Nat.reduceAdd, Option.some.injEq, exists_eq_left', true_and, D.bl.injEq, Bool.not_true, Bool.not_false, Bool.false_eq_true, if_false, if_true, lenD_tup, List.length_map, subD_int]
  refine ⟨by omega, by omega, by omega, by omega, by omega, by omega, by omega, by omega, by omega, by omega, by decide, ?_⟩
  simp only [ldAdd, tLstD, tRevD, ng, D.tup.injEq, D.lst.injEq, sSeq, sNil, sIf, sRet, sRetN, tVarD, tCD, tOpD, tOp1D, tCallD, tCallB, aNil, aCons, bVal, bNot, bCmp, bOr, tTupD, sAsg, hide_nil, fTup, fsCons, fsNil, fName, Option.bind_some, List.set_cons_zero, List.set_cons_succ, List.map_cons, List.map_nil, List.length_cons, List.length_nil, List.getElem?_cons_zero, List.getElem?_cons_succ, Nat.zero_add, Nat.reduceAdd, Option.some.injEq, exists_eq_left', true_and, D.bl.injEq, Bool.not_true, Bool.not_false, Bool.false_eq_true, if_false, if_true, lenD_tup, List.length_map, subD_int]
  refine ⟨by omega, by omega, by omega, by omega, by omega, by omega, by omega, by omega, by omega, by omega, by omega, by omega, by omega, _, _, rfl, rfl, by simp; omega, by decide, ?_⟩
  have iB : It 188 10 (.tup B) := by
    rw [← hB]
    exact (it_map (L := 4) (w := 46) (k := 1) fine.ok.len.2 fun c hc => it_col ⟨(fine.cb c hc).1, fine.ok.low c hc, (fine.cb c hc).2⟩).mono (Nat.le_refl _) (by omega)
  have iK : It 10 10 (.tup K) := by
    rw [← hK]
    exact (it_ints (L := 2) fine.ok.keyLen.2 fun i hi => by
      have := fine.ok.keyIn i hi
      omega).mono (Nat.le_refl _) (by omega)
  have iR : It 34 10 (.tup R) := by
    rw [← hR]
    exact (it_map (L := 2) (w := 16) (k := 2) fine.rl fun r hr => by
      obtain ⟨q1, q2, q3, q4⟩ := fine.rb r hr
      have a : It 10 1 (.tup (r.1.map D.int)) := it_ints (L := 2) q1 fun i hi => by
        have := q2 i hi
        omega
      have b : It 4 1 (.int r.2) := ⟨it_int (by omega), vd_tiny (by omega) 1⟩
      exact (it_tup2 a b).mono (by omega) (by omega)).mono (Nat.le_refl _) (by omega)
  have ij : ∀ k, It 4 k (.int j) := fun k => it_tiny j0 (by omega) k
  have ic : ∀ k, It 4 k (.int c) := fun k => it_tiny c0 (by omega) k
  have up : ∀ {w w' k k' : Nat} {d : D}, It w k d → w ≤ w' → k ≤ k' → Any w' k' d := fun h h1 h2 => (It.mono h h1 h2).any
  have kj := it_tup2 iK (ij 10)
  have hS : ∀ x ∈ [D.tup (R ++ [.tup [.tup K, .int j]]), .tup [.tup [.tup K, .int j]], .tup [.tup [.tup K.reverse, .int j]], .tup (List.replicate 3 R).flatten, .tup [.tup [.tup [.int c], .int j]]] ++
    [D.tup [.tup [.tup [.int c, .int c], .int j]], .tup [.tup [.tup [], .int j]], .tup [.tup [.lst [.int c], .int j]], .tup [.tup [.tup [.int c], .non]], .tup R.reverse], Any 1000 15 x := by
    intro x hx
    simp only [List.cons_append, List.nil_append, List.mem_cons, List.not_mem_nil, or_false] at hx
    have iR' : It 34 13 (.tup R) := iR.mono (Nat.le_refl _) (by omega)
    rcases hx with rfl | rfl | rfl | rfl | rfl | rfl | rfl | rfl | rfl | rfl
    · exact up (it_append (k := 12) iR' ((it_one kj).mono (Nat.le_refl _) (by omega))) (by omega) (by omega)
    · exact up (it_one kj) (by omega) (by omega)
    · exact up (it_one (it_tup2 (it_rev (k := 9) iK) (ij 10))) (by omega) (by omega)
    · exact up (it_rep (k := 9) iR 3) (by omega) (by omega)
    · exact up (it_one (it_tup2 (it_one (ic 1)) (ij 2))) (by omega) (by omega)
    · exact up (it_one (it_tup2 (it_tup2 (ic 1) (ic 1)) (ij 2))) (by omega) (by omega)
    · exact up (it_one (it_tup2 (it_unit 1) (ij 2))) (by omega) (by omega)
    · exact ⟨(VL.cons (VL.cons (VL.cons (ic 1).vd (VL.nil 1)).lst (VL.cons (ij 2).vd (VL.nil 2))).tup (VL.nil 3)).tup.mono (by omega) (by omega), .inl rfl⟩
    · exact ⟨(VL.cons (VL.cons (VL.cons (ic 1).vd (VL.nil 1)).tup (VL.cons (vd_non 2) (VL.nil 2))).tup (VL.nil 3)).tup.mono (by omega) (by omega), .inl rfl⟩
    · exact up (it_rev (k := 9) iR) (by omega) (by omega)
  generalize hSl : ([D.tup (R ++ [.tup [.tup K, .int j]]), .tup [.tup [.tup K, .int j]], .tup [.tup [.tup K.reverse, .int j]], .tup (List.replicate 3 R).flatten, .tup [.tup [.tup [.int c], .int j]]] ++
    [D.tup [.tup [.tup [.int c, .int c], .int j]], .tup [.tup [.tup [], .int j]], .tup [.tup [.lst [.int c], .int j]], .tup [.tup [.tup [.int c], .non]], .tup R.reverse]) = S
  rw [hSl] at hS
  have lS : S.length = 10 := by rw [← hSl]; rfl
  have hh : ∀ a0 a1 a2 a3 a4 a5 a6 a7 a8 a9 a10 a11 : Option D, hide [8] [a0, a1, a2, a3, a4, a5, a6, a7, a8, a9, a10, a11] = [a0, a1, a2, a3, a4, a5, a6, a7, none, a9, a10, a11] := fun a0 a1 a2 a3 a4 a5 a6 a7 a8 a9 a10 a11 => by simp [hide, hideFrom]
  simp only [sApp, hh, tTuple_range1, sSeq, sNil, sIf, sRet, sRetN, tVarD, tCD, tOpD, tOp1D, tCallD, tCallB, aNil, aCons, bVal, bNot, bCmp, bOr, tTupD, sAsg, hide_nil, fTup, fsCons, fsNil, fName, Option.bind_some, List.set_cons_zero, List.set_cons_succ, List.map_cons, List.map_nil, List.length_cons, List.length_nil, List.getElem?_cons_zero, List.getElem?_cons_succ, Nat.zero_add, Nat.reduceAdd, Option.some.injEq, exists_eq_left', true_and, D.bl.injEq, Bool.not_true, Bool.not_false, Bool.false_eq_true, if_false, if_true, lenD_tup, List.length_map, subD_int]
  refine ⟨(B.length : Nat), rfl, by omega, by omega, by omega, by omega, S, rfl, by omega, ?_⟩
  have iG : It 50 1 (.tup (rangeD 0 ((B.length : Nat) : Int).toNat)) := it_range _ (by omega)
  have hS2 : ∀ x ∈ S ++ [D.tup [.tup [.tup (rangeD 0 ((B.length : Nat) : Int).toNat), .int j]]], Any 1000 15 x := by
    intro x hx
    rcases List.mem_append.mp hx with hx | hx
    · exact hS x hx
    · rw [List.mem_singleton.mp hx]
      exact up (it_one (it_tup2 iG (ij 1))) (by omega) (by omega)
  have lS2 : (S ++ [D.tup [.tup [.tup (rangeD 0 ((B.length : Nat) : Int).toNat), .int j]]]).length = 11 := by simp [lS]
  generalize S ++ [D.tup [.tup [.tup (rangeD 0 ((B.length : Nat) : Int).toNat), .int j]]] = S2 at hS2 lS2
  have h5 : (5 : Int) - ((B.length : Nat) : Int) = ((5 - B.length : Nat) : Int) := by omega
  have e5 : mulD (.tup [.tup [.int 0, .int 0]]) (.int ((5 : Int) - ((B.length : Nat) : Int))) = some (.tup (List.replicate (5 - B.length) [D.tup [.int 0, .int 0]]).flatten) := by
    rw [h5]
    exact mul_tup _ _ (by omega) (by omega) (by simp)
  have l5 : (List.replicate (5 - B.length) [D.tup [.int 0, .int 0]]).flatten.length ≤ 5 := by simp
  have e6 : mulD (.tup [.tup [.int (-1000000), .int 1000000]]) (.int ((B.length : Nat) : Int)) = some (.tup (List.replicate B.length [D.tup [.int (-1000000), .int 1000000]]).flatten) := mul_tup _ _ (by omega) (by omega) (by simp)
  have ng6 : negD (.int 1000000) = some (.int (-1000000)) := rfl
  have a3 : addD (.tup B) (.tup (List.replicate (5 - B.length) [D.tup [.int 0, .int 0]]).flatten) = some (.tup (B ++ (List.replicate (5 - B.length) [D.tup [.int 0, .int 0]]).flatten)) := add_tup (by omega)
  simp only [tLstD, m2', e5, e6, ng6, a3, sSeq, sNil, sIf, sRet, sRetN, tVarD, tCD, tOpD, tOp1D, tCallD, tCallB, aNil, aCons, bVal, bNot, bCmp, bOr, tTupD, sAsg, hide_nil, fTup, fsCons, fsNil, fName, Option.bind_some, List.set_cons_zero, List.set_cons_succ, List.map_cons, List.map_nil, List.length_cons, List.length_nil, List.getElem?_cons_zero, List.getElem?_cons_succ, Nat.zero_add, Nat.reduceAdd, Option.some.injEq, exists_eq_left', true_and, D.bl.injEq, Bool.not_true, Bool.not_false, Bool.false_eq_true, if_false, if_true, lenD_tup, List.length_map, subD_int]
  refine ⟨by omega, by omega, by omega, by omega, by omega, ?_⟩
  simp only [tLstD, tRevD, ng, D.tup.injEq, m3', a2, hh, tTuple_range1, sSeq, sNil, sIf, sRet, sRetN, tVarD, tCD, tOpD, tOp1D, tCallD, tCallB, aNil, aCons, bVal, bNot, bCmp, bOr, tTupD, sAsg, hide_nil, fTup, fsCons, fsNil, fName, Option.bind_some, List.set_cons_zero, List.set_cons_succ, List.map_cons, List.map_nil, List.length_cons, List.length_nil, List.getElem?_cons_zero, List.getElem?_cons_succ, Nat.zero_add, Nat.reduceAdd, Option.some.injEq, exists_eq_left', true_and, D.bl.injEq, Bool.not_true, Bool.not_false, Bool.false_eq_true, if_false, if_true, lenD_tup, List.length_map, subD_int]
  refine ⟨by omega, (B.length : Nat), rfl, by omega, by omega, by omega, by omega, ?_⟩
  refine one_ok (by simp) (by simp) (by omega) fun x hx => one_ok (by simp) (by simp) (by omega) fun y hy => one_ok (by
    intro e
    rw [e] at lS2
    simp at lS2) (by omega) (by omega) fun z hz => ?_
  have i00 : It 12 2 (.tup [.tup [.int 0, .int 0]]) := (it_one (it_tup2 (it_tiny (i := 0) (by decide) (by decide) 0) (it_tiny (i := 0) (by decide) (by decide) 0))).mono (by omega) (by omega)
  have iw : It 50 2 (.tup [.tup [.int (-1000000), .int 1000000]]) := (it_one (it_col (c := (-1000000, 1000000)) (by decide))).mono (by omega) (by omega)
  have hX : It 1500 10 x := by
    simp only [List.mem_cons, List.not_mem_nil, or_false] at hx
    rcases hx with rfl | rfl | rfl | rfl
    · exact iB.mono (by omega) (by omega)
    · exact (it_rep (k := 9) iB 2).mono (by omega) (by omega)
    · exact (it_append (k := 9) iB ((it_rep (k := 1) i00 (5 - B.length)).mono (Nat.le_refl _) (by omega))).mono (by omega) (by omega)
    · exact (it_rep (k := 1) iw B.length).mono (by omega) (by omega)
  have hY : It 300 10 y := by
    simp only [List.mem_cons, List.not_mem_nil, or_false] at hy
    rcases hy with rfl | rfl | rfl | rfl | rfl | rfl
    · exact iK.mono (by omega) (by omega)
    · exact (it_rev (k := 9) iK).mono (by omega) (by omega)
    · exact (it_one (ic 1)).mono (by omega) (by omega)
    · exact (it_rep (k := 9) iK 2).mono (by omega) (by omega)
    · exact iG.mono (by omega) (by omega)
    · exact (it_append (k := 9) iK ((it_one (it_tiny (i := ((B.length : Nat) : Int) - 1) (by omega) (by omega) 1)).mono (Nat.le_refl _) (by omega))).mono (by omega) (by omega)
  have hT := any_table (hX.mono (Nat.le_refl _) (by decide : 10 ≤ 15)) (hY.mono (Nat.le_refl _) (by decide : 10 ≤ 15)) (hS2 z hz)
  obtain ⟨k, rfl⟩ : ∃ k' : Nat, k = (k' : Int) := ⟨k.toNat, by omega⟩
  have c1 : ((k : Nat) : Int) + 1 = ((k + 1 : Nat) : Int) := by omega
  have hs := it_sch (d := .tup (ts.map tabD)) ⟨ts, rfl, h1.1, h1.2, hF⟩
  have hits : itDs (ts.map tabD) = true := by simpa [itD] using hs.it
  have hv := hs.vd.tup
  have hlt : k < (ts.map tabD).length := by rw [List.length_map]; omega
  have hsp := split_at hlt
  have l1 : ((ts.map tabD).take k).length ≤ 4 ∧ ((ts.map tabD).drop (k + 1)).length ≤ 4 := by
    rw [List.length_take, List.length_drop, List.length_map]
    omega
  simp only [tSlD, oNone, oSome, D.int.injEq, cut_lo, addD_int, c1, cut_hi, sSeq, sNil, sIf, sRet, sRetN, tVarD, tCD, tOpD, tOp1D, tCallD, tCallB, aNil, aCons, bVal, bNot, bCmp, bOr, tTupD, sAsg, hide_nil, fTup, fsCons, fsNil, fName, Option.bind_some, List.set_cons_zero, List.set_cons_succ, List.map_cons, List.map_nil, List.length_cons, List.length_nil, List.getElem?_cons_zero, List.getElem?_cons_succ, Nat.zero_add, Nat.reduceAdd, Option.some.injEq, exists_eq_left', true_and, D.bl.injEq, Bool.not_true, Bool.not_false, Bool.false_eq_true, if_false, if_true, lenD_tup, List.length_map, subD_int]
  have ep : (ts.map tabD).take k ++ [D.tup [x, y, z]] ++ (ts.map tabD).drop (k + 1) = (ts.map tabD).take k ++ D.tup [x, y, z] :: (ts.map tabD).drop (k + 1) := by simp
  refine ⟨by omega, by omega, _, add_tup (by simp only [List.length_cons, List.length_nil]; omega), _, add_tup (by simp only [List.length_append, List.length_cons, List.length_nil]; omega), ?_⟩
  rw [ep]
  have hp := any_put2 (k := 16) (pre := (ts.map tabD).take k) (post := (ts.map tabD).drop (k + 1)) (d := (ts.map tabD)[k]) (by rw [← hsp]; exact hits) (by rw [← hsp]; exact hv.mono (Nat.le_refl _) (by omega)) hT
  exact h _ _ ⟨hp.1.mono (by omega) (by omega), hp.2⟩ (by omega) (by omega)
end K01
set_option maxHeartbeats 8000000
namespace K01
open PySem PySem.Spec PyProof.Rows L2 DL
def VA (d : D) : Prop := Any 6000 30 d
theorem ne_text (x : Str) : neD (.str x) (.str x) = some (.bl false) := by
  unfold neD
  split
  · simp [toPy, PyData.eqv]
  · simp [strB]
theorem va_it {w k : Nat} {d : D} (h : It w k d) (hw : w ≤ 6000) (hk : k ≤ 30) : VA d := (h.mono hw hk).any
theorem reprF_va {d : D} (h : VA d) : reprF [d] = some (.str (toPy d).shown) := by
  have := repD_ok h.1 (by decide) (by decide) h.2
  simp [reprF, this]
/-- one value: the two answers are alike, its text stays -/
def lawOne : TDS := (sSeq (sAsg [] (fName 7) (tCallB reprF (aCons (tVarD 6) aNil))) (sIf (bOr (bNot (bVal (tCallD (T__law_same 12) (aCons (tCallD T_is_scheme (aCons (tVarD 6) aNil)) (aCons (tCallD T__law_is_scheme (aCons (tVarD 6) aNil)) aNil))))) (bCmp neD (tCallB reprF (aCons (tVarD 6) aNil)) (tVarD 7))) (sRet (tCD (.bl false))) sNil))
theorem m_lawOne {d : D} (h : VA d) {De : DE} {x0 x1 x2 x3 x4 x5 x7 x8 : Option D} {n : Nat} (hn : De.nx [x0, x1, x2, x3, x4, x5, some d, some (.str (toPy d).shown), x8] n) : lawOne De [x0, x1, x2, x3, x4, x5, some d, x7, x8] n := by
  have ss : ∀ (a b : Bool) (n : Nat) (q : QD), T__law_same 12 [.bl a, .bl b] n q ↔ q (.bl (a == b)) n := fun a b n q => m_law_same 11 a b n q
  simp only [lawOne, reprF_va h, m_is_scheme, m_law_is_scheme, ss, ne_text, sSeq, sNil, sIf, sRet, sRetN, tVarD, tCD, tOpD, tOp1D, tCallD, tCallB, aNil, aCons, bVal, bNot, bCmp, bOr, tTupD, sAsg, hide_nil, fTup, fsCons, fsNil, fName, Option.bind_some, List.set_cons_zero, List.set_cons_succ, List.map_cons, List.map_nil, List.length_cons, List.length_nil, List.getElem?_cons_zero, List.getElem?_cons_succ, Nat.zero_add, Nat.reduceAdd, Option.some.injEq, exists_eq_left', true_and, D.bl.injEq, Bool.not_true, Bool.not_false, Bool.false_eq_true, if_false, if_true, lenD_tup, List.length_map, subD_int]
  simpa using hn
def lawTail : TDS := sFor [] (wAny (tOpD addD (tVarD 4) (tComp (wRng1 (aCons (tCD (.int 8)) aNil)) (fName 8) bYes (tCallD (T__law_off 12) (aCons (tVarD 1) (aCons (tVarD 3) aNil))) [8]))) (fName 6) lawOne
def lawNear : TDS := sOwn [] 4 (ldAdd (tVarD 4) (tComp (wRng1 (aCons (tCD (.int 10)) aNil)) (fName 8) bYes (tCallD T__law_near (aCons (tVarD 1) (aCons (tVarD 3) aNil))) [8]))
def lawBent : TDS := sOwn [] 4 (ldAdd (tVarD 4) (tComp (wRng1 (aCons (tCD (.int 12)) aNil)) (fName 8) bYes (tCallD (T__law_bent 12) (aCons (tVarD 1) (aCons (tVarD 3) aNil))) [8]))
def lawOdds : TDS := sFor [4] (wAny (tLstD (aCons (tCD .non) (aCons (tTupD aNil) (aCons (tTupD (aCons (tOpD ixD (tOpD ixD (tVarD 3) (tCD (.int 0))) (tCD (.int 0))) aNil)) (aCons (tSlD (tOpD ixD (tVarD 3) (tCD (.int 0))) oNone (oSome (tCD (.int 2)))) (aCons (tLstD (aCons (tOpD ixD (tVarD 3) (tCD (.int 0))) aNil)) (aCons (tCD (.int 7)) aNil)))))))) (fName 5) (sApp [4] 4 (tOpD addD (tTupD (aCons (tVarD 5) aNil)) (tSlD (tVarD 3) (oSome (tCD (.int 1))) oNone)))
def lawVals : TDS := sOwn [] 4 (lLstD (aCons (tVarD 3) (aCons (tOpD mulD (tVarD 3) (tCD (.int 5))) (aCons (tRevD (tVarD 3) (tOp1D negD (tCD (.int 1)))) (aCons (tTupD aNil) (aCons (tCD .non) (aCons (tCD (.int 7)) (aCons tNoDict (aCons (tLstD (aCons (tVarD 3) aNil)) (aCons (tCallB listD (aCons (tVarD 3) aNil)) (aCons (tSlD (tVarD 3) (oSome (tCD (.int 1))) oNone) (aCons (tCD (.str "scheme")) aNil))))))))))))
theorem law2_eq : T_law2 = sSeq (sFor [] (wRng1 (aCons (tCD (.int 4)) aNil)) (fName 2) (sSeq (sAsg [] (fName 3) (tCallD T__law_draw_scheme (aCons (tVarD 1) (aCons (tCD (.int 4)) (aCons (tCD (.int 4)) aNil))))) (sSeq lawVals (sSeq lawOdds (sSeq lawBent (sSeq lawNear lawTail)))))) (sRet (tCD (.bl true))) := rfl
def SD4 (ts : List Tab) : Prop := (1 ≤ ts.length ∧ ts.length ≤ 4) ∧ ∀ t ∈ ts, Fine t
theorem m_lawTail {ts : List Tab} (hs : SD4 ts) {vs : List D} (hv : ∀ v ∈ vs, VA v) (hl : vs.length ≤ 100) {De : DE} {x2 x5 x6 x7 x8 : Option D} {n : Nat} (hn : n + 96 ≤ NN)
    (h : ∀ (x6 x7 : Option D) (n' : Nat), n' ≤ n + 96 → De.nx [none, some .pen, x2, some (.tup (ts.map tabD)), some (.lst vs), x5, x6, x7, x8] n') : lawTail De [none, some .pen, x2, some (.tup (ts.map tabD)), some (.lst vs), x5, x6, x7, x8] n := by
  have LL : LIM = 1000000 := rfl
  have it := it_sch (d := .tup (ts.map tabD)) ⟨ts, rfl, hs.1.1, hs.1.2, hs.2⟩
  have lr : (rangeD 0 (8 : Int).toNat).length = 8 := rfl
  simp only [lawTail, sFor, wAny, tComp, wRng1, sSeq, sNil, sIf, sRet, sRetN, tVarD, tCD, tOpD, tOp1D, tCallD, tCallB, aNil, aCons, bVal, bNot, bCmp, bOr, tTupD, sAsg, hide_nil, fTup, fsCons, fsNil, fName, Option.bind_some, List.set_cons_zero, List.set_cons_succ, List.map_cons, List.map_nil, List.length_cons, List.length_nil, List.getElem?_cons_zero, List.getElem?_cons_succ, Nat.zero_add, Nat.reduceAdd, Option.some.injEq, exists_eq_left', true_and, D.bl.injEq, Bool.not_true, Bool.not_false, Bool.false_eq_true, if_false, if_true, lenD_tup, List.length_map, subD_int]
  refine ⟨8, rfl, by decide, by decide, ?_⟩
  refine compD_inv VA 12 _ _ _ _ (fun d hd => ⟨_, rfl, fun n k hn' hk => ?_⟩) (by rw [lr]; omega) (by rw [lr]; simp; omega) fun ys n' l1 l2 l3 l4 => ?_
  · simp only [wipeE, sSeq, sNil, sIf, sRet, sRetN, tVarD, tCD, tOpD, tOp1D, tCallD, tCallB, aNil, aCons, bVal, bNot, bCmp, bOr, tTupD, sAsg, hide_nil, fTup, fsCons, fsNil, fName, Option.bind_some, List.set_cons_zero, List.set_cons_succ, List.map_cons, List.map_nil, List.length_cons, List.length_nil, List.getElem?_cons_zero, List.getElem?_cons_succ, Nat.zero_add, Nat.reduceAdd, Option.some.injEq, exists_eq_left', true_and, D.bl.injEq, Bool.not_true, Bool.not_false, Bool.false_eq_true, if_false, if_true, lenD_tup, List.length_map, subD_int]
    exact m_off 12 5 944 _ n k (by decide) (by decide) (by decide) it (by omega) fun z n' hz h1 h2 => hk z n' ⟨hz.1.mono (by decide) (by decide), hz.2⟩ h1 (by omega)
  · rw [lr] at l1 l4
    rw [List.nil_append]
    refine ⟨_, add_lst (by omega), _, .inl rfl, ?_⟩
    refine forD_inv (all := vs ++ ys) (fun i ρ n2 => ∃ x6 x7, ρ = [none, some .pen, x2, some (.tup (ts.map tabD)), some (.lst vs), x5, x6, x7, x8] ∧ n2 = n') ?_ ?_ _ 0 _ _ rfl (Nat.zero_le _) ⟨x6, x7, rfl, rfl⟩
    · rintro i d hd ρ n2 ⟨x6, x7, rfl, rfl⟩
      have hva : VA d := by
        rcases List.mem_append.mp (List.mem_of_getElem? hd) with hm | hm
        · exact hv d hm
        · exact l2 d hm
      exact ⟨_, rfl, fun De' _ _ hnx _ => m_lawOne hva (hnx _ _ ⟨_, _, rfl, rfl⟩)⟩
    · rintro ρ n2 ⟨x6, x7, rfl, rfl⟩
      exact h x6 x7 _ (by omega)
theorem m_lawNear {ts : List Tab} (hs : SD4 ts) {vs : List D} (hv : ∀ v ∈ vs, VA v) (hl : vs.length ≤ 50) {De : DE} {x2 x5 x6 x7 x8 : Option D} {n : Nat} (hn : n + 60 ≤ NN)
    (h : ∀ (vs' : List D) (n' : Nat), (∀ v ∈ vs', VA v) → vs'.length = vs.length + 10 → n' ≤ n + 60 → De.nx [none, some .pen, x2, some (.tup (ts.map tabD)), some (.lst vs'), x5, x6, x7, x8] n') : lawNear De [none, some .pen, x2, some (.tup (ts.map tabD)), some (.lst vs), x5, x6, x7, x8] n := by
  have LL : LIM = 1000000 := rfl
  have lr : (rangeD 0 (10 : Int).toNat).length = 10 := rfl
  simp only [lawNear, sOwn, ldAdd, tComp, wRng1, sSeq, sNil, sIf, sRet, sRetN, tVarD, tCD, tOpD, tOp1D, tCallD, tCallB, aNil, aCons, bVal, bNot, bCmp, bOr, tTupD, sAsg, hide_nil, fTup, fsCons, fsNil, fName, Option.bind_some, List.set_cons_zero, List.set_cons_succ, List.map_cons, List.map_nil, List.length_cons, List.length_nil, List.getElem?_cons_zero, List.getElem?_cons_succ, Nat.zero_add, Nat.reduceAdd, Option.some.injEq, exists_eq_left', true_and, D.bl.injEq, Bool.not_true, Bool.not_false, Bool.false_eq_true, if_false, if_true, lenD_tup, List.length_map, subD_int]
  refine ⟨10, rfl, by decide, by decide, ?_⟩
  refine compD_inv VA 6 _ _ _ _ (fun d hd => ⟨_, rfl, fun n k hn' hk => ?_⟩) (by rw [lr]; omega) (by rw [lr]; simp; omega) fun ys n' l1 l2 l3 l4 => ?_
  · simp only [wipeE, sSeq, sNil, sIf, sRet, sRetN, tVarD, tCD, tOpD, tOp1D, tCallD, tCallB, aNil, aCons, bVal, bNot, bCmp, bOr, tTupD, sAsg, hide_nil, fTup, fsCons, fsNil, fName, Option.bind_some, List.set_cons_zero, List.set_cons_succ, List.map_cons, List.map_nil, List.length_cons, List.length_nil, List.getElem?_cons_zero, List.getElem?_cons_succ, Nat.zero_add, Nat.reduceAdd, Option.some.injEq, exists_eq_left', true_and, D.bl.injEq, Bool.not_true, Bool.not_false, Bool.false_eq_true, if_false, if_true, lenD_tup, List.length_map, subD_int]
    exact m_near hs.1 hs.2 hn' fun z n' hz h1 h2 => hk z n' ⟨hz.1.mono (by decide) (by decide), hz.2⟩ h1 h2
  · rw [lr] at l1 l4
    rw [List.nil_append]
    refine ⟨_, _, rfl, rfl, by omega, by decide, h (vs ++ ys) _ (fun v hvm => ?_) (by simp [l1]) (by omega)⟩
    rcases List.mem_append.mp hvm with hm | hm
    · exact hv v hm
    · exact l2 v hm
theorem m_lawBent {ts : List Tab} (hs : SD4 ts) {vs : List D} (hv : ∀ v ∈ vs, VA v) (hl : vs.length ≤ 50) {De : DE} {x2 x5 x6 x7 x8 : Option D} {n : Nat} (hn : n + 216 ≤ NN)
    (h : ∀ (vs' : List D) (n' : Nat), (∀ v ∈ vs', VA v) → vs'.length = vs.length + 12 → n' ≤ n + 216 → De.nx [none, some .pen, x2, some (.tup (ts.map tabD)), some (.lst vs'), x5, x6, x7, x8] n') : lawBent De [none, some .pen, x2, some (.tup (ts.map tabD)), some (.lst vs), x5, x6, x7, x8] n := by
  have LL : LIM = 1000000 := rfl
  have it := it_sch (d := .tup (ts.map tabD)) ⟨ts, rfl, hs.1.1, hs.1.2, hs.2⟩
  have lr : (rangeD 0 (12 : Int).toNat).length = 12 := rfl
  simp only [lawBent, sOwn, ldAdd, tComp, wRng1, sSeq, sNil, sIf, sRet, sRetN, tVarD, tCD, tOpD, tOp1D, tCallD, tCallB, aNil, aCons, bVal, bNot, bCmp, bOr, tTupD, sAsg, hide_nil, fTup, fsCons, fsNil, fName, Option.bind_some, List.set_cons_zero, List.set_cons_succ, List.map_cons, List.map_nil, List.length_cons, List.length_nil, List.getElem?_cons_zero, List.getElem?_cons_succ, Nat.zero_add, Nat.reduceAdd, Option.some.injEq, exists_eq_left', true_and, D.bl.injEq, Bool.not_true, Bool.not_false, Bool.false_eq_true, if_false, if_true, lenD_tup, List.length_map, subD_int]
  refine ⟨12, rfl, by decide, by decide, ?_⟩
  refine compD_inv VA 18 _ _ _ _ (fun d hd => ⟨_, rfl, fun n k hn' hk => ?_⟩) (by rw [lr]; omega) (by rw [lr]; simp; omega) fun ys n' l1 l2 l3 l4 => ?_
  · simp only [wipeE, sSeq, sNil, sIf, sRet, sRetN, tVarD, tCD, tOpD, tOp1D, tCallD, tCallB, aNil, aCons, bVal, bNot, bCmp, bOr, tTupD, sAsg, hide_nil, fTup, fsCons, fsNil, fName, Option.bind_some, List.set_cons_zero, List.set_cons_succ, List.map_cons, List.map_nil, List.length_cons, List.length_nil, List.getElem?_cons_zero, List.getElem?_cons_succ, Nat.zero_add, Nat.reduceAdd, Option.some.injEq, exists_eq_left', true_and, D.bl.injEq, Bool.not_true, Bool.not_false, Bool.false_eq_true, if_false, if_true, lenD_tup, List.length_map, subD_int]
    exact m_bent 12 5 944 _ n k (by decide) (by decide) (by decide) it (by omega) fun z n' hz h1 h2 => hk z n' ⟨hz.1.mono (by decide) (by decide), hz.2⟩ h1 (by omega)
  · rw [lr] at l1 l4
    rw [List.nil_append]
    refine ⟨_, _, rfl, rfl, by omega, by decide, h (vs ++ ys) _ (fun v hvm => ?_) (by simp [l1]) (by omega)⟩
    rcases List.mem_append.mp hvm with hm | hm
    · exact hv v hm
    · exact l2 v hm
theorem it_drop {w k : Nat} {ds : List D} (j : Nat) (h : It w (k + 1) (.tup ds)) : It w (k + 1) (.tup (ds.drop j)) := by
  have i1 : itDs ds = true := by simpa [itD] using h.it
  have hv := h.vd.tup
  rw [← List.take_append_drop j ds] at i1 hv
  rw [itDs_append, Bool.and_eq_true] at i1
  obtain ⟨w1, w2, h1, h2, h3⟩ := VL.split hv
  exact ⟨by simpa [itD] using i1.2, h2.tup.mono (by omega) (Nat.le_refl _)⟩
theorem m_lawOdds {ts : List Tab} (hs : SD4 ts) {vs : List D} (hv : ∀ v ∈ vs, VA v) (hl : vs.length ≤ 20) {De : DE} {x2 x5 x6 x7 x8 : Option D} {n : Nat}
    (h : ∀ (vs' : List D) (x5 : Option D), (∀ v ∈ vs', VA v) → vs'.length ≤ 26 → De.nx [none, some .pen, x2, some (.tup (ts.map tabD)), some (.lst vs'), x5, x6, x7, x8] n) : lawOdds De [none, some .pen, x2, some (.tup (ts.map tabD)), some (.lst vs), x5, x6, x7, x8] n := by
  have LL : LIM = 1000000 := rfl
  have it := it_sch (d := .tup (ts.map tabD)) ⟨ts, rfl, hs.1.1, hs.1.2, hs.2⟩
  have hh : ∀ a0 a1 a2 a3 a4 a5 a6 a7 a8 : Option D, hide [4] [a0, a1, a2, a3, a4, a5, a6, a7, a8] = [a0, a1, a2, a3, none, a5, a6, a7, a8] := fun a0 a1 a2 a3 a4 a5 a6 a7 a8 => by simp [hide, hideFrom]
  have t0 : ∀ t, ixD (tabD t) (.int 0) = some (.tup (t.cols.map colD)) := fun _ => rfl
  have hl1 := hs.1
  have e0 : ixD (.tup (ts.map tabD)) (.int 0) = some (tabD (ix ts 0)) := tab_at (by decide) (by omega)
  have fine := hs.2 _ (ix_mem (xs := ts) (i := 0) (by decide) (by omega))
  have c2 : DL.cutD (tabD (ix ts 0)) none (some 2) = some (.tup [.tup ((ix ts 0).cols.map colD), .tup ((ix ts 0).key.map D.int)]) := cut_lo [.tup ((ix ts 0).cols.map colD), .tup ((ix ts 0).key.map D.int), .tup ((ix ts 0).refs.map refD)] 2
  have ch : DL.cutD (.tup (ts.map tabD)) (some 1) none = some (.tup ((ts.map tabD).drop 1)) := cut_hi _ 1
  simp only [lawOdds, sFor, wAny, tLstD, hh, e0, t0, tSlD, oNone, oSome, D.int.injEq, c2, sSeq, sNil, sIf, sRet, sRetN, tVarD, tCD, tOpD, tOp1D, tCallD, tCallB, aNil, aCons, bVal, bNot, bCmp, bOr, tTupD, sAsg, hide_nil, fTup, fsCons, fsNil, fName, Option.bind_some, List.set_cons_zero, List.set_cons_succ, List.map_cons, List.map_nil, List.length_cons, List.length_nil, List.getElem?_cons_zero, List.getElem?_cons_succ, Nat.zero_add, Nat.reduceAdd, Option.some.injEq, exists_eq_left', true_and, D.bl.injEq, Bool.not_true, Bool.not_false, Bool.false_eq_true, if_false, if_true, lenD_tup, List.length_map, subD_int]
  refine ⟨by omega, by omega, by omega, by omega, _, .inl rfl, ?_⟩
  have itab := it_tab fine
  have icols : It 235 3 (.tup ((ix ts 0).cols.map colD)) := by
    have h1 := itab.it
    have h2 := itab.vd.tup.of_mem (d := .tup ((ix ts 0).cols.map colD)) (by simp)
    simp only [tabD, itD, itDs, Bool.and_eq_true] at h1
    exact ⟨by simpa [itD] using h1.1, h2⟩
  have ikey : It 235 3 (.tup ((ix ts 0).key.map D.int)) := by
    have h1 := itab.it
    have h2 := itab.vd.tup.of_mem (d := .tup ((ix ts 0).key.map D.int)) (by simp)
    simp only [tabD, itD, itDs, Bool.and_eq_true] at h1
    exact ⟨by simpa [itD] using h1.2.1, h2⟩
  have hodd : ∀ d ∈ [D.non, .tup [], .tup [.tup ((ix ts 0).cols.map colD)], .tup [.tup ((ix ts 0).cols.map colD), .tup ((ix ts 0).key.map D.int)], .lst [tabD (ix ts 0)], .int 7], Any 1000 10 d := by
    intro d hd
    simp only [List.mem_cons, List.not_mem_nil, or_false] at hd
    rcases hd with rfl | rfl | rfl | rfl | rfl | rfl
    · exact ⟨(vd_non 10).mono (by omega) (by omega), .inl rfl⟩
    · exact ((it_unit 9).mono (by omega) (by omega)).any
    · exact ((it_one icols).mono (by omega) (by omega)).any
    · exact ((it_tup2 icols ikey).mono (by omega) (by omega)).any
    · exact ⟨(VL.cons itab.vd (VL.nil 4)).lst.mono (by omega) (by omega), .inl (by simp only [noD, noDs, (it_no _ itab.it).1, Bool.and_self])⟩
    · exact ((it_tiny (i := 7) (by decide) (by decide) 10).mono (by omega) (by omega)).any
  have idr : It 944 5 (.tup ((ts.map tabD).drop 1)) := it_drop (k := 4) 1 it
  refine forD_inv (fun i ρ n2 => ∃ vs' x5, ρ = [none, some .pen, x2, some (.tup (ts.map tabD)), some (.lst vs'), x5, x6, x7, x8] ∧ n2 = n ∧ (∀ v ∈ vs', VA v) ∧ vs'.length = vs.length + i) ?_ ?_ _ 0 _ _ rfl (Nat.zero_le _) ⟨vs, x5, rfl, rfl, hv, rfl⟩
  · rintro i d hd ρ n2 ⟨vs', x5, rfl, rfl, hva, hvl⟩
    have hi := (List.getElem?_eq_some_iff.mp hd).1
    simp only [List.length_cons, List.length_nil] at hi
    have ha := hodd d (List.mem_of_getElem? hd)
    have l1 : ((ts.map tabD).drop 1).length ≤ 4 := by
      rw [List.length_drop, List.length_map]
      omega
    refine ⟨_, rfl, fun De' _ _ hnx _ => ?_⟩
    simp only [sApp, hh, tSlD, oNone, oSome, D.int.injEq, ch, sSeq, sNil, sIf, sRet, sRetN, tVarD, tCD, tOpD, tOp1D, tCallD, tCallB, aNil, aCons, bVal, bNot, bCmp, bOr, tTupD, sAsg, hide_nil, fTup, fsCons, fsNil, fName, Option.bind_some, List.set_cons_zero, List.set_cons_succ, List.map_cons, List.map_nil, List.length_cons, List.length_nil, List.getElem?_cons_zero, List.getElem?_cons_succ, Nat.zero_add, Nat.reduceAdd, Option.some.injEq, exists_eq_left', true_and, D.bl.injEq, Bool.not_true, Bool.not_false, Bool.false_eq_true, if_false, if_true, lenD_tup, List.length_map, subD_int]
    refine ⟨by omega, _, add_tup (by simp only [List.length_cons, List.length_nil]; omega), _, rfl, by omega, hnx _ _ ⟨_, _, rfl, rfl, fun v hvm => ?_, by simp [hvl]; omega⟩⟩
    rcases List.mem_append.mp hvm with hm | hm
    · exact hva v hm
    · rw [List.mem_singleton.mp hm]
      have hv2 := idr.vd.tup
      have hi2 : itDs ((ts.map tabD).drop 1) = true := by simpa [itD] using idr.it
      obtain ⟨b1, b2, _⟩ := its_no _ hi2
      refine ⟨(VL.cons (ha.1.mono (Nat.le_refl _) (Nat.le_refl _)) (hv2.mono (Nat.le_refl _) (by omega))).tup.mono (by omega) (by omega), ?_⟩
      rcases ha.2 with e | e
      · left
        show noDs (d :: (ts.map tabD).drop 1) = true
        simp only [noDs, e, b1, Bool.and_self]
      · right
        show nlDs (d :: (ts.map tabD).drop 1) = true
        simp only [nlDs, e, b2, Bool.and_self]
  · rintro ρ n2 ⟨vs', x5, rfl, rfl, hva, hvl⟩
    exact h vs' x5 hva (by simp only [List.length_cons, List.length_nil] at hvl; omega)
end K01
set_option maxHeartbeats 8000000
namespace K01
open PySem PySem.Spec PyProof.Rows L2 DL
theorem m_lawVals {ts : List Tab} (hs : SD4 ts) {De : DE} {x2 x4 x5 x6 x7 x8 : Option D} {n : Nat}
    (h : ∀ vs : List D, (∀ v ∈ vs, VA v) → vs.length ≤ 20 → De.nx [none, some .pen, x2, some (.tup (ts.map tabD)), some (.lst vs), x5, x6, x7, x8] n) : lawVals De [none, some .pen, x2, some (.tup (ts.map tabD)), x4, x5, x6, x7, x8] n := by
  have LL : LIM = 1000000 := rfl
  have it := it_sch (d := .tup (ts.map tabD)) ⟨ts, rfl, hs.1.1, hs.1.2, hs.2⟩
  have hl1 := hs.1
  have m5 : mulD (.tup (ts.map tabD)) (.int 5) = some (.tup (List.replicate 5 (ts.map tabD)).flatten) := mul_tup _ 5 (by decide) (by decide) (by rw [List.length_map]; omega)
  have ng : negD (.int 1) = some (.int (-1)) := rfl
  have ch : DL.cutD (.tup (ts.map tabD)) (some 1) none = some (.tup ((ts.map tabD).drop 1)) := cut_hi _ 1
  have lD : listD [.tup (ts.map tabD)] = some (.lst (ts.map tabD)) := rfl
  simp only [lawVals, sOwn, lLstD, m5, tRevD, ng, D.tup.injEq, tNoDict, tLstD, lD, tSlD, oNone, oSome, D.int.injEq, ch, sSeq, sNil, sIf, sRet, sRetN, tVarD, tCD, tOpD, tOp1D, tCallD, tCallB, aNil, aCons, bVal, bNot, bCmp, bOr, tTupD, sAsg, hide_nil, fTup, fsCons, fsNil, fName, Option.bind_some, List.set_cons_zero, List.set_cons_succ, List.map_cons, List.map_nil, List.length_cons, List.length_nil, List.getElem?_cons_zero, List.getElem?_cons_succ, Nat.zero_add, Nat.reduceAdd, Option.some.injEq, exists_eq_left', true_and, D.bl.injEq, Bool.not_true, Bool.not_false, Bool.false_eq_true, if_false, if_true, lenD_tup, List.length_map, subD_int]
  have hq := fun (x : List D) (hx : ∀ v ∈ x, VA v) (hl : x.length ≤ 20) => h x hx hl
  refine ⟨by omega, by omega, by omega, by decide, hq _ (fun v hv => ?_) (by simp)⟩
  simp only [List.mem_cons, List.not_mem_nil, or_false] at hv
  have hno := it_no _ it.it
  have i1 : noDs (ts.map tabD) = true := by simpa [noD] using hno.1
  rcases hv with rfl | rfl | rfl | rfl | rfl | rfl | rfl | rfl | rfl | rfl | rfl
  · exact va_it it (by omega) (by omega)
  · exact va_it (it_rep (k := 4) it 5) (by omega) (by omega)
  · exact va_it (it_rev (k := 4) it) (by omega) (by omega)
  · exact va_it (it_unit 0) (by omega) (by omega)
  · exact ⟨(vd_non 30).mono (by omega) (by omega), .inl rfl⟩
  · exact va_it (it_tiny (i := 7) (by decide) (by decide) 0) (by omega) (by omega)
  · exact ⟨(vd_dct 0).mono (by omega) (by omega), .inr rfl⟩
  · exact ⟨(VL.cons it.vd (VL.nil 5)).lst.mono (by omega) (by omega), .inl (by simp only [noD, noDs, i1, Bool.and_self])⟩
  · exact ⟨(VD.tup (k := 4) it.vd).lst.mono (by omega) (by omega), .inl (by simp only [noD, i1])⟩
  · exact va_it (it_drop (k := 4) 1 it) (by omega) (by omega)
  · have st : vdB 100 3 (.str "scheme") = true := by decide +kernel
    unfold vdB at st
    simp only [Bool.and_eq_true, decide_eq_true_eq] at st
    exact ⟨(⟨st.1.1.1, st.1.1.2, st.1.2, st.2⟩ : VD 100 3 (.str "scheme")).mono (by omega) (by omega), .inl rfl⟩
theorem m_law2 : T_law2 endLaw (penE 1 9) 0 := by
  have hp : penE 1 9 = [none, some .pen, none, none, none, none, none, none, none] := rfl
  have lr : (rangeD 0 (4 : Int).toNat).length = 4 := rfl
  rw [law2_eq, hp]
  simp only [sFor, wRng1, sSeq, sNil, sIf, sRet, sRetN, tVarD, tCD, tOpD, tOp1D, tCallD, tCallB, aNil, aCons, bVal, bNot, bCmp, bOr, tTupD, sAsg, hide_nil, fTup, fsCons, fsNil, fName, Option.bind_some, List.set_cons_zero, List.set_cons_succ, List.map_cons, List.map_nil, List.length_cons, List.length_nil, List.getElem?_cons_zero, List.getElem?_cons_succ, Nat.zero_add, Nat.reduceAdd, Option.some.injEq, exists_eq_left', true_and, D.bl.injEq, Bool.not_true, Bool.not_false, Bool.false_eq_true, if_false, if_true, lenD_tup, List.length_map, subD_int]
  refine ⟨4, rfl, by decide, by decide, ?_⟩
  refine forD_inv (all := rangeD 0 (4 : Int).toNat) (fun i ρ n2 => ∃ x2 x3 x4 x5 x6 x7 x8, ρ = [none, some .pen, x2, x3, x4, x5, x6, x7, x8] ∧ n2 ≤ 1000 * i) ?_ ?_ _ 0 _ _ rfl (Nat.zero_le _) ⟨_, _, _, _, _, _, _, rfl, by omega⟩
  · rintro i d hd ρ n2 ⟨x2, x3, x4, x5, x6, x7, x8, rfl, hn⟩
    have hi := (List.getElem?_eq_some_iff.mp hd).1
    rw [lr] at hi
    have hN : NN = 1000000000 := rfl
    refine ⟨_, rfl, fun De _ _ hnx _ => ?_⟩
    simp only [exists_eq_left, sSeq, sNil, sIf, sRet, sRetN, tVarD, tCD, tOpD, tOp1D, tCallD, tCallB, aNil, aCons, bVal, bNot, bCmp, bOr, tTupD, sAsg, hide_nil, fTup, fsCons, fsNil, fName, Option.bind_some, List.set_cons_zero, List.set_cons_succ, List.map_cons, List.map_nil, List.length_cons, List.length_nil, List.getElem?_cons_zero, List.getElem?_cons_succ, Nat.zero_add, Nat.reduceAdd, Option.some.injEq, exists_eq_left', true_and, D.bl.injEq, Bool.not_true, Bool.not_false, Bool.false_eq_true, if_false, if_true, lenD_tup, List.length_map, subD_int]
    refine m_draw_scheme (by omega) fun d' n3 hd' h1 h2 => ?_
    obtain ⟨ts, rfl, t1, t2, t3⟩ := hd'
    refine m_lawVals ⟨⟨t1, t2⟩, t3⟩ fun vs hv hl => ?_
    refine m_lawOdds ⟨⟨t1, t2⟩, t3⟩ hv hl fun vs2 y5 hv2 hl2 => ?_
    refine m_lawBent ⟨⟨t1, t2⟩, t3⟩ hv2 (by omega) (by omega) fun vs3 n4 hv3 hl3 h4 => ?_
    refine m_lawNear ⟨⟨t1, t2⟩, t3⟩ hv3 (by omega) (by omega) fun vs4 n5 hv4 hl4 h5 => ?_
    exact m_lawTail ⟨⟨t1, t2⟩, t3⟩ hv4 (by omega) (by omega) fun y6 y7 n6 h6 => hnx _ _ ⟨_, _, _, _, _, _, _, rfl, by rw [Nat.mul_add]; omega⟩
  · rintro ρ n2 ⟨x2, x3, x4, x5, x6, x7, x8, rfl, hn⟩
    rfl
theorem m_law1 {ns : List Int} (hns : ns.length ≤ 63) : T_law1 (endFirst 1 9) (startE 9 [.scr ns]) 0 := by
  simp only [T_law1, startE, List.replicate, List.cons_append, List.nil_append, Nat.reduceSub, sSeq, sNil, sIf, sRet, sRetN, tVarD, tCD, tOpD, tOp1D, tCallD, tCallB, aNil, aCons, bVal, bNot, bCmp, bOr, tTupD, sAsg, hide_nil, fTup, fsCons, fsNil, fName, Option.bind_some, List.set_cons_zero, List.set_cons_succ, List.map_cons, List.map_nil, List.length_cons, List.length_nil, List.getElem?_cons_zero, List.getElem?_cons_succ, Nat.zero_add, Nat.reduceAdd, Option.some.injEq, exists_eq_left', true_and, D.bl.injEq, Bool.not_true, Bool.not_false, Bool.false_eq_true, if_false, if_true, lenD_tup, List.length_map, subD_int]
  refine m_open hns fun cs hc => ?_
  exact ⟨rfl, rfl, cs, hc, rfl⟩
end K01
namespace K01
open PySem PySem.Spec PyProof.Rows L2 DL
set_option maxHeartbeats 8000000
def spLaw (K : PySem.W.Frag) : Sp := fun vs H Q _ => ∃ (a : Addr) (ns : List Int), vs = [.ref a] ∧ SqL K H a (ns.map V.int) ∧ ns.length ≤ 63 ∧ ∀ H', Q (.bl true) H'
theorem all_mk {l : PySem.W.OpenLaw} {w : World} {K : PySem.W.Frag} {h : Heap} {mg : Str → Option Value} {fa : Addr} (X : K.In h) (G : h.Ns mainGlobals mg) (hfa : mg "law" = some (.ref fa))
    {f_is_integer : Addr} {oc_is_integer kV_is_integer dc_is_integer pm_is_integer cd_is_integer ct_is_integer : Value} {od_is_integer an_is_integer : Option Addr} {sl_is_integer : Array (Option Value)}
    {f_lies_between : Addr} {oc_lies_between kV_lies_between dc_lies_between pm_lies_between cd_lies_between ct_lies_between : Value} {od_lies_between an_lies_between : Option Addr} {sl_lies_between : Array (Option Value)}
    {f_is_tuple_of : Addr} {oc_is_tuple_of kV_is_tuple_of dc_is_tuple_of pm_is_tuple_of cd_is_tuple_of ct_is_tuple_of : Value} {od_is_tuple_of an_is_tuple_of : Option Addr} {sl_is_tuple_of : Array (Option Value)}
    {f_picked : Addr} {oc_picked kV_picked dc_picked pm_picked cd_picked ct_picked : Value} {od_picked an_picked : Option Addr} {sl_picked : Array (Option Value)}
    {f__are_bounds : Addr} {oc__are_bounds kV__are_bounds dc__are_bounds pm__are_bounds cd__are_bounds ct__are_bounds : Value} {od__are_bounds an__are_bounds : Option Addr} {sl__are_bounds : Array (Option Value)}
    {f__are_columns : Addr} {oc__are_columns kV__are_columns dc__are_columns pm__are_columns cd__are_columns ct__are_columns : Value} {od__are_columns an__are_columns : Option Addr} {sl__are_columns : Array (Option Value)}
    {f__are_different_columns : Addr} {oc__are_different_columns kV__are_different_columns dc__are_different_columns pm__are_different_columns cd__are_different_columns ct__are_different_columns : Value} {od__are_different_columns an__are_different_columns : Option Addr} {sl__are_different_columns : Array (Option Value)}
    {f__is_key : Addr} {oc__is_key kV__is_key dc__is_key pm__is_key cd__is_key ct__is_key : Value} {od__is_key an__is_key : Option Addr} {sl__is_key : Array (Option Value)}
    {f__is_reference : Addr} {oc__is_reference kV__is_reference dc__is_reference pm__is_reference cd__is_reference ct__is_reference : Value} {od__is_reference an__is_reference : Option Addr} {sl__is_reference : Array (Option Value)}
    {f__is_table : Addr} {oc__is_table kV__is_table dc__is_table pm__is_table cd__is_table ct__is_table : Value} {od__is_table an__is_table : Option Addr} {sl__is_table : Array (Option Value)}
    {f_is_scheme : Addr} {oc_is_scheme kV_is_scheme dc_is_scheme pm_is_scheme cd_is_scheme ct_is_scheme : Value} {od_is_scheme an_is_scheme : Option Addr} {sl_is_scheme : Array (Option Value)}
    {f__law_open : Addr} {oc__law_open kV__law_open dc__law_open pm__law_open cd__law_open ct__law_open : Value} {od__law_open an__law_open : Option Addr} {sl__law_open : Array (Option Value)}
    {f__law_spread : Addr} {oc__law_spread kV__law_spread dc__law_spread pm__law_spread cd__law_spread ct__law_spread : Value} {od__law_spread an__law_spread : Option Addr} {sl__law_spread : Array (Option Value)}
    {f__law_take : Addr} {oc__law_take kV__law_take dc__law_take pm__law_take cd__law_take ct__law_take : Value} {od__law_take an__law_take : Option Addr} {sl__law_take : Array (Option Value)}
    {f__law_same : Addr} {oc__law_same kV__law_same dc__law_same pm__law_same cd__law_same ct__law_same : Value} {od__law_same an__law_same : Option Addr} {sl__law_same : Array (Option Value)}
    {f__law_one_of : Addr} {oc__law_one_of kV__law_one_of dc__law_one_of pm__law_one_of cd__law_one_of ct__law_one_of : Value} {od__law_one_of an__law_one_of : Option Addr} {sl__law_one_of : Array (Option Value)}
    {f__law_between : Addr} {oc__law_between kV__law_between dc__law_between pm__law_between cd__law_between ct__law_between : Value} {od__law_between an__law_between : Option Addr} {sl__law_between : Array (Option Value)}
    {f__law_draw_bounds : Addr} {oc__law_draw_bounds kV__law_draw_bounds dc__law_draw_bounds pm__law_draw_bounds cd__law_draw_bounds ct__law_draw_bounds : Value} {od__law_draw_bounds an__law_draw_bounds : Option Addr} {sl__law_draw_bounds : Array (Option Value)}
    {f__law_draw_key : Addr} {oc__law_draw_key kV__law_draw_key dc__law_draw_key pm__law_draw_key cd__law_draw_key ct__law_draw_key : Value} {od__law_draw_key an__law_draw_key : Option Addr} {sl__law_draw_key : Array (Option Value)}
    {f__law_draw_reference : Addr} {oc__law_draw_reference kV__law_draw_reference dc__law_draw_reference pm__law_draw_reference cd__law_draw_reference ct__law_draw_reference : Value} {od__law_draw_reference an__law_draw_reference : Option Addr} {sl__law_draw_reference : Array (Option Value)}
    {f__law_draw_table : Addr} {oc__law_draw_table kV__law_draw_table dc__law_draw_table pm__law_draw_table cd__law_draw_table ct__law_draw_table : Value} {od__law_draw_table an__law_draw_table : Option Addr} {sl__law_draw_table : Array (Option Value)}
    {f__law_draw_scheme : Addr} {oc__law_draw_scheme kV__law_draw_scheme dc__law_draw_scheme pm__law_draw_scheme cd__law_draw_scheme ct__law_draw_scheme : Value} {od__law_draw_scheme an__law_draw_scheme : Option Addr} {sl__law_draw_scheme : Array (Option Value)}
    {f__law_odd : Addr} {oc__law_odd kV__law_odd dc__law_odd pm__law_odd cd__law_odd ct__law_odd : Value} {od__law_odd an__law_odd : Option Addr} {sl__law_odd : Array (Option Value)}
    {f__law_bent : Addr} {oc__law_bent kV__law_bent dc__law_bent pm__law_bent cd__law_bent ct__law_bent : Value} {od__law_bent an__law_bent : Option Addr} {sl__law_bent : Array (Option Value)}
    {f__law_off : Addr} {oc__law_off kV__law_off dc__law_off pm__law_off cd__law_off ct__law_off : Value} {od__law_off an__law_off : Option Addr} {sl__law_off : Array (Option Value)}
    {f__law_is_bounds : Addr} {oc__law_is_bounds kV__law_is_bounds dc__law_is_bounds pm__law_is_bounds cd__law_is_bounds ct__law_is_bounds : Value} {od__law_is_bounds an__law_is_bounds : Option Addr} {sl__law_is_bounds : Array (Option Value)}
    {f__law_are_columns : Addr} {oc__law_are_columns kV__law_are_columns dc__law_are_columns pm__law_are_columns cd__law_are_columns ct__law_are_columns : Value} {od__law_are_columns an__law_are_columns : Option Addr} {sl__law_are_columns : Array (Option Value)}
    {f__law_is_reference : Addr} {oc__law_is_reference kV__law_is_reference dc__law_is_reference pm__law_is_reference cd__law_is_reference ct__law_is_reference : Value} {od__law_is_reference an__law_is_reference : Option Addr} {sl__law_is_reference : Array (Option Value)}
    {f__law_is_scheme : Addr} {oc__law_is_scheme kV__law_is_scheme dc__law_is_scheme pm__law_is_scheme cd__law_is_scheme ct__law_is_scheme : Value} {od__law_is_scheme an__law_is_scheme : Option Addr} {sl__law_is_scheme : Array (Option Value)}
    {f__law_near : Addr} {oc__law_near kV__law_near dc__law_near pm__law_near cd__law_near ct__law_near : Value} {od__law_near an__law_near : Option Addr} {sl__law_near : Array (Option Value)}
    {f_law : Addr} {oc_law kV_law dc_law pm_law cd_law ct_law : Value} {od_law an_law : Option Addr} {sl_law : Array (Option Value)}
    {tk_GREATEST_BOUND : Tok}
    (a_is_integer : PySem.W.nsIn K mainGlobals "is_integer" = some (some (.ref f_is_integer)))
    (l_is_integer : K.lookup f_is_integer = some ⟨oc_is_integer, od_is_integer, .func (PySem.W.fnOf "is_integer" "is_integer" (defArgs s_is_integer) (defBody s_is_integer) (defScope s_is_integer) .none kV_is_integer dc_is_integer pm_is_integer an_is_integer cd_is_integer ct_is_integer), sl_is_integer⟩)
    (c_is_integer : PySem.W.codeIn K cd_is_integer "is_integer" = true)
    (k_is_integer : PySem.W.keepIn K (.ref f_is_integer) = true)
    (a_lies_between : PySem.W.nsIn K mainGlobals "lies_between" = some (some (.ref f_lies_between)))
    (l_lies_between : K.lookup f_lies_between = some ⟨oc_lies_between, od_lies_between, .func (PySem.W.fnOf "lies_between" "lies_between" (defArgs s_lies_between) (defBody s_lies_between) (defScope s_lies_between) .none kV_lies_between dc_lies_between pm_lies_between an_lies_between cd_lies_between ct_lies_between), sl_lies_between⟩)
    (c_lies_between : PySem.W.codeIn K cd_lies_between "lies_between" = true)
    (k_lies_between : PySem.W.keepIn K (.ref f_lies_between) = true)
    (a_is_tuple_of : PySem.W.nsIn K mainGlobals "is_tuple_of" = some (some (.ref f_is_tuple_of)))
    (l_is_tuple_of : K.lookup f_is_tuple_of = some ⟨oc_is_tuple_of, od_is_tuple_of, .func (PySem.W.fnOf "is_tuple_of" "is_tuple_of" (defArgs s_is_tuple_of) (defBody s_is_tuple_of) (defScope s_is_tuple_of) .none kV_is_tuple_of dc_is_tuple_of pm_is_tuple_of an_is_tuple_of cd_is_tuple_of ct_is_tuple_of), sl_is_tuple_of⟩)
    (c_is_tuple_of : PySem.W.codeIn K cd_is_tuple_of "is_tuple_of" = true)
    (k_is_tuple_of : PySem.W.keepIn K (.ref f_is_tuple_of) = true)
    (a_picked : PySem.W.nsIn K mainGlobals "picked" = some (some (.ref f_picked)))
    (l_picked : K.lookup f_picked = some ⟨oc_picked, od_picked, .func (PySem.W.fnOf "picked" "picked" (defArgs s_picked) (defBody s_picked) (defScope s_picked) .none kV_picked dc_picked pm_picked an_picked cd_picked ct_picked), sl_picked⟩)
    (c_picked : PySem.W.codeIn K cd_picked "picked" = true)
    (k_picked : PySem.W.keepIn K (.ref f_picked) = true)
    (a__are_bounds : PySem.W.nsIn K mainGlobals "_are_bounds" = some (some (.ref f__are_bounds)))
    (l__are_bounds : K.lookup f__are_bounds = some ⟨oc__are_bounds, od__are_bounds, .func (PySem.W.fnOf "_are_bounds" "_are_bounds" (defArgs s__are_bounds) (defBody s__are_bounds) (defScope s__are_bounds) .none kV__are_bounds dc__are_bounds pm__are_bounds an__are_bounds cd__are_bounds ct__are_bounds), sl__are_bounds⟩)
    (c__are_bounds : PySem.W.codeIn K cd__are_bounds "_are_bounds" = true)
    (k__are_bounds : PySem.W.keepIn K (.ref f__are_bounds) = true)
    (a__are_columns : PySem.W.nsIn K mainGlobals "_are_columns" = some (some (.ref f__are_columns)))
    (l__are_columns : K.lookup f__are_columns = some ⟨oc__are_columns, od__are_columns, .func (PySem.W.fnOf "_are_columns" "_are_columns" (defArgs s__are_columns) (defBody s__are_columns) (defScope s__are_columns) .none kV__are_columns dc__are_columns pm__are_columns an__are_columns cd__are_columns ct__are_columns), sl__are_columns⟩)
    (c__are_columns : PySem.W.codeIn K cd__are_columns "_are_columns" = true)
    (k__are_columns : PySem.W.keepIn K (.ref f__are_columns) = true)
    (a__are_different_columns : PySem.W.nsIn K mainGlobals "_are_different_columns" = some (some (.ref f__are_different_columns)))
    (l__are_different_columns : K.lookup f__are_different_columns = some ⟨oc__are_different_columns, od__are_different_columns, .func (PySem.W.fnOf "_are_different_columns" "_are_different_columns" (defArgs s__are_different_columns) (defBody s__are_different_columns) (defScope s__are_different_columns) .none kV__are_different_columns dc__are_different_columns pm__are_different_columns an__are_different_columns cd__are_different_columns ct__are_different_columns), sl__are_different_columns⟩)
    (c__are_different_columns : PySem.W.codeIn K cd__are_different_columns "_are_different_columns" = true)
    (k__are_different_columns : PySem.W.keepIn K (.ref f__are_different_columns) = true)
    (a__is_key : PySem.W.nsIn K mainGlobals "_is_key" = some (some (.ref f__is_key)))
    (l__is_key : K.lookup f__is_key = some ⟨oc__is_key, od__is_key, .func (PySem.W.fnOf "_is_key" "_is_key" (defArgs s__is_key) (defBody s__is_key) (defScope s__is_key) .none kV__is_key dc__is_key pm__is_key an__is_key cd__is_key ct__is_key), sl__is_key⟩)
    (c__is_key : PySem.W.codeIn K cd__is_key "_is_key" = true)
    (k__is_key : PySem.W.keepIn K (.ref f__is_key) = true)
    (a__is_reference : PySem.W.nsIn K mainGlobals "_is_reference" = some (some (.ref f__is_reference)))
    (l__is_reference : K.lookup f__is_reference = some ⟨oc__is_reference, od__is_reference, .func (PySem.W.fnOf "_is_reference" "_is_reference" (defArgs s__is_reference) (defBody s__is_reference) (defScope s__is_reference) .none kV__is_reference dc__is_reference pm__is_reference an__is_reference cd__is_reference ct__is_reference), sl__is_reference⟩)
    (c__is_reference : PySem.W.codeIn K cd__is_reference "_is_reference" = true)
    (k__is_reference : PySem.W.keepIn K (.ref f__is_reference) = true)
    (a__is_table : PySem.W.nsIn K mainGlobals "_is_table" = some (some (.ref f__is_table)))
    (l__is_table : K.lookup f__is_table = some ⟨oc__is_table, od__is_table, .func (PySem.W.fnOf "_is_table" "_is_table" (defArgs s__is_table) (defBody s__is_table) (defScope s__is_table) .none kV__is_table dc__is_table pm__is_table an__is_table cd__is_table ct__is_table), sl__is_table⟩)
    (c__is_table : PySem.W.codeIn K cd__is_table "_is_table" = true)
    (k__is_table : PySem.W.keepIn K (.ref f__is_table) = true)
    (a_is_scheme : PySem.W.nsIn K mainGlobals "is_scheme" = some (some (.ref f_is_scheme)))
    (l_is_scheme : K.lookup f_is_scheme = some ⟨oc_is_scheme, od_is_scheme, .func (PySem.W.fnOf "is_scheme" "is_scheme" (defArgs s_is_scheme) (defBody s_is_scheme) (defScope s_is_scheme) .none kV_is_scheme dc_is_scheme pm_is_scheme an_is_scheme cd_is_scheme ct_is_scheme), sl_is_scheme⟩)
    (c_is_scheme : PySem.W.codeIn K cd_is_scheme "is_scheme" = true)
    (k_is_scheme : PySem.W.keepIn K (.ref f_is_scheme) = true)
    (a__law_open : PySem.W.nsIn K mainGlobals "_law_open" = some (some (.ref f__law_open)))
    (l__law_open : K.lookup f__law_open = some ⟨oc__law_open, od__law_open, .func (PySem.W.fnOf "_law_open" "_law_open" (defArgs s__law_open) (defBody s__law_open) (defScope s__law_open) .none kV__law_open dc__law_open pm__law_open an__law_open cd__law_open ct__law_open), sl__law_open⟩)
    (c__law_open : PySem.W.codeIn K cd__law_open "_law_open" = true)
    (k__law_open : PySem.W.keepIn K (.ref f__law_open) = true)
    (a__law_spread : PySem.W.nsIn K mainGlobals "_law_spread" = some (some (.ref f__law_spread)))
    (l__law_spread : K.lookup f__law_spread = some ⟨oc__law_spread, od__law_spread, .func (PySem.W.fnOf "_law_spread" "_law_spread" (defArgs s__law_spread) (defBody s__law_spread) (defScope s__law_spread) .none kV__law_spread dc__law_spread pm__law_spread an__law_spread cd__law_spread ct__law_spread), sl__law_spread⟩)
    (c__law_spread : PySem.W.codeIn K cd__law_spread "_law_spread" = true)
    (k__law_spread : PySem.W.keepIn K (.ref f__law_spread) = true)
    (a__law_take : PySem.W.nsIn K mainGlobals "_law_take" = some (some (.ref f__law_take)))
    (l__law_take : K.lookup f__law_take = some ⟨oc__law_take, od__law_take, .func (PySem.W.fnOf "_law_take" "_law_take" (defArgs s__law_take) (defBody s__law_take) (defScope s__law_take) .none kV__law_take dc__law_take pm__law_take an__law_take cd__law_take ct__law_take), sl__law_take⟩)
    (c__law_take : PySem.W.codeIn K cd__law_take "_law_take" = true)
    (k__law_take : PySem.W.keepIn K (.ref f__law_take) = true)
    (a__law_same : PySem.W.nsIn K mainGlobals "_law_same" = some (some (.ref f__law_same)))
    (l__law_same : K.lookup f__law_same = some ⟨oc__law_same, od__law_same, .func (PySem.W.fnOf "_law_same" "_law_same" (defArgs s__law_same) (defBody s__law_same) (defScope s__law_same) .none kV__law_same dc__law_same pm__law_same an__law_same cd__law_same ct__law_same), sl__law_same⟩)
    (c__law_same : PySem.W.codeIn K cd__law_same "_law_same" = true)
    (k__law_same : PySem.W.keepIn K (.ref f__law_same) = true)
    (a__law_one_of : PySem.W.nsIn K mainGlobals "_law_one_of" = some (some (.ref f__law_one_of)))
    (l__law_one_of : K.lookup f__law_one_of = some ⟨oc__law_one_of, od__law_one_of, .func (PySem.W.fnOf "_law_one_of" "_law_one_of" (defArgs s__law_one_of) (defBody s__law_one_of) (defScope s__law_one_of) .none kV__law_one_of dc__law_one_of pm__law_one_of an__law_one_of cd__law_one_of ct__law_one_of), sl__law_one_of⟩)
    (c__law_one_of : PySem.W.codeIn K cd__law_one_of "_law_one_of" = true)
    (k__law_one_of : PySem.W.keepIn K (.ref f__law_one_of) = true)
    (a__law_between : PySem.W.nsIn K mainGlobals "_law_between" = some (some (.ref f__law_between)))
    (l__law_between : K.lookup f__law_between = some ⟨oc__law_between, od__law_between, .func (PySem.W.fnOf "_law_between" "_law_between" (defArgs s__law_between) (defBody s__law_between) (defScope s__law_between) .none kV__law_between dc__law_between pm__law_between an__law_between cd__law_between ct__law_between), sl__law_between⟩)
    (c__law_between : PySem.W.codeIn K cd__law_between "_law_between" = true)
    (k__law_between : PySem.W.keepIn K (.ref f__law_between) = true)
    (a__law_draw_bounds : PySem.W.nsIn K mainGlobals "_law_draw_bounds" = some (some (.ref f__law_draw_bounds)))
    (l__law_draw_bounds : K.lookup f__law_draw_bounds = some ⟨oc__law_draw_bounds, od__law_draw_bounds, .func (PySem.W.fnOf "_law_draw_bounds" "_law_draw_bounds" (defArgs s__law_draw_bounds) (defBody s__law_draw_bounds) (defScope s__law_draw_bounds) .none kV__law_draw_bounds dc__law_draw_bounds pm__law_draw_bounds an__law_draw_bounds cd__law_draw_bounds ct__law_draw_bounds), sl__law_draw_bounds⟩)
    (c__law_draw_bounds : PySem.W.codeIn K cd__law_draw_bounds "_law_draw_bounds" = true)
    (k__law_draw_bounds : PySem.W.keepIn K (.ref f__law_draw_bounds) = true)
    (a__law_draw_key : PySem.W.nsIn K mainGlobals "_law_draw_key" = some (some (.ref f__law_draw_key)))
    (l__law_draw_key : K.lookup f__law_draw_key = some ⟨oc__law_draw_key, od__law_draw_key, .func (PySem.W.fnOf "_law_draw_key" "_law_draw_key" (defArgs s__law_draw_key) (defBody s__law_draw_key) (defScope s__law_draw_key) .none kV__law_draw_key dc__law_draw_key pm__law_draw_key an__law_draw_key cd__law_draw_key ct__law_draw_key), sl__law_draw_key⟩)
    (c__law_draw_key : PySem.W.codeIn K cd__law_draw_key "_law_draw_key" = true)
    (k__law_draw_key : PySem.W.keepIn K (.ref f__law_draw_key) = true)
    (a__law_draw_reference : PySem.W.nsIn K mainGlobals "_law_draw_reference" = some (some (.ref f__law_draw_reference)))
    (l__law_draw_reference : K.lookup f__law_draw_reference = some ⟨oc__law_draw_reference, od__law_draw_reference, .func (PySem.W.fnOf "_law_draw_reference" "_law_draw_reference" (defArgs s__law_draw_reference) (defBody s__law_draw_reference) (defScope s__law_draw_reference) .none kV__law_draw_reference dc__law_draw_reference pm__law_draw_reference an__law_draw_reference cd__law_draw_reference ct__law_draw_reference), sl__law_draw_reference⟩)
    (c__law_draw_reference : PySem.W.codeIn K cd__law_draw_reference "_law_draw_reference" = true)
    (k__law_draw_reference : PySem.W.keepIn K (.ref f__law_draw_reference) = true)
    (a__law_draw_table : PySem.W.nsIn K mainGlobals "_law_draw_table" = some (some (.ref f__law_draw_table)))
    (l__law_draw_table : K.lookup f__law_draw_table = some ⟨oc__law_draw_table, od__law_draw_table, .func (PySem.W.fnOf "_law_draw_table" "_law_draw_table" (defArgs s__law_draw_table) (defBody s__law_draw_table) (defScope s__law_draw_table) .none kV__law_draw_table dc__law_draw_table pm__law_draw_table an__law_draw_table cd__law_draw_table ct__law_draw_table), sl__law_draw_table⟩)
    (c__law_draw_table : PySem.W.codeIn K cd__law_draw_table "_law_draw_table" = true)
    (k__law_draw_table : PySem.W.keepIn K (.ref f__law_draw_table) = true)
    (a__law_draw_scheme : PySem.W.nsIn K mainGlobals "_law_draw_scheme" = some (some (.ref f__law_draw_scheme)))
    (l__law_draw_scheme : K.lookup f__law_draw_scheme = some ⟨oc__law_draw_scheme, od__law_draw_scheme, .func (PySem.W.fnOf "_law_draw_scheme" "_law_draw_scheme" (defArgs s__law_draw_scheme) (defBody s__law_draw_scheme) (defScope s__law_draw_scheme) .none kV__law_draw_scheme dc__law_draw_scheme pm__law_draw_scheme an__law_draw_scheme cd__law_draw_scheme ct__law_draw_scheme), sl__law_draw_scheme⟩)
    (c__law_draw_scheme : PySem.W.codeIn K cd__law_draw_scheme "_law_draw_scheme" = true)
    (k__law_draw_scheme : PySem.W.keepIn K (.ref f__law_draw_scheme) = true)
    (a__law_odd : PySem.W.nsIn K mainGlobals "_law_odd" = some (some (.ref f__law_odd)))
    (l__law_odd : K.lookup f__law_odd = some ⟨oc__law_odd, od__law_odd, .func (PySem.W.fnOf "_law_odd" "_law_odd" (defArgs s__law_odd) (defBody s__law_odd) (defScope s__law_odd) .none kV__law_odd dc__law_odd pm__law_odd an__law_odd cd__law_odd ct__law_odd), sl__law_odd⟩)
    (c__law_odd : PySem.W.codeIn K cd__law_odd "_law_odd" = true)
    (k__law_odd : PySem.W.keepIn K (.ref f__law_odd) = true)
    (a__law_bent : PySem.W.nsIn K mainGlobals "_law_bent" = some (some (.ref f__law_bent)))
    (l__law_bent : K.lookup f__law_bent = some ⟨oc__law_bent, od__law_bent, .func (PySem.W.fnOf "_law_bent" "_law_bent" (defArgs s__law_bent) (defBody s__law_bent) (defScope s__law_bent) .none kV__law_bent dc__law_bent pm__law_bent an__law_bent cd__law_bent ct__law_bent), sl__law_bent⟩)
    (c__law_bent : PySem.W.codeIn K cd__law_bent "_law_bent" = true)
    (k__law_bent : PySem.W.keepIn K (.ref f__law_bent) = true)
    (a__law_off : PySem.W.nsIn K mainGlobals "_law_off" = some (some (.ref f__law_off)))
    (l__law_off : K.lookup f__law_off = some ⟨oc__law_off, od__law_off, .func (PySem.W.fnOf "_law_off" "_law_off" (defArgs s__law_off) (defBody s__law_off) (defScope s__law_off) .none kV__law_off dc__law_off pm__law_off an__law_off cd__law_off ct__law_off), sl__law_off⟩)
    (c__law_off : PySem.W.codeIn K cd__law_off "_law_off" = true)
    (k__law_off : PySem.W.keepIn K (.ref f__law_off) = true)
    (a__law_is_bounds : PySem.W.nsIn K mainGlobals "_law_is_bounds" = some (some (.ref f__law_is_bounds)))
    (l__law_is_bounds : K.lookup f__law_is_bounds = some ⟨oc__law_is_bounds, od__law_is_bounds, .func (PySem.W.fnOf "_law_is_bounds" "_law_is_bounds" (defArgs s__law_is_bounds) (defBody s__law_is_bounds) (defScope s__law_is_bounds) .none kV__law_is_bounds dc__law_is_bounds pm__law_is_bounds an__law_is_bounds cd__law_is_bounds ct__law_is_bounds), sl__law_is_bounds⟩)
    (c__law_is_bounds : PySem.W.codeIn K cd__law_is_bounds "_law_is_bounds" = true)
    (k__law_is_bounds : PySem.W.keepIn K (.ref f__law_is_bounds) = true)
    (a__law_are_columns : PySem.W.nsIn K mainGlobals "_law_are_columns" = some (some (.ref f__law_are_columns)))
    (l__law_are_columns : K.lookup f__law_are_columns = some ⟨oc__law_are_columns, od__law_are_columns, .func (PySem.W.fnOf "_law_are_columns" "_law_are_columns" (defArgs s__law_are_columns) (defBody s__law_are_columns) (defScope s__law_are_columns) .none kV__law_are_columns dc__law_are_columns pm__law_are_columns an__law_are_columns cd__law_are_columns ct__law_are_columns), sl__law_are_columns⟩)
    (c__law_are_columns : PySem.W.codeIn K cd__law_are_columns "_law_are_columns" = true)
    (k__law_are_columns : PySem.W.keepIn K (.ref f__law_are_columns) = true)
    (a__law_is_reference : PySem.W.nsIn K mainGlobals "_law_is_reference" = some (some (.ref f__law_is_reference)))
    (l__law_is_reference : K.lookup f__law_is_reference = some ⟨oc__law_is_reference, od__law_is_reference, .func (PySem.W.fnOf "_law_is_reference" "_law_is_reference" (defArgs s__law_is_reference) (defBody s__law_is_reference) (defScope s__law_is_reference) .none kV__law_is_reference dc__law_is_reference pm__law_is_reference an__law_is_reference cd__law_is_reference ct__law_is_reference), sl__law_is_reference⟩)
    (c__law_is_reference : PySem.W.codeIn K cd__law_is_reference "_law_is_reference" = true)
    (k__law_is_reference : PySem.W.keepIn K (.ref f__law_is_reference) = true)
    (a__law_is_scheme : PySem.W.nsIn K mainGlobals "_law_is_scheme" = some (some (.ref f__law_is_scheme)))
    (l__law_is_scheme : K.lookup f__law_is_scheme = some ⟨oc__law_is_scheme, od__law_is_scheme, .func (PySem.W.fnOf "_law_is_scheme" "_law_is_scheme" (defArgs s__law_is_scheme) (defBody s__law_is_scheme) (defScope s__law_is_scheme) .none kV__law_is_scheme dc__law_is_scheme pm__law_is_scheme an__law_is_scheme cd__law_is_scheme ct__law_is_scheme), sl__law_is_scheme⟩)
    (c__law_is_scheme : PySem.W.codeIn K cd__law_is_scheme "_law_is_scheme" = true)
    (k__law_is_scheme : PySem.W.keepIn K (.ref f__law_is_scheme) = true)
    (a__law_near : PySem.W.nsIn K mainGlobals "_law_near" = some (some (.ref f__law_near)))
    (l__law_near : K.lookup f__law_near = some ⟨oc__law_near, od__law_near, .func (PySem.W.fnOf "_law_near" "_law_near" (defArgs s__law_near) (defBody s__law_near) (defScope s__law_near) .none kV__law_near dc__law_near pm__law_near an__law_near cd__law_near ct__law_near), sl__law_near⟩)
    (c__law_near : PySem.W.codeIn K cd__law_near "_law_near" = true)
    (k__law_near : PySem.W.keepIn K (.ref f__law_near) = true)
    (a_law : PySem.W.nsIn K mainGlobals "law" = some (some (.ref f_law)))
    (l_law : K.lookup f_law = some ⟨oc_law, od_law, .func (PySem.W.fnOf "law" "law" (defArgs s_law) (defBody s_law) (defScope s_law) .none kV_law dc_law pm_law an_law cd_law ct_law), sl_law⟩)
    (c_law : PySem.W.codeIn K cd_law "law" = true)
    (k_law : PySem.W.keepIn K (.ref f_law) = true)
    (a_GREATEST_BOUND : PySem.W.nsIn K mainGlobals "GREATEST_BOUND" = some (some (.int 1000000 tk_GREATEST_BOUND)))
    (z_len : PySem.W.nsIn K mainGlobals "len" = some none)
    (z_isinstance : PySem.W.nsIn K mainGlobals "isinstance" = some none)
    (z_tuple : PySem.W.nsIn K mainGlobals "tuple" = some none)
    (z_list : PySem.W.nsIn K mainGlobals "list" = some none)
    (z_enumerate : PySem.W.nsIn K mainGlobals "enumerate" = some none)
    (z_all : PySem.W.nsIn K mainGlobals "all" = some none)
    (z_any : PySem.W.nsIn K mainGlobals "any" = some none)
    (z_sorted : PySem.W.nsIn K mainGlobals "sorted" = some none)
    (z_set : PySem.W.nsIn K mainGlobals "set" = some none)
    (z_zip : PySem.W.nsIn K mainGlobals "zip" = some none)
    (z_int : PySem.W.nsIn K mainGlobals "int" = some none)
    (z_range : PySem.W.nsIn K mainGlobals "range" = some none)
    (z_min : PySem.W.nsIn K mainGlobals "min" = some none)
    (z_max : PySem.W.nsIn K mainGlobals "max" = some none)
    (z_repr : PySem.W.nsIn K mainGlobals "repr" = some none)
    (z_sum : PySem.W.nsIn K mainGlobals "sum" = some none)
    (z_str : PySem.W.nsIn K mainGlobals "str" = some none)
    (z_bool : PySem.W.nsIn K mainGlobals "bool" = some none)
    (z_dict : PySem.W.nsIn K mainGlobals "dict" = some none) :
    ∃ fd : FuncData, (∀ (s : Shared) (v : Value), BindsTo s fd ⟨[v], []⟩ [("script", v)]) ∧ ∀ base : Heap, K.In base → base.Ns mainGlobals mg → AtA l.prog w K mg base callerA fa fd ["script"] (spLaw K) := by
  have e := hfa.symm.trans (PySem.W.mg_of X G a_law)
  cases e
  have E_is_integer : Ent K mg "is_integer" s_is_integer ["value"] _ _ := ent_of l_is_integer c_is_integer k_is_integer (PySem.W.mg_of X G a_is_integer) fun _ _ _ _ _ _ us hl => match us, hl with | [_], _ => rfl
  have E_lies_between : Ent K mg "lies_between" s_lies_between ["value", "low", "high"] _ _ := ent_of l_lies_between c_lies_between k_lies_between (PySem.W.mg_of X G a_lies_between) fun _ _ _ _ _ _ us hl => match us, hl with | [_, _, _], _ => rfl
  have E_is_tuple_of : Ent K mg "is_tuple_of" s_is_tuple_of ["value", "many"] _ _ := ent_of l_is_tuple_of c_is_tuple_of k_is_tuple_of (PySem.W.mg_of X G a_is_tuple_of) fun _ _ _ _ _ _ us hl => match us, hl with | [_, _], _ => rfl
  have E_picked : Ent K mg "picked" s_picked ["row", "columns"] _ _ := ent_of l_picked c_picked k_picked (PySem.W.mg_of X G a_picked) fun _ _ _ _ _ _ us hl => match us, hl with | [_, _], _ => rfl
  have E__are_bounds : Ent K mg "_are_bounds" s__are_bounds ["value"] _ _ := ent_of l__are_bounds c__are_bounds k__are_bounds (PySem.W.mg_of X G a__are_bounds) fun _ _ _ _ _ _ us hl => match us, hl with | [_], _ => rfl
  have E__are_columns : Ent K mg "_are_columns" s__are_columns ["value"] _ _ := ent_of l__are_columns c__are_columns k__are_columns (PySem.W.mg_of X G a__are_columns) fun _ _ _ _ _ _ us hl => match us, hl with | [_], _ => rfl
  have E__are_different_columns : Ent K mg "_are_different_columns" s__are_different_columns ["value", "many"] _ _ := ent_of l__are_different_columns c__are_different_columns k__are_different_columns (PySem.W.mg_of X G a__are_different_columns) fun _ _ _ _ _ _ us hl => match us, hl with | [_, _], _ => rfl
  have E__is_key : Ent K mg "_is_key" s__is_key ["value", "many"] _ _ := ent_of l__is_key c__is_key k__is_key (PySem.W.mg_of X G a__is_key) fun _ _ _ _ _ _ us hl => match us, hl with | [_, _], _ => rfl
  have E__is_reference : Ent K mg "_is_reference" s__is_reference ["value", "columns", "earlier"] _ _ := ent_of l__is_reference c__is_reference k__is_reference (PySem.W.mg_of X G a__is_reference) fun _ _ _ _ _ _ us hl => match us, hl with | [_, _, _], _ => rfl
  have E__is_table : Ent K mg "_is_table" s__is_table ["value", "earlier"] _ _ := ent_of l__is_table c__is_table k__is_table (PySem.W.mg_of X G a__is_table) fun _ _ _ _ _ _ us hl => match us, hl with | [_, _], _ => rfl
  have E_is_scheme : Ent K mg "is_scheme" s_is_scheme ["value"] _ _ := ent_of l_is_scheme c_is_scheme k_is_scheme (PySem.W.mg_of X G a_is_scheme) fun _ _ _ _ _ _ us hl => match us, hl with | [_], _ => rfl
  have E__law_open : Ent K mg "_law_open" s__law_open ["script"] _ _ := ent_of l__law_open c__law_open k__law_open (PySem.W.mg_of X G a__law_open) fun _ _ _ _ _ _ us hl => match us, hl with | [_], _ => rfl
  have E__law_spread : Ent K mg "_law_spread" s__law_spread ["cell", "at"] _ _ := ent_of l__law_spread c__law_spread k__law_spread (PySem.W.mg_of X G a__law_spread) fun _ _ _ _ _ _ us hl => match us, hl with | [_, _], _ => rfl
  have E__law_take : Ent K mg "_law_take" s__law_take ["pen", "amount"] _ _ := ent_of l__law_take c__law_take k__law_take (PySem.W.mg_of X G a__law_take) fun _ _ _ _ _ _ us hl => match us, hl with | [_, _], _ => rfl
  have E__law_same : Ent K mg "_law_same" s__law_same ["found", "due"] _ _ := ent_of l__law_same c__law_same k__law_same (PySem.W.mg_of X G a__law_same) fun _ _ _ _ _ _ us hl => match us, hl with | [_, _], _ => rfl
  have E__law_one_of : Ent K mg "_law_one_of" s__law_one_of ["pen", "some"] _ _ := ent_of l__law_one_of c__law_one_of k__law_one_of (PySem.W.mg_of X G a__law_one_of) fun _ _ _ _ _ _ us hl => match us, hl with | [_, _], _ => rfl
  have E__law_between : Ent K mg "_law_between" s__law_between ["value", "low", "high"] _ _ := ent_of l__law_between c__law_between k__law_between (PySem.W.mg_of X G a__law_between) fun _ _ _ _ _ _ us hl => match us, hl with | [_, _, _], _ => rfl
  have E__law_draw_bounds : Ent K mg "_law_draw_bounds" s__law_draw_bounds ["pen"] _ _ := ent_of l__law_draw_bounds c__law_draw_bounds k__law_draw_bounds (PySem.W.mg_of X G a__law_draw_bounds) fun _ _ _ _ _ _ us hl => match us, hl with | [_], _ => rfl
  have E__law_draw_key : Ent K mg "_law_draw_key" s__law_draw_key ["pen", "many"] _ _ := ent_of l__law_draw_key c__law_draw_key k__law_draw_key (PySem.W.mg_of X G a__law_draw_key) fun _ _ _ _ _ _ us hl => match us, hl with | [_, _], _ => rfl
  have E__law_draw_reference : Ent K mg "_law_draw_reference" s__law_draw_reference ["pen", "tables", "bounds"] _ _ := ent_of l__law_draw_reference c__law_draw_reference k__law_draw_reference (PySem.W.mg_of X G a__law_draw_reference) fun _ _ _ _ _ _ us hl => match us, hl with | [_, _, _], _ => rfl
  have E__law_draw_table : Ent K mg "_law_draw_table" s__law_draw_table ["pen", "tables", "columns"] _ _ := ent_of l__law_draw_table c__law_draw_table k__law_draw_table (PySem.W.mg_of X G a__law_draw_table) fun _ _ _ _ _ _ us hl => match us, hl with | [_, _, _], _ => rfl
  have E__law_draw_scheme : Ent K mg "_law_draw_scheme" s__law_draw_scheme ["pen", "many", "columns"] _ _ := ent_of l__law_draw_scheme c__law_draw_scheme k__law_draw_scheme (PySem.W.mg_of X G a__law_draw_scheme) fun _ _ _ _ _ _ us hl => match us, hl with | [_, _, _], _ => rfl
  have E__law_odd : Ent K mg "_law_odd" s__law_odd ["pen"] _ _ := ent_of l__law_odd c__law_odd k__law_odd (PySem.W.mg_of X G a__law_odd) fun _ _ _ _ _ _ us hl => match us, hl with | [_], _ => rfl
  have E__law_bent : Ent K mg "_law_bent" s__law_bent ["pen", "value"] _ _ := ent_of l__law_bent c__law_bent k__law_bent (PySem.W.mg_of X G a__law_bent) fun _ _ _ _ _ _ us hl => match us, hl with | [_, _], _ => rfl
  have E__law_off : Ent K mg "_law_off" s__law_off ["pen", "value"] _ _ := ent_of l__law_off c__law_off k__law_off (PySem.W.mg_of X G a__law_off) fun _ _ _ _ _ _ us hl => match us, hl with | [_, _], _ => rfl
  have E__law_is_bounds : Ent K mg "_law_is_bounds" s__law_is_bounds ["value"] _ _ := ent_of l__law_is_bounds c__law_is_bounds k__law_is_bounds (PySem.W.mg_of X G a__law_is_bounds) fun _ _ _ _ _ _ us hl => match us, hl with | [_], _ => rfl
  have E__law_are_columns : Ent K mg "_law_are_columns" s__law_are_columns ["value", "many"] _ _ := ent_of l__law_are_columns c__law_are_columns k__law_are_columns (PySem.W.mg_of X G a__law_are_columns) fun _ _ _ _ _ _ us hl => match us, hl with | [_, _], _ => rfl
  have E__law_is_reference : Ent K mg "_law_is_reference" s__law_is_reference ["tables", "bounds", "value"] _ _ := ent_of l__law_is_reference c__law_is_reference k__law_is_reference (PySem.W.mg_of X G a__law_is_reference) fun _ _ _ _ _ _ us hl => match us, hl with | [_, _, _], _ => rfl
  have E__law_is_scheme : Ent K mg "_law_is_scheme" s__law_is_scheme ["value"] _ _ := ent_of l__law_is_scheme c__law_is_scheme k__law_is_scheme (PySem.W.mg_of X G a__law_is_scheme) fun _ _ _ _ _ _ us hl => match us, hl with | [_], _ => rfl
  have E__law_near : Ent K mg "_law_near" s__law_near ["pen", "scheme"] _ _ := ent_of l__law_near c__law_near k__law_near (PySem.W.mg_of X G a__law_near) fun _ _ _ _ _ _ us hl => match us, hl with | [_, _], _ => rfl
  have E_law : Ent K mg "law" s_law ["script"] _ _ := ent_of l_law c_law k_law (PySem.W.mg_of X G a_law) fun _ _ _ _ _ _ us hl => match us, hl with | [_], _ => rfl
  have c_GREATEST_BOUND := PySem.W.mg_of X G a_GREATEST_BOUND
  have B : NoB mg := fun x hx => by
    simp only [List.mem_cons, List.not_mem_nil, or_false] at hx
    rcases hx with rfl | rfl | rfl | rfl | rfl | rfl | rfl | rfl | rfl | rfl | rfl | rfl | rfl | rfl | rfl | rfl | rfl | rfl | rfl
    · exact PySem.W.mg_none_of X G z_len
    · exact PySem.W.mg_none_of X G z_isinstance
    · exact PySem.W.mg_none_of X G z_tuple
    · exact PySem.W.mg_none_of X G z_list
    · exact PySem.W.mg_none_of X G z_enumerate
    · exact PySem.W.mg_none_of X G z_all
    · exact PySem.W.mg_none_of X G z_any
    · exact PySem.W.mg_none_of X G z_sorted
    · exact PySem.W.mg_none_of X G z_set
    · exact PySem.W.mg_none_of X G z_zip
    · exact PySem.W.mg_none_of X G z_int
    · exact PySem.W.mg_none_of X G z_range
    · exact PySem.W.mg_none_of X G z_min
    · exact PySem.W.mg_none_of X G z_max
    · exact PySem.W.mg_none_of X G z_repr
    · exact PySem.W.mg_none_of X G z_sum
    · exact PySem.W.mg_none_of X G z_str
    · exact PySem.W.mg_none_of X G z_bool
    · exact PySem.W.mg_none_of X G z_dict
  refine ⟨PySem.W.fnOf "law" "law" (defArgs s_law) (defBody s_law) (defScope s_law) .none kV_law dc_law pm_law an_law cd_law ct_law, fun s v => .of_eq rfl, fun base _ _ => ?_⟩
  have G_is_integer := ok_is_integer (P := l.prog) (w := w) (base := base) B   E_is_integer
  have G_lies_between := ok_lies_between (P := l.prog) (w := w) (base := base) B E_is_integer G_is_integer  E_lies_between
  have G_is_tuple_of := ok_is_tuple_of (P := l.prog) (w := w) (base := base) B   E_is_tuple_of
  have G_picked := ok_picked (P := l.prog) (w := w) (base := base) B   E_picked
  have G__are_bounds := ok__are_bounds (P := l.prog) (w := w) (base := base) B E_is_tuple_of G_is_tuple_of E_lies_between G_lies_between c_GREATEST_BOUND E__are_bounds
  have G__are_columns := ok__are_columns (P := l.prog) (w := w) (base := base) B E__are_bounds G__are_bounds  E__are_columns
  have G__are_different_columns := ok__are_different_columns (P := l.prog) (w := w) (base := base) B E_lies_between G_lies_between  E__are_different_columns
  have G__is_key := ok__is_key (P := l.prog) (w := w) (base := base) B E__are_different_columns G__are_different_columns  E__is_key
  have G__is_reference := ok__is_reference (P := l.prog) (w := w) (base := base) B E__are_different_columns G__are_different_columns E_is_tuple_of G_is_tuple_of E_lies_between G_lies_between E_picked G_picked  E__is_reference
  have G__is_table := ok__is_table (P := l.prog) (w := w) (base := base) B E__are_columns G__are_columns E__is_key G__is_key E__is_reference G__is_reference E_is_tuple_of G_is_tuple_of  E__is_table
  have G_is_scheme := ok_is_scheme (P := l.prog) (w := w) (base := base) B E__is_table G__is_table  E_is_scheme
  have G__law_open := ok__law_open (P := l.prog) (w := w) (base := base) B   E__law_open
  have G__law_spread := ok__law_spread (P := l.prog) (w := w) (base := base) B   E__law_spread
  have G__law_take := ok__law_take (P := l.prog) (w := w) (base := base) B m_spread E__law_spread G__law_spread E__law_take.F
  have G__law_same := ok__law_same (P := l.prog) (w := w) (base := base) B   E__law_same 12
  have G__law_one_of := ok__law_one_of (P := l.prog) (w := w) (base := base) B E__law_take G__law_take  E__law_one_of
  have G__law_between := ok__law_between (P := l.prog) (w := w) (base := base) B   E__law_between
  have G__law_draw_bounds := ok__law_draw_bounds (P := l.prog) (w := w) (base := base) B E__law_one_of G__law_one_of E__law_take G__law_take  E__law_draw_bounds
  have G__law_draw_key := ok__law_draw_key (P := l.prog) (w := w) (base := base) B E__law_take G__law_take  E__law_draw_key
  have G__law_draw_reference := ok__law_draw_reference (P := l.prog) (w := w) (base := base) B E__law_one_of G__law_one_of  E__law_draw_reference
  have G__law_draw_table := ok__law_draw_table (P := l.prog) (w := w) (base := base) B E__law_draw_bounds G__law_draw_bounds E__law_draw_key G__law_draw_key E__law_draw_reference G__law_draw_reference E__law_one_of G__law_one_of E__law_take G__law_take  E__law_draw_table
  have G__law_draw_scheme := ok__law_draw_scheme (P := l.prog) (w := w) (base := base) B E__law_draw_table G__law_draw_table E__law_take G__law_take  E__law_draw_scheme
  have G__law_odd := ok__law_odd (P := l.prog) (w := w) (base := base) B E__law_one_of G__law_one_of  E__law_odd
  have G__law_bent := ok__law_bent (P := l.prog) (w := w) (base := base) B E__law_odd G__law_odd E__law_take G__law_take  E__law_bent 12
  have G__law_off := ok__law_off (P := l.prog) (w := w) (base := base) B E__law_one_of G__law_one_of E__law_take G__law_take  E__law_off 12
  have G__law_is_bounds := ok__law_is_bounds (P := l.prog) (w := w) (base := base) B E__law_between G__law_between  E__law_is_bounds
  have G__law_are_columns := ok__law_are_columns (P := l.prog) (w := w) (base := base) B E__law_between G__law_between  E__law_are_columns
  have G__law_is_reference := ok__law_is_reference (P := l.prog) (w := w) (base := base) B E__law_are_columns G__law_are_columns E__law_between G__law_between  E__law_is_reference
  have G__law_is_scheme := ok__law_is_scheme (P := l.prog) (w := w) (base := base) B E__law_are_columns G__law_are_columns E__law_is_bounds G__law_is_bounds E__law_is_reference G__law_is_reference  E__law_is_scheme
  have G__law_near := ok__law_near (P := l.prog) (w := w) (base := base) B E__law_one_of G__law_one_of E__law_take G__law_take  E__law_near
  refine Fun.atA (k := 16) ⟨rfl, by decide, by decide⟩ E_law.F sc_law (fun vs H Q E h => ?_) (fun cdv s H vs Q E hr h => ?_)
  · obtain ⟨a, ns, rfl, _⟩ := h
    rfl
  · obtain ⟨a, ns, rfl, hS, hns, q⟩ := h
    have R := run_law (P := l.prog) (w := w) (base := base) B E__law_bent G__law_bent E__law_draw_scheme G__law_draw_scheme E__law_is_scheme G__law_is_scheme E__law_near G__law_near E__law_off G__law_off E__law_open G__law_open E__law_same G__law_same E_is_scheme G_is_scheme cdv s H E _ hr
    exact law_run (N := ["script", "pen", "turn", "scheme", "values", "odd", "value", "text", "again"]) (i := 1) (m := 9) (T1 := T_law1) (T2 := T_law2) R (by decide) (by decide) hS (m_law1 hns) m_law2 q
end K01
open PySem PySem.W PyProof.Rows
set_option maxHeartbeats 0 in
theorem PySem.Challenge.cw_watchzones_k01_schemes_recognized_holds : PySem.Challenge.rw_watchzones_k01_schemes_recognized.Holds := by
  w_on; o_law; k_head; (case hw => w_witness2)
  k_fill
  refine DL.walk_at (l := PySem.Challenge.rw_watchzones_k01_schemes_recognized) (n := 63) (x := "script") (sp := fun w => K01.spLaw _) rfl (by decide) rfl (fun w h Y => PySem.W.kIn_of Y) ?F (fun _ _ a ns hl _ hS => ⟨a, ns, rfl, hS, hl, fun _ => rfl⟩)
  case F =>
    intro w mg fa h KX G hmg
    refine' K01.all_mk KX G hmg ?a_is_integer ?l_is_integer ?c_is_integer ?k_is_integer ?a_lies_between ?l_lies_between ?c_lies_between ?k_lies_between ?a_is_tuple_of ?l_is_tuple_of ?c_is_tuple_of ?k_is_tuple_of ?a_picked ?l_picked ?c_picked ?k_picked ?a__are_bounds ?l__are_bounds ?c__are_bounds ?k__are_bounds ?a__are_columns ?l__are_columns ?c__are_columns ?k__are_columns ?a__are_different_columns ?l__are_different_columns ?c__are_different_columns ?k__are_different_columns ?a__is_key ?l__is_key ?c__is_key ?k__is_key ?a__is_reference ?l__is_reference ?c__is_reference ?k__is_reference ?a__is_table ?l__is_table ?c__is_table ?k__is_table ?a_is_scheme ?l_is_scheme ?c_is_scheme ?k_is_scheme ?a__law_open ?l__law_open ?c__law_open ?k__law_open ?a__law_spread ?l__law_spread ?c__law_spread ?k__law_spread ?a__law_take ?l__law_take ?c__law_take ?k__law_take ?a__law_same ?l__law_same ?c__law_same ?k__law_same ?a__law_one_of ?l__law_one_of ?c__law_one_of ?k__law_one_of ?a__law_between ?l__law_between ?c__law_between ?k__law_between ?a__law_draw_bounds ?l__law_draw_bounds ?c__law_draw_bounds ?k__law_draw_bounds ?a__law_draw_key ?l__law_draw_key ?c__law_draw_key ?k__law_draw_key ?a__law_draw_reference ?l__law_draw_reference ?c__law_draw_reference ?k__law_draw_reference ?a__law_draw_table ?l__law_draw_table ?c__law_draw_table ?k__law_draw_table ?a__law_draw_scheme ?l__law_draw_scheme ?c__law_draw_scheme ?k__law_draw_scheme ?a__law_odd ?l__law_odd ?c__law_odd ?k__law_odd ?a__law_bent ?l__law_bent ?c__law_bent ?k__law_bent ?a__law_off ?l__law_off ?c__law_off ?k__law_off ?a__law_is_bounds ?l__law_is_bounds ?c__law_is_bounds ?k__law_is_bounds ?a__law_are_columns ?l__law_are_columns ?c__law_are_columns ?k__law_are_columns ?a__law_is_reference ?l__law_is_reference ?c__law_is_reference ?k__law_is_reference ?a__law_is_scheme ?l__law_is_scheme ?c__law_is_scheme ?k__law_is_scheme ?a__law_near ?l__law_near ?c__law_near ?k__law_near ?a_law ?l_law ?c_law ?k_law ?a_GREATEST_BOUND ?z_len ?z_isinstance ?z_tuple ?z_list ?z_enumerate ?z_all ?z_any ?z_sorted ?z_set ?z_zip ?z_int ?z_range ?z_min ?z_max ?z_repr ?z_sum ?z_str ?z_bool ?z_dict
    (case a_is_integer => k_is); (case l_is_integer => k_is); (case c_is_integer => k_is); (case k_is_integer => k_is)
    (case a_lies_between => k_is); (case l_lies_between => k_is); (case c_lies_between => k_is); (case k_lies_between => k_is)
    (case a_is_tuple_of => k_is); (case l_is_tuple_of => k_is); (case c_is_tuple_of => k_is); (case k_is_tuple_of => k_is)
    (case a_picked => k_is); (case l_picked => k_is); (case c_picked => k_is); (case k_picked => k_is)
    (case a__are_bounds => k_is); (case l__are_bounds => k_is); (case c__are_bounds => k_is); (case k__are_bounds => k_is)
    (case a__are_columns => k_is); (case l__are_columns => k_is); (case c__are_columns => k_is); (case k__are_columns => k_is)
    (case a__are_different_columns => k_is); (case l__are_different_columns => k_is); (case c__are_different_columns => k_is); (case k__are_different_columns => k_is)
    (case a__is_key => k_is); (case l__is_key => k_is); (case c__is_key => k_is); (case k__is_key => k_is)
    (case a__is_reference => k_is); (case l__is_reference => k_is); (case c__is_reference => k_is); (case k__is_reference => k_is)
    (case a__is_table => k_is); (case l__is_table => k_is); (case c__is_table => k_is); (case k__is_table => k_is)
    (case a_is_scheme => k_is); (case l_is_scheme => k_is); (case c_is_scheme => k_is); (case k_is_scheme => k_is)
    (case a__law_open => k_is); (case l__law_open => k_is); (case c__law_open => k_is); (case k__law_open => k_is)
    (case a__law_spread => k_is); (case l__law_spread => k_is); (case c__law_spread => k_is); (case k__law_spread => k_is)
    (case a__law_take => k_is); (case l__law_take => k_is); (case c__law_take => k_is); (case k__law_take => k_is)
    (case a__law_same => k_is); (case l__law_same => k_is); (case c__law_same => k_is); (case k__law_same => k_is)
    (case a__law_one_of => k_is); (case l__law_one_of => k_is); (case c__law_one_of => k_is); (case k__law_one_of => k_is)
    (case a__law_between => k_is); (case l__law_between => k_is); (case c__law_between => k_is); (case k__law_between => k_is)
    (case a__law_draw_bounds => k_is); (case l__law_draw_bounds => k_is); (case c__law_draw_bounds => k_is); (case k__law_draw_bounds => k_is)
    (case a__law_draw_key => k_is); (case l__law_draw_key => k_is); (case c__law_draw_key => k_is); (case k__law_draw_key => k_is)
    (case a__law_draw_reference => k_is); (case l__law_draw_reference => k_is); (case c__law_draw_reference => k_is); (case k__law_draw_reference => k_is)
    (case a__law_draw_table => k_is); (case l__law_draw_table => k_is); (case c__law_draw_table => k_is); (case k__law_draw_table => k_is)
    (case a__law_draw_scheme => k_is); (case l__law_draw_scheme => k_is); (case c__law_draw_scheme => k_is); (case k__law_draw_scheme => k_is)
    (case a__law_odd => k_is); (case l__law_odd => k_is); (case c__law_odd => k_is); (case k__law_odd => k_is)
    (case a__law_bent => k_is); (case l__law_bent => k_is); (case c__law_bent => k_is); (case k__law_bent => k_is)
    (case a__law_off => k_is); (case l__law_off => k_is); (case c__law_off => k_is); (case k__law_off => k_is)
    (case a__law_is_bounds => k_is); (case l__law_is_bounds => k_is); (case c__law_is_bounds => k_is); (case k__law_is_bounds => k_is)
    (case a__law_are_columns => k_is); (case l__law_are_columns => k_is); (case c__law_are_columns => k_is); (case k__law_are_columns => k_is)
    (case a__law_is_reference => k_is); (case l__law_is_reference => k_is); (case c__law_is_reference => k_is); (case k__law_is_reference => k_is)
    (case a__law_is_scheme => k_is); (case l__law_is_scheme => k_is); (case c__law_is_scheme => k_is); (case k__law_is_scheme => k_is)
    (case a__law_near => k_is); (case l__law_near => k_is); (case c__law_near => k_is); (case k__law_near => k_is)
    (case a_law => k_is); (case l_law => k_is); (case c_law => k_is); (case k_law => k_is)
    (case a_GREATEST_BOUND => k_is); (case z_len => k_is); (case z_isinstance => k_is); (case z_tuple => k_is)
    (case z_list => k_is); (case z_enumerate => k_is); (case z_all => k_is); (case z_any => k_is)
    (case z_sorted => k_is); (case z_set => k_is); (case z_zip => k_is); (case z_int => k_is)
    (case z_range => k_is); (case z_min => k_is); (case z_max => k_is); (case z_repr => k_is)
    (case z_sum => k_is); (case z_str => k_is); (case z_bool => k_is); (case z_dict => k_is)
