/- Proved here: texts joined: AlignPure, AlignPk, MergePure, TxtFew, TxtCut, TxtRef. -/
import Derived.Test.YtoopdgohdeddoaaGreatDoorBs02
import Derived.Test.YtoopdgohdeddoaaGreatDoorBs03
import Derived.WalkKit
import Derived.Test.YtoopdgohdeddoaaGreatDoorChecked
import Derived.WalkLawsBesides
import Derived.BigFrame
import Derived.Deep.QuietTactic
import Derived.BigQuiet
/- Proved here, without conditions: plain facts on chunks: what lies one behind the other, and has in stable chunks just the places that all matches pair, is one list alone. -/
namespace Go.Proofs.YtoopdgohdeddoaaGreatDoor
set_option linter.unusedVariables false

/-- A span; a chunk: is it stable, the base's span, the sides' spans. -/
abbrev Sp := Int × Int
abbrev Ck := Bool × Sp × List Sp

/-- With which place one is paired; -1: with none. -/
def pl (l : List Int) (k : Int) : Int := (l[k.toNat]?).getD (-1)
/-- Does each match pair a place? -/
def allP (ms : List (List Int)) (k : Int) : Bool := ms.all fun l => decide (0 ≤ pl l k)
def ends (c : Ck) : List Int := c.2.2.map fun s => s.2
def emptyB (c : Ck) : Bool := !(decide (c.2.1.1 < c.2.1.2) || c.2.2.any fun s => decide (s.1 < s.2))

/-- A chunk that may stand behind one that is stable or not (prev), from place b of the base, and the places a of the sides. -/
structure Head (c : Ck) (prev : Option Bool) (b : Int) (a : List Int) : Prop where
  base : c.2.1.1 = b
  le : b ≤ c.2.1.2
  len : c.2.2.length = a.length
  alt : prev ≠ some c.1
  full : emptyB c = false
  side : ∀ (s : Nat) (sp : Sp) (v : Int), c.2.2[s]? = some sp → a[s]? = some v → sp.1 = v ∧ v ≤ sp.2 ∧ (c.1 = true → sp.2 - sp.1 = c.2.1.2 - c.2.1.1)
/-- Chunks one behind the other, to the ends. -/
def Cov (m : Int) (sizes : List Int) : List Ck → Option Bool → Int → List Int → Prop
  | [], _, b, a => a = sizes ∧ b = m
  | c :: cs, prev, b, a => Head c prev b a ∧ Cov m sizes cs (some c.1) c.2.1.2 (ends c)
/-- In a stable chunk all places are paired by all, place by place; in another one none is by all. -/
def Places (ms : List (List Int)) (c : Ck) : Prop :=
  ∀ k, c.2.1.1 ≤ k → k < c.2.1.2 → allP ms k = c.1 ∧ (c.1 = true → ∀ (s : Nat) (l : List Int) (sp : Sp), ms[s]? = some l → c.2.2[s]? = some sp → pl l k = sp.1 + k - c.2.1.1)

theorem ends_len (c : Ck) : (ends c).length = c.2.2.length := by simp [ends]
theorem ends_at {c : Ck} {s : Nat} {v : Int} (h : (ends c)[s]? = some v) : ∃ sp : Sp, c.2.2[s]? = some sp ∧ sp.2 = v := by
  unfold ends at h
  rw [List.getElem?_map] at h
  cases hc : c.2.2[s]? with
  | none => rw [hc] at h; cases h
  | some sp => rw [hc] at h; exact ⟨sp, rfl, by simpa using h⟩
theorem at_of {a : List Int} {c : Ck} {s : Nat} {sp : Sp} (hl : c.2.2.length = a.length) (h : c.2.2[s]? = some sp) : ∃ v, a[s]? = some v := by
  have := (List.getElem?_eq_some_iff.1 h).1
  exact ⟨a[s], List.getElem?_eq_getElem (by omega)⟩
theorem sp_of {a : List Int} {c : Ck} {s : Nat} {v : Int} (hl : c.2.2.length = a.length) (h : a[s]? = some v) : ∃ sp, c.2.2[s]? = some sp := by
  have := (List.getElem?_eq_some_iff.1 h).1
  exact ⟨c.2.2[s], List.getElem?_eq_getElem (by omega)⟩

section
variable {m : Int} {sizes : List Int} {ms : List (List Int)}
theorem Cov.le : ∀ {cs : List Ck} {prev : Option Bool} {b : Int} {a : List Int}, Cov m sizes cs prev b a → b ≤ m ∧ a.length = sizes.length ∧ ∀ (s : Nat) (v z : Int), a[s]? = some v → sizes[s]? = some z → v ≤ z
  | [], prev, b, a, h => by
    obtain ⟨rfl, rfl⟩ := h
    exact ⟨Int.le_refl _, rfl, fun s v z h1 h2 => by rw [h1] at h2; injection h2 with h2; omega⟩
  | c :: cs, prev, b, a, h => by
    obtain ⟨h1, h2⟩ := h
    obtain ⟨k1, k2, k3⟩ := Cov.le h2
    have hl := h1.len
    rw [ends_len] at k2
    refine ⟨by have := h1.le; omega, by omega, fun s v z hv hz => ?_⟩
    obtain ⟨sp, hsp⟩ := sp_of hl hv
    obtain ⟨e1, e2, _⟩ := h1.side s sp v hsp hv
    have := k3 s sp.2 z (by unfold ends; rw [List.getElem?_map, hsp]; rfl) hz
    omega
theorem Head.one {c : Ck} {prev : Option Bool} {b : Int} {a : List Int} (h : Head c prev b a) (hc : c.1 = true) : b < c.2.1.2 := by
  have hs := h.full
  have hb := h.base
  have hle := h.le
  unfold emptyB at hs
  simp only [Bool.not_eq_false', Bool.or_eq_true, decide_eq_true_eq, List.any_eq_true] at hs
  rcases hs with hs | ⟨sp, hm, hlt⟩
  · omega
  · obtain ⟨s, hs⟩ := List.mem_iff_getElem?.1 hm
    obtain ⟨v, hv⟩ := at_of h.len hs
    have := (h.side s sp v hs hv).2.2 hc
    omega

/-- All matches pair place b with just the places a. -/
def Stands (ms : List (List Int)) (b : Int) (a : List Int) : Prop := allP ms b = true ∧ ∀ (s : Nat) (l : List Int) (v : Int), ms[s]? = some l → a[s]? = some v → pl l b = v

theorem stands_of {c : Ck} {cs : List Ck} {prev : Option Bool} {b : Int} {a : List Int} (h : Cov m sizes (c :: cs) prev b a) (hp : Places ms c) (hc : c.1 = true) : b < m ∧ Stands ms b a := by
  have hlt := h.1.one hc
  have hb := h.1.base
  obtain ⟨h1, h2⟩ := hp b (by omega) hlt
  refine ⟨by have := (Cov.le h.2).1; omega, by rw [h1, hc], fun s l v hl hv => ?_⟩
  obtain ⟨sp, hsp⟩ := sp_of h.1.len hv
  have := (h.1.side s sp v hsp hv).1
  rw [h2 hc s l sp hl hsp]
  omega
theorem stable_of (hml : ms.length = sizes.length) {c : Ck} {cs : List Ck} {prev : Option Bool} {b : Int} {a : List Int} (h : Cov m sizes (c :: cs) prev b a) (hp : ∀ d ∈ c :: cs, Places ms d) (hb : b < m) (hs : Stands ms b a) : c.1 = true := by
  cases hc : c.1 with
  | true => rfl
  | false =>
    exfalso
    have hbb := h.1.base
    rcases Int.lt_or_le b c.2.1.2 with hlt | hge
    · have := (hp c (List.mem_cons_self ..) b (by omega) hlt).1
      rw [hs.1, hc] at this
      cases this
    · have hle := h.1.le
      have hto : c.2.1.2 = b := by omega
      cases cs with
      | nil =>
        have := h.2.2
        omega
      | cons e cs =>
        have he : e.1 = true := by
          have := h.2.1.alt
          rw [hc] at this
          cases he : e.1 with
          | true => rfl
          | false => rw [he] at this; exact absurd rfl this
        have hst := (stands_of h.2 (hp e (by simp)) he).2
        rw [hto] at hst
        have hse := h.1.full
        unfold emptyB at hse
        simp only [Bool.not_eq_false', Bool.or_eq_true, decide_eq_true_eq, List.any_eq_true] at hse
        rcases hse with hse | ⟨sp, hm, hlt⟩
        · omega
        · obtain ⟨s, hsp⟩ := List.mem_iff_getElem?.1 hm
          obtain ⟨v, hv⟩ := at_of h.1.len hsp
          have hl2 := (Cov.le h).2.1
          have hsl := (List.getElem?_eq_some_iff.1 hv).1
          have hl : ms[s]? = some ms[s] := List.getElem?_eq_getElem (by omega)
          have q1 := hs.2 s _ v hl hv
          have q2 := hst.2 s _ sp.2 hl (by unfold ends; rw [List.getElem?_map, hsp]; rfl)
          have := (h.1.side s sp v hsp hv).1
          omega

theorem spans_eq {x y : List Sp} (hl : x.length = y.length) (h : ∀ (s : Nat) (p q : Sp), x[s]? = some p → y[s]? = some q → p = q) : x = y := by
  refine List.ext_getElem? fun s => ?_
  rcases Nat.lt_or_ge s x.length with hs | hs
  · have h1 : x[s]? = some x[s] := List.getElem?_eq_getElem hs
    have h2 : y[s]? = some y[s] := List.getElem?_eq_getElem (by omega)
    rw [h1, h2, h s _ _ h1 h2]
  · rw [List.getElem?_eq_none hs, List.getElem?_eq_none (by omega)]

theorem not_less (hml : ms.length = sizes.length) {c d : Ck} {cs ds : List Ck} {prev : Option Bool} {b : Int} {a : List Int} (hc : Cov m sizes (c :: cs) prev b a) (hd : Cov m sizes (d :: ds) prev b a) (pc : ∀ e ∈ c :: cs, Places ms e) (pd : ∀ e ∈ d :: ds, Places ms e) (he : c.1 = d.1) : ¬ c.2.1.2 < d.2.1.2 := by
  intro hlt
  have hbc := hc.1.base
  have hbd := hd.1.base
  have hlc := hc.1.le
  have hdm := (Cov.le hd.2).1
  have hpd := pd d (List.mem_cons_self ..) c.2.1.2 (by omega) hlt
  cases cs with
  | nil => have := hc.2.2; omega
  | cons e cs =>
    have halt := hc.2.1.alt
    cases hst : c.1 with
    | true =>
      have hef : e.1 = false := by
        rw [hst] at halt
        cases h : e.1 with
        | false => rfl
        | true => rw [h] at halt; exact absurd rfl halt
      have : e.1 = true := stable_of hml hc.2 (fun x hx => pc x (List.mem_cons_of_mem _ hx)) (by omega) ⟨by rw [hpd.1, ← he, hst], fun s l v hl hv => by
        obtain ⟨sp, hsp, e1⟩ := ends_at hv
        obtain ⟨u, hu⟩ := at_of hc.1.len hsp
        obtain ⟨sq, hsq⟩ := sp_of hd.1.len hu
        rw [hpd.2 (by rw [← he, hst]) s l sq hl hsq]
        have k1 := hc.1.side s sp u hsp hu
        have k2 := hd.1.side s sq u hsq hu
        have := k1.2.2 hst
        omega⟩
      rw [hef] at this
      cases this
    | false =>
      have het : e.1 = true := by
        rw [hst] at halt
        cases h : e.1 with
        | true => rfl
        | false => rw [h] at halt; exact absurd rfl halt
      have := (stands_of hc.2 (pc e (by simp)) het).2.1
      rw [hpd.1, ← he, hst] at this
      cases this

/-- Where a chunk that isn't stable ends on the sides. -/
theorem ends_of (hml : ms.length = sizes.length) {c : Ck} {cs : List Ck} {prev : Option Bool} {b : Int} {a : List Int} (hc : Cov m sizes (c :: cs) prev b a) (pc : ∀ e ∈ c :: cs, Places ms e) (hf : c.1 = false) :
    (c.2.1.2 = m → ends c = sizes) ∧ (c.2.1.2 < m → ∀ (s : Nat) (l : List Int) (v : Int), ms[s]? = some l → (ends c)[s]? = some v → pl l c.2.1.2 = v) := by
  cases cs with
  | nil =>
    obtain ⟨h1, h2⟩ := hc.2
    exact ⟨fun _ => h1, fun h => by omega⟩
  | cons e cs =>
    have halt := hc.2.1.alt
    have het : e.1 = true := by
      rw [hf] at halt
      cases h : e.1 with
      | true => rfl
      | false => rw [h] at halt; exact absurd rfl halt
    have := stands_of hc.2 (pc e (by simp)) het
    exact ⟨fun h => by omega, fun _ => this.2.2⟩

/-- There is one such list alone. -/
theorem cov_one (hml : ms.length = sizes.length) : ∀ {cs ds : List Ck} {prev : Option Bool} {b : Int} {a : List Int}, Cov m sizes cs prev b a → Cov m sizes ds prev b a → (∀ e ∈ cs, Places ms e) → (∀ e ∈ ds, Places ms e) → cs = ds
  | [], [], _, _, _, _, _, _, _ => rfl
  | [], d :: ds, prev, b, a, hc, hd, _, _ => by
    exfalso
    obtain ⟨rfl, rfl⟩ := hc
    have h1 := Cov.le hd.2
    have hs := hd.1.full
    have hb := hd.1.base
    unfold emptyB at hs
    simp only [Bool.not_eq_false', Bool.or_eq_true, decide_eq_true_eq, List.any_eq_true] at hs
    rcases hs with hs | ⟨sp, hm, hlt⟩
    · omega
    · obtain ⟨s, hsp⟩ := List.mem_iff_getElem?.1 hm
      obtain ⟨v, hv⟩ := at_of hd.1.len hsp
      have := h1.2.2 s sp.2 v (by unfold ends; rw [List.getElem?_map, hsp]; rfl) hv
      have := (hd.1.side s sp v hsp hv).1
      omega
  | c :: cs, [], prev, b, a, hc, hd, _, _ => by
    exfalso
    obtain ⟨rfl, rfl⟩ := hd
    have h1 := Cov.le hc.2
    have hs := hc.1.full
    have hb := hc.1.base
    unfold emptyB at hs
    simp only [Bool.not_eq_false', Bool.or_eq_true, decide_eq_true_eq, List.any_eq_true] at hs
    rcases hs with hs | ⟨sp, hm, hlt⟩
    · omega
    · obtain ⟨s, hsp⟩ := List.mem_iff_getElem?.1 hm
      obtain ⟨v, hv⟩ := at_of hc.1.len hsp
      have := h1.2.2 s sp.2 v (by unfold ends; rw [List.getElem?_map, hsp]; rfl) hv
      have := (hc.1.side s sp v hsp hv).1
      omega
  | c :: cs, d :: ds, prev, b, a, hc, hd, pc, pd => by
    have he : c.1 = d.1 := by
      cases h1 : c.1 with
      | true =>
        obtain ⟨k1, k2⟩ := stands_of hc (pc c (List.mem_cons_self ..)) h1
        rw [stable_of hml hd pd k1 k2]
      | false =>
        cases h2 : d.1 with
        | false => rfl
        | true =>
          obtain ⟨k1, k2⟩ := stands_of hd (pd d (List.mem_cons_self ..)) h2
          rw [stable_of hml hc pc k1 k2] at h1
          cases h1
    have hto : c.2.1.2 = d.2.1.2 := by
      have n1 := not_less hml hc hd pc pd he
      have n2 := not_less hml hd hc pd pc he.symm
      omega
    have hbc := hc.1.base
    have hbd := hd.1.base
    have hlen : c.2.2.length = d.2.2.length := by rw [hc.1.len, hd.1.len]
    have hs : c.2.2 = d.2.2 := by
      refine spans_eq hlen fun s p q h1 h2 => ?_
      obtain ⟨v, hv⟩ := at_of hc.1.len h1
      obtain ⟨p1, p2, p3⟩ := hc.1.side s p v h1 hv
      obtain ⟨q1, q2, q3⟩ := hd.1.side s q v h2 hv
      have h1' : (ends c)[s]? = some p.2 := by unfold ends; rw [List.getElem?_map, h1]; rfl
      have h2' : (ends d)[s]? = some q.2 := by unfold ends; rw [List.getElem?_map, h2]; rfl
      refine Prod.ext (by omega) ?_
      cases hst : c.1 with
      | true =>
        have := p3 hst
        have := q3 (by rw [← he, hst])
        omega
      | false =>
        obtain ⟨e1, e2⟩ := ends_of hml hc pc hst
        obtain ⟨f1, f2⟩ := ends_of hml hd pd (by rw [← he, hst])
        have hcm := (Cov.le hc.2).1
        rcases Int.lt_or_le c.2.1.2 m with hlt | hge
        · have hsl := (List.getElem?_eq_some_iff.1 hv).1
          have hl2 := (Cov.le hc).2.1
          have hl : ms[s]? = some ms[s] := List.getElem?_eq_getElem (by omega)
          have g1 := e2 hlt s _ _ hl h1'
          have g2 := f2 (by omega) s _ _ hl h2'
          rw [hto] at g1
          rw [← g1, ← g2]
        · rw [e1 (by omega)] at h1'
          rw [f1 (by omega), h1'] at h2'
          injection h2'
    have hcd : c = d := by
      refine Prod.ext he (Prod.ext (Prod.ext (by omega) hto) hs)
    subst hcd
    rw [cov_one hml hc.2 hd.2 (fun e h => pc e (List.mem_cons_of_mem _ h)) (fun e h => pd e (List.mem_cons_of_mem _ h))]
end
end Go.Proofs.YtoopdgohdeddoaaGreatDoor
/- Proved here, without conditions: chunks of sides that were picked, in whatever turn, each once at least: they are those of all sides, with the same sides picked in each. -/
namespace Go.Proofs.YtoopdgohdeddoaaGreatDoor
set_option linter.unusedVariables false

/-- The chunks of matches. -/
def IsCut (m : Int) (sizes : List Int) (ms : List (List Int)) (cs : List Ck) : Prop := Cov m sizes cs none 0 (List.replicate sizes.length 0) ∧ ∀ c ∈ cs, Places ms c
/-- A match of m places to z: numbers that aren't -1 rise, from 0 on, below z. -/
def IsMatch (m : Nat) (l : List Int) (z : Int) : Prop := l.length = m ∧ (∀ u ∈ l, u ≠ -1 → 0 ≤ u ∧ u < z) ∧ l.Pairwise (fun u v => u ≠ -1 → v ≠ -1 → u < v)
/-- Those at the places of p. -/
def sel {α : Type} (d : α) (p : List Nat) (l : List α) : List α := p.map fun i => (l[i]?).getD d
theorem sel_len {α : Type} (d : α) (p : List Nat) (l : List α) : (sel d p l).length = p.length := by simp [sel]
theorem sel_map {α β : Type} (f : α → β) (d : α) (p : List Nat) (l : List α) : (sel d p l).map f = sel (f d) p (l.map f) := by
  unfold sel
  rw [List.map_map]
  apply List.map_congr_left
  intro i _
  simp only [Function.comp, List.getElem?_map]
  cases l[i]? <;> rfl
theorem sel_at {α : Type} {d : α} {p : List Nat} {l : List α} (hp : ∀ i ∈ p, i < l.length) {j : Nat} {x : α} (h : (sel d p l)[j]? = some x) : ∃ i, p[j]? = some i ∧ l[i]? = some x := by
  unfold sel at h
  rw [List.getElem?_map] at h
  cases hj : p[j]? with
  | none => rw [hj] at h; cases h
  | some i =>
    rw [hj] at h
    have hi := hp i (List.mem_of_getElem? hj)
    refine ⟨i, rfl, ?_⟩
    simp only [Option.map_some] at h
    rw [List.getElem?_eq_getElem hi] at h ⊢
    simpa using h
theorem sel_mem {α : Type} {d : α} {p : List Nat} {l : List α} (hp : ∀ i ∈ p, i < l.length) {x : α} (h : x ∈ sel d p l) : x ∈ l := by
  obtain ⟨j, hj⟩ := List.mem_iff_getElem?.1 h
  obtain ⟨i, _, h2⟩ := sel_at hp hj
  exact List.mem_of_getElem? h2
theorem mem_sel {α : Type} {d : α} {p : List Nat} {l : List α} (ha : ∀ i, i < l.length → i ∈ p) {x : α} (h : x ∈ l) : x ∈ sel d p l := by
  obtain ⟨i, hi⟩ := List.mem_iff_getElem?.1 h
  have hlt := (List.getElem?_eq_some_iff.1 hi).1
  unfold sel
  exact List.mem_map.2 ⟨i, ha i hlt, by rw [hi]; rfl⟩

/-- A chunk of which some sides were picked. -/
def selC (p : List Nat) (c : Ck) : Ck := (c.1, c.2.1, sel (0, 0) p c.2.2)
theorem ends_sel (p : List Nat) (c : Ck) : ends (selC p c) = sel 0 p (ends c) := by
  unfold ends selC
  rw [sel_map]

section
variable {p : List Nat} {k : Nat}
theorem empty_sel (hp : ∀ i ∈ p, i < k) (ha : ∀ i, i < k → i ∈ p) {c : Ck} (hl : c.2.2.length = k) : emptyB (selC p c) = emptyB c := by
  unfold emptyB selC
  congr 2
  rw [Bool.eq_iff_iff, List.any_eq_true, List.any_eq_true]
  constructor
  · rintro ⟨s, h1, h2⟩
    exact ⟨s, sel_mem (by rw [hl]; exact hp) h1, h2⟩
  · rintro ⟨s, h1, h2⟩
    exact ⟨s, mem_sel (by rw [hl]; exact ha) h1, h2⟩
theorem head_sel (hp : ∀ i ∈ p, i < k) (ha : ∀ i, i < k → i ∈ p) {c : Ck} {prev : Option Bool} {b : Int} {a : List Int} (hk : a.length = k) (h : Head c prev b a) : Head (selC p c) prev b (sel 0 p a) where
  base := h.base
  le := h.le
  len := by unfold selC; rw [sel_len, sel_len]
  alt := h.alt
  full := by rw [empty_sel hp ha (h.len.trans hk)]; exact h.full
  side := fun s sp v h1 h2 => by
    obtain ⟨i, e1, e2⟩ := sel_at (by rw [h.len, hk]; exact hp) h1
    obtain ⟨j, e3, e4⟩ := sel_at (by rw [hk]; exact hp) h2
    rw [e1] at e3
    injection e3 with e3
    subst e3
    exact h.side i sp v e2 e4
theorem cov_sel (hp : ∀ i ∈ p, i < k) (ha : ∀ i, i < k → i ∈ p) {m : Int} {sizes : List Int} : ∀ {cs : List Ck} {prev : Option Bool} {b : Int} {a : List Int}, a.length = k → Cov m sizes cs prev b a → Cov m (sel 0 p sizes) (cs.map (selC p)) prev b (sel 0 p a)
  | [], _, _, _, _, h => by
    obtain ⟨rfl, rfl⟩ := h
    exact ⟨rfl, rfl⟩
  | c :: cs, prev, b, a, hk, h => by
    refine ⟨head_sel hp ha hk h.1, ?_⟩
    have h2 := cov_sel hp ha (by rw [ends_len, h.1.len, hk]) h.2
    rw [← ends_sel] at h2
    exact h2
theorem allP_sel (hp : ∀ i ∈ p, i < k) (ha : ∀ i, i < k → i ∈ p) {ms : List (List Int)} (hk : ms.length = k) (t : Int) : allP (sel [] p ms) t = allP ms t := by
  unfold allP
  rw [Bool.eq_iff_iff, List.all_eq_true, List.all_eq_true]
  exact ⟨fun h x hx => h x (mem_sel (by rw [hk]; exact ha) hx), fun h x hx => h x (sel_mem (by rw [hk]; exact hp) hx)⟩
theorem places_sel (hp : ∀ i ∈ p, i < k) (ha : ∀ i, i < k → i ∈ p) {ms : List (List Int)} (hk : ms.length = k) {c : Ck} (hl : c.2.2.length = k) (h : Places ms c) : Places (sel [] p ms) (selC p c) := by
  intro t h1 h2
  obtain ⟨q1, q2⟩ := h t h1 h2
  refine ⟨by rw [allP_sel hp ha hk]; exact q1, fun hc s l sp e1 e2 => ?_⟩
  obtain ⟨i, d1, d2⟩ := sel_at (by rw [hk]; exact hp) e1
  obtain ⟨j, d3, d4⟩ := sel_at (l := c.2.2) (by rw [hl]; exact hp) e2
  rw [d1] at d3
  injection d3 with d3
  subst d3
  exact q2 hc i l sp d2 d4
theorem cov_lens {m : Int} {sizes : List Int} : ∀ {cs : List Ck} {prev : Option Bool} {b : Int} {a : List Int}, a.length = k → Cov m sizes cs prev b a → ∀ c ∈ cs, c.2.2.length = k
  | [], _, _, _, _, _, c, hc => by cases hc
  | d :: cs, prev, b, a, hk, h, c, hc => by
    have h1 : d.2.2.length = k := h.1.len.trans hk
    rcases List.mem_cons.1 hc with rfl | hc
    · exact h1
    · exact cov_lens (by rw [ends_len]; exact h1) h.2 c hc
/-- The chunks of sides that were picked. -/
theorem cut_sel (hp : ∀ i ∈ p, i < k) (ha : ∀ i, i < k → i ∈ p) {m : Int} {sizes : List Int} {ms : List (List Int)} {cs ds : List Ck} (hs : sizes.length = k) (hm : ms.length = k) (h : IsCut m sizes ms cs) (h' : IsCut m (sel 0 p sizes) (sel [] p ms) ds) : ds = cs.map (selC p) := by
  have hl := cov_lens (k := k) (by rw [List.length_replicate, hs]) h.1
  have h1 := cov_sel hp ha (by rw [List.length_replicate, hs]) h.1
  have h2 : sel 0 p (List.replicate sizes.length (0 : Int)) = List.replicate (sel 0 p sizes).length 0 := by
    rw [sel_len]
    unfold sel
    rw [List.eq_replicate_iff]
    refine ⟨by simp, fun b hb => ?_⟩
    obtain ⟨i, _, rfl⟩ := List.mem_map.1 hb
    rw [List.getElem?_replicate]
    split <;> rfl
  rw [h2] at h1
  refine cov_one (by rw [sel_len, sel_len]) h'.1 h1 h'.2 fun e he => ?_
  obtain ⟨c, hc, rfl⟩ := List.mem_map.1 he
  exact places_sel hp ha hm (hl c hc) (h.2 c hc)
end

/-- Turned by n. -/
def turnP (k n : Nat) : List Nat := (List.range k).map fun j => (j + n) % k
theorem turnP_lt {k n : Nat} (hk : 0 < k) : ∀ i ∈ turnP k n, i < k := by
  intro i hi
  obtain ⟨j, _, rfl⟩ := List.mem_map.1 hi
  exact Nat.mod_lt _ hk
theorem turnP_all {k n : Nat} (hn : n < k) : ∀ i, i < k → i ∈ turnP k n := by
  intro i hi
  unfold turnP
  by_cases h : n ≤ i
  · exact List.mem_map.2 ⟨i - n, List.mem_range.2 (by omega), by rw [show i - n + n = i by omega, Nat.mod_eq_of_lt hi]⟩
  · refine List.mem_map.2 ⟨i + k - n, List.mem_range.2 (by omega), ?_⟩
    rw [show i + k - n + n = i + k by omega, Nat.add_mod_right, Nat.mod_eq_of_lt hi]
theorem sel_turn {α : Type} (d : α) (l : List α) {n : Nat} (hn : n < l.length) : l.drop n ++ l.take n = sel d (turnP l.length n) l := by
  apply List.ext_getElem?
  intro j
  unfold sel turnP
  rw [List.map_map, List.getElem?_map]
  by_cases hj : j < l.length
  · rw [List.getElem?_range hj]
    simp only [Option.map_some, Function.comp]
    have hm : (j + n) % l.length < l.length := Nat.mod_lt _ (by omega)
    rw [List.getElem?_eq_getElem hm, Option.getD_some]
    by_cases h : j < l.length - n
    · rw [List.getElem?_append_left (by simp; omega), List.getElem?_drop, List.getElem?_eq_getElem (by omega)]
      congr 1
      simp only [show (j + n) % l.length = n + j from by rw [Nat.mod_eq_of_lt (by omega)]; omega]
    · rw [List.getElem?_append_right (by simp; omega), List.length_drop, List.getElem?_take, if_pos (by omega), List.getElem?_eq_getElem (by omega)]
      congr 1
      have e : (j + n) % l.length = j - (l.length - n) := by
        rw [show j + n = (j - (l.length - n)) + l.length by omega, Nat.add_mod_right, Nat.mod_eq_of_lt (by omega)]
      simp only [e]
  · rw [List.getElem?_eq_none (by simp; omega), List.getElem?_eq_none (by simp; omega)]
    rfl
/-- One more, that of place n again. -/
def moreP (k n : Nat) : List Nat := List.range k ++ [n]
theorem moreP_lt {k n : Nat} (hn : n < k) : ∀ i ∈ moreP k n, i < k := by
  intro i hi
  rcases List.mem_append.1 hi with h | h
  · exact List.mem_range.1 h
  · simp at h; omega
theorem moreP_all {k n : Nat} : ∀ i, i < k → i ∈ moreP k n := fun i hi => List.mem_append_left _ (List.mem_range.2 hi)
theorem sel_more {α : Type} (d : α) (l : List α) {n : Nat} {x : α} (hx : l[n]? = some x) : l ++ [x] = sel d (moreP l.length n) l := by
  unfold sel moreP
  rw [List.map_append, List.map_cons, List.map_nil, hx, Option.getD_some]
  congr 1
  apply List.ext_getElem?
  intro j
  rw [List.getElem?_map]
  by_cases hj : j < l.length
  · rw [List.getElem?_range hj, List.getElem?_eq_getElem hj]
    simp [hj]
  · rw [List.getElem?_eq_none (by omega), List.getElem?_eq_none (by simp; omega)]
    rfl

end Go.Proofs.YtoopdgohdeddoaaGreatDoor
/- Proved here, without conditions: plain facts on merges: the base as one more side; the parts of chunks, one behind the other; stable chunks have the same of all. -/
namespace Go.Proofs.YtoopdgohdeddoaaGreatDoor
set_option linter.unusedVariables false

/-- The match of a list with itself. -/
def idm (m : Nat) : List Int := (List.range m).map fun (i : Nat) => (i : Int)
/-- A chunk, the base as one more side. -/
def addB (c : Ck) : Ck := (c.1, c.2.1, c.2.2 ++ [c.2.1])
theorem pl_idm {m : Nat} {k : Int} (h0 : 0 ≤ k) (h1 : k < m) : pl (idm m) k = k := by
  unfold pl idm
  rw [List.getElem?_map, List.getElem?_range (by omega)]
  simp
  omega
theorem ends_addB (c : Ck) : ends (addB c) = ends c ++ [c.2.1.2] := by simp [ends, addB]
theorem empty_addB (c : Ck) : emptyB (addB c) = emptyB c := by
  unfold emptyB addB
  simp only [List.any_append, List.any_cons, List.any_nil, Bool.or_false]
  cases decide (c.2.1.1 < c.2.1.2) <;> cases (c.2.2.any fun s => decide (s.1 < s.2)) <;> rfl
theorem head_addB {c : Ck} {prev : Option Bool} {b : Int} {a : List Int} (h : Head c prev b a) : Head (addB c) prev b (a ++ [b]) where
  base := h.base
  le := h.le
  len := by simp [addB, h.len]
  alt := h.alt
  full := by rw [empty_addB]; exact h.full
  side := fun s sp v h1 h2 => by
    have hl := h.len
    unfold addB at h1 ⊢
    dsimp only at h1 ⊢
    rcases Nat.lt_or_ge s a.length with hs | hs
    · rw [List.getElem?_append_left (by omega)] at h1
      rw [List.getElem?_append_left hs] at h2
      exact h.side s sp v h1 h2
    · rw [List.getElem?_append_right (by omega)] at h1
      rw [List.getElem?_append_right hs] at h2
      have hs0 : s = a.length := by
        have := (List.getElem?_eq_some_iff.1 h2).1
        simp at this
        omega
      subst hs0
      rw [hl, Nat.sub_self] at h1
      rw [Nat.sub_self] at h2
      simp at h1 h2
      subst h1
      subst h2
      exact ⟨h.base, h.le, fun _ => rfl⟩
theorem cov_addB {m : Int} {sizes : List Int} : ∀ {cs : List Ck} {prev : Option Bool} {b : Int} {a : List Int}, Cov m sizes cs prev b a → Cov m (sizes ++ [m]) (cs.map addB) prev b (a ++ [b])
  | [], _, _, _, h => by
    obtain ⟨rfl, rfl⟩ := h
    exact ⟨rfl, rfl⟩
  | c :: cs, prev, b, a, h => by
    refine ⟨head_addB h.1, ?_⟩
    have h2 := cov_addB h.2
    rw [← ends_addB] at h2
    exact h2
/-- Where a chunk lies. -/
theorem cov_lies {m : Int} {sizes : List Int} : ∀ {cs : List Ck} {prev : Option Bool} {b : Int} {a : List Int}, Cov m sizes cs prev b a → ∀ c ∈ cs, b ≤ c.2.1.1 ∧ c.2.1.1 ≤ c.2.1.2 ∧ c.2.1.2 ≤ m ∧ c.2.2.length = sizes.length
  | [], _, _, _, _, c, hc => by cases hc
  | d :: cs, prev, b, a, h, c, hc => by
    have hb := h.1.base
    have hle := h.1.le
    have hm := Cov.le h.2
    rcases List.mem_cons.1 hc with rfl | hc
    · exact ⟨by omega, by omega, hm.1, by rw [← hm.2.1, ends_len]⟩
    · have := cov_lies h.2 c hc
      exact ⟨by omega, this.2.1, this.2.2.1, this.2.2.2⟩
theorem places_addB {m : Nat} {ms : List (List Int)} {c : Ck} (hl : c.2.2.length = ms.length) (h0 : 0 ≤ c.2.1.1) (h1 : c.2.1.2 ≤ m) (h : Places ms c) : Places (ms ++ [idm m]) (addB c) := by
  intro k k1 k2
  have k1' : c.2.1.1 ≤ k := k1
  have k2' : k < c.2.1.2 := k2
  obtain ⟨q1, q2⟩ := h k k1' k2'
  have hp := pl_idm (m := m) (k := k) (by omega) (by omega)
  refine ⟨?_, fun hc s l sp e1 e2 => ?_⟩
  · show allP (ms ++ [idm m]) k = c.1
    unfold allP at q1 ⊢
    rw [List.all_append, q1]
    simp [hp]
    omega
  · have e2' : (c.2.2 ++ [c.2.1])[s]? = some sp := e2
    show pl l k = sp.1 + k - c.2.1.1
    rcases Nat.lt_or_ge s ms.length with hs | hs
    · rw [List.getElem?_append_left hs] at e1
      rw [List.getElem?_append_left (by omega)] at e2'
      exact q2 hc s l sp e1 e2'
    · rw [List.getElem?_append_right hs] at e1
      rw [List.getElem?_append_right (by omega)] at e2'
      have hs0 : s = ms.length := by
        have := (List.getElem?_eq_some_iff.1 e1).1
        simp at this
        omega
      subst hs0
      rw [Nat.sub_self] at e1
      rw [hl, Nat.sub_self] at e2'
      simp at e1 e2'
      subst e1
      subst e2'
      rw [hp]
      omega
/-- The chunks, the base as one more side. -/
theorem cut_base {m : Nat} {sizes : List Int} {ms : List (List Int)} {cs : List Ck} (hl : ms.length = sizes.length) (h : IsCut m sizes ms cs) : IsCut m (sizes ++ [(m : Int)]) (ms ++ [idm m]) (cs.map addB) := by
  obtain ⟨h1, h2⟩ := h
  refine ⟨?_, fun e he => ?_⟩
  · have := cov_addB h1
    rw [List.length_append, List.length_singleton, ← List.replicate_append_replicate]
    exact this
  · obtain ⟨c, hc, rfl⟩ := List.mem_map.1 he
    obtain ⟨k1, k2, k3, k4⟩ := cov_lies h1 c hc
    exact places_addB (by omega) (by omega) k3 (h2 c hc)
theorem sel_addB (p : List Nat) (c : Ck) (n : Nat) (hn : c.2.2.length = n) : selC p (addB c) = (c.1, c.2.1, p.map fun i => if i = n then c.2.1 else (c.2.2[i]?).getD (0, 0)) := by
  unfold selC addB sel
  simp only [Prod.mk.injEq, true_and]
  apply List.map_congr_left
  intro i _
  subst hn
  rcases Nat.lt_trichotomy i c.2.2.length with h | h | h
  · rw [List.getElem?_append_left h, if_neg (by omega)]
  · subst h
    rw [List.getElem?_append_right (Nat.le_refl _)]
    simp
  · rw [List.getElem?_append_right (by omega), if_neg (by omega), List.getElem?_eq_none (by simp; omega), List.getElem?_eq_none (by omega)]
end Go.Proofs.YtoopdgohdeddoaaGreatDoor
/- Proved here: the contract of the document's own answer of layer 1: Few (it only reads). -/
namespace Go.Proofs.YtoopdgohdeddoaaGreatDoor
open Go.RowKit
set_option linter.unusedVariables false

theorem infoTxs : (Tryz.prog.info? 22).map (fun i => (i.zero, i.size, i.bytes)) = some (some (.slice none 0 0), 1, 24) := by kernel_rfl
/-- At most 'most' texts, of 100 bytes at most. -/
def fewB (ss : List (List UInt8)) (most : Nat) : Bool := decide (ss.length ≤ most) && (ss.take (most + 1)).all fun s => decide (s.length ≤ 100)

theorem few_step {ss : List (List UInt8)} {k : Nat} {t : List UInt8} (hq : (ss.take k).all (fun s => decide (s.length ≤ 100)) = true) (ht : ss[k]? = some t) (h : ¬ (100 : Int) < ((str t).size : Int)) : (ss.take (k + 1)).all (fun s => decide (s.length ≤ 100)) = true := by
  rw [str_size] at h
  rw [take_at ht, List.all_append, hq]
  simp; omega
theorem few_no {ss : List (List UInt8)} {k most : Nat} {t : List UInt8} (hk : k ≤ most) (ht : ss[k]? = some t) (h : (100 : Int) < ((str t).size : Int)) : false = fewB ss most := by
  rw [str_size] at h
  unfold fewB
  have hm : t ∈ ss.take (most + 1) := List.mem_of_getElem? (i := k) (by rw [List.getElem?_take]; rw [if_pos (by omega)]; exact ht)
  rw [eq_comm, Bool.and_eq_false_iff]
  right
  rw [Bool.eq_false_iff, ne_eq, List.all_eq_true]
  intro ha
  have := ha t hm
  simp at this
  omega

theorem few_end {ss : List (List UInt8)} {k n most : Nat} (hl : ss.length = n) (h : k = n ∨ most < k ∧ k < n) (hq : (ss.take k).all (fun s => decide (s.length ≤ 100)) = true) : decide (n ≤ most) = fewB ss most := by
  unfold fewB
  rw [hl]
  by_cases hm : n ≤ most
  · have : k = n := by omega
    subst this
    rw [List.take_of_length_le (by omega)] at hq
    rw [List.take_of_length_le (by omega), hq]
    simp
  · simp [hm]

set_option maxHeartbeats 400000 in
theorem Few_any (A : Option Addr) (n c most B : Nat) (ss : List (List UInt8)) (w : World) (hn : n ≤ maxLen) (hmo : most ≤ 1000000) (hA : Strs w B A n ss) :
    Calls Tryz.prog 9 #[.slice A n c, .int .i64 most] w fun e w' => e = .returned (.bool (fewB ss most)) ∧ w = w' := by
  unfold maxLen at hn
  have hl := hA.len
  go_enter Tryz.func9, Tryz.ntmps9
  go_wp2
  go_loop [5] (fun i => ∃ k : Nat, k ≤ n ∧ k ≤ most + 1 ∧ i = .int .i64 k ∧ Hid ((ss.take k).all (fun s => decide (s.length ≤ 100)) = true)) (fun i => n - (intOf i).toNat)
  case atStart => exact ⟨0, Nat.zero_le _, Nat.zero_le _, rfl, Lib.hid rfl⟩
  case round =>
    obtain ⟨k, hk, hkm, rfl, hq⟩ := hrel
    by_cases hlt : k < n
    · by_cases hm : k ≤ most
      · obtain ⟨b, o, t, rfl, hb, ht, hc⟩ := hA.at_ (k := k) hlt
        go_wp2
        · have h : (100 : Int) < ((str t).size : Int) := by assumption
          go_ret
          exact ⟨ret_bool (few_no hm ht h), rfl⟩
        · have h : ((str t).size : Int) ≤ 100 := by assumption
          go_round
          case rel => exact ⟨k + 1, by omega, by omega, by go_num, Lib.hid (few_step hq.out ht (by omega))⟩
          case measure => simp [intOf]; omega
      · go_wp2
        go_ret
        exact ⟨ret_bool (few_end hl (.inr ⟨by omega, hlt⟩) hq.out), rfl⟩
    · obtain rfl : k = n := by omega
      by_cases hm : k ≤ most
      · go_wp2
        go_ret
        exact ⟨ret_bool (by rw [← few_end hl (.inl rfl) hq.out]; simpa using hm), rfl⟩
      · go_wp2
        go_ret
        exact ⟨ret_bool (by rw [← few_end hl (.inl rfl) hq.out]; simpa using hm), rfl⟩
end Go.Proofs.YtoopdgohdeddoaaGreatDoor
/- Proved here: texts cut by two indices. -/
namespace Go.Proofs.YtoopdgohdeddoaaGreatDoor
open Go.RowKit
set_option linter.unusedVariables false

/-- What lies in a span. -/
def cutL {α : Type} (l : List α) (f t : Int) : List α := (l.drop f.toNat).take (t - f).toNat
theorem cutL_len {α : Type} {l : List α} {f t : Int} (h0 : 0 ≤ f) (h1 : f ≤ t) (h2 : t ≤ l.length) : (cutL l f t).length = (t - f).toNat := by
  unfold cutL
  rw [List.length_take, List.length_drop]
  omega
set_option maxRecDepth 100000 in
/-- A part of texts, cut by two indices. -/
theorem slice_txs {w : World} {B n c : Nat} {A : Option Addr} {ss : List (List UInt8)} {f t : Int} (h : TxR w B (A, n, c) ss) (h0 : 0 ≤ f) (h1 : f ≤ t) (h2 : t ≤ n) :
    ∃ A' m k, (∀ W : World, (Instr.slice 22 (.slice A n c) (some (.int .i64 f)) (some (.int .i64 t)) none).run Tryz.prog W = .ok (.slice A' m k) W) ∧ TxR w B (A', m, k) (cutL ss f t) ∧ (0 < m → ∀ q o, A' = some ⟨q, o, none⟩ → ∃ o', A = some ⟨q, o', none⟩) ∧ m = (t - f).toNat := by
  obtain ⟨e1, e2, e3⟩ := h
  dsimp only at e1 e2 e3
  have hl := e3.len
  have hm : t.toNat - f.toNat = (t - f).toNat := by omega
  refine ⟨(if c = f.toNat then A else A.map (·.add f.toNat)), t.toNat - f.toNat, c - f.toNat, fun W => ?_, ⟨?_, ?_, ?_⟩, fun hn q o e => ?_, hm⟩
  · rw [run_slice_lh (P := Tryz.prog) W 22 A n c Tryz.underlying22 .i64 .i64 f t h0 h1 (by omega)]
    go_simp
  · show t.toNat - f.toNat ≤ c - f.toNat
    omega
  · show c - f.toNat ≤ maxLen
    omega
  · show Reads _ _ _ (t.toNat - f.toNat) _
    refine ⟨by rw [List.length_map, cutL_len h0 h1 (by omega)]; omega, fun hn => ?_⟩
    obtain ⟨b, o, rfl, hb, hc⟩ := e3.2 (by omega)
    rw [if_neg (by omega)]
    refine ⟨b, o + f.toNat, ?_, hb, fun j u hu => ?_⟩
    · simp only [Option.map_some]
      unfold Addr.add
      split
      · rename_i h
        rw [h]; rfl
      · rfl
    · rw [Nat.add_assoc]
      refine hc _ u ?_
      have hj := (List.getElem?_eq_some_iff.1 hu).1
      rw [List.length_map, cutL_len h0 h1 (by omega)] at hj
      rw [← hu, List.getElem?_map, List.getElem?_map]
      unfold cutL
      rw [List.getElem?_take, if_pos hj, List.getElem?_drop]
  · obtain ⟨b, o', rfl, hb, hc⟩ := e3.2 (by omega)
    rw [if_neg (by omega)] at e
    simp only [Option.map_some, Option.some.injEq] at e
    unfold Addr.add at e
    refine ⟨o', ?_⟩
    split at e
    · injection e with e1 e2
      subst e1
      rfl
    · injection e with e1 e2
      subst e1
      rfl
end Go.Proofs.YtoopdgohdeddoaaGreatDoor
/- Proved here: contracts of the document's own answers of layer 1: Same (it only reads). -/
namespace Go.Proofs.YtoopdgohdeddoaaGreatDoor
open Go.RowKit
set_option linter.unusedVariables false

theorem same_no {ss ss' : List (List UInt8)} {k : Nat} {t t' : List UInt8} (ht : ss[k]? = some t) (ht' : ss'[k]? = some t') (h : (!(str t).toList == (str t').toList) = true) : false = decide (ss = ss') := by
  rw [eq_comm, decide_eq_false_iff_not]
  rintro rfl
  rw [ht] at ht'
  injection ht' with e
  subst e
  simp at h
theorem same_yes {ss ss' : List (List UInt8)} {k : Nat} {t t' : List UInt8} (hq : ss.take k = ss'.take k) (ht : ss[k]? = some t) (ht' : ss'[k]? = some t') (h : (!(str t).toList == (str t').toList) = false) : ss.take (k + 1) = ss'.take (k + 1) := by
  rw [ByteArray.toList_eq, ByteArray.toList_eq, str_data, str_data] at h
  have e : t = t' := by simpa using h
  rw [take_at ht, take_at ht', hq, e]

set_option maxHeartbeats 400000 in
theorem Same_any (A A' : Option Addr) (n n' c c' B B' : Nat) (ss ss' : List (List UInt8)) (w : World) (hn : n ≤ maxLen) (hn' : n' ≤ maxLen) (hA : Strs w B A n ss) (hA' : Strs w B' A' n' ss') :
    Calls Tryz.prog 13 #[.slice A n c, .slice A' n' c'] w fun e w' => e = .returned (.bool (decide (ss = ss'))) ∧ ∃ k, w' = w.drewN k := by
  unfold maxLen at hn hn'
  have hl := hA.len
  have hl' := hA'.len
  by_cases hnn : n = n'
  · subst hnn
    go_enter Tryz.func13, Tryz.ntmps13
    go_wp2
    go_loopw [5] (fun i wr => ∃ k : Nat, k ≤ n ∧ i = .int .i64 k ∧ Hid (ss.take k = ss'.take k) ∧ ∃ q, wr = w.drewN q) (fun i _ => n - (intOf i).toNat)
    case atStart => exact ⟨0, Nat.zero_le _, rfl, Lib.hid rfl, 0, rfl⟩
    case round =>
      obtain ⟨k, hk, rfl, hq, q, rfl⟩ := hrel
      by_cases hlt : k < n
      · obtain ⟨b, o, t, rfl, hb, ht, hc0⟩ := hA.at_ (k := k) hlt
        obtain ⟨b', o', t', rfl, hb', ht', hc0'⟩ := hA'.at_ (k := k) hlt
        have hi1 : (0 : Int) ≤ (k : Int) := by omega
        have hi2 : (k : Int) < (n : Int) := by omega
        go_wp2
        go_quiet (fail)
        go_wp2
        · have h : (!(str t).toList == (str t').toList) = true := by assumption
          go_ret
          exact ⟨ret_bool (same_no ht ht' h), q + nq, World.drewN_drewN _ _ _⟩
        · have h : (!(str t).toList == (str t').toList) = false := by assumption
          go_roundw
          case rel => exact ⟨k + 1, by omega, by go_num, Lib.hid (same_yes hq.out ht ht' h), q + nq, rfl⟩
          case measure => simp [intOf]; omega
      · go_wp2
        go_ret
        exact ⟨ret_bool (by rw [eq_comm, decide_eq_true_iff]; have := hq.out; rwa [List.take_of_length_le (by omega), List.take_of_length_le (by omega)] at this), q, rfl⟩
  · have hne : (((n : Int) != (n' : Int))) = true := by simp; omega
    go_enter Tryz.func13, Tryz.ntmps13
    go_wp2
    go_ret
    exact ⟨ret_bool (by rw [eq_comm, decide_eq_false_iff_not]; rintro rfl; omega), 0, rfl⟩

end Go.Proofs.YtoopdgohdeddoaaGreatDoor
