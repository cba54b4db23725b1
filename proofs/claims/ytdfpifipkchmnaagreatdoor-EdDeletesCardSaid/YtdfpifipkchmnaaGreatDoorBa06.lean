/- Proved here: texts joined: AlignPure, AlignPk. -/
import Derived.WalkKit
/- Proved here, without conditions: plain facts on chunks: what lies one behind the other, and has in stable chunks just the places that all matches pair, is one list alone. -/
namespace Go.Proofs.YtdfpifipkchmnaaGreatDoor
set_option linter.unusedVariables false

/-- A span; a chunk: is it stable, the base's span, the sides' spans. -/
abbrev Sp := Int × Int
abbrev Ck := Bool × Sp × List Sp

/-- With which place one is paired; -1: with none. -/
def pl (l : List Int) (k : Int) : Int := (l[k.toNat]?).getD (-1)
/-- Does each match pair a place? -/
def allP (ms : List (List Int)) (k : Int) : Bool := ms.all fun l => decide (0 ≤ pl l k)
def ends (c : Ck) : List Int := c.2.2.map fun s => s.2
def emptyB (c : Ck) : Bool := !(decide (c.2.1.1 < c.2.1.2) || c.2.2.any fun s => decide (s.1 < s.2))

/-- A chunk that may stand behind one that is stable or not (prev), from place b of the base, and the places a of the sides. -/
structure Head (c : Ck) (prev : Option Bool) (b : Int) (a : List Int) : Prop where
  base : c.2.1.1 = b
  le : b ≤ c.2.1.2
  len : c.2.2.length = a.length
  alt : prev ≠ some c.1
  full : emptyB c = false
  side : ∀ (s : Nat) (sp : Sp) (v : Int), c.2.2[s]? = some sp → a[s]? = some v → sp.1 = v ∧ v ≤ sp.2 ∧ (c.1 = true → sp.2 - sp.1 = c.2.1.2 - c.2.1.1)
/-- Chunks one behind the other, to the ends. -/
def Cov (m : Int) (sizes : List Int) : List Ck → Option Bool → Int → List Int → Prop
  | [], _, b, a => a = sizes ∧ b = m
  | c :: cs, prev, b, a => Head c prev b a ∧ Cov m sizes cs (some c.1) c.2.1.2 (ends c)
/-- In a stable chunk all places are paired by all, place by place; in another one none is by all. -/
def Places (ms : List (List Int)) (c : Ck) : Prop :=
  ∀ k, c.2.1.1 ≤ k → k < c.2.1.2 → allP ms k = c.1 ∧ (c.1 = true → ∀ (s : Nat) (l : List Int) (sp : Sp), ms[s]? = some l → c.2.2[s]? = some sp → pl l k = sp.1 + k - c.2.1.1)

theorem ends_len (c : Ck) : (ends c).length = c.2.2.length := by simp [ends]
theorem ends_at {c : Ck} {s : Nat} {v : Int} (h : (ends c)[s]? = some v) : ∃ sp : Sp, c.2.2[s]? = some sp ∧ sp.2 = v := by
  unfold ends at h
  rw [List.getElem?_map] at h
  cases hc : c.2.2[s]? with
  | none => rw [hc] at h; cases h
  | some sp => rw [hc] at h; exact ⟨sp, rfl, by simpa using h⟩
theorem at_of {a : List Int} {c : Ck} {s : Nat} {sp : Sp} (hl : c.2.2.length = a.length) (h : c.2.2[s]? = some sp) : ∃ v, a[s]? = some v := by
  have := (List.getElem?_eq_some_iff.1 h).1
  exact ⟨a[s], List.getElem?_eq_getElem (by omega)⟩
theorem sp_of {a : List Int} {c : Ck} {s : Nat} {v : Int} (hl : c.2.2.length = a.length) (h : a[s]? = some v) : ∃ sp, c.2.2[s]? = some sp := by
  have := (List.getElem?_eq_some_iff.1 h).1
  exact ⟨c.2.2[s], List.getElem?_eq_getElem (by omega)⟩

section
variable {m : Int} {sizes : List Int} {ms : List (List Int)}
theorem Cov.le : ∀ {cs : List Ck} {prev : Option Bool} {b : Int} {a : List Int}, Cov m sizes cs prev b a → b ≤ m ∧ a.length = sizes.length ∧ ∀ (s : Nat) (v z : Int), a[s]? = some v → sizes[s]? = some z → v ≤ z
  | [], prev, b, a, h => by
    obtain ⟨rfl, rfl⟩ := h
    exact ⟨Int.le_refl _, rfl, fun s v z h1 h2 => by rw [h1] at h2; injection h2 with h2; omega⟩
  | c :: cs, prev, b, a, h => by
    obtain ⟨h1, h2⟩ := h
    obtain ⟨k1, k2, k3⟩ := Cov.le h2
    have hl := h1.len
    rw [ends_len] at k2
    refine ⟨by have := h1.le; omega, by omega, fun s v z hv hz => ?_⟩
    obtain ⟨sp, hsp⟩ := sp_of hl hv
    obtain ⟨e1, e2, _⟩ := h1.side s sp v hsp hv
    have := k3 s sp.2 z (by unfold ends; rw [List.getElem?_map, hsp]; rfl) hz
    omega
theorem Head.one {c : Ck} {prev : Option Bool} {b : Int} {a : List Int} (h : Head c prev b a) (hc : c.1 = true) : b < c.2.1.2 := by
  have hs := h.full
  have hb := h.base
  have hle := h.le
  unfold emptyB at hs
  simp only [Bool.not_eq_false', Bool.or_eq_true, decide_eq_true_eq, List.any_eq_true] at hs
  rcases hs with hs | ⟨sp, hm, hlt⟩
  · omega
  · obtain ⟨s, hs⟩ := List.mem_iff_getElem?.1 hm
    obtain ⟨v, hv⟩ := at_of h.len hs
    have := (h.side s sp v hs hv).2.2 hc
    omega

/-- All matches pair place b with just the places a. -/
def Stands (ms : List (List Int)) (b : Int) (a : List Int) : Prop := allP ms b = true ∧ ∀ (s : Nat) (l : List Int) (v : Int), ms[s]? = some l → a[s]? = some v → pl l b = v

theorem stands_of {c : Ck} {cs : List Ck} {prev : Option Bool} {b : Int} {a : List Int} (h : Cov m sizes (c :: cs) prev b a) (hp : Places ms c) (hc : c.1 = true) : b < m ∧ Stands ms b a := by
  have hlt := h.1.one hc
  have hb := h.1.base
  obtain ⟨h1, h2⟩ := hp b (by omega) hlt
  refine ⟨by have := (Cov.le h.2).1; omega, by rw [h1, hc], fun s l v hl hv => ?_⟩
  obtain ⟨sp, hsp⟩ := sp_of h.1.len hv
  have := (h.1.side s sp v hsp hv).1
  rw [h2 hc s l sp hl hsp]
  omega
theorem stable_of (hml : ms.length = sizes.length) {c : Ck} {cs : List Ck} {prev : Option Bool} {b : Int} {a : List Int} (h : Cov m sizes (c :: cs) prev b a) (hp : ∀ d ∈ c :: cs, Places ms d) (hb : b < m) (hs : Stands ms b a) : c.1 = true := by
  cases hc : c.1 with
  | true => rfl
  | false =>
    exfalso
    have hbb := h.1.base
    rcases Int.lt_or_le b c.2.1.2 with hlt | hge
    · have := (hp c (List.mem_cons_self ..) b (by omega) hlt).1
      rw [hs.1, hc] at this
      cases this
    · have hle := h.1.le
      have hto : c.2.1.2 = b := by omega
      cases cs with
      | nil =>
        have := h.2.2
        omega
      | cons e cs =>
        have he : e.1 = true := by
          have := h.2.1.alt
          rw [hc] at this
          cases he : e.1 with
          | true => rfl
          | false => rw [he] at this; exact absurd rfl this
        have hst := (stands_of h.2 (hp e (by simp)) he).2
        rw [hto] at hst
        have hse := h.1.full
        unfold emptyB at hse
        simp only [Bool.not_eq_false', Bool.or_eq_true, decide_eq_true_eq, List.any_eq_true] at hse
        rcases hse with hse | ⟨sp, hm, hlt⟩
        · omega
        · obtain ⟨s, hsp⟩ := List.mem_iff_getElem?.1 hm
          obtain ⟨v, hv⟩ := at_of h.1.len hsp
          have hl2 := (Cov.le h).2.1
          have hsl := (List.getElem?_eq_some_iff.1 hv).1
          have hl : ms[s]? = some ms[s] := List.getElem?_eq_getElem (by omega)
          have q1 := hs.2 s _ v hl hv
          have q2 := hst.2 s _ sp.2 hl (by unfold ends; rw [List.getElem?_map, hsp]; rfl)
          have := (h.1.side s sp v hsp hv).1
          omega

theorem spans_eq {x y : List Sp} (hl : x.length = y.length) (h : ∀ (s : Nat) (p q : Sp), x[s]? = some p → y[s]? = some q → p = q) : x = y := by
  refine List.ext_getElem? fun s => ?_
  rcases Nat.lt_or_ge s x.length with hs | hs
  · have h1 : x[s]? = some x[s] := List.getElem?_eq_getElem hs
    have h2 : y[s]? = some y[s] := List.getElem?_eq_getElem (by omega)
    rw [h1, h2, h s _ _ h1 h2]
  · rw [List.getElem?_eq_none hs, List.getElem?_eq_none (by omega)]

theorem not_less (hml : ms.length = sizes.length) {c d : Ck} {cs ds : List Ck} {prev : Option Bool} {b : Int} {a : List Int} (hc : Cov m sizes (c :: cs) prev b a) (hd : Cov m sizes (d :: ds) prev b a) (pc : ∀ e ∈ c :: cs, Places ms e) (pd : ∀ e ∈ d :: ds, Places ms e) (he : c.1 = d.1) : ¬ c.2.1.2 < d.2.1.2 := by
  intro hlt
  have hbc := hc.1.base
  have hbd := hd.1.base
  have hlc := hc.1.le
  have hdm := (Cov.le hd.2).1
  have hpd := pd d (List.mem_cons_self ..) c.2.1.2 (by omega) hlt
  cases cs with
  | nil => have := hc.2.2; omega
  | cons e cs =>
    have halt := hc.2.1.alt
    cases hst : c.1 with
    | true =>
      have hef : e.1 = false := by
        rw [hst] at halt
        cases h : e.1 with
        | false => rfl
        | true => rw [h] at halt; exact absurd rfl halt
      have : e.1 = true := stable_of hml hc.2 (fun x hx => pc x (List.mem_cons_of_mem _ hx)) (by omega) ⟨by rw [hpd.1, ← he, hst], fun s l v hl hv => by
        obtain ⟨sp, hsp, e1⟩ := ends_at hv
        obtain ⟨u, hu⟩ := at_of hc.1.len hsp
        obtain ⟨sq, hsq⟩ := sp_of hd.1.len hu
        rw [hpd.2 (by rw [← he, hst]) s l sq hl hsq]
        have k1 := hc.1.side s sp u hsp hu
        have k2 := hd.1.side s sq u hsq hu
        have := k1.2.2 hst
        omega⟩
      rw [hef] at this
      cases this
    | false =>
      have het : e.1 = true := by
        rw [hst] at halt
        cases h : e.1 with
        | true => rfl
        | false => rw [h] at halt; exact absurd rfl halt
      have := (stands_of hc.2 (pc e (by simp)) het).2.1
      rw [hpd.1, ← he, hst] at this
      cases this

/-- Where a chunk that isn't stable ends on the sides. -/
theorem ends_of (hml : ms.length = sizes.length) {c : Ck} {cs : List Ck} {prev : Option Bool} {b : Int} {a : List Int} (hc : Cov m sizes (c :: cs) prev b a) (pc : ∀ e ∈ c :: cs, Places ms e) (hf : c.1 = false) :
    (c.2.1.2 = m → ends c = sizes) ∧ (c.2.1.2 < m → ∀ (s : Nat) (l : List Int) (v : Int), ms[s]? = some l → (ends c)[s]? = some v → pl l c.2.1.2 = v) := by
  cases cs with
  | nil =>
    obtain ⟨h1, h2⟩ := hc.2
    exact ⟨fun _ => h1, fun h => by omega⟩
  | cons e cs =>
    have halt := hc.2.1.alt
    have het : e.1 = true := by
      rw [hf] at halt
      cases h : e.1 with
      | true => rfl
      | false => rw [h] at halt; exact absurd rfl halt
    have := stands_of hc.2 (pc e (by simp)) het
    exact ⟨fun h => by omega, fun _ => this.2.2⟩

/-- There is one such list alone. -/
theorem cov_one (hml : ms.length = sizes.length) : ∀ {cs ds : List Ck} {prev : Option Bool} {b : Int} {a : List Int}, Cov m sizes cs prev b a → Cov m sizes ds prev b a → (∀ e ∈ cs, Places ms e) → (∀ e ∈ ds, Places ms e) → cs = ds
  | [], [], _, _, _, _, _, _, _ => rfl
  | [], d :: ds, prev, b, a, hc, hd, _, _ => by
    exfalso
    obtain ⟨rfl, rfl⟩ := hc
    have h1 := Cov.le hd.2
    have hs := hd.1.full
    have hb := hd.1.base
    unfold emptyB at hs
    simp only [Bool.not_eq_false', Bool.or_eq_true, decide_eq_true_eq, List.any_eq_true] at hs
    rcases hs with hs | ⟨sp, hm, hlt⟩
    · omega
    · obtain ⟨s, hsp⟩ := List.mem_iff_getElem?.1 hm
      obtain ⟨v, hv⟩ := at_of hd.1.len hsp
      have := h1.2.2 s sp.2 v (by unfold ends; rw [List.getElem?_map, hsp]; rfl) hv
      have := (hd.1.side s sp v hsp hv).1
      omega
  | c :: cs, [], prev, b, a, hc, hd, _, _ => by
    exfalso
    obtain ⟨rfl, rfl⟩ := hd
    have h1 := Cov.le hc.2
    have hs := hc.1.full
    have hb := hc.1.base
    unfold emptyB at hs
    simp only [Bool.not_eq_false', Bool.or_eq_true, decide_eq_true_eq, List.any_eq_true] at hs
    rcases hs with hs | ⟨sp, hm, hlt⟩
    · omega
    · obtain ⟨s, hsp⟩ := List.mem_iff_getElem?.1 hm
      obtain ⟨v, hv⟩ := at_of hc.1.len hsp
      have := h1.2.2 s sp.2 v (by unfold ends; rw [List.getElem?_map, hsp]; rfl) hv
      have := (hc.1.side s sp v hsp hv).1
      omega
  | c :: cs, d :: ds, prev, b, a, hc, hd, pc, pd => by
    have he : c.1 = d.1 := by
      cases h1 : c.1 with
      | true =>
        obtain ⟨k1, k2⟩ := stands_of hc (pc c (List.mem_cons_self ..)) h1
        rw [stable_of hml hd pd k1 k2]
      | false =>
        cases h2 : d.1 with
        | false => rfl
        | true =>
          obtain ⟨k1, k2⟩ := stands_of hd (pd d (List.mem_cons_self ..)) h2
          rw [stable_of hml hc pc k1 k2] at h1
          cases h1
    have hto : c.2.1.2 = d.2.1.2 := by
      have n1 := not_less hml hc hd pc pd he
      have n2 := not_less hml hd hc pd pc he.symm
      omega
    have hbc := hc.1.base
    have hbd := hd.1.base
    have hlen : c.2.2.length = d.2.2.length := by rw [hc.1.len, hd.1.len]
    have hs : c.2.2 = d.2.2 := by
      refine spans_eq hlen fun s p q h1 h2 => ?_
      obtain ⟨v, hv⟩ := at_of hc.1.len h1
      obtain ⟨p1, p2, p3⟩ := hc.1.side s p v h1 hv
      obtain ⟨q1, q2, q3⟩ := hd.1.side s q v h2 hv
      have h1' : (ends c)[s]? = some p.2 := by unfold ends; rw [List.getElem?_map, h1]; rfl
      have h2' : (ends d)[s]? = some q.2 := by unfold ends; rw [List.getElem?_map, h2]; rfl
      refine Prod.ext (by omega) ?_
      cases hst : c.1 with
      | true =>
        have := p3 hst
        have := q3 (by rw [← he, hst])
        omega
      | false =>
        obtain ⟨e1, e2⟩ := ends_of hml hc pc hst
        obtain ⟨f1, f2⟩ := ends_of hml hd pd (by rw [← he, hst])
        have hcm := (Cov.le hc.2).1
        rcases Int.lt_or_le c.2.1.2 m with hlt | hge
        · have hsl := (List.getElem?_eq_some_iff.1 hv).1
          have hl2 := (Cov.le hc).2.1
          have hl : ms[s]? = some ms[s] := List.getElem?_eq_getElem (by omega)
          have g1 := e2 hlt s _ _ hl h1'
          have g2 := f2 (by omega) s _ _ hl h2'
          rw [hto] at g1
          rw [← g1, ← g2]
        · rw [e1 (by omega)] at h1'
          rw [f1 (by omega), h1'] at h2'
          injection h2'
    have hcd : c = d := by
      refine Prod.ext he (Prod.ext (Prod.ext (by omega) hto) hs)
    subst hcd
    rw [cov_one hml hc.2 hd.2 (fun e h => pc e (List.mem_cons_of_mem _ h)) (fun e h => pd e (List.mem_cons_of_mem _ h))]
end
end Go.Proofs.YtdfpifipkchmnaaGreatDoor
/- Proved here, without conditions: chunks of sides that were picked, in whatever turn, each once at least: they are those of all sides, with the same sides picked in each. -/
namespace Go.Proofs.YtdfpifipkchmnaaGreatDoor
set_option linter.unusedVariables false

/-- The chunks of matches. -/
def IsCut (m : Int) (sizes : List Int) (ms : List (List Int)) (cs : List Ck) : Prop := Cov m sizes cs none 0 (List.replicate sizes.length 0) ∧ ∀ c ∈ cs, Places ms c
/-- A match of m places to z: numbers that aren't -1 rise, from 0 on, below z. -/
def IsMatch (m : Nat) (l : List Int) (z : Int) : Prop := l.length = m ∧ (∀ u ∈ l, u ≠ -1 → 0 ≤ u ∧ u < z) ∧ l.Pairwise (fun u v => u ≠ -1 → v ≠ -1 → u < v)
/-- Those at the places of p. -/
def sel {α : Type} (d : α) (p : List Nat) (l : List α) : List α := p.map fun i => (l[i]?).getD d
theorem sel_len {α : Type} (d : α) (p : List Nat) (l : List α) : (sel d p l).length = p.length := by simp [sel]
theorem sel_map {α β : Type} (f : α → β) (d : α) (p : List Nat) (l : List α) : (sel d p l).map f = sel (f d) p (l.map f) := by
  unfold sel
  rw [List.map_map]
  apply List.map_congr_left
  intro i _
  simp only [Function.comp, List.getElem?_map]
  cases l[i]? <;> rfl
theorem sel_at {α : Type} {d : α} {p : List Nat} {l : List α} (hp : ∀ i ∈ p, i < l.length) {j : Nat} {x : α} (h : (sel d p l)[j]? = some x) : ∃ i, p[j]? = some i ∧ l[i]? = some x := by
  unfold sel at h
  rw [List.getElem?_map] at h
  cases hj : p[j]? with
  | none => rw [hj] at h; cases h
  | some i =>
    rw [hj] at h
    have hi := hp i (List.mem_of_getElem? hj)
    refine ⟨i, rfl, ?_⟩
    simp only [Option.map_some] at h
    rw [List.getElem?_eq_getElem hi] at h ⊢
    simpa using h
theorem sel_mem {α : Type} {d : α} {p : List Nat} {l : List α} (hp : ∀ i ∈ p, i < l.length) {x : α} (h : x ∈ sel d p l) : x ∈ l := by
  obtain ⟨j, hj⟩ := List.mem_iff_getElem?.1 h
  obtain ⟨i, _, h2⟩ := sel_at hp hj
  exact List.mem_of_getElem? h2
theorem mem_sel {α : Type} {d : α} {p : List Nat} {l : List α} (ha : ∀ i, i < l.length → i ∈ p) {x : α} (h : x ∈ l) : x ∈ sel d p l := by
  obtain ⟨i, hi⟩ := List.mem_iff_getElem?.1 h
  have hlt := (List.getElem?_eq_some_iff.1 hi).1
  unfold sel
  exact List.mem_map.2 ⟨i, ha i hlt, by rw [hi]; rfl⟩

/-- A chunk of which some sides were picked. -/
def selC (p : List Nat) (c : Ck) : Ck := (c.1, c.2.1, sel (0, 0) p c.2.2)
theorem ends_sel (p : List Nat) (c : Ck) : ends (selC p c) = sel 0 p (ends c) := by
  unfold ends selC
  rw [sel_map]

section
variable {p : List Nat} {k : Nat}
theorem empty_sel (hp : ∀ i ∈ p, i < k) (ha : ∀ i, i < k → i ∈ p) {c : Ck} (hl : c.2.2.length = k) : emptyB (selC p c) = emptyB c := by
  unfold emptyB selC
  congr 2
  rw [Bool.eq_iff_iff, List.any_eq_true, List.any_eq_true]
  constructor
  · rintro ⟨s, h1, h2⟩
    exact ⟨s, sel_mem (by rw [hl]; exact hp) h1, h2⟩
  · rintro ⟨s, h1, h2⟩
    exact ⟨s, mem_sel (by rw [hl]; exact ha) h1, h2⟩
theorem head_sel (hp : ∀ i ∈ p, i < k) (ha : ∀ i, i < k → i ∈ p) {c : Ck} {prev : Option Bool} {b : Int} {a : List Int} (hk : a.length = k) (h : Head c prev b a) : Head (selC p c) prev b (sel 0 p a) where
  base := h.base
  le := h.le
  len := by unfold selC; rw [sel_len, sel_len]
  alt := h.alt
  full := by rw [empty_sel hp ha (h.len.trans hk)]; exact h.full
  side := fun s sp v h1 h2 => by
    obtain ⟨i, e1, e2⟩ := sel_at (by rw [h.len, hk]; exact hp) h1
    obtain ⟨j, e3, e4⟩ := sel_at (by rw [hk]; exact hp) h2
    rw [e1] at e3
    injection e3 with e3
    subst e3
    exact h.side i sp v e2 e4
theorem cov_sel (hp : ∀ i ∈ p, i < k) (ha : ∀ i, i < k → i ∈ p) {m : Int} {sizes : List Int} : ∀ {cs : List Ck} {prev : Option Bool} {b : Int} {a : List Int}, a.length = k → Cov m sizes cs prev b a → Cov m (sel 0 p sizes) (cs.map (selC p)) prev b (sel 0 p a)
  | [], _, _, _, _, h => by
    obtain ⟨rfl, rfl⟩ := h
    exact ⟨rfl, rfl⟩
  | c :: cs, prev, b, a, hk, h => by
    refine ⟨head_sel hp ha hk h.1, ?_⟩
    have h2 := cov_sel hp ha (by rw [ends_len, h.1.len, hk]) h.2
    rw [← ends_sel] at h2
    exact h2
theorem allP_sel (hp : ∀ i ∈ p, i < k) (ha : ∀ i, i < k → i ∈ p) {ms : List (List Int)} (hk : ms.length = k) (t : Int) : allP (sel [] p ms) t = allP ms t := by
  unfold allP
  rw [Bool.eq_iff_iff, List.all_eq_true, List.all_eq_true]
  exact ⟨fun h x hx => h x (mem_sel (by rw [hk]; exact ha) hx), fun h x hx => h x (sel_mem (by rw [hk]; exact hp) hx)⟩
theorem places_sel (hp : ∀ i ∈ p, i < k) (ha : ∀ i, i < k → i ∈ p) {ms : List (List Int)} (hk : ms.length = k) {c : Ck} (hl : c.2.2.length = k) (h : Places ms c) : Places (sel [] p ms) (selC p c) := by
  intro t h1 h2
  obtain ⟨q1, q2⟩ := h t h1 h2
  refine ⟨by rw [allP_sel hp ha hk]; exact q1, fun hc s l sp e1 e2 => ?_⟩
  obtain ⟨i, d1, d2⟩ := sel_at (by rw [hk]; exact hp) e1
  obtain ⟨j, d3, d4⟩ := sel_at (l := c.2.2) (by rw [hl]; exact hp) e2
  rw [d1] at d3
  injection d3 with d3
  subst d3
  exact q2 hc i l sp d2 d4
theorem cov_lens {m : Int} {sizes : List Int} : ∀ {cs : List Ck} {prev : Option Bool} {b : Int} {a : List Int}, a.length = k → Cov m sizes cs prev b a → ∀ c ∈ cs, c.2.2.length = k
  | [], _, _, _, _, _, c, hc => by cases hc
  | d :: cs, prev, b, a, hk, h, c, hc => by
    have h1 : d.2.2.length = k := h.1.len.trans hk
    rcases List.mem_cons.1 hc with rfl | hc
    · exact h1
    · exact cov_lens (by rw [ends_len]; exact h1) h.2 c hc
/-- The chunks of sides that were picked. -/
theorem cut_sel (hp : ∀ i ∈ p, i < k) (ha : ∀ i, i < k → i ∈ p) {m : Int} {sizes : List Int} {ms : List (List Int)} {cs ds : List Ck} (hs : sizes.length = k) (hm : ms.length = k) (h : IsCut m sizes ms cs) (h' : IsCut m (sel 0 p sizes) (sel [] p ms) ds) : ds = cs.map (selC p) := by
  have hl := cov_lens (k := k) (by rw [List.length_replicate, hs]) h.1
  have h1 := cov_sel hp ha (by rw [List.length_replicate, hs]) h.1
  have h2 : sel 0 p (List.replicate sizes.length (0 : Int)) = List.replicate (sel 0 p sizes).length 0 := by
    rw [sel_len]
    unfold sel
    rw [List.eq_replicate_iff]
    refine ⟨by simp, fun b hb => ?_⟩
    obtain ⟨i, _, rfl⟩ := List.mem_map.1 hb
    rw [List.getElem?_replicate]
    split <;> rfl
  rw [h2] at h1
  refine cov_one (by rw [sel_len, sel_len]) h'.1 h1 h'.2 fun e he => ?_
  obtain ⟨c, hc, rfl⟩ := List.mem_map.1 he
  exact places_sel hp ha hm (hl c hc) (h.2 c hc)
end

/-- Turned by n. -/
def turnP (k n : Nat) : List Nat := (List.range k).map fun j => (j + n) % k
theorem turnP_lt {k n : Nat} (hk : 0 < k) : ∀ i ∈ turnP k n, i < k := by
  intro i hi
  obtain ⟨j, _, rfl⟩ := List.mem_map.1 hi
  exact Nat.mod_lt _ hk
theorem turnP_all {k n : Nat} (hn : n < k) : ∀ i, i < k → i ∈ turnP k n := by
  intro i hi
  unfold turnP
  by_cases h : n ≤ i
  · exact List.mem_map.2 ⟨i - n, List.mem_range.2 (by omega), by rw [show i - n + n = i by omega, Nat.mod_eq_of_lt hi]⟩
  · refine List.mem_map.2 ⟨i + k - n, List.mem_range.2 (by omega), ?_⟩
    rw [show i + k - n + n = i + k by omega, Nat.add_mod_right, Nat.mod_eq_of_lt hi]
theorem sel_turn {α : Type} (d : α) (l : List α) {n : Nat} (hn : n < l.length) : l.drop n ++ l.take n = sel d (turnP l.length n) l := by
  apply List.ext_getElem?
  intro j
  unfold sel turnP
  rw [List.map_map, List.getElem?_map]
  by_cases hj : j < l.length
  · rw [List.getElem?_range hj]
    simp only [Option.map_some, Function.comp]
    have hm : (j + n) % l.length < l.length := Nat.mod_lt _ (by omega)
    rw [List.getElem?_eq_getElem hm, Option.getD_some]
    by_cases h : j < l.length - n
    · rw [List.getElem?_append_left (by simp; omega), List.getElem?_drop, List.getElem?_eq_getElem (by omega)]
      congr 1
      simp only [show (j + n) % l.length = n + j from by rw [Nat.mod_eq_of_lt (by omega)]; omega]
    · rw [List.getElem?_append_right (by simp; omega), List.length_drop, List.getElem?_take, if_pos (by omega), List.getElem?_eq_getElem (by omega)]
      congr 1
      have e : (j + n) % l.length = j - (l.length - n) := by
        rw [show j + n = (j - (l.length - n)) + l.length by omega, Nat.add_mod_right, Nat.mod_eq_of_lt (by omega)]
      simp only [e]
  · rw [List.getElem?_eq_none (by simp; omega), List.getElem?_eq_none (by simp; omega)]
    rfl
/-- One more, that of place n again. -/
def moreP (k n : Nat) : List Nat := List.range k ++ [n]
theorem moreP_lt {k n : Nat} (hn : n < k) : ∀ i ∈ moreP k n, i < k := by
  intro i hi
  rcases List.mem_append.1 hi with h | h
  · exact List.mem_range.1 h
  · simp at h; omega
theorem moreP_all {k n : Nat} : ∀ i, i < k → i ∈ moreP k n := fun i hi => List.mem_append_left _ (List.mem_range.2 hi)
theorem sel_more {α : Type} (d : α) (l : List α) {n : Nat} {x : α} (hx : l[n]? = some x) : l ++ [x] = sel d (moreP l.length n) l := by
  unfold sel moreP
  rw [List.map_append, List.map_cons, List.map_nil, hx, Option.getD_some]
  congr 1
  apply List.ext_getElem?
  intro j
  rw [List.getElem?_map]
  by_cases hj : j < l.length
  · rw [List.getElem?_range hj, List.getElem?_eq_getElem hj]
    simp [hj]
  · rw [List.getElem?_eq_none (by omega), List.getElem?_eq_none (by simp; omega)]
    rfl

end Go.Proofs.YtdfpifipkchmnaaGreatDoor
