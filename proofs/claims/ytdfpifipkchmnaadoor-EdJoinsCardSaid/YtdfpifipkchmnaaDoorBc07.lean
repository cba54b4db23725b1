/- Proved here: texts joined: AlignPure. -/
import Derived.WalkKit
/- Proved here, without conditions: plain facts on chunks: what lies one behind the other, and has in stable chunks just the places that all matches pair, is one list alone. -/
namespace Go.Proofs.YtdfpifipkchmnaaDoor
set_option linter.unusedVariables false

/-- A span; a chunk: is it stable, the base's span, the sides' spans. -/
abbrev Sp := Int × Int
abbrev Ck := Bool × Sp × List Sp

/-- With which place one is paired; -1: with none. -/
def pl (l : List Int) (k : Int) : Int := (l[k.toNat]?).getD (-1)
/-- Does each match pair a place? -/
def allP (ms : List (List Int)) (k : Int) : Bool := ms.all fun l => decide (0 ≤ pl l k)
def ends (c : Ck) : List Int := c.2.2.map fun s => s.2
def emptyB (c : Ck) : Bool := !(decide (c.2.1.1 < c.2.1.2) || c.2.2.any fun s => decide (s.1 < s.2))

/-- A chunk that may stand behind one that is stable or not (prev), from place b of the base, and the places a of the sides. -/
structure Head (c : Ck) (prev : Option Bool) (b : Int) (a : List Int) : Prop where
  base : c.2.1.1 = b
  le : b ≤ c.2.1.2
  len : c.2.2.length = a.length
  alt : prev ≠ some c.1
  full : emptyB c = false
  side : ∀ (s : Nat) (sp : Sp) (v : Int), c.2.2[s]? = some sp → a[s]? = some v → sp.1 = v ∧ v ≤ sp.2 ∧ (c.1 = true → sp.2 - sp.1 = c.2.1.2 - c.2.1.1)
/-- Chunks one behind the other, to the ends. -/
def Cov (m : Int) (sizes : List Int) : List Ck → Option Bool → Int → List Int → Prop
  | [], _, b, a => a = sizes ∧ b = m
  | c :: cs, prev, b, a => Head c prev b a ∧ Cov m sizes cs (some c.1) c.2.1.2 (ends c)
/-- In a stable chunk all places are paired by all, place by place; in another one none is by all. -/
def Places (ms : List (List Int)) (c : Ck) : Prop :=
  ∀ k, c.2.1.1 ≤ k → k < c.2.1.2 → allP ms k = c.1 ∧ (c.1 = true → ∀ (s : Nat) (l : List Int) (sp : Sp), ms[s]? = some l → c.2.2[s]? = some sp → pl l k = sp.1 + k - c.2.1.1)

theorem ends_len (c : Ck) : (ends c).length = c.2.2.length := by simp [ends]
theorem ends_at {c : Ck} {s : Nat} {v : Int} (h : (ends c)[s]? = some v) : ∃ sp : Sp, c.2.2[s]? = some sp ∧ sp.2 = v := by
  unfold ends at h
  rw [List.getElem?_map] at h
  cases hc : c.2.2[s]? with
  | none => rw [hc] at h; cases h
  | some sp => rw [hc] at h; exact ⟨sp, rfl, by simpa using h⟩
theorem at_of {a : List Int} {c : Ck} {s : Nat} {sp : Sp} (hl : c.2.2.length = a.length) (h : c.2.2[s]? = some sp) : ∃ v, a[s]? = some v := by
  have := (List.getElem?_eq_some_iff.1 h).1
  exact ⟨a[s], List.getElem?_eq_getElem (by omega)⟩
theorem sp_of {a : List Int} {c : Ck} {s : Nat} {v : Int} (hl : c.2.2.length = a.length) (h : a[s]? = some v) : ∃ sp, c.2.2[s]? = some sp := by
  have := (List.getElem?_eq_some_iff.1 h).1
  exact ⟨c.2.2[s], List.getElem?_eq_getElem (by omega)⟩

section
variable {m : Int} {sizes : List Int} {ms : List (List Int)}
theorem Cov.le : ∀ {cs : List Ck} {prev : Option Bool} {b : Int} {a : List Int}, Cov m sizes cs prev b a → b ≤ m ∧ a.length = sizes.length ∧ ∀ (s : Nat) (v z : Int), a[s]? = some v → sizes[s]? = some z → v ≤ z
  | [], prev, b, a, h => by
    obtain ⟨rfl, rfl⟩ := h
    exact ⟨Int.le_refl _, rfl, fun s v z h1 h2 => by rw [h1] at h2; injection h2 with h2; omega⟩
  | c :: cs, prev, b, a, h => by
    obtain ⟨h1, h2⟩ := h
    obtain ⟨k1, k2, k3⟩ := Cov.le h2
    have hl := h1.len
    rw [ends_len] at k2
    refine ⟨by have := h1.le; omega, by omega, fun s v z hv hz => ?_⟩
    obtain ⟨sp, hsp⟩ := sp_of hl hv
    obtain ⟨e1, e2, _⟩ := h1.side s sp v hsp hv
    have := k3 s sp.2 z (by unfold ends; rw [List.getElem?_map, hsp]; rfl) hz
    omega
theorem Head.one {c : Ck} {prev : Option Bool} {b : Int} {a : List Int} (h : Head c prev b a) (hc : c.1 = true) : b < c.2.1.2 := by
  have hs := h.full
  have hb := h.base
  have hle := h.le
  unfold emptyB at hs
  simp only [Bool.not_eq_false', Bool.or_eq_true, decide_eq_true_eq, List.any_eq_true] at hs
  rcases hs with hs | ⟨sp, hm, hlt⟩
  · omega
  · obtain ⟨s, hs⟩ := List.mem_iff_getElem?.1 hm
    obtain ⟨v, hv⟩ := at_of h.len hs
    have := (h.side s sp v hs hv).2.2 hc
    omega

/-- All matches pair place b with just the places a. -/
def Stands (ms : List (List Int)) (b : Int) (a : List Int) : Prop := allP ms b = true ∧ ∀ (s : Nat) (l : List Int) (v : Int), ms[s]? = some l → a[s]? = some v → pl l b = v

theorem stands_of {c : Ck} {cs : List Ck} {prev : Option Bool} {b : Int} {a : List Int} (h : Cov m sizes (c :: cs) prev b a) (hp : Places ms c) (hc : c.1 = true) : b < m ∧ Stands ms b a := by
  have hlt := h.1.one hc
  have hb := h.1.base
  obtain ⟨h1, h2⟩ := hp b (by omega) hlt
  refine ⟨by have := (Cov.le h.2).1; omega, by rw [h1, hc], fun s l v hl hv => ?_⟩
  obtain ⟨sp, hsp⟩ := sp_of h.1.len hv
  have := (h.1.side s sp v hsp hv).1
  rw [h2 hc s l sp hl hsp]
  omega
theorem stable_of (hml : ms.length = sizes.length) {c : Ck} {cs : List Ck} {prev : Option Bool} {b : Int} {a : List Int} (h : Cov m sizes (c :: cs) prev b a) (hp : ∀ d ∈ c :: cs, Places ms d) (hb : b < m) (hs : Stands ms b a) : c.1 = true := by
  cases hc : c.1 with
  | true => rfl
  | false =>
    exfalso
    have hbb := h.1.base
    rcases Int.lt_or_le b c.2.1.2 with hlt | hge
    · have := (hp c (List.mem_cons_self ..) b (by omega) hlt).1
      rw [hs.1, hc] at this
      cases this
    · have hle := h.1.le
      have hto : c.2.1.2 = b := by omega
      cases cs with
      | nil =>
        have := h.2.2
        omega
      | cons e cs =>
        have he : e.1 = true := by
          have := h.2.1.alt
          rw [hc] at this
          cases he : e.1 with
          | true => rfl
          | false => rw [he] at this; exact absurd rfl this
        have hst := (stands_of h.2 (hp e (by simp)) he).2
        rw [hto] at hst
        have hse := h.1.full
        unfold emptyB at hse
        simp only [Bool.not_eq_false', Bool.or_eq_true, decide_eq_true_eq, List.any_eq_true] at hse
        rcases hse with hse | ⟨sp, hm, hlt⟩
        · omega
        · obtain ⟨s, hsp⟩ := List.mem_iff_getElem?.1 hm
          obtain ⟨v, hv⟩ := at_of h.1.len hsp
          have hl2 := (Cov.le h).2.1
          have hsl := (List.getElem?_eq_some_iff.1 hv).1
          have hl : ms[s]? = some ms[s] := List.getElem?_eq_getElem (by omega)
          have q1 := hs.2 s _ v hl hv
          have q2 := hst.2 s _ sp.2 hl (by unfold ends; rw [List.getElem?_map, hsp]; rfl)
          have := (h.1.side s sp v hsp hv).1
          omega

theorem spans_eq {x y : List Sp} (hl : x.length = y.length) (h : ∀ (s : Nat) (p q : Sp), x[s]? = some p → y[s]? = some q → p = q) : x = y := by
  refine List.ext_getElem? fun s => ?_
  rcases Nat.lt_or_ge s x.length with hs | hs
  · have h1 : x[s]? = some x[s] := List.getElem?_eq_getElem hs
    have h2 : y[s]? = some y[s] := List.getElem?_eq_getElem (by omega)
    rw [h1, h2, h s _ _ h1 h2]
  · rw [List.getElem?_eq_none hs, List.getElem?_eq_none (by omega)]

theorem not_less (hml : ms.length = sizes.length) {c d : Ck} {cs ds : List Ck} {prev : Option Bool} {b : Int} {a : List Int} (hc : Cov m sizes (c :: cs) prev b a) (hd : Cov m sizes (d :: ds) prev b a) (pc : ∀ e ∈ c :: cs, Places ms e) (pd : ∀ e ∈ d :: ds, Places ms e) (he : c.1 = d.1) : ¬ c.2.1.2 < d.2.1.2 := by
  intro hlt
  have hbc := hc.1.base
  have hbd := hd.1.base
  have hlc := hc.1.le
  have hdm := (Cov.le hd.2).1
  have hpd := pd d (List.mem_cons_self ..) c.2.1.2 (by omega) hlt
  cases cs with
  | nil => have := hc.2.2; omega
  | cons e cs =>
    have halt := hc.2.1.alt
    cases hst : c.1 with
    | true =>
      have hef : e.1 = false := by
        rw [hst] at halt
        cases h : e.1 with
        | false => rfl
        | true => rw [h] at halt; exact absurd rfl halt
      have : e.1 = true := stable_of hml hc.2 (fun x hx => pc x (List.mem_cons_of_mem _ hx)) (by omega) ⟨by rw [hpd.1, ← he, hst], fun s l v hl hv => by
        obtain ⟨sp, hsp, e1⟩ := ends_at hv
        obtain ⟨u, hu⟩ := at_of hc.1.len hsp
        obtain ⟨sq, hsq⟩ := sp_of hd.1.len hu
        rw [hpd.2 (by rw [← he, hst]) s l sq hl hsq]
        have k1 := hc.1.side s sp u hsp hu
        have k2 := hd.1.side s sq u hsq hu
        have := k1.2.2 hst
        omega⟩
      rw [hef] at this
      cases this
    | false =>
      have het : e.1 = true := by
        rw [hst] at halt
        cases h : e.1 with
        | true => rfl
        | false => rw [h] at halt; exact absurd rfl halt
      have := (stands_of hc.2 (pc e (by simp)) het).2.1
      rw [hpd.1, ← he, hst] at this
      cases this

/-- Where a chunk that isn't stable ends on the sides. -/
theorem ends_of (hml : ms.length = sizes.length) {c : Ck} {cs : List Ck} {prev : Option Bool} {b : Int} {a : List Int} (hc : Cov m sizes (c :: cs) prev b a) (pc : ∀ e ∈ c :: cs, Places ms e) (hf : c.1 = false) :
    (c.2.1.2 = m → ends c = sizes) ∧ (c.2.1.2 < m → ∀ (s : Nat) (l : List Int) (v : Int), ms[s]? = some l → (ends c)[s]? = some v → pl l c.2.1.2 = v) := by
  cases cs with
  | nil =>
    obtain ⟨h1, h2⟩ := hc.2
    exact ⟨fun _ => h1, fun h => by omega⟩
  | cons e cs =>
    have halt := hc.2.1.alt
    have het : e.1 = true := by
      rw [hf] at halt
      cases h : e.1 with
      | true => rfl
      | false => rw [h] at halt; exact absurd rfl halt
    have := stands_of hc.2 (pc e (by simp)) het
    exact ⟨fun h => by omega, fun _ => this.2.2⟩

/-- There is one such list alone. -/
theorem cov_one (hml : ms.length = sizes.length) : ∀ {cs ds : List Ck} {prev : Option Bool} {b : Int} {a : List Int}, Cov m sizes cs prev b a → Cov m sizes ds prev b a → (∀ e ∈ cs, Places ms e) → (∀ e ∈ ds, Places ms e) → cs = ds
  | [], [], _, _, _, _, _, _, _ => rfl
  | [], d :: ds, prev, b, a, hc, hd, _, _ => by
    exfalso
    obtain ⟨rfl, rfl⟩ := hc
    have h1 := Cov.le hd.2
    have hs := hd.1.full
    have hb := hd.1.base
    unfold emptyB at hs
    simp only [Bool.not_eq_false', Bool.or_eq_true, decide_eq_true_eq, List.any_eq_true] at hs
    rcases hs with hs | ⟨sp, hm, hlt⟩
    · omega
    · obtain ⟨s, hsp⟩ := List.mem_iff_getElem?.1 hm
      obtain ⟨v, hv⟩ := at_of hd.1.len hsp
      have := h1.2.2 s sp.2 v (by unfold ends; rw [List.getElem?_map, hsp]; rfl) hv
      have := (hd.1.side s sp v hsp hv).1
      omega
  | c :: cs, [], prev, b, a, hc, hd, _, _ => by
    exfalso
    obtain ⟨rfl, rfl⟩ := hd
    have h1 := Cov.le hc.2
    have hs := hc.1.full
    have hb := hc.1.base
    unfold emptyB at hs
    simp only [Bool.not_eq_false', Bool.or_eq_true, decide_eq_true_eq, List.any_eq_true] at hs
    rcases hs with hs | ⟨sp, hm, hlt⟩
    · omega
    · obtain ⟨s, hsp⟩ := List.mem_iff_getElem?.1 hm
      obtain ⟨v, hv⟩ := at_of hc.1.len hsp
      have := h1.2.2 s sp.2 v (by unfold ends; rw [List.getElem?_map, hsp]; rfl) hv
      have := (hc.1.side s sp v hsp hv).1
      omega
  | c :: cs, d :: ds, prev, b, a, hc, hd, pc, pd => by
    have he : c.1 = d.1 := by
      cases h1 : c.1 with
      | true =>
        obtain ⟨k1, k2⟩ := stands_of hc (pc c (List.mem_cons_self ..)) h1
        rw [stable_of hml hd pd k1 k2]
      | false =>
        cases h2 : d.1 with
        | false => rfl
        | true =>
          obtain ⟨k1, k2⟩ := stands_of hd (pd d (List.mem_cons_self ..)) h2
          rw [stable_of hml hc pc k1 k2] at h1
          cases h1
    have hto : c.2.1.2 = d.2.1.2 := by
      have n1 := not_less hml hc hd pc pd he
      have n2 := not_less hml hd hc pd pc he.symm
      omega
    have hbc := hc.1.base
    have hbd := hd.1.base
    have hlen : c.2.2.length = d.2.2.length := by rw [hc.1.len, hd.1.len]
    have hs : c.2.2 = d.2.2 := by
      refine spans_eq hlen fun s p q h1 h2 => ?_
      obtain ⟨v, hv⟩ := at_of hc.1.len h1
      obtain ⟨p1, p2, p3⟩ := hc.1.side s p v h1 hv
      obtain ⟨q1, q2, q3⟩ := hd.1.side s q v h2 hv
      have h1' : (ends c)[s]? = some p.2 := by unfold ends; rw [List.getElem?_map, h1]; rfl
      have h2' : (ends d)[s]? = some q.2 := by unfold ends; rw [List.getElem?_map, h2]; rfl
      refine Prod.ext (by omega) ?_
      cases hst : c.1 with
      | true =>
        have := p3 hst
        have := q3 (by rw [← he, hst])
        omega
      | false =>
        obtain ⟨e1, e2⟩ := ends_of hml hc pc hst
        obtain ⟨f1, f2⟩ := ends_of hml hd pd (by rw [← he, hst])
        have hcm := (Cov.le hc.2).1
        rcases Int.lt_or_le c.2.1.2 m with hlt | hge
        · have hsl := (List.getElem?_eq_some_iff.1 hv).1
          have hl2 := (Cov.le hc).2.1
          have hl : ms[s]? = some ms[s] := List.getElem?_eq_getElem (by omega)
          have g1 := e2 hlt s _ _ hl h1'
          have g2 := f2 (by omega) s _ _ hl h2'
          rw [hto] at g1
          rw [← g1, ← g2]
        · rw [e1 (by omega)] at h1'
          rw [f1 (by omega), h1'] at h2'
          injection h2'
    have hcd : c = d := by
      refine Prod.ext he (Prod.ext (Prod.ext (by omega) hto) hs)
    subst hcd
    rw [cov_one hml hc.2 hd.2 (fun e h => pc e (List.mem_cons_of_mem _ h)) (fun e h => pd e (List.mem_cons_of_mem _ h))]
end
end Go.Proofs.YtdfpifipkchmnaaDoor
