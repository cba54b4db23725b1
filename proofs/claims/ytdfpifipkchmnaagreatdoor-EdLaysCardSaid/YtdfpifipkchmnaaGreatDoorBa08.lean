/- Proved here: texts joined: MergeCat. -/
import Derived.Test.YtdfpifipkchmnaaGreatDoorBa07
/- Proved here, without conditions: plain facts on merges: the parts of chunks, one behind the other, are all; stable chunks have the same of all; what becomes of chunks. -/
namespace Go.Proofs.YtdfpifipkchmnaaGreatDoor
set_option linter.unusedVariables false

theorem cutL_drop {α : Type} {l : List α} {f t : Int} (h0 : 0 ≤ f) (h1 : f ≤ t) : l.drop f.toNat = cutL l f t ++ l.drop t.toNat := by
  unfold cutL
  have e : l.drop t.toNat = (l.drop f.toNat).drop (t - f).toNat := by rw [List.drop_drop]; congr 1; omega
  rw [e, List.take_append_drop]
theorem cutL_at {α : Type} {l : List α} {f t : Int} (j : Nat) : (cutL l f t)[j]? = if j < (t - f).toNat then l[f.toNat + j]? else none := by
  unfold cutL
  rw [List.getElem?_take, List.getElem?_drop]
/-- A chunk's part of the base; of side s; of all sides. -/
def cutB (c : Ck) (base : Txs) : Txs := cutL base c.2.1.1 c.2.1.2
def cutS (c : Ck) (s : Nat) (d : Txs) : Txs := match c.2.2[s]? with | some sp => cutL d sp.1 sp.2 | none => []
def cutsP (c : Ck) (sides : List Txs) : List Txs := List.zipWith (fun (s : Sp) l => cutL l s.1 s.2) c.2.2 sides

theorem cat_base {base : Txs} {sizes : List Int} : ∀ {cs : List Ck} {prev : Option Bool} {b : Int} {a : List Int}, Cov base.length sizes cs prev b a → 0 ≤ b → cs.flatMap (fun c => cutB c base) = base.drop b.toNat
  | [], _, b, a, h, h0 => by
    obtain ⟨rfl, rfl⟩ := h
    simp
  | c :: cs, prev, b, a, h, h0 => by
    have hb := h.1.base
    have hle := h.1.le
    rw [List.flatMap_cons, cat_base h.2 (by omega), cutL_drop (t := c.2.1.2) h0 hle]
    unfold cutB
    rw [hb]
theorem cat_side {m : Int} {sizes : List Int} {s : Nat} {d : Txs} (hz : sizes[s]? = some (d.length : Int)) : ∀ {cs : List Ck} {prev : Option Bool} {b : Int} {a : List Int} {v : Int}, Cov m sizes cs prev b a → a[s]? = some v → 0 ≤ v → cs.flatMap (fun c => cutS c s d) = d.drop v.toNat
  | [], _, b, a, v, h, hv, h0 => by
    obtain ⟨rfl, rfl⟩ := h
    rw [hz] at hv
    injection hv with hv
    subst hv
    simp
  | c :: cs, prev, b, a, v, h, hv, h0 => by
    obtain ⟨sp, hsp⟩ := sp_of h.1.len hv
    obtain ⟨e1, e2, _⟩ := h.1.side s sp v hsp hv
    have he : (ends c)[s]? = some sp.2 := by unfold ends; rw [List.getElem?_map, hsp]; rfl
    rw [List.flatMap_cons, cat_side hz h.2 he (by omega), cutL_drop (t := sp.2) h0 e2]
    unfold cutS
    rw [hsp]
    dsimp only
    rw [e1]
theorem cov_sides {m : Int} {sizes : List Int} : ∀ {cs : List Ck} {prev : Option Bool} {b : Int} {a : List Int}, Cov m sizes cs prev b a → (∀ v ∈ a, 0 ≤ v) → ∀ c ∈ cs, ∀ (s : Nat) (sp : Sp) (z : Int), c.2.2[s]? = some sp → sizes[s]? = some z → 0 ≤ sp.1 ∧ sp.1 ≤ sp.2 ∧ sp.2 ≤ z ∧ (c.1 = true → sp.2 - sp.1 = c.2.1.2 - c.2.1.1)
  | [], _, _, _, _, _, c, hc => by cases hc
  | d :: cs, prev, b, a, h, ha, c, hc => by
    have hm := Cov.le h.2
    have hend : ∀ v ∈ ends d, 0 ≤ v := by
      intro v hv
      obtain ⟨s, hs⟩ := List.mem_iff_getElem?.1 hv
      obtain ⟨sp, hsp, rfl⟩ := ends_at hs
      obtain ⟨u, hu⟩ := at_of h.1.len hsp
      have := h.1.side s sp u hsp hu
      have := ha u (List.mem_of_getElem? hu)
      omega
    rcases List.mem_cons.1 hc with rfl | hc
    · intro s sp z hsp hz
      obtain ⟨u, hu⟩ := at_of h.1.len hsp
      have h1 := h.1.side s sp u hsp hu
      have h2 := ha u (List.mem_of_getElem? hu)
      have h3 := hm.2.2 s sp.2 z (by unfold ends; rw [List.getElem?_map, hsp]; rfl) hz
      exact ⟨by omega, by omega, h3, h1.2.2⟩
    · exact cov_sides h.2 hend c hc

/-- Matches pair what is the same. -/
def SameM (base : Txs) (sides : List Txs) (ms : List (List Int)) : Prop := ∀ (s : Nat) (l : List Int) (d : Txs), ms[s]? = some l → sides[s]? = some d → ∀ (k : Nat) (v : Int), l[k]? = some v → 0 ≤ v → ∃ t, base[k]? = some t ∧ d[v.toNat]? = some t
def szs (sides : List Txs) : List Int := sides.map fun d => (d.length : Int)
/-- Chunks of a base, and sides, by matches that pair what is the same. -/
structure Laid (base : Txs) (sides : List Txs) (ms : List (List Int)) (cs : List Ck) : Prop where
  len : ms.length = sides.length
  same : SameM base sides ms
  cut : IsCut base.length (szs sides) ms cs

section
variable {base : Txs} {sides : List Txs} {ms : List (List Int)} {cs : List Ck} {c : Ck}
theorem szs_at {s : Nat} {d : Txs} (h : sides[s]? = some d) : (szs sides)[s]? = some (d.length : Int) := by unfold szs; rw [List.getElem?_map, h]; rfl
theorem zeros {n : Nat} : ∀ v ∈ List.replicate n (0 : Int), 0 ≤ v := fun v hv => by rw [(List.mem_replicate.1 hv).2]; omega
theorem Laid.lies (h : Laid base sides ms cs) (hc : c ∈ cs) : 0 ≤ c.2.1.1 ∧ c.2.1.1 ≤ c.2.1.2 ∧ c.2.1.2 ≤ base.length ∧ c.2.2.length = sides.length := by
  have := cov_lies h.cut.1 c hc
  simpa [szs] using this
theorem Laid.side (h : Laid base sides ms cs) (hc : c ∈ cs) {s : Nat} {d : Txs} (hd : sides[s]? = some d) : ∃ sp, c.2.2[s]? = some sp ∧ 0 ≤ sp.1 ∧ sp.1 ≤ sp.2 ∧ sp.2 ≤ d.length ∧ (c.1 = true → sp.2 - sp.1 = c.2.1.2 - c.2.1.1) := by
  have hl := (h.lies hc).2.2.2
  have hs := (List.getElem?_eq_some_iff.1 hd).1
  have hsp : c.2.2[s]? = some (c.2.2[s]'(by omega)) := List.getElem?_eq_getElem _
  exact ⟨_, hsp, cov_sides h.cut.1 zeros c hc s _ _ hsp (szs_at hd)⟩
theorem cutsP_at (c : Ck) (sides : List Txs) (s : Nat) : (cutsP c sides)[s]? = match c.2.2[s]?, sides[s]? with | some sp, some d => some (cutL d sp.1 sp.2) | _, _ => none := by
  unfold cutsP
  rw [List.getElem?_zipWith]
  cases c.2.2[s]? <;> cases sides[s]? <;> rfl
theorem cutsP_mem (h : Laid base sides ms cs) (hc : c ∈ cs) {p : Txs} : p ∈ cutsP c sides ↔ ∃ s d, sides[s]? = some d ∧ p = cutS c s d := by
  constructor
  · intro hp
    obtain ⟨s, hs⟩ := List.mem_iff_getElem?.1 hp
    rw [cutsP_at] at hs
    cases h1 : c.2.2[s]? with
    | none => rw [h1] at hs; cases hs
    | some sp =>
      cases h2 : sides[s]? with
      | none => rw [h1, h2] at hs; cases hs
      | some d =>
        rw [h1, h2] at hs
        injection hs with hs
        exact ⟨s, d, h2, by unfold cutS; rw [h1]; exact hs.symm⟩
  · rintro ⟨s, d, hd, rfl⟩
    obtain ⟨sp, hsp, _⟩ := h.side hc hd
    refine List.mem_of_getElem? (i := s) ?_
    rw [cutsP_at, hsp, hd]
    unfold cutS
    rw [hsp]
theorem cutsP_len (h : Laid base sides ms cs) (hc : c ∈ cs) : (cutsP c sides).length = sides.length := by
  unfold cutsP
  rw [List.length_zipWith, (h.lies hc).2.2.2]
  simp
/-- In a stable chunk all have the same. -/
theorem Laid.stable (h : Laid base sides ms cs) (hc : c ∈ cs) (hst : c.1 = true) {s : Nat} {d : Txs} (hd : sides[s]? = some d) : cutS c s d = cutB c base := by
  obtain ⟨sp, hsp, k1, k2, k3, k4⟩ := h.side hc hd
  obtain ⟨j1, j2, j3, j4⟩ := h.lies hc
  have hlen := k4 hst
  have hs := (List.getElem?_eq_some_iff.1 hd).1
  have hm : ms[s]? = some (ms[s]'(by rw [h.len]; exact hs)) := List.getElem?_eq_getElem _
  obtain ⟨l, hl⟩ : ∃ l, ms[s]'(by rw [h.len]; exact hs) = l := ⟨_, rfl⟩
  rw [hl] at hm
  unfold cutS cutB
  rw [hsp]
  dsimp only
  refine List.ext_getElem? fun j => ?_
  rw [cutL_at, cutL_at, hlen]
  split
  · rename_i hj
    obtain ⟨q1, q2⟩ := h.cut.2 c hc (c.2.1.1 + j) (by omega) (by omega)
    have q3 := q2 hst s l sp hm hsp
    unfold allP at q1
    rw [hst, List.all_eq_true] at q1
    have q4 := q1 l (List.mem_of_getElem? hm)
    rw [decide_eq_true_eq] at q4
    have q5 : l[(c.2.1.1 + j).toNat]? = some (pl l (c.2.1.1 + j)) := by
      unfold pl at q4 ⊢
      cases hh : l[(c.2.1.1 + j).toNat]? with
      | none => rw [hh] at q4; simp at q4
      | some v => rfl
    obtain ⟨t, t1, t2⟩ := h.same s l d hm hd _ _ q5 q4
    rw [show c.2.1.1.toNat + j = (c.2.1.1 + j).toNat by omega, t1, show sp.1.toNat + j = (pl l (c.2.1.1 + j)).toNat by rw [q3]; omega, t2]
  · rfl
theorem Laid.parts (h : Laid base sides ms cs) (hc : c ∈ cs) (hst : c.1 = true) : ∀ p ∈ cutsP c sides, p = cutB c base := by
  intro p hp
  obtain ⟨s, d, hd, rfl⟩ := (cutsP_mem h hc).1 hp
  exact h.stable hc hst hd

/-- What becomes of a chunk; of all. -/
def pcOf (base : Txs) (sides : List Txs) (fav : Int) (un : Bool) (c : Ck) : Pc := if c.1 then tPc (cutB c base) else pieceD (cutB c base) (cutsP c sides) fav un
def mergeD (base : Txs) (sides : List Txs) (fav : Int) (un : Bool) (cs : List Ck) : List Pc := normal (cs.map (pcOf base sides fav un))
theorem Laid.pc (h : Laid base sides ms cs) (hc : c ∈ cs) (fav : Int) (un : Bool) : pcOf base sides fav un c = pieceD (cutB c base) (cutsP c sides) fav un := by
  unfold pcOf
  split
  · rename_i hst
    have h0 := diffs_zero.2 (h.parts hc hst)
    have h1 : diffs (cutB c base) (cutsP c sides) = [] := List.eq_nil_of_length_eq_zero h0
    unfold pieceD
    rw [h1]
  · rfl
/-- Is a piece a conflict? -/
theorem piece_conf (b : Txs) (ps : List Txs) : (pieceD b ps 0 false).1 = decide (1 < kindN b ps) := by
  unfold pieceD kindN
  match diffs b ps with
  | [] => rfl
  | [d] => rfl
  | d :: e :: l =>
    simp only [show ¬ ((1 : Int) ≤ 0 ∧ (0 : Int) ≤ ps.length) by omega, if_false]
    simp [cPc]
theorem clean_merge (h : Laid base sides ms cs) : cleanB (mergeD base sides 0 false cs) = !(cs.any fun c => decide (1 < kindN (cutB c base) (cutsP c sides))) := by
  unfold mergeD
  rw [clean_normal]
  unfold cleanB
  rw [List.all_map, Bool.eq_iff_iff]
  simp only [List.all_eq_true, Bool.not_eq_true', List.any_eq_false, Function.comp]
  constructor
  · intro h2 c hc
    have := h2 c hc
    rw [h.pc hc, piece_conf] at this
    simpa using this
  · intro h2 c hc
    rw [h.pc hc, piece_conf]
    have := h2 c hc
    simpa using this
theorem clean_all (h : Laid base sides ms cs) {fav : Int} {un : Bool} (hp : (1 ≤ fav ∧ fav ≤ sides.length ∧ un = false) ∨ (fav = 0 ∧ un = true)) : cleanB (mergeD base sides fav un cs) = true := by
  unfold mergeD
  rw [clean_normal]
  unfold cleanB
  rw [List.all_map, List.all_eq_true]
  intro c hc
  simp only [Function.comp]
  rw [h.pc hc]
  rcases hp with ⟨h1, h2, rfl⟩ | ⟨rfl, rfl⟩
  · rw [piece_fav h1 (by rw [cutsP_len h hc]; exact h2)]
    rfl
  · rw [piece_union]
    rfl
theorem choose_map (f : Ck → Pc) (z : Int) : ∀ cs : List Ck, choose (cs.map f) z = cs.flatMap fun c => chosen z (f c)
  | [] => rfl
  | c :: cs => by
    have := choose_map f z cs
    unfold choose at this ⊢
    rw [List.map_cons, List.flatMap_cons, List.flatMap_cons, this]
theorem chosen_text {p : Pc} (z : Int) (h : p.1 = false) : chosen z p = p.2.1 := by unfold chosen; rw [if_neg (by simp [h])]
theorem flat_congr {f g : Ck → Txs} : ∀ {cs : List Ck}, (∀ c ∈ cs, f c = g c) → cs.flatMap f = cs.flatMap g
  | [], _ => rfl
  | c :: cs, h => by
    rw [List.flatMap_cons, List.flatMap_cons, h c (List.mem_cons_self ..), flat_congr fun d hd => h d (List.mem_cons_of_mem _ hd)]
/-- FAVOUR IS A CHOICE. -/
theorem merge_choice (h : Laid base sides ms cs) {fav z : Int} (h1 : 1 ≤ fav) (h2 : fav ≤ sides.length) : choose (mergeD base sides 0 false cs) fav = choose (mergeD base sides fav false cs) z := by
  unfold mergeD
  rw [choose_normal, choose_normal, choose_map, choose_map]
  refine flat_congr fun c hc => ?_
  have hl := cutsP_len h hc
  rw [h.pc hc, h.pc hc, chosen_text z (piece_fav h1 (by omega) false), ← piece_choice h1 (by omega)]
  simp [choose]
end
end Go.Proofs.YtdfpifipkchmnaaGreatDoor
