/- Proved here: texts joined: MergeCat, MergeMay. -/
import Derived.Test.YtoopdgohdeddoaaGreatDoorBs04
/- Proved here, without conditions: plain facts on merges: the parts of chunks, one behind the other, are all; stable chunks have the same of all; what becomes of chunks. -/
namespace Go.Proofs.YtoopdgohdeddoaaGreatDoor
set_option linter.unusedVariables false

theorem cutL_drop {α : Type} {l : List α} {f t : Int} (h0 : 0 ≤ f) (h1 : f ≤ t) : l.drop f.toNat = cutL l f t ++ l.drop t.toNat := by
  unfold cutL
  have e : l.drop t.toNat = (l.drop f.toNat).drop (t - f).toNat := by rw [List.drop_drop]; congr 1; omega
  rw [e, List.take_append_drop]
theorem cutL_at {α : Type} {l : List α} {f t : Int} (j : Nat) : (cutL l f t)[j]? = if j < (t - f).toNat then l[f.toNat + j]? else none := by
  unfold cutL
  rw [List.getElem?_take, List.getElem?_drop]
/-- A chunk's part of the base; of side s; of all sides. -/
def cutB (c : Ck) (base : Txs) : Txs := cutL base c.2.1.1 c.2.1.2
def cutS (c : Ck) (s : Nat) (d : Txs) : Txs := match c.2.2[s]? with | some sp => cutL d sp.1 sp.2 | none => []
def cutsP (c : Ck) (sides : List Txs) : List Txs := List.zipWith (fun (s : Sp) l => cutL l s.1 s.2) c.2.2 sides

theorem cat_base {base : Txs} {sizes : List Int} : ∀ {cs : List Ck} {prev : Option Bool} {b : Int} {a : List Int}, Cov base.length sizes cs prev b a → 0 ≤ b → cs.flatMap (fun c => cutB c base) = base.drop b.toNat
  | [], _, b, a, h, h0 => by
    obtain ⟨rfl, rfl⟩ := h
    simp
  | c :: cs, prev, b, a, h, h0 => by
    have hb := h.1.base
    have hle := h.1.le
    rw [List.flatMap_cons, cat_base h.2 (by omega), cutL_drop (t := c.2.1.2) h0 hle]
    unfold cutB
    rw [hb]
theorem cat_side {m : Int} {sizes : List Int} {s : Nat} {d : Txs} (hz : sizes[s]? = some (d.length : Int)) : ∀ {cs : List Ck} {prev : Option Bool} {b : Int} {a : List Int} {v : Int}, Cov m sizes cs prev b a → a[s]? = some v → 0 ≤ v → cs.flatMap (fun c => cutS c s d) = d.drop v.toNat
  | [], _, b, a, v, h, hv, h0 => by
    obtain ⟨rfl, rfl⟩ := h
    rw [hz] at hv
    injection hv with hv
    subst hv
    simp
  | c :: cs, prev, b, a, v, h, hv, h0 => by
    obtain ⟨sp, hsp⟩ := sp_of h.1.len hv
    obtain ⟨e1, e2, _⟩ := h.1.side s sp v hsp hv
    have he : (ends c)[s]? = some sp.2 := by unfold ends; rw [List.getElem?_map, hsp]; rfl
    rw [List.flatMap_cons, cat_side hz h.2 he (by omega), cutL_drop (t := sp.2) h0 e2]
    unfold cutS
    rw [hsp]
    dsimp only
    rw [e1]
theorem cov_sides {m : Int} {sizes : List Int} : ∀ {cs : List Ck} {prev : Option Bool} {b : Int} {a : List Int}, Cov m sizes cs prev b a → (∀ v ∈ a, 0 ≤ v) → ∀ c ∈ cs, ∀ (s : Nat) (sp : Sp) (z : Int), c.2.2[s]? = some sp → sizes[s]? = some z → 0 ≤ sp.1 ∧ sp.1 ≤ sp.2 ∧ sp.2 ≤ z ∧ (c.1 = true → sp.2 - sp.1 = c.2.1.2 - c.2.1.1)
  | [], _, _, _, _, _, c, hc => by cases hc
  | d :: cs, prev, b, a, h, ha, c, hc => by
    have hm := Cov.le h.2
    have hend : ∀ v ∈ ends d, 0 ≤ v := by
      intro v hv
      obtain ⟨s, hs⟩ := List.mem_iff_getElem?.1 hv
      obtain ⟨sp, hsp, rfl⟩ := ends_at hs
      obtain ⟨u, hu⟩ := at_of h.1.len hsp
      have := h.1.side s sp u hsp hu
      have := ha u (List.mem_of_getElem? hu)
      omega
    rcases List.mem_cons.1 hc with rfl | hc
    · intro s sp z hsp hz
      obtain ⟨u, hu⟩ := at_of h.1.len hsp
      have h1 := h.1.side s sp u hsp hu
      have h2 := ha u (List.mem_of_getElem? hu)
      have h3 := hm.2.2 s sp.2 z (by unfold ends; rw [List.getElem?_map, hsp]; rfl) hz
      exact ⟨by omega, by omega, h3, h1.2.2⟩
    · exact cov_sides h.2 hend c hc

/-- Matches pair what is the same. -/
def SameM (base : Txs) (sides : List Txs) (ms : List (List Int)) : Prop := ∀ (s : Nat) (l : List Int) (d : Txs), ms[s]? = some l → sides[s]? = some d → ∀ (k : Nat) (v : Int), l[k]? = some v → 0 ≤ v → ∃ t, base[k]? = some t ∧ d[v.toNat]? = some t
def szs (sides : List Txs) : List Int := sides.map fun d => (d.length : Int)
/-- Chunks of a base, and sides, by matches that pair what is the same. -/
structure Laid (base : Txs) (sides : List Txs) (ms : List (List Int)) (cs : List Ck) : Prop where
  len : ms.length = sides.length
  same : SameM base sides ms
  cut : IsCut base.length (szs sides) ms cs

section
variable {base : Txs} {sides : List Txs} {ms : List (List Int)} {cs : List Ck} {c : Ck}
theorem szs_at {s : Nat} {d : Txs} (h : sides[s]? = some d) : (szs sides)[s]? = some (d.length : Int) := by unfold szs; rw [List.getElem?_map, h]; rfl
theorem zeros {n : Nat} : ∀ v ∈ List.replicate n (0 : Int), 0 ≤ v := fun v hv => by rw [(List.mem_replicate.1 hv).2]; omega
theorem Laid.lies (h : Laid base sides ms cs) (hc : c ∈ cs) : 0 ≤ c.2.1.1 ∧ c.2.1.1 ≤ c.2.1.2 ∧ c.2.1.2 ≤ base.length ∧ c.2.2.length = sides.length := by
  have := cov_lies h.cut.1 c hc
  simpa [szs] using this
theorem Laid.side (h : Laid base sides ms cs) (hc : c ∈ cs) {s : Nat} {d : Txs} (hd : sides[s]? = some d) : ∃ sp, c.2.2[s]? = some sp ∧ 0 ≤ sp.1 ∧ sp.1 ≤ sp.2 ∧ sp.2 ≤ d.length ∧ (c.1 = true → sp.2 - sp.1 = c.2.1.2 - c.2.1.1) := by
  have hl := (h.lies hc).2.2.2
  have hs := (List.getElem?_eq_some_iff.1 hd).1
  have hsp : c.2.2[s]? = some (c.2.2[s]'(by omega)) := List.getElem?_eq_getElem _
  exact ⟨_, hsp, cov_sides h.cut.1 zeros c hc s _ _ hsp (szs_at hd)⟩
theorem cutsP_at (c : Ck) (sides : List Txs) (s : Nat) : (cutsP c sides)[s]? = match c.2.2[s]?, sides[s]? with | some sp, some d => some (cutL d sp.1 sp.2) | _, _ => none := by
  unfold cutsP
  rw [List.getElem?_zipWith]
  cases c.2.2[s]? <;> cases sides[s]? <;> rfl
theorem cutsP_mem (h : Laid base sides ms cs) (hc : c ∈ cs) {p : Txs} : p ∈ cutsP c sides ↔ ∃ s d, sides[s]? = some d ∧ p = cutS c s d := by
  constructor
  · intro hp
    obtain ⟨s, hs⟩ := List.mem_iff_getElem?.1 hp
    rw [cutsP_at] at hs
    cases h1 : c.2.2[s]? with
    | none => rw [h1] at hs; cases hs
    | some sp =>
      cases h2 : sides[s]? with
      | none => rw [h1, h2] at hs; cases hs
      | some d =>
        rw [h1, h2] at hs
        injection hs with hs
        exact ⟨s, d, h2, by unfold cutS; rw [h1]; exact hs.symm⟩
  · rintro ⟨s, d, hd, rfl⟩
    obtain ⟨sp, hsp, _⟩ := h.side hc hd
    refine List.mem_of_getElem? (i := s) ?_
    rw [cutsP_at, hsp, hd]
    unfold cutS
    rw [hsp]
theorem cutsP_len (h : Laid base sides ms cs) (hc : c ∈ cs) : (cutsP c sides).length = sides.length := by
  unfold cutsP
  rw [List.length_zipWith, (h.lies hc).2.2.2]
  simp
/-- In a stable chunk all have the same. -/
theorem Laid.stable (h : Laid base sides ms cs) (hc : c ∈ cs) (hst : c.1 = true) {s : Nat} {d : Txs} (hd : sides[s]? = some d) : cutS c s d = cutB c base := by
  obtain ⟨sp, hsp, k1, k2, k3, k4⟩ := h.side hc hd
  obtain ⟨j1, j2, j3, j4⟩ := h.lies hc
  have hlen := k4 hst
  have hs := (List.getElem?_eq_some_iff.1 hd).1
  have hm : ms[s]? = some (ms[s]'(by rw [h.len]; exact hs)) := List.getElem?_eq_getElem _
  obtain ⟨l, hl⟩ : ∃ l, ms[s]'(by rw [h.len]; exact hs) = l := ⟨_, rfl⟩
  rw [hl] at hm
  unfold cutS cutB
  rw [hsp]
  dsimp only
  refine List.ext_getElem? fun j => ?_
  rw [cutL_at, cutL_at, hlen]
  split
  · rename_i hj
    obtain ⟨q1, q2⟩ := h.cut.2 c hc (c.2.1.1 + j) (by omega) (by omega)
    have q3 := q2 hst s l sp hm hsp
    unfold allP at q1
    rw [hst, List.all_eq_true] at q1
    have q4 := q1 l (List.mem_of_getElem? hm)
    rw [decide_eq_true_eq] at q4
    have q5 : l[(c.2.1.1 + j).toNat]? = some (pl l (c.2.1.1 + j)) := by
      unfold pl at q4 ⊢
      cases hh : l[(c.2.1.1 + j).toNat]? with
      | none => rw [hh] at q4; simp at q4
      | some v => rfl
    obtain ⟨t, t1, t2⟩ := h.same s l d hm hd _ _ q5 q4
    rw [show c.2.1.1.toNat + j = (c.2.1.1 + j).toNat by omega, t1, show sp.1.toNat + j = (pl l (c.2.1.1 + j)).toNat by rw [q3]; omega, t2]
  · rfl
theorem Laid.parts (h : Laid base sides ms cs) (hc : c ∈ cs) (hst : c.1 = true) : ∀ p ∈ cutsP c sides, p = cutB c base := by
  intro p hp
  obtain ⟨s, d, hd, rfl⟩ := (cutsP_mem h hc).1 hp
  exact h.stable hc hst hd

/-- What becomes of a chunk; of all. -/
def pcOf (base : Txs) (sides : List Txs) (fav : Int) (un : Bool) (c : Ck) : Pc := if c.1 then tPc (cutB c base) else pieceD (cutB c base) (cutsP c sides) fav un
def mergeD (base : Txs) (sides : List Txs) (fav : Int) (un : Bool) (cs : List Ck) : List Pc := normal (cs.map (pcOf base sides fav un))
theorem Laid.pc (h : Laid base sides ms cs) (hc : c ∈ cs) (fav : Int) (un : Bool) : pcOf base sides fav un c = pieceD (cutB c base) (cutsP c sides) fav un := by
  unfold pcOf
  split
  · rename_i hst
    have h0 := diffs_zero.2 (h.parts hc hst)
    have h1 : diffs (cutB c base) (cutsP c sides) = [] := List.eq_nil_of_length_eq_zero h0
    unfold pieceD
    rw [h1]
  · rfl
/-- Is a piece a conflict? -/
theorem piece_conf (b : Txs) (ps : List Txs) : (pieceD b ps 0 false).1 = decide (1 < kindN b ps) := by
  unfold pieceD kindN
  match diffs b ps with
  | [] => rfl
  | [d] => rfl
  | d :: e :: l =>
    simp only [show ¬ ((1 : Int) ≤ 0 ∧ (0 : Int) ≤ ps.length) by omega, if_false]
    simp [cPc]
theorem clean_merge (h : Laid base sides ms cs) : cleanB (mergeD base sides 0 false cs) = !(cs.any fun c => decide (1 < kindN (cutB c base) (cutsP c sides))) := by
  unfold mergeD
  rw [clean_normal]
  unfold cleanB
  rw [List.all_map, Bool.eq_iff_iff]
  simp only [List.all_eq_true, Bool.not_eq_true', List.any_eq_false, Function.comp]
  constructor
  · intro h2 c hc
    have := h2 c hc
    rw [h.pc hc, piece_conf] at this
    simpa using this
  · intro h2 c hc
    rw [h.pc hc, piece_conf]
    have := h2 c hc
    simpa using this
theorem clean_all (h : Laid base sides ms cs) {fav : Int} {un : Bool} (hp : (1 ≤ fav ∧ fav ≤ sides.length ∧ un = false) ∨ (fav = 0 ∧ un = true)) : cleanB (mergeD base sides fav un cs) = true := by
  unfold mergeD
  rw [clean_normal]
  unfold cleanB
  rw [List.all_map, List.all_eq_true]
  intro c hc
  simp only [Function.comp]
  rw [h.pc hc]
  rcases hp with ⟨h1, h2, rfl⟩ | ⟨rfl, rfl⟩
  · rw [piece_fav h1 (by rw [cutsP_len h hc]; exact h2)]
    rfl
  · rw [piece_union]
    rfl
theorem choose_map (f : Ck → Pc) (z : Int) : ∀ cs : List Ck, choose (cs.map f) z = cs.flatMap fun c => chosen z (f c)
  | [] => rfl
  | c :: cs => by
    have := choose_map f z cs
    unfold choose at this ⊢
    rw [List.map_cons, List.flatMap_cons, List.flatMap_cons, this]
theorem chosen_text {p : Pc} (z : Int) (h : p.1 = false) : chosen z p = p.2.1 := by unfold chosen; rw [if_neg (by simp [h])]
theorem flat_congr {f g : Ck → Txs} : ∀ {cs : List Ck}, (∀ c ∈ cs, f c = g c) → cs.flatMap f = cs.flatMap g
  | [], _ => rfl
  | c :: cs, h => by
    rw [List.flatMap_cons, List.flatMap_cons, h c (List.mem_cons_self ..), flat_congr fun d hd => h d (List.mem_cons_of_mem _ hd)]
/-- FAVOUR IS A CHOICE. -/
theorem merge_choice (h : Laid base sides ms cs) {fav z : Int} (h1 : 1 ≤ fav) (h2 : fav ≤ sides.length) : choose (mergeD base sides 0 false cs) fav = choose (mergeD base sides fav false cs) z := by
  unfold mergeD
  rw [choose_normal, choose_normal, choose_map, choose_map]
  refine flat_congr fun c hc => ?_
  have hl := cutsP_len h hc
  rw [h.pc hc, h.pc hc, chosen_text z (piece_fav h1 (by omega) false), ← piece_choice h1 (by omega)]
  simp [choose]
end
end Go.Proofs.YtoopdgohdeddoaaGreatDoor
/- Proved here, without conditions: plain facts on merges: what is chosen is lines that may be. -/
namespace Go.Proofs.YtoopdgohdeddoaaGreatDoor
set_option linter.unusedVariables false

theorem may_cons (s : Tx) (r : Txs) : mayB (s :: r) = (!s.isEmpty && !decide (fe s < s.length) && (r.isEmpty || endedB s) && mayB r) := rfl
theorem may_append : ∀ a b : Txs, mayB (a ++ b) = (mayB a && mayB b && (b.isEmpty || !openB a))
  | [], b => by simp [mayB, openB]
  | [s], b => by
    simp only [List.singleton_append, mayB, List.isEmpty_nil, Bool.true_or, Bool.and_true, openB, List.getLast?_singleton, Bool.not_not]
    cases (!s.isEmpty && !decide (fe s < s.length)) <;> cases b.isEmpty <;> cases endedB s <;> cases mayB b <;> rfl
  | s :: t :: r, b => by
    have ih := may_append (t :: r) b
    have ho : openB (s :: t :: r) = openB (t :: r) := open_cons s (by simp)
    rw [ho, List.cons_append, may_cons s (t :: r ++ b), may_cons s (t :: r), ih]
    simp only [List.cons_append, List.isEmpty_cons, Bool.false_or]
    cases (!s.isEmpty && !decide (fe s < s.length)) <;> cases endedB s <;> simp
theorem open_append (a b : Txs) : openB (a ++ b) = if b = [] then openB a else openB b := by
  by_cases h : b = []
  · subst h
    simp
  · rw [if_neg h]
    unfold openB
    rw [List.getLast?_append]
    cases hb : b.getLast? with
    | none => exact absurd (List.getLast?_eq_none_iff.1 hb) h
    | some t => rfl
theorem may_left {a b : Txs} (h : mayB (a ++ b) = true) : mayB a = true := by
  rw [may_append] at h
  simp only [Bool.and_eq_true] at h
  exact h.1.1
theorem may_right {a b : Txs} (h : mayB (a ++ b) = true) : mayB b = true := by
  rw [may_append] at h
  simp only [Bool.and_eq_true] at h
  exact h.1.2
theorem cutL_split {d : Txs} {f t : Int} (h0 : 0 ≤ f) (h1 : f ≤ t) : d = d.take f.toNat ++ (cutL d f t ++ d.drop t.toNat) := by
  rw [← cutL_drop h0 h1, List.take_append_drop]
theorem may_cut {d : Txs} {f t : Int} (h0 : 0 ≤ f) (h1 : f ≤ t) (h : mayB d = true) : mayB (cutL d f t) = true := by
  rw [cutL_split (d := d) h0 h1] at h
  exact may_left (may_right h)
/-- An open part ends with its list. -/
theorem open_cut {d : Txs} {f t : Int} (h0 : 0 ≤ f) (h1 : f ≤ t) (h2 : t ≤ d.length) (h : mayB d = true) (ho : openB (cutL d f t) = true) : t = d.length := by
  rw [cutL_split (d := d) h0 h1] at h
  have h3 := may_right h
  rw [may_append, ho] at h3
  simp only [Bool.not_true, Bool.or_false, Bool.and_eq_true, List.isEmpty_iff, List.drop_eq_nil_iff] at h3
  omega

/-- All but the last one. -/
def ButLast (P : Ck → Prop) : List Ck → Prop
  | [] => True
  | [c] => True
  | c :: e :: r => P c ∧ ButLast P (e :: r)
theorem ButLast.imp {P Q : Ck → Prop} : ∀ {cs : List Ck}, (∀ c ∈ cs, P c → Q c) → ButLast P cs → ButLast Q cs
  | [], _, _ => trivial
  | [c], _, _ => trivial
  | c :: e :: r, h, hb => ⟨h c (List.mem_cons_self ..) hb.1, ButLast.imp (fun d hd => h d (List.mem_cons_of_mem _ hd)) hb.2⟩
theorem ButLast.map {P : Ck → Prop} {g : Ck → Ck} : ∀ {cs : List Ck}, ButLast P (cs.map g) → ButLast (fun c => P (g c)) cs
  | [], _ => trivial
  | [c], _ => trivial
  | c :: e :: r, h => ⟨h.1, ButLast.map (cs := e :: r) h.2⟩
theorem may_flat {f : Ck → Txs} : ∀ {cs : List Ck}, (∀ c ∈ cs, mayB (f c) = true) → ButLast (fun c => openB (f c) = false) cs → mayB (cs.flatMap f) = true
  | [], _, _ => rfl
  | [c], h, _ => by simpa using h c (List.mem_cons_self ..)
  | c :: e :: r, h, hb => by
    have ih := may_flat (cs := e :: r) (fun d hd => h d (List.mem_cons_of_mem _ hd)) hb.2
    rw [List.flatMap_cons, may_append, h c (List.mem_cons_self ..), ih, hb.1]
    simp

/-- What stands ahead of another chunk is ended: each side's part; the base is one of the sides. -/
theorem ended_parts {m : Int} {sides : List Txs} {sb : Nat} (hmay : ∀ d ∈ sides, mayB d = true) : ∀ {cs : List Ck} {prev : Option Bool} {b : Int} {a : List Int}, Cov m (szs sides) cs prev b a → (∀ v ∈ a, 0 ≤ v) →
    (∀ c ∈ cs, c.2.2[sb]? = some c.2.1) → sb < sides.length → (∀ c ∈ cs, c.1 = true → ∀ (s s' : Nat) (d d' : Txs), sides[s]? = some d → sides[s']? = some d' → cutS c s d = cutS c s' d') →
    ButLast (fun c => ∀ (s : Nat) (d : Txs), sides[s]? = some d → openB (cutS c s d) = false) cs
  | [], _, _, _, _, _, _, _, _ => trivial
  | [c], _, _, _, _, _, _, _, _ => trivial
  | c :: e :: r, prev, b, a, h, ha, hsb, hlt, hst => by
    have hends : ∀ v ∈ ends c, 0 ≤ v := by
      intro v hv
      obtain ⟨s, hs⟩ := List.mem_iff_getElem?.1 hv
      obtain ⟨sp, hsp, rfl⟩ := ends_at hs
      obtain ⟨u, hu⟩ := at_of h.1.len hsp
      have := h.1.side s sp u hsp hu
      have := ha u (List.mem_of_getElem? hu)
      omega
    refine ⟨?_, ended_parts hmay (cs := e :: r) h.2 hends (fun d hd => hsb d (List.mem_cons_of_mem _ hd)) hlt (fun d hd => hst d (List.mem_cons_of_mem _ hd))⟩
    have hlen : c.2.2.length = (szs sides).length := by
      have := (Cov.le h.2).2.1
      rwa [ends_len] at this
    have hsl : (szs sides).length = sides.length := by simp [szs]
    -- where an open part ends, the next chunk has nothing of that side
    have key : ∀ (s : Nat) (d : Txs), sides[s]? = some d → openB (cutS c s d) = true → ∃ sq : Sp, e.2.2[s]? = some sq ∧ sq.1 = sq.2 := by
      intro s d hd ho
      have hs := (List.getElem?_eq_some_iff.1 hd).1
      have hsp : c.2.2[s]? = some (c.2.2[s]'(by omega)) := List.getElem?_eq_getElem _
      obtain ⟨sp, hsp'⟩ : ∃ sp, c.2.2[s]'(by omega) = sp := ⟨_, rfl⟩
      rw [hsp'] at hsp
      obtain ⟨k1, k2, k3, _⟩ := cov_sides h ha c (List.mem_cons_self ..) s sp _ hsp (szs_at hd)
      unfold cutS at ho
      rw [hsp] at ho
      have hend := open_cut k1 k2 k3 (hmay d (List.mem_of_getElem? hd)) ho
      have hv : (ends c)[s]? = some sp.2 := by unfold ends; rw [List.getElem?_map, hsp]; rfl
      obtain ⟨sq, hsq⟩ := sp_of h.2.1.len hv
      obtain ⟨q1, q2, _⟩ := h.2.1.side s sq sp.2 hsq hv
      obtain ⟨_, _, q3, _⟩ := cov_sides h ha e (List.mem_cons_of_mem _ (List.mem_cons_self ..)) s sq _ hsq (szs_at hd)
      exact ⟨sq, hsq, by omega⟩
    intro s d hd
    cases ho : openB (cutS c s d) with
    | false => rfl
    | true =>
      exfalso
      obtain ⟨sq, hsq, hee⟩ := key s d hd ho
      cases he : e.1 with
      | true =>
        obtain ⟨v, hv⟩ := at_of h.2.1.len hsq
        have h1 := (h.2.1.side s sq v hsq hv).2.2 he
        have h2 := h.2.1.one he
        have h3 := h.2.1.base
        omega
      | false =>
        have hc : c.1 = true := by
          have := h.2.1.alt
          rw [he] at this
          cases hc : c.1 with
          | true => rfl
          | false => rw [hc] at this; exact absurd rfl this
        have hall : ∀ (s' : Nat) (d' : Txs), sides[s']? = some d' → ∃ sq : Sp, e.2.2[s']? = some sq ∧ sq.1 = sq.2 := by
          intro s' d' hd'
          refine key s' d' hd' ?_
          rw [← hst c (List.mem_cons_self ..) hc s s' d d' hd hd']
          exact ho
        have hfull := h.2.1.full
        have hel : e.2.2.length = sides.length := by rw [h.2.1.len, ends_len, hlen, hsl]
        unfold emptyB at hfull
        simp only [Bool.not_eq_false', Bool.or_eq_true, decide_eq_true_eq, List.any_eq_true] at hfull
        rcases hfull with hf | ⟨sp, hm, hf⟩
        · obtain ⟨sq', h1, h2⟩ := hall sb _ (List.getElem?_eq_getElem hlt)
          rw [hsb e (List.mem_cons_of_mem _ (List.mem_cons_self ..))] at h1
          injection h1 with h1
          subst h1
          omega
        · obtain ⟨s', hs'⟩ := List.mem_iff_getElem?.1 hm
          have hlt' : s' < sides.length := by have := (List.getElem?_eq_some_iff.1 hs').1; omega
          obtain ⟨sq', h1, h2⟩ := hall s' _ (List.getElem?_eq_getElem hlt')
          rw [hs'] at h1
          injection h1 with h1
          subst h1
          omega

section
variable {base : Txs} {sides : List Txs} {ms : List (List Int)} {cs : List Ck} {c : Ck}
theorem cutS_addB_side (h : c.2.2.length = sides.length) {s : Nat} (hs : s < sides.length) (d : Txs) : cutS (addB c) s d = cutS c s d := by
  unfold cutS addB
  dsimp only
  rw [List.getElem?_append_left (by omega)]
theorem cutS_addB_base (h : c.2.2.length = sides.length) (d : Txs) : cutS (addB c) sides.length d = cutB c d := by
  unfold cutS addB cutB
  dsimp only
  rw [List.getElem?_append_right (by omega), h, Nat.sub_self]
  rfl
/-- Ahead of another chunk all parts are ended. -/
theorem Laid.ended (h : Laid base sides ms cs) (hb : mayB base = true) (hmay : ∀ d ∈ sides, mayB d = true) : ButLast (fun c => ∀ p ∈ cutB c base :: cutsP c sides, openB p = false) cs := by
  have hX := cut_base (by rw [h.len]; simp [szs]) h.cut
  have hz : szs sides ++ [(base.length : Int)] = szs (sides ++ [base]) := by simp [szs]
  rw [hz] at hX
  have hlast : (sides ++ [base])[sides.length]? = some base := by simp
  have hE := ended_parts (sb := sides.length) (sides := sides ++ [base]) (by
    intro d hd
    rcases List.mem_append.1 hd with hd | hd
    · exact hmay d hd
    · rw [List.mem_singleton.1 hd]; exact hb) hX.1 zeros (by
    intro c hc
    obtain ⟨c0, hc0, rfl⟩ := List.mem_map.1 hc
    have := (h.lies hc0).2.2.2
    unfold addB
    dsimp only
    rw [List.getElem?_append_right (by omega), this, Nat.sub_self]
    rfl) (by simp) (by
    intro c hc hst s s' d d' hd hd'
    obtain ⟨c0, hc0, rfl⟩ := List.mem_map.1 hc
    have hl := (h.lies hc0).2.2.2
    have all : ∀ (s : Nat) (d : Txs), (sides ++ [base])[s]? = some d → cutS (addB c0) s d = cutB c0 base := by
      intro s d hd
      rcases Nat.lt_or_ge s sides.length with hs | hs
      · rw [List.getElem?_append_left hs] at hd
        rw [cutS_addB_side hl hs]
        exact h.stable hc0 hst hd
      · have hs0 : s = sides.length := by have := (List.getElem?_eq_some_iff.1 hd).1; simp at this; omega
        subst hs0
        rw [hlast] at hd
        injection hd with hd
        subst hd
        exact cutS_addB_base hl _
    rw [all s d hd, all s' d' hd'])
  refine (ButLast.map hE).imp fun c hc hP p hp => ?_
  have hl := (h.lies hc).2.2.2
  rcases List.mem_cons.1 hp with rfl | hp
  · have := hP sides.length base hlast
    rwa [cutS_addB_base hl] at this
  · obtain ⟨s, d, hd, rfl⟩ := (cutsP_mem h hc).1 hp
    have hs := (List.getElem?_eq_some_iff.1 hd).1
    have := hP s d (by rw [List.getElem?_append_left hs]; exact hd)
    rwa [cutS_addB_side hl hs] at this
theorem Laid.may (h : Laid base sides ms cs) (hb : mayB base = true) (hmay : ∀ d ∈ sides, mayB d = true) (hc : c ∈ cs) : ∀ p ∈ cutB c base :: cutsP c sides, mayB p = true := by
  intro p hp
  obtain ⟨k1, k2, k3, k4⟩ := h.lies hc
  rcases List.mem_cons.1 hp with rfl | hp
  · exact may_cut k1 k2 hb
  · obtain ⟨s, d, hd, rfl⟩ := (cutsP_mem h hc).1 hp
    obtain ⟨sp, hsp, j1, j2, _⟩ := h.side hc hd
    unfold cutS
    rw [hsp]
    exact may_cut j1 j2 (hmay d (List.mem_of_getElem? hd))

/-- A text without Union is the base's, or a part. -/
theorem piece_mem {b : Txs} {ps : List Txs} {fav : Int} (h1 : 1 ≤ fav) (h2 : fav ≤ ps.length) : (pieceD b ps fav false).2.1 ∈ b :: ps := by
  unfold pieceD
  match hd : diffs b ps with
  | [] => exact List.mem_cons_self ..
  | [d] => exact List.mem_cons_of_mem _ (mem_diffs.1 (by rw [hd]; simp : d ∈ diffs b ps)).1
  | d :: e :: l =>
    dsimp only
    rw [if_pos ⟨h1, h2⟩]
    refine List.mem_cons_of_mem _ ?_
    have hlt : (fav - 1).toNat < ps.length := by omega
    show (ps[(fav - 1).toNat]?).getD [] ∈ ps
    rw [List.getElem?_eq_getElem hlt]
    exact List.getElem_mem hlt
theorem fe_feed : ∀ {s : Tx}, ¬ fe s < s.length → endedB s = false → fe (s ++ [10]) = s.length + 1
  | [], _, _ => rfl
  | c :: r, h, he => by
    have hc : c ≠ 10 := by
      rintro rfl
      cases r with
      | nil => simp [endedB] at he
      | cons d t => simp [fe] at h
    rw [List.cons_append, fe, if_neg hc]
    have h' : ¬ fe r < r.length := by rw [fe, if_neg hc, List.length_cons] at h; omega
    cases r with
    | nil => rfl
    | cons d t =>
      rw [fe_feed h' (by rw [← ended_cons c (by simp)]; exact he)]
      rfl
theorem closed_may {d : Txs} (h : mayB d = true) : mayB (closed d) = true ∧ openB (closed d) = false := by
  unfold closed
  cases hl : d.getLast? with
  | none =>
    have : d = [] := List.getLast?_eq_none_iff.1 hl
    subst this
    exact ⟨rfl, rfl⟩
  | some s =>
    dsimp only
    split
    · rename_i he
      exact ⟨h, by unfold openB; rw [hl]; simp [he]⟩
    · rename_i he
      have hd : d = d.dropLast ++ [s] := by
        have hne : d ≠ [] := by rintro rfl; simp at hl
        rw [List.getLast?_eq_some_getLast hne] at hl
        injection hl with hl
        rw [← hl, List.dropLast_concat_getLast hne]
      have he' : endedB s = false := by simpa using he
      rw [hd, may_append] at h
      simp only [Bool.and_eq_true, List.isEmpty_cons, Bool.false_or, Bool.not_eq_true'] at h
      obtain ⟨⟨h1, h2⟩, h3⟩ := h
      have h4 : ¬ fe s < s.length := by
        unfold mayB at h2
        simp only [Bool.and_eq_true, Bool.not_eq_true', decide_eq_false_iff_not] at h2
        exact h2.1.1.2
      have hf : mayB [s ++ [10]] = true := by
        unfold mayB
        rw [fe_feed h4 he']
        simp [mayB]
      refine ⟨by rw [may_append, h1, hf, h3]; rfl, ?_⟩
      rw [open_append, if_neg (by simp)]
      simp [openB, endedB]
theorem union_nil : ∀ {ds : List Txs}, (ds.any fun x => !x.isEmpty) = false → unionT ds = []
  | [], _ => rfl
  | d :: ds, h => by
    rw [List.any_cons, Bool.or_eq_false_iff] at h
    have h1 : d = [] := by have := h.1; simpa using this
    unfold unionT
    rw [h.2, union_nil h.2, h1]
    rfl
theorem union_may : ∀ {ds : List Txs}, (∀ d ∈ ds, mayB d = true) → mayB (unionT ds) = true
  | [], _ => rfl
  | d :: ds, h => by
    have h1 := h d (List.mem_cons_self ..)
    have ih := union_may (ds := ds) fun e he => h e (List.mem_cons_of_mem _ he)
    unfold unionT
    cases hb : ds.any fun x => !x.isEmpty with
    | false =>
      rw [union_nil hb]
      simpa using h1
    | true =>
      obtain ⟨k1, k2⟩ := closed_may h1
      simp only [if_true]
      rw [may_append, k1, ih, k2]
      simp
theorem flat_open : ∀ {ds : List Txs}, (∀ d ∈ ds, openB d = false) → openB ds.flatten = false
  | [], _ => rfl
  | d :: ds, h => by
    rw [List.flatten_cons, open_append]
    split
    · exact h d (List.mem_cons_self ..)
    · exact flat_open fun e he => h e (List.mem_cons_of_mem _ he)
theorem union_open {ds : List Txs} (h : ∀ d ∈ ds, openB d = false) : openB (unionT ds) = false := by
  rw [union_same ds h]
  exact flat_open h
/-- With Union a text may be lines, and is ended, if all are. -/
theorem piece_union_may {b : Txs} {ps : List Txs} (h : ∀ p ∈ b :: ps, mayB p = true) : mayB (pieceD b ps 0 true).2.1 = true := by
  unfold pieceD
  have hm : ∀ d ∈ diffs b ps, mayB d = true := fun d hd => h d (List.mem_cons_of_mem _ (mem_diffs.1 hd).1)
  match hd : diffs b ps with
  | [] => exact h b (List.mem_cons_self ..)
  | [d] => exact hm d (by rw [hd]; simp)
  | d :: e :: l =>
    dsimp only
    rw [if_neg (by omega), if_pos rfl]
    show mayB (unionT (d :: e :: l)) = true
    rw [← hd]
    exact union_may hm
theorem piece_union_open {b : Txs} {ps : List Txs} (h : ∀ p ∈ b :: ps, openB p = false) : openB (pieceD b ps 0 true).2.1 = false := by
  unfold pieceD
  have hm : ∀ d ∈ diffs b ps, openB d = false := fun d hd => h d (List.mem_cons_of_mem _ (mem_diffs.1 hd).1)
  match hd : diffs b ps with
  | [] => exact h b (List.mem_cons_self ..)
  | [d] => exact hm d (by rw [hd]; simp)
  | d :: e :: l =>
    dsimp only
    rw [if_neg (by omega), if_pos rfl]
    show openB (unionT (d :: e :: l)) = false
    rw [← hd]
    exact union_open hm
/-- What is merged with a Favour, or with Union, is lines that may be. -/
theorem merge_may (h : Laid base sides ms cs) (hb : mayB base = true) (hmay : ∀ d ∈ sides, mayB d = true) {fav : Int} {un : Bool} (hp : (1 ≤ fav ∧ fav ≤ sides.length ∧ un = false) ∨ (fav = 0 ∧ un = true)) (z : Int) : mayB (choose (mergeD base sides fav un cs) z) = true := by
  unfold mergeD
  rw [choose_normal, choose_map]
  have hE := h.ended hb hmay
  have e : cs.flatMap (fun c => chosen z (pcOf base sides fav un c)) = cs.flatMap fun c => (pieceD (cutB c base) (cutsP c sides) fav un).2.1 := by
    refine flat_congr fun c hc => ?_
    rw [h.pc hc]
    refine chosen_text z ?_
    rcases hp with ⟨h1, h2, rfl⟩ | ⟨rfl, rfl⟩
    · exact piece_fav h1 (by rw [cutsP_len h hc]; exact h2) false
    · exact piece_union
  rw [e]
  rcases hp with ⟨h1, h2, rfl⟩ | ⟨rfl, rfl⟩
  · refine may_flat (fun c hc => h.may hb hmay hc _ (piece_mem h1 (by rw [cutsP_len h hc]; exact h2))) (hE.imp fun c hc hP => hP _ (piece_mem h1 (by rw [cutsP_len h hc]; exact h2)))
  · exact may_flat (fun c hc => piece_union_may (h.may hb hmay hc)) (hE.imp fun c hc hP => piece_union_open hP)
end
end Go.Proofs.YtoopdgohdeddoaaGreatDoor
