/- Proved here: texts joined: MergeSel, MgSpec, ScrSpec, ScrOutD, ConScr. -/
import Derived.Test.YtoopdgohdeddoaaGreatDoorBs02
import Derived.Test.YtoopdgohdeddoaaGreatDoorBs04
import Derived.Test.YtoopdgohdeddoaaGreatDoorBs07
import Derived.Test.YtoopdgohdeddoaaGreatDoorBs08
/- Proved here, without conditions: plain facts on merges: of a lone side; of sides in another turn; what conflicts carry. -/
namespace Go.Proofs.YtoopdgohdeddoaaGreatDoor
set_option linter.unusedVariables false

section
variable {b p : Txs} {ps ps' : List Txs}
/-- The same contents but for the base's. -/
theorem piece_eqv (h : ∀ q, q ≠ b → (q ∈ ps ↔ q ∈ ps')) : kindN b ps = kindN b ps' ∧ (¬ 1 < kindN b ps → pieceD b ps 0 false = pieceD b ps' 0 false) := by
  have hm : ∀ q, q ∈ diffs b ps ↔ q ∈ diffs b ps' := fun q => by
    rw [mem_diffs, mem_diffs]
    exact ⟨fun ⟨h1, h2⟩ => ⟨(h q h2).1 h1, h2⟩, fun ⟨h1, h2⟩ => ⟨(h q h2).2 h1, h2⟩⟩
  have hn := nodup_diffs (base := b) (ps := ps)
  have hn' := nodup_diffs (base := b) (ps := ps')
  have h1 := hn.length_le_of_subset (l₂ := diffs b ps') fun q hq => (hm q).1 hq
  have h2 := hn'.length_le_of_subset (l₂ := diffs b ps) fun q hq => (hm q).2 hq
  have hl : (diffs b ps).length = (diffs b ps').length := by omega
  refine ⟨by unfold kindN; rw [hl], fun hk => ?_⟩
  unfold kindN at hk
  unfold pieceD
  match hd : diffs b ps, hd' : diffs b ps' with
  | [], [] => rfl
  | [], _ :: _ => rw [hd, hd'] at hl; simp at hl
  | [_], [] => rw [hd, hd'] at hl; simp at hl
  | [d], [e] =>
    have := (hm d).1 (by rw [hd]; simp)
    rw [hd', List.mem_singleton] at this
    rw [this]
  | [_], _ :: _ :: _ => rw [hd, hd'] at hl; simp at hl
  | _ :: _ :: _, _ => rw [hd] at hk; simp at hk
/-- One content that differs, at most. -/
theorem piece_lone (hp : p ∈ ps) (hall : ∀ q ∈ ps, q = b ∨ q = p) : pieceD b ps 0 false = tPc p := by
  have h1 : (diffs b ps).length ≤ 1 := diffs_one.2 fun x hx y hy => by
    rcases hall x hx with h | h
    · exact .inl h
    · rcases hall y hy with h' | h'
      · exact .inr (.inl h')
      · exact .inr (.inr (h.trans h'.symm))
  unfold pieceD
  match hd : diffs b ps with
  | [] =>
    have := diffs_zero.1 (by rw [hd]; rfl) p hp
    rw [this]
  | [d] =>
    have := mem_diffs.1 (show d ∈ diffs b ps by rw [hd]; simp)
    rcases hall d this.1 with h | h
    · exact absurd h this.2
    · rw [h]
  | d :: e :: l => rw [hd] at h1; simp at h1
end

section
variable {base : Txs} {sides : List Txs} {ms : List (List Int)} {cs : List Ck}
theorem szs_len (sides : List Txs) : (szs sides).length = sides.length := by simp [szs]
/-- A side that is the base has the base's part. -/
theorem copy_part (hm : MsOf base sides ms) (h : Laid base sides ms cs) {s : Nat} (hs : sides[s]? = some base) {c : Ck} (hc : c ∈ cs) : cutS c s base = cutB c base := by
  have hX := cut_base (by rw [h.len, szs_len]) h.cut
  have hlt := (List.getElem?_eq_some_iff.1 hs).1
  obtain ⟨l, hl, hM⟩ := hm.at_ hs
  have hid := hM.self
  subst hid
  have hlen := h.len
  have e1 : (ms ++ [idm base.length])[s]? = some (idm base.length) := by rw [List.getElem?_append_left (by omega)]; exact hl
  have e2 : (ms ++ [idm base.length])[sides.length]? = some (idm base.length) := by rw [List.getElem?_append_right (by omega), hlen, Nat.sub_self]; rfl
  have e3 : (szs sides ++ [(base.length : Int)])[s]? = some (base.length : Int) := by rw [List.getElem?_append_left (by rw [szs_len]; exact hlt)]; exact szs_at hs
  have e4 : (szs sides ++ [(base.length : Int)])[sides.length]? = some (base.length : Int) := by rw [List.getElem?_append_right (by rw [szs_len]; exact Nat.le_refl _), szs_len, Nat.sub_self]; rfl
  have key := span_one e1 e2 e3 e4 hX.1 hX.2 (by
    have hz : (szs sides ++ [(base.length : Int)]).length = sides.length + 1 := by simp [szs]
    rw [hz, List.getElem?_replicate, List.getElem?_replicate, if_pos (by omega), if_pos (by omega)]) (addB c) (List.mem_map.2 ⟨c, hc, rfl⟩)
  have hcl := (h.lies hc).2.2.2
  have k1 : (addB c).2.2[s]? = c.2.2[s]? := by unfold addB; dsimp only; rw [List.getElem?_append_left (by omega)]
  have k2 : (addB c).2.2[sides.length]? = some c.2.1 := by unfold addB; dsimp only; rw [List.getElem?_append_right (by omega), hcl, Nat.sub_self]; rfl
  rw [k1, k2] at key
  unfold cutS cutB
  rw [key]
/-- Sides that are the same have the same part. -/
theorem dup_part (hm : MsOf base sides ms) (h : Laid base sides ms cs) {s s' : Nat} {d : Txs} (hs : sides[s]? = some d) (hs' : sides[s']? = some d) {c : Ck} (hc : c ∈ cs) : cutS c s d = cutS c s' d := by
  obtain ⟨l, hl, hM⟩ := hm.at_ hs
  obtain ⟨l', hl', hM'⟩ := hm.at_ hs'
  have := hM.one hM'
  subst this
  have hlt := (List.getElem?_eq_some_iff.1 hs).1
  have hlt' := (List.getElem?_eq_some_iff.1 hs').1
  have key := span_one hl hl' (szs_at hs) (szs_at hs') h.cut.1 h.cut.2 (by
    rw [szs_len, List.getElem?_replicate, List.getElem?_replicate, if_pos hlt, if_pos hlt']) c hc
  unfold cutS
  rw [key]
/-- Of sides that are the base, or one side, it is that side. -/
theorem merge_lone (hm : MsOf base sides ms) (h : Laid base sides ms cs) {k : Nat} {side : Txs} (hk : sides[k]? = some side) (hall : ∀ x ∈ sides, x = base ∨ x = side) (z : Int) : cleanB (mergeD base sides 0 false cs) = true ∧ choose (mergeD base sides 0 false cs) z = side := by
  have hpc : ∀ c ∈ cs, pcOf base sides 0 false c = tPc (cutS c k side) := by
    intro c hc
    rw [h.pc hc]
    refine piece_lone ((cutsP_mem h hc).2 ⟨k, side, hk, rfl⟩) fun q hq => ?_
    obtain ⟨s, d, hd, rfl⟩ := (cutsP_mem h hc).1 hq
    rcases hall d (List.mem_of_getElem? hd) with rfl | rfl
    · exact .inl (copy_part hm h hd hc)
    · exact .inr (dup_part hm h hd hk hc)
  unfold mergeD
  rw [clean_normal, choose_normal]
  constructor
  · unfold cleanB
    rw [List.all_map, List.all_eq_true]
    intro c hc
    simp only [Function.comp]
    rw [hpc c hc]
    rfl
  · rw [choose_map]
    have e : cs.flatMap (fun c => chosen z (pcOf base sides 0 false c)) = cs.flatMap fun c => cutS c k side := flat_congr fun c hc => by rw [hpc c hc]; rfl
    rw [e]
    have hlt := (List.getElem?_eq_some_iff.1 hk).1
    have := cat_side (szs_at hk) h.cut.1 (v := 0) (by rw [szs_len, List.getElem?_replicate, if_pos hlt]) (Int.le_refl _)
    simpa using this

/-- Chunks with the same contents. -/
theorem merge_eqv {sides' : List Txs} {ms' : List (List Int)} {g : Ck → Ck} (h : Laid base sides ms cs) (h' : Laid base sides' ms' (cs.map g)) (hB : ∀ c ∈ cs, cutB (g c) base = cutB c base)
    (hq : ∀ c ∈ cs, ∀ q, q ≠ cutB c base → (q ∈ cutsP c sides ↔ q ∈ cutsP (g c) sides')) :
    cleanB (mergeD base sides' 0 false (cs.map g)) = cleanB (mergeD base sides 0 false cs) ∧ (cleanB (mergeD base sides 0 false cs) = true → mergeD base sides' 0 false (cs.map g) = mergeD base sides 0 false cs) := by
  have hk : ∀ c ∈ cs, kindN (cutB (g c) base) (cutsP (g c) sides') = kindN (cutB c base) (cutsP c sides) := fun c hc => by rw [hB c hc]; exact (piece_eqv (hq c hc)).1.symm
  refine ⟨?_, fun hcl => ?_⟩
  · rw [clean_merge h, clean_merge h']
    congr 1
    rw [List.any_map, Bool.eq_iff_iff, List.any_eq_true, List.any_eq_true]
    constructor
    · rintro ⟨c, hc, h1⟩
      simp only [Function.comp] at h1
      rw [hk c hc] at h1
      exact ⟨c, hc, h1⟩
    · rintro ⟨c, hc, h1⟩
      refine ⟨c, hc, ?_⟩
      simp only [Function.comp]
      rw [hk c hc]
      exact h1
  · rw [clean_merge h, Bool.not_eq_true', List.any_eq_false] at hcl
    unfold mergeD
    congr 1
    rw [List.map_map]
    refine List.map_congr_left fun c hc => ?_
    simp only [Function.comp]
    rw [h'.pc (List.mem_map.2 ⟨c, hc, rfl⟩), h.pc hc, hB c hc]
    have := hcl c hc
    exact ((piece_eqv (hq c hc)).2 (by simpa using this)).symm
theorem ms_sel {p : List Nat} {ms' : List (List Int)} (hp : ∀ i ∈ p, i < sides.length) (hm : MsOf base sides ms) (hm' : MsOf base (sel [] p sides) ms') : ms' = sel [] p ms := by
  have hl' : ms'.length = p.length := by rw [hm'.1, sel_len]
  refine List.ext_getElem? fun j => ?_
  rcases Nat.lt_or_ge j p.length with hj | hj
  · have hpj : p[j]? = some p[j] := List.getElem?_eq_getElem hj
    have hi := hp _ (List.getElem_mem hj)
    have hs' : (sel [] p sides)[j]? = some (sides[p[j]]) := by unfold sel; rw [List.getElem?_map, hpj]; simp [hi]
    obtain ⟨l, hl, hM⟩ := hm'.at_ hs'
    obtain ⟨k, hk, hM2⟩ := hm.at_ (List.getElem?_eq_getElem hi)
    rw [hl, hM.one hM2]
    unfold sel
    rw [List.getElem?_map, hpj]
    simp [hk]
  · rw [List.getElem?_eq_none (by omega), List.getElem?_eq_none (by rw [sel_len]; exact hj)]
theorem szs_sel {p : List Nat} (hp : ∀ i ∈ p, i < sides.length) : szs (sel [] p sides) = sel 0 p (szs sides) := by
  unfold szs
  rw [sel_map]
  simp
/-- Sides that were picked, each once at least. -/
theorem laid_sel {p : List Nat} {ms' : List (List Int)} {ds : List Ck} (hp : ∀ i ∈ p, i < sides.length) (ha : ∀ i, i < sides.length → i ∈ p) (hm : MsOf base sides ms) (h : Laid base sides ms cs) (hm' : MsOf base (sel [] p sides) ms') (h' : Laid base (sel [] p sides) ms' ds) :
    ds = cs.map (selC p) ∧ ∀ c ∈ cs, ∀ q, q ∈ cutsP (selC p c) (sel [] p sides) ↔ q ∈ cutsP c sides := by
  have e := ms_sel hp hm hm'
  subst e
  have hc' := h'.cut
  rw [szs_sel hp] at hc'
  have hds := cut_sel hp ha (szs_len sides) h.len h.cut hc'
  subst hds
  refine ⟨rfl, fun c hc q => ?_⟩
  rw [cutsP_mem h' (List.mem_map.2 ⟨c, hc, rfl⟩), cutsP_mem h hc]
  have hcl := (h.lies hc).2.2.2
  have key : ∀ (j i : Nat) (d : Txs), p[j]? = some i → i < sides.length → cutS (selC p c) j d = cutS c i d := by
    intro j i d hj hi
    unfold cutS selC sel
    dsimp only
    rw [List.getElem?_map, hj]
    simp only [Option.map_some]
    rw [List.getElem?_eq_getElem (by omega : i < c.2.2.length)]
    rfl
  constructor
  · rintro ⟨j, d, hd, rfl⟩
    obtain ⟨i, h1, h2⟩ := sel_at hp hd
    exact ⟨i, d, h2, key j i d h1 (hp i (List.mem_of_getElem? h1))⟩
  · rintro ⟨i, d, hd, rfl⟩
    have hi := (List.getElem?_eq_some_iff.1 hd).1
    obtain ⟨j, hj⟩ := List.mem_iff_getElem?.1 (ha i hi)
    refine ⟨j, d, ?_, (key j i d hj hi).symm⟩
    unfold sel
    rw [List.getElem?_map, hj]
    simp [hd]
/-- The base as one more side. -/
theorem ms_addB (hm : MsOf base sides ms) (hb : MtOf base base (idm base.length)) : MsOf base (sides ++ [base]) (ms ++ [idm base.length]) := by
  refine ⟨by simp [hm.1], fun s l d h1 h2 => ?_⟩
  have hl := hm.1
  rcases Nat.lt_or_ge s sides.length with hs | hs
  · rw [List.getElem?_append_left (by omega)] at h1
    rw [List.getElem?_append_left hs] at h2
    exact hm.2 s l d h1 h2
  · rw [List.getElem?_append_right (by omega), hl] at h1
    rw [List.getElem?_append_right hs] at h2
    have hs0 : s = sides.length := by have := (List.getElem?_eq_some_iff.1 h2).1; simp at this; omega
    subst hs0
    rw [Nat.sub_self] at h1 h2
    simp at h1 h2
    subst h1
    subst h2
    exact hb
theorem laid_addB (hm : MsOf base sides ms) (hb : MtOf base base (idm base.length)) (h : Laid base sides ms cs) : Laid base (sides ++ [base]) (ms ++ [idm base.length]) (cs.map addB) ∧ ∀ c ∈ cs, ∀ q, q ≠ cutB c base → (q ∈ cutsP c sides ↔ q ∈ cutsP (addB c) (sides ++ [base])) := by
  have hX := cut_base (by rw [h.len, szs_len]) h.cut
  have hz : szs sides ++ [(base.length : Int)] = szs (sides ++ [base]) := by simp [szs]
  rw [hz] at hX
  have hL := (ms_addB hm hb).laid hX
  refine ⟨hL, fun c hc q hq => ?_⟩
  rw [cutsP_mem h hc, cutsP_mem hL (List.mem_map.2 ⟨c, hc, rfl⟩)]
  have hcl := (h.lies hc).2.2.2
  constructor
  · rintro ⟨s, d, hd, rfl⟩
    have hs := (List.getElem?_eq_some_iff.1 hd).1
    exact ⟨s, d, by rw [List.getElem?_append_left hs]; exact hd, (cutS_addB_side hcl hs d).symm⟩
  · rintro ⟨s, d, hd, rfl⟩
    rcases Nat.lt_or_ge s sides.length with hs | hs
    · rw [List.getElem?_append_left hs] at hd
      exact ⟨s, d, hd, cutS_addB_side hcl hs d⟩
    · have hs0 : s = sides.length := by have := (List.getElem?_eq_some_iff.1 hd).1; simp at this; omega
      subst hs0
      rw [List.getElem?_append_right (Nat.le_refl _), Nat.sub_self] at hd
      simp at hd
      subst hd
      exact absurd (cutS_addB_base hcl _) hq
/-- Sides in another turn. -/
theorem merge_turned {p : List Nat} {ms' : List (List Int)} {ds : List Ck} (hp : ∀ i ∈ p, i < sides.length) (ha : ∀ i, i < sides.length → i ∈ p) (hm : MsOf base sides ms) (h : Laid base sides ms cs) (hm' : MsOf base (sel [] p sides) ms') (h' : Laid base (sel [] p sides) ms' ds) :
    cleanB (mergeD base (sel [] p sides) 0 false ds) = cleanB (mergeD base sides 0 false cs) ∧ (cleanB (mergeD base sides 0 false cs) = true → mergeD base (sel [] p sides) 0 false ds = mergeD base sides 0 false cs) := by
  obtain ⟨rfl, hq⟩ := laid_sel hp ha hm h hm' h'
  exact merge_eqv h h' (fun c hc => rfl) fun c hc q _ => (hq c hc q).symm
/-- Sides in another turn, the base one of them. -/
theorem merge_more {p : List Nat} {ms' : List (List Int)} {ds : List Ck} (hp : ∀ i ∈ p, i < (sides ++ [base]).length) (ha : ∀ i, i < (sides ++ [base]).length → i ∈ p) (hm : MsOf base sides ms) (h : Laid base sides ms cs) (hm' : MsOf base (sel [] p (sides ++ [base])) ms') (h' : Laid base (sel [] p (sides ++ [base])) ms' ds) :
    cleanB (mergeD base (sel [] p (sides ++ [base])) 0 false ds) = cleanB (mergeD base sides 0 false cs) ∧ (cleanB (mergeD base sides 0 false cs) = true → mergeD base (sel [] p (sides ++ [base])) 0 false ds = mergeD base sides 0 false cs) := by
  have hb : MtOf base base (idm base.length) := by
    obtain ⟨j, hj⟩ := List.mem_iff_getElem?.1 (ha sides.length (by simp))
    have hs : (sel [] p (sides ++ [base]))[j]? = some base := by unfold sel; rw [List.getElem?_map, hj]; simp
    obtain ⟨l, hl, hM⟩ := hm'.at_ hs
    have := hM.self
    rw [this] at hM
    exact hM
  obtain ⟨hL, hq⟩ := laid_addB hm hb h
  obtain ⟨h1, h2⟩ := merge_eqv h hL (fun c hc => rfl) hq
  obtain ⟨h3, h4⟩ := merge_turned hp ha (ms_addB hm hb) hL hm' h'
  exact ⟨h3.trans h1, fun hc => (h4 (h1.trans hc)).trans (h2 hc)⟩

/-- The conflicts of pieces put together are theirs. -/
theorem join_conf {q : Pc} (hq : q.1 = true) (t : Txs) : ∀ {r : List Pc}, q ∈ joinT t r → q ∈ r
  | [], h => by
    unfold joinT at h
    by_cases e : t = []
    · simp [e] at h
    · simp [e, tPc] at h; subst h; cases hq
  | (false, x, b, s) :: r, h => by
    rcases List.mem_cons.1 h with rfl | h
    · cases hq
    · exact List.mem_cons_of_mem _ h
  | (true, x, b, s) :: r, h => by
    by_cases e : t = []
    · simpa [joinT, e] using h
    · have h : q ∈ tPc t :: (true, x, b, s) :: r := by simpa [joinT, e] using h
      rcases List.mem_cons.1 h with rfl | h
      · cases hq
      · exact h
theorem normal_conflict {q : Pc} (hq : q.1 = true) : ∀ {l : List Pc}, q ∈ normal l → ∃ t, (true, t, q.2.2.1, q.2.2.2) ∈ l
  | [], h => by cases h
  | (true, t, b, s) :: l, h => by
    rcases List.mem_cons.1 h with rfl | h
    · exact ⟨t, List.mem_cons_self ..⟩
    · obtain ⟨t', h'⟩ := normal_conflict hq h
      exact ⟨t', List.mem_cons_of_mem _ h'⟩
  | (false, t, b, s) :: l, h => by
    obtain ⟨t', h'⟩ := normal_conflict hq (join_conf hq t h)
    exact ⟨t', List.mem_cons_of_mem _ h'⟩
/-- How long the bases of all conflicts are. -/
def sumB (l : List Pc) : Nat := (l.map fun p => if p.1 then p.2.2.1.length else 0).sum
theorem sumB_cons (p : Pc) (l : List Pc) : sumB (p :: l) = (if p.1 then p.2.2.1.length else 0) + sumB l := by simp [sumB]
theorem sumB_join (t : Txs) : ∀ r : List Pc, sumB (joinT t r) = sumB r
  | [] => by unfold joinT; by_cases h : t = [] <;> simp [h, sumB, tPc]
  | (false, x, b, s) :: r => by simp [joinT, sumB]
  | (true, x, b, s) :: r => by unfold joinT; by_cases h : t = [] <;> simp [h, sumB, tPc]
theorem sumB_normal : ∀ l : List Pc, sumB (normal l) = sumB l
  | [] => rfl
  | (true, t, b, s) :: l => by rw [normal, sumB_cons, sumB_cons, sumB_normal l]; rfl
  | (false, t, b, s) :: l => by rw [normal, sumB_join, sumB_normal l, sumB_cons]; simp
theorem sumB_map (f : Ck → Pc) (k : Ck → Txs) : ∀ {cs : List Ck}, (∀ c ∈ cs, (f c).1 = true → (f c).2.2.1 = k c) → sumB (cs.map f) ≤ (cs.flatMap k).length
  | [], _ => by simp [sumB]
  | c :: cs, h => by
    have ih := sumB_map f k (cs := cs) fun d hd => h d (List.mem_cons_of_mem _ hd)
    rw [List.map_cons, sumB_cons, List.flatMap_cons, List.length_append]
    split
    · rename_i hc
      rw [h c (List.mem_cons_self ..) hc]
      omega
    · omega
theorem piece_conf_is {b : Txs} {ps : List Txs} (h : (pieceD b ps 0 false).1 = true) : pieceD b ps 0 false = cPc b ps := by
  unfold pieceD at h ⊢
  match hd : diffs b ps with
  | [] => rw [hd] at h; cases h
  | [d] => rw [hd] at h; cases h
  | d :: e :: l =>
    dsimp only
    rw [if_neg (by omega), if_neg (by simp)]
/-- What conflicts carry. -/
theorem merge_carries (h : Laid base sides ms cs) : (∀ q ∈ mergeD base sides 0 false cs, q.1 = true → q.2.2.2.length = sides.length ∧ 1 < kindN q.2.2.1 q.2.2.2) ∧ sumB (mergeD base sides 0 false cs) ≤ base.length := by
  constructor
  · intro q hq hqc
    obtain ⟨t, ht⟩ := normal_conflict hqc hq
    obtain ⟨c, hc, he⟩ := List.mem_map.1 ht
    rw [h.pc hc] at he
    have h1 : (pieceD (cutB c base) (cutsP c sides) 0 false).1 = true := by rw [he]
    have h2 := piece_conf_is h1
    rw [piece_conf, decide_eq_true_eq] at h1
    rw [h2] at he
    unfold cPc at he
    simp only [Prod.mk.injEq, true_and] at he
    obtain ⟨-, e1, e2⟩ := he
    rw [← e1, ← e2]
    exact ⟨cutsP_len h hc, h1⟩
  · unfold mergeD
    rw [sumB_normal]
    refine Nat.le_trans (sumB_map _ (fun c => cutB c base) fun c hc h1 => ?_) ?_
    · rw [h.pc hc] at h1 ⊢
      rw [piece_conf_is h1]
      rfl
    · rw [cat_base h.cut.1 (Int.le_refl _)]
      simp
end
end Go.Proofs.YtoopdgohdeddoaaGreatDoor
/- Proved here, without conditions: what the document asks of Chunks and of Merge (layer 8), as plain words; each tells one thing alone. -/
namespace Go.Proofs.YtoopdgohdeddoaaGreatDoor
set_option linter.unusedVariables false

/-- What forbids a base, and sides. -/
def wrongN (base : Txs) (sides : List Txs) : Int :=
  if sides.length = 0 ∨ 16 < sides.length then 1 else if (mayB base && sides.all mayB) = false then 2 else if (decide (2000 < base.length) || sides.any fun d => decide (2000 < d.length)) = true then 4 else 0
/-- What forbids a merge. -/
def errM (base : Txs) (sides : List Txs) (fav : Int) (un : Bool) : Int :=
  if wrongN base sides ≠ 0 then wrongN base sides else if fav < 0 ∨ (sides.length : Int) < fav ∨ (fav ≠ 0 ∧ un = true) then 1 else 0
/-- What Chunks tells. -/
def CutsTo (base : Txs) (sides : List Txs) (er : Int) (cs : List Ck) : Prop := er = wrongN base sides ∧ (er ≠ 0 → cs = []) ∧ (er = 0 → ∃ ms, MsOf base sides ms ∧ IsCut base.length (szs sides) ms cs)
/-- What Merge tells. -/
def MergesTo (base : Txs) (sides : List Txs) (fav : Int) (un : Bool) (er : Int) (ps : List Pc) : Prop := er = errM base sides fav un ∧ (er ≠ 0 → ps = []) ∧ (er = 0 → ∃ ms cs, MsOf base sides ms ∧ IsCut base.length (szs sides) ms cs ∧ ps = mergeD base sides fav un cs)
/-- Neither many nor long. -/
def smallM (base : Txs) (sides : List Txs) : Prop := sides.length ≤ 100 ∧ ∀ d ∈ base :: sides, d.length ≤ 100 ∧ ∀ s ∈ d, s.length ≤ 1000

section
variable {base : Txs} {sides : List Txs}
theorem MsOf.one {ms ms' : List (List Int)} (h : MsOf base sides ms) (h' : MsOf base sides ms') : ms = ms' := by
  refine List.ext_getElem? fun s => ?_
  have h1 := h.1
  have h2 := h'.1
  rcases Nat.lt_or_ge s sides.length with hs | hs
  · have e1 : ms[s]? = some (ms[s]'(by omega)) := List.getElem?_eq_getElem _
    have e2 : ms'[s]? = some (ms'[s]'(by omega)) := List.getElem?_eq_getElem _
    have e3 : sides[s]? = some (sides[s]'hs) := List.getElem?_eq_getElem _
    rw [e1, e2, (h.2 s _ _ e1 e3).one (h'.2 s _ _ e2 e3)]
  · rw [List.getElem?_eq_none (by omega), List.getElem?_eq_none (by omega)]
theorem cut_same {m : Int} {sizes : List Int} {ms : List (List Int)} {cs cs' : List Ck} (hl : ms.length = sizes.length) (h : IsCut m sizes ms cs) (h' : IsCut m sizes ms cs') : cs = cs' := cov_one hl h.1 h'.1 h.2 h'.2
theorem cuts_same {ms ms' : List (List Int)} {cs cs' : List Ck} (hm : MsOf base sides ms) (hc : IsCut base.length (szs sides) ms cs) (hm' : MsOf base sides ms') (hc' : IsCut base.length (szs sides) ms' cs') : cs = cs' := by
  have e := hm.one hm'
  subst e
  exact cut_same (by rw [hm.1, szs_len]) hc hc'
theorem CutsTo.one {er er' : Int} {cs cs' : List Ck} (h : CutsTo base sides er cs) (h' : CutsTo base sides er' cs') : er = er' ∧ cs = cs' := by
  have e : er = er' := h.1.trans h'.1.symm
  refine ⟨e, ?_⟩
  by_cases h0 : er = 0
  · obtain ⟨ms, a, b⟩ := h.2.2 h0
    obtain ⟨ms', a', b'⟩ := h'.2.2 (e ▸ h0)
    exact cuts_same a b a' b'
  · rw [h.2.1 h0, h'.2.1 (e ▸ h0)]
theorem MergesTo.one {fav : Int} {un : Bool} {er er' : Int} {ps ps' : List Pc} (h : MergesTo base sides fav un er ps) (h' : MergesTo base sides fav un er' ps') : er = er' ∧ ps = ps' := by
  have e : er = er' := h.1.trans h'.1.symm
  refine ⟨e, ?_⟩
  by_cases h0 : er = 0
  · obtain ⟨ms, cs, a, b, c⟩ := h.2.2 h0
    obtain ⟨ms', cs', a', b', c'⟩ := h'.2.2 (e ▸ h0)
    rw [c, c', cuts_same a b a' b']
  · rw [h.2.1 h0, h'.2.1 (e ▸ h0)]
theorem wrong_none (h : wrongN base sides = 0) : 1 ≤ sides.length ∧ sides.length ≤ 16 ∧ mayB base = true ∧ (∀ d ∈ sides, mayB d = true) ∧ base.length ≤ 2000 ∧ ∀ d ∈ sides, d.length ≤ 2000 := by
  unfold wrongN at h
  split at h
  · omega
  · split at h
    · omega
    · split at h
      · omega
      · rename_i h1 h2 h3
        simp only [Bool.not_eq_false, Bool.and_eq_true, List.all_eq_true] at h2
        simp only [Bool.not_eq_true, Bool.or_eq_false_iff, decide_eq_false_iff_not, List.any_eq_false, decide_eq_true_eq] at h3
        exact ⟨by omega, by omega, h2.1, h2.2, by omega, fun d hd => by have := h3.2 d hd; omega⟩
theorem wrong_zero (h1 : 1 ≤ sides.length) (h2 : sides.length ≤ 16) (h3 : mayB base = true) (h4 : ∀ d ∈ sides, mayB d = true) (h5 : base.length ≤ 2000) (h6 : ∀ d ∈ sides, d.length ≤ 2000) : wrongN base sides = 0 := by
  unfold wrongN
  rw [if_neg (by omega), if_neg (by simp only [Bool.not_eq_false, Bool.and_eq_true, List.all_eq_true]; exact ⟨h3, h4⟩), if_neg]
  simp only [Bool.not_eq_true, Bool.or_eq_false_iff, decide_eq_false_iff_not, List.any_eq_false, decide_eq_true_eq]
  exact ⟨by omega, fun d hd => by have := h6 d hd; omega⟩
end
end Go.Proofs.YtoopdgohdeddoaaGreatDoor
/- Proved here, without conditions: what the document asks of Script (layer 16), as plain words that tell one thing alone; what follows of it. -/
namespace Go.Proofs.YtoopdgohdeddoaaGreatDoor
set_option linter.unusedVariables false

/-- A chunk, as the commands ask it. -/
def chunkC (mine older yours : Txs) (c : Ck) : ChD := ⟨c.1, ((c.2.2[0]?).getD (0, 0)).1.toNat, ((c.2.2[0]?).getD (0, 0)).2.toNat, cutS c 0 mine, cutB c older, cutS c 1 yours⟩
/-- What forbids the commands. -/
def errS (c : UInt8) (mine older yours : Txs) : Int :=
  if knownB c = false then 1 else if wrongN older [mine, yours] ≠ 0 then wrongN older [mine, yours] else if (openB mine || openB older || openB yours) = true then 5 else 0
/-- What Script tells. -/
def ScriptTo (c : UInt8) (mine older yours : Txs) (fin : Bool) (er : Int) (x : Txs) : Prop :=
  er = errS c mine older yours ∧ (er ≠ 0 → x = []) ∧ (er = 0 → ∃ ms cs, MsOf older [mine, yours] ms ∧ IsCut older.length (szs [mine, yours]) ms cs ∧ x = scriptD c (cs.map (chunkC mine older yours)) fin)
/-- Without an open last text. -/
def shutL (l : Txs) : Txs := if openB l = true then l.dropLast else l

section
variable {c : UInt8} {mine older yours : Txs} {fin : Bool} {er er' : Int} {x x' : Txs}
theorem ScriptTo.one (h : ScriptTo c mine older yours fin er x) (h' : ScriptTo c mine older yours fin er' x') : er = er' ∧ x = x' := by
  have e : er = er' := h.1.trans h'.1.symm
  refine ⟨e, ?_⟩
  by_cases h0 : er = 0
  · obtain ⟨ms, cs, a, b, k⟩ := h.2.2 h0
    obtain ⟨ms', cs', a', b', k'⟩ := h'.2.2 (e ▸ h0)
    rw [k, k', cuts_same a b a' b']
  · rw [h.2.1 h0, h'.2.1 (e ▸ h0)]
theorem errS_none (h : errS c mine older yours = 0) : knownB c = true ∧ wrongN older [mine, yours] = 0 ∧ openB mine = false ∧ openB older = false ∧ openB yours = false := by
  unfold errS at h
  split at h
  · omega
  · rename_i h1
    split at h
    · rename_i h2; exact absurd h h2
    · rename_i h2
      split at h
      · omega
      · rename_i h3
        simp only [Bool.or_eq_true, not_or, Bool.not_eq_true] at h3
        exact ⟨by simpa using h1, by simpa using h2, h3.1.1, h3.1.2, h3.2⟩
def tailS (fin : Bool) : Txs := if fin = true then [[119, 10], [113, 10]] else []
theorem kind_older (m o : Txs) : kindF m o o ≠ 2 ∧ kindF m o o ≠ 4 := by
  unfold kindF
  by_cases h : m = o
  · rw [if_pos ⟨h, rfl⟩]; omega
  · rw [if_neg (fun k => h k.1), if_pos rfl]; omega
theorem kind_mine (m o : Txs) : kindF m o m ≠ 2 ∧ kindF m o m ≠ 4 := by
  unfold kindF
  by_cases h : m = o
  · rw [if_pos ⟨h, h⟩]; omega
  · rw [if_neg (fun k => h k.1), if_neg h, if_neg h, if_pos rfl]; omega
/-- NOTHING IS TO BE DONE where yours is older, or mine. -/
theorem script_older (h : ScriptTo c mine older older fin er x) (h0 : er = 0) : x = tailS fin := by
  obtain ⟨ms, cs, hm, hc, k⟩ := h.2.2 h0
  rw [k]
  unfold scriptD
  rw [script_none, List.nil_append]
  · rfl
  · intro d hd hs
    obtain ⟨ck, hck, rfl⟩ := List.mem_map.1 hd
    have e : cutS ck 1 older = cutB ck older := copy_part hm (hm.laid hc) (s := 1) rfl hck
    show kindF (cutS ck 0 mine) (cutB ck older) (cutS ck 1 older) ≠ 2 ∧ kindF (cutS ck 0 mine) (cutB ck older) (cutS ck 1 older) ≠ 4
    rw [e]
    exact kind_older _ _
theorem script_mine (h : ScriptTo c mine older mine fin er x) (h0 : er = 0) : x = tailS fin := by
  obtain ⟨ms, cs, hm, hc, k⟩ := h.2.2 h0
  rw [k]
  unfold scriptD
  rw [script_none, List.nil_append]
  · rfl
  · intro d hd hs
    obtain ⟨ck, hck, rfl⟩ := List.mem_map.1 hd
    have e : cutS ck 1 mine = cutS ck 0 mine := dup_part hm (hm.laid hc) (s := 1) (s' := 0) rfl rfl hck
    show kindF (cutS ck 0 mine) (cutB ck older) (cutS ck 1 mine) ≠ 2 ∧ kindF (cutS ck 0 mine) (cutB ck older) (cutS ck 1 mine) ≠ 4
    rw [e]
    exact kind_mine _ _
theorem cut_sub {l : Txs} {f t : Int} {s : Tx} (h : s ∈ cutL l f t) : s ∈ l := List.mem_of_mem_drop (List.mem_of_mem_take h)
theorem cutS_sub {ck : Ck} {k : Nat} {l : Txs} {s : Tx} (h : s ∈ cutS ck k l) : s ∈ l := by
  unfold cutS at h
  split at h
  · exact cut_sub h
  · cases h
/-- WITH END there are two lines more; each line is ended. -/
theorem script_fin (h : ScriptTo c mine older yours false er x) (h' : ScriptTo c mine older yours true er' x') : er' = er ∧ (er ≠ 0 → x = [] ∧ x' = []) ∧ (er = 0 → x' = x ++ [[119, 10], [113, 10]] ∧ mayB x' = true ∧ openB x' = false) := by
  have e : er' = er := h'.1.trans h.1.symm
  refine ⟨e, fun h0 => ⟨h.2.1 h0, h'.2.1 (e ▸ h0)⟩, fun h0 => ?_⟩
  obtain ⟨ms, cs, a, b, k⟩ := h.2.2 h0
  obtain ⟨ms', cs', a', b', k'⟩ := h'.2.2 (e ▸ h0)
  have ec := cuts_same a b a' b'
  subst ec
  refine ⟨by rw [k, k', script_end], ?_⟩
  rw [k']
  obtain ⟨-, hw, -, ho, hy⟩ := errS_none (h.1.symm.trans h0)
  obtain ⟨-, -, m1, m2, -, -⟩ := wrong_none hw
  have l1 := lines_iff.1 ⟨m1, ho⟩
  have l2 := lines_iff.1 ⟨m2 yours (by simp), hy⟩
  refine script_lines fun d hd => ?_
  obtain ⟨ck, hck, rfl⟩ := List.mem_map.1 hd
  exact ⟨fun s hs => l1 s (cut_sub hs), fun s hs => l2 s (cutS_sub hs)⟩
/-- WITH x, AND WITH 3, as many lines as with e. -/
theorem script_sum {e1 e2 e3 : Int} {x1 x2 x3 : Txs} (h1 : ScriptTo 101 mine older yours false e1 x1) (h2 : ScriptTo 120 mine older yours false e2 x2) (h3 : ScriptTo 51 mine older yours false e3 x3) : e1 = e2 ∧ e2 = e3 ∧ x1.length = x2.length + x3.length := by
  have q1 : errS 101 mine older yours = errS 120 mine older yours := rfl
  have q2 : errS 120 mine older yours = errS 51 mine older yours := rfl
  have r1 : e1 = e2 := by rw [h1.1, h2.1, q1]
  have r2 : e2 = e3 := by rw [h2.1, h3.1, q2]
  refine ⟨r1, r2, ?_⟩
  by_cases h0 : e1 = 0
  · obtain ⟨ms, cs, a, b, k⟩ := h1.2.2 h0
    obtain ⟨ms', cs', a', b', k'⟩ := h2.2.2 (r1 ▸ h0)
    obtain ⟨ms'', cs'', a'', b'', k''⟩ := h3.2.2 (r2 ▸ r1 ▸ h0)
    have ec := cuts_same a b a' b'
    subst ec
    have ec := cuts_same a b a'' b''
    subst ec
    rw [k, k', k'']
    exact script_parts
  · rw [h1.2.1 h0, h2.2.1 (r1 ▸ h0), h3.2.1 (r2 ▸ r1 ▸ h0)]
    rfl
theorem shut_open (l : Txs) (hm : mayB l = true) : openB (shutL l) = false ∧ mayB (shutL l) = true ∧ (shutL l).length ≤ l.length := by
  unfold shutL
  cases ho : openB l with
  | false => rw [if_neg (by decide)]; exact ⟨ho, hm, Nat.le_refl _⟩
  | true =>
    rw [if_pos rfl]
    have hne : l ≠ [] := by rintro rfl; cases ho
    have hd : l = l.dropLast ++ [l.getLast hne] := (List.dropLast_concat_getLast hne).symm
    rw [hd, may_append] at hm
    simp only [Bool.and_eq_true] at hm
    have h1 := hm.1.1
    have h2 : openB l.dropLast = false := by simpa using hm.2
    exact ⟨h2, h1, by rw [List.length_dropLast]; omega⟩
/-- IF ONE IS OPEN there are no commands; without its last line there are. -/
theorem err_open (hk : knownB c = true) (hw : wrongN older [mine, yours] = 0) : (errS c mine older yours = 5 ↔ (openB mine || openB older || openB yours) = true) ∧ (errS c mine older yours = 0 ↔ (openB mine || openB older || openB yours) = false) ∧ errS c (shutL mine) (shutL older) (shutL yours) = 0 := by
  have hz : wrongN (shutL older) [shutL mine, shutL yours] = 0 := by
    obtain ⟨-, -, m1, m2, m3, m4⟩ := wrong_none hw
    refine wrong_zero (by simp) (by simp) (shut_open older m1).2.1 (fun d hd => ?_) (by have := (shut_open older m1).2.2; omega) fun d hd => ?_
    · simp only [List.mem_cons, List.not_mem_nil, or_false] at hd
      rcases hd with rfl | rfl
      · exact (shut_open _ (m2 _ (by simp))).2.1
      · exact (shut_open _ (m2 _ (by simp))).2.1
    · simp only [List.mem_cons, List.not_mem_nil, or_false] at hd
      rcases hd with rfl | rfl
      · have := (shut_open _ (m2 mine (by simp))).2.2; have := m4 mine (by simp); omega
      · have := (shut_open _ (m2 yours (by simp))).2.2; have := m4 yours (by simp); omega
  obtain ⟨-, -, m1, m2, -, -⟩ := wrong_none hw
  have e1 : errS c mine older yours = if (openB mine || openB older || openB yours) = true then 5 else 0 := by
    unfold errS
    rw [if_neg (by rw [hk]; decide), if_neg (by rw [hw]; simp)]
  have e2 : errS c (shutL mine) (shutL older) (shutL yours) = 0 := by
    unfold errS
    rw [if_neg (by rw [hk]; decide), if_neg (by rw [hz]; simp), (shut_open older m1).1, (shut_open mine (m2 _ (by simp))).1, (shut_open yours (m2 _ (by simp))).1]
    rfl
  rw [e1]
  refine ⟨?_, ?_, e2⟩
  all_goals cases (openB mine || openB older || openB yours) <;> decide
theorem script_two (h : ScriptTo c mine older yours true er x) (h0 : er = 0) : 2 ≤ x.length := by
  obtain ⟨ms, cs, a, b, k⟩ := h.2.2 h0
  rw [k, script_end]
  simp
end
end Go.Proofs.YtoopdgohdeddoaaGreatDoor
/- What a call of Script tells. -/
namespace Go.Proofs.YtoopdgohdeddoaaGreatDoor
open Go.RowKit
set_option linter.unusedVariables false

/-- What a call of Script tells. -/
def ScrOut (w w' : World) (e : Ending) (c : UInt8) (mine older yours : Txs) (fin : Bool) : Prop := ∃ A n k er x, e = .returned (.tuple #[.slice A n k, .int .i64 er]) ∧ TxR w' w'.heap.size (A, n, k) x ∧ ScriptTo c mine older yours fin er x ∧ Below w.heap.size w w'
/-- A base, and sides, neither many nor long. -/
def smallS (l : Txs) : Prop := l.length ≤ 16 ∧ ∀ s ∈ l, s.length ≤ 100
end Go.Proofs.YtoopdgohdeddoaaGreatDoor
/- What the statements ask of package script. -/
namespace Go.Proofs.YtoopdgohdeddoaaGreatDoor
open Go.RowKit
set_option linter.unusedVariables false
set_option maxRecDepth 100000

/-- The contract of script.Script. -/
def ScriptOk : Prop := ∀ (c : UInt8) (A0 : Option Addr) (n0 c0 : Nat) (mine : Txs) (A1 : Option Addr) (n1 c1 : Nat) (older : Txs) (A2 : Option Addr) (n2 c2 : Nat) (yours : Txs) (fin : Bool) (w : World), smallS mine → smallS older → smallS yours →
    TxR w w.heap.size (A0, n0, c0) mine → TxR w w.heap.size (A1, n1, c1) older → TxR w w.heap.size (A2, n2, c2) yours →
    Calls Tryz.prog 10 #[.int .u8 (c.toNat : Int), .slice A0 n0 c0, .slice A1 n1 c1, .slice A2 n2 c2, .bool fin] w fun e w' => ScrOut w w' e c mine older yours fin
end Go.Proofs.YtoopdgohdeddoaaGreatDoor
