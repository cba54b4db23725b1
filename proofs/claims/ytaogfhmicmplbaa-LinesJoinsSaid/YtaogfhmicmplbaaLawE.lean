/- Proved here: the walk of the law LinesJoins. -/
import Derived.Test.YtaogfhmicmplbaaLawB
import Derived.Test.YtaogfhmicmplbaaAppend
namespace Go.Proofs.Ytaogfhmicmplbaa
open Go.RowKit
set_option linter.unusedVariables false

theorem open_cons' {c : UInt8} {x : List UInt8} {xs : List (List UInt8)} (hx : x ≠ []) : openB ((c :: x) :: xs) = openB (x :: xs) := by
  cases xs with
  | nil => simp [openB, ended_cons c hx]
  | cons y ys => rw [open_cons (c :: x) (by simp : y :: ys ≠ []), open_cons x (by simp : y :: ys ≠ [])]
theorem split_head {r x : List UInt8} {xs : List (List UInt8)} (h : splitL r = x :: xs) : x ≠ [] := by
  have := may_split r
  rw [h] at this
  simp only [mayB, Bool.and_eq_true, Bool.not_eq_true'] at this
  intro e; rw [e] at this; exact absurd this.1.1.1 (by simp)
theorem Strs.tail {w : World} {B n b o : Nat} {y : List UInt8} {ys : List (List UInt8)} (h : Strs w B (some ⟨b, o, none⟩) n (y :: ys)) : Strs w B (some ⟨b, o + 1, none⟩) (n - 1) ys := by
  have hl := h.len
  refine ⟨by simp at hl ⊢; omega, fun hn => ?_⟩
  obtain ⟨b', o', e, hb, hc⟩ := h.2 (by omega)
  injection e with e; injection e with e1 e2; subst e1; subst e2
  refine ⟨b, o + 1, rfl, hb, fun j u hu => ?_⟩
  rw [Nat.add_assoc, Nat.add_comm 1 j]
  exact hc (j + 1) u (by simpa using hu)
theorem split_cons {c : UInt8} {r x : List UInt8} {xs : List (List UInt8)} (hc : ¬ c = 10) (h : splitL r = x :: xs) : splitL (c :: r) = (c :: x) :: xs := by
  rw [splitL, if_neg hc, h]

theorem split_plain (a b : List UInt8) (h : openB (splitL a) = false ∨ splitL b = []) : splitL (a ++ b) = splitL a ++ splitL b := by
  rcases h with h | h
  · induction a with
    | nil => rfl
    | cons c r ih =>
      by_cases hc : c = 10
      · subst hc
        simp only [List.cons_append, splitL, if_true]
        congr 1
        refine ih ?_
        by_cases hr : splitL r = []
        · rw [hr]; rfl
        · rw [splitL, if_pos rfl, open_cons _ hr] at h; exact h
      · cases hs : splitL r with
        | nil =>
          have := splitL_nil hs
          subst this
          simp [splitL, hc, openB, endedB] at h
        | cons x xs =>
          rw [split_cons hc hs, open_cons' (split_head hs), ← hs] at h
          have := ih h
          rw [hs] at this
          rw [List.cons_append, split_cons hc this, split_cons hc hs]
          rfl
  · rw [splitL_nil h]; simp [splitL]

theorem split_glue (a b : List UInt8) (h : openB (splitL a) = true) : ∃ pre last, splitL a = pre ++ [last] ∧ ∀ y ys, splitL b = y :: ys → splitL (a ++ b) = pre ++ (last ++ y) :: ys := by
  induction a with
  | nil => simp [splitL, openB] at h
  | cons c r ih =>
    by_cases hc : c = 10
    · subst hc
      have hr : splitL r ≠ [] := by
        intro e
        rw [splitL, if_pos rfl, e] at h
        simp [openB, endedB] at h
      rw [splitL, if_pos rfl, open_cons _ hr] at h
      obtain ⟨pre, last, h1, h2⟩ := ih h
      refine ⟨[10] :: pre, last, by rw [splitL, if_pos rfl, h1]; rfl, fun y ys hy => ?_⟩
      rw [List.cons_append, splitL, if_pos rfl, h2 y ys hy]; rfl
    · cases hs : splitL r with
      | nil =>
        have := splitL_nil hs
        subst this
        refine ⟨[], [c], by simp [splitL, hc], fun y ys hy => ?_⟩
        rw [List.cons_append, List.nil_append, split_cons hc hy]; rfl
      | cons x xs =>
        rw [split_cons hc hs, open_cons' (split_head hs), ← hs] at h
        obtain ⟨pre, last, h1, h2⟩ := ih h
        cases pre with
        | nil =>
          refine ⟨[], c :: last, by rw [split_cons hc (x := last) (xs := []) (by rw [h1]; rfl)]; rfl, fun y ys hy => ?_⟩
          rw [List.cons_append, split_cons hc (x := last ++ y) (xs := ys) (by rw [h2 y ys hy]; rfl)]; rfl
        | cons p ps =>
          refine ⟨(c :: p) :: ps, last, by rw [split_cons hc (x := p) (xs := ps ++ [last]) (by rw [h1]; rfl)]; rfl, fun y ys hy => ?_⟩
          rw [List.cons_append, split_cons hc (x := p) (xs := ps ++ (last ++ y) :: ys) (by rw [h2 y ys hy]; rfl)]; rfl

set_option maxHeartbeats 1000000 in
theorem LinesJoins_walk (A : Option Addr) (n c : Nat) (as' : List UInt8) (B : Option Addr) (m d : Nat) (bs : List UInt8) (w : World) (hz : ArgByts w A n c as') (hz' : ArgByts w B m d bs) :
    Calls Try.prog 7 #[.slice A n c, .slice B m d] w fun e w' => e = .returned (.bool true) ∧ Below w.heap.size w w' := by
  obtain ⟨hnc, hcm, hA⟩ := hz
  obtain ⟨hmd, hdm, hB⟩ := hz'
  obtain ⟨i0, hi, hz0, hz1, hz2⟩ := info_parts infoByte
  obtain ⟨j0, hj, hy0, hy1, hy2⟩ := info_parts infoStr
  have hlA := hA.len
  have hlB := hB.len
  by_cases h300 : n ≤ 300 ∧ m ≤ 300
  · obtain ⟨ha3, hb3⟩ := h300
    have hi1 : ¬ (300 : Int) < (n : Int) := by omega
    have hi2 : ¬ (300 : Int) < (m : Int) := by omega
    have hsa := Lib.hid (split_small (bs := as') (N := 300) (by omega))
    have hsb := Lib.hid (split_small (bs := bs) (N := 300) (by omega))
    replace hlA := Lib.hid hlA
    replace hlB := Lib.hid hlB
    go_enter Try.func7, Try.ntmps7
    go_wp2_with (go_at_call 8; refine (awake_any _).mono ?_; rintro e w1 ⟨rfl, hB1⟩)
    have hz1' := hB1.size
    refine (Split_any A n c as' w1 (by have := hlA.out; omega) ((hA.below hB1).more hz1')).mono ?_
    rintro e w2 ⟨A2, n2, c2, rfl, hn2, hnc2, hcm2, hst2, hB2⟩
    replace hn2 := Lib.hid hn2
    have hB12 : Below w.heap.size w w2 := hB1.trans (hB2.mono hz1')
    have hz2' := hB2.size
    go_wp2_with fail
    refine (Split_any B m d bs w2 (by have := hlB.out; omega) ((hB.below hB12).more (by omega))).mono ?_
    rintro e w3 ⟨A3, n3, c3, rfl, hn3, hnc3, hcm3, hst3, hB3⟩
    replace hn3 := Lib.hid hn3
    have hB13 : Below w.heap.size w w3 := hB12.trans (hB3.mono (by omega))
    have hz3' := hB3.size
    have hst2a := hst2.below hB3
    have hAw3 := hA.below hB13
    have hBw3 := hB.below hB13
    have hzw : w.heap.size ≤ w3.heap.size := by omega
    have hbase := own_empty w3 w3.heap.size 5 (Nat.le_refl _)
    have hBe : Below w3.heap.size w3 (w3.alloc (.cells #[] 5)) := (Below.refl _ _).alloc (Nat.le_refl _) _
    have hr1 := hAw3.below (hBe.mono hzw)
    have hm1 : 0 + n ≤ maxLen := by unfold maxLen; omega
    have hm2 : 0 + n + m ≤ maxLen := by unfold maxLen; omega
    go_wp2_with (first
      | (at_builtin; refine wpList_append_reads _ rfl (.tmp 24) (.tmp 25) 22 rfl w3.heap.size 5 i0 (.int .u8 0) 1 Try.underlying22 hi hz0 hz1 hz2 rfl _ 0 [] rfl hbase w.heap.size A n c (bcs as') rfl hr1 (bcs_one _) hm1 (by omega) (by simp) ?_; intro v1 w4 hown1 hg1; have hB34 := hBe.grown hg1 hBe.size (fun g e => (hbase.lt g e).1); have hr2 := hBw3.below (hB34.mono hzw))
      | (at_builtin; refine wpList_append_reads _ rfl (.tmp 26) (.tmp 27) 22 rfl w3.heap.size 5 i0 (.int .u8 0) 1 Try.underlying22 hi hz0 hz1 hz2 rfl v1 (0 + n) ([] ++ bcs as') rfl hown1 w.heap.size B m d (bcs bs) rfl hr2 (bcs_one _) hm2 (by omega) hB34.size ?_; intro v2 w5 hown2 hg2; have hB35 := hB34.grown hg2 hB34.size (fun g e => (hown1.lt g e).1); obtain ⟨A5, c5, hv2, hnc5, hcm5, hrd5⟩ := own_slice hown2; subst hv2)
      | fail)
    have hby5 : Byts w5 w5.heap.size A5 (n + m) (as' ++ bs) := by have := hrd5; simpa [Byts, bcs] using this
    refine (Split_any A5 (n + m) c5 (as' ++ bs) w5 (by have := hlA.out; have := hlB.out; rw [List.length_append]; omega) hby5).mono ?_
    rintro e w6 ⟨A6, n6, c6, rfl, hn6, hnc6, hcm6, hst6, hB6⟩
    replace hn6 := Lib.hid hn6
    have hz5 := hB35.size
    have hB36 : Below w3.heap.size w3 w6 := hB35.trans (hB6.mono hz5)
    have hB16 : Below w.heap.size w w6 := hB13.trans (hB36.mono hzw)
    have hz6 := hB36.size
    clear hr1 hr2 hown1 hown2 hbase hg1 hg2 hrd5 hby5 hB34 hB35 hBe hB6 hm1 hm2
    have hst2b := hst2.below (hB3.trans (hB36.mono hz3'))
    have hst3b := hst3.below hB36
    have hbig2 : ∀ s ∈ splitL as', s.length ≤ maxLen := fun s h => by have := hsa.out.2 s h; unfold maxLen; omega
    have hO := Open_any A2 n2 c2 _ _ w6 (by omega) hbig2 hst2b
    have hn2s : n2 ≤ 300 := by have := hn2.out; have := hsa.out.1; omega
    have hn3s : n3 ≤ 300 := by have := hn3.out; have := hsb.out.1; omega
    have hn6s : n6 ≤ maxLen := by omega
    by_cases hg : openB (splitL as') = true ∧ 0 < n3
    · obtain ⟨hg1, hg2⟩ := hg
      obtain ⟨pre, last, hxa, hgl⟩ := split_glue as' bs hg1
      obtain ⟨y, ys, hxb⟩ : ∃ y ys, splitL bs = y :: ys := by
        cases h : splitL bs with
        | nil => rw [h] at hn3; have := hn3.out; simp at this; omega
        | cons y ys => exact ⟨y, ys, rfl⟩
      have hglu := hgl y ys hxb
      have hn2p : n2 = pre.length + 1 := by have := hn2.out; rw [hxa] at this; simpa using this
      have hn3p : n3 = ys.length + 1 := by have := hn3.out; rw [hxb] at this; simpa using this
      rw [hg1] at hO
      rw [hglu] at hst6
      rw [hxa] at hst2b
      rw [hxb] at hst3b
      clear hgl hglu hg1
      replace hO := Lib.hid hO
      replace hxa := Lib.hid hxa
      replace hxb := Lib.hid hxb
      replace hn2p := Lib.hid hn2p
      replace hn3p := Lib.hid hn3p
      have hp3 : (0 : Int) < (n3 : Int) := by omega
      have hp2 : (1 : Int) ≤ (n2 : Int) := by have := hn2p.out; omega
      have hp2' : 0 < 0 + n2 := by omega
      have hown := own_empty w6 w6.heap.size 9 (Nat.le_refl _)
      have hBe6 : Below w6.heap.size w6 (w6.alloc (.cells #[] 9)) := (Below.refl _ _).alloc (Nat.le_refl _) _
      have hr1 := hst2b.below (hBe6.mono (by omega))
      have hm1 : 0 + n2 ≤ maxLen := by unfold maxLen; omega
      have hm2 : 0 + n2 + (n3 - 1) ≤ maxLen := by unfold maxLen; omega
      go_wp2_with (first
        | (go_at_call 13; refine hO.out.mono ?_; rintro e w' ⟨rfl, rfl⟩)
        | (at_builtin; refine wpList_append_reads _ rfl (.tmp 37) (.tmp 38) 24 rfl w6.heap.size 9 j0 (.string ByteArray.empty) 16 Try.underlying24 hj hy0 hy1 hy2 rfl _ 0 [] rfl hown w2.heap.size A2 n2 c2 ((pre ++ [last]).map fun s => Value.string (str s)) rfl hr1 (strs_one _) hm1 (by omega) (by simp) ?_; intro v1 w7 hown1 hg1; have hB67 := hBe6.grown hg1 hBe6.size (fun g e => (hown.lt g e).1); obtain ⟨g, cg, hv1, hncg, hgl⟩ := hown1.form hp2'; subst hv1))
      have hst7 := hst3b.below (hB67.mono hz6)
      obtain ⟨b3, o3, t3, rfl, hb3', ht3, hc3⟩ := hst7.at_ (k := 0) (by omega)
      injection ht3 with ht3; subst ht3
      have hc2 : w7.cell? ⟨b3, o3, none⟩ = some (.string (str y)) := hc3
      have hc1 : w7.cell? ⟨g, n2 - 1, none⟩ = some (.string (str last)) := by
        have := hown1.cells (g := g) rfl (n2 - 1) (.string (str last)) (by rw [show n2 - 1 = pre.length from by have := hn2p.out; omega]; simp)
        rw [show (⟨g, 0, none⟩ : Addr).add (n2 - 1) = ⟨g, n2 - 1, none⟩ from by unfold Addr.add; split <;> simp_all] at this
        exact this
      have hf1 : w7.frozen? ⟨g, n2 - 1, none⟩ = false := hown1.frozenAt _
      clear hc3
      have hcat : (str last).size + (str y).size ≤ 1000 := by
        rw [str_size, str_size]
        have h1 := hsa.out.2 last (by rw [hxa.out]; simp)
        have h2 := hsb.out.2 y (by rw [hxb.out]; simp)
        omega
      go_region
      have hgg := (hown1.lt g rfl).1
      have hB68 : Below w6.heap.size w6 (w7.setCell ⟨g, n2 - 1, none⟩ (.string (str last ++ str y))).drew := (hB67.setCell (p := ⟨g, n2 - 1, none⟩) hgg _).drew
      have hown8 : (w7.setCell ⟨g, n2 - 1, none⟩ (.string (str last ++ str y))).drew.ownsRow w6.heap.size 9 1 (.slice (some ⟨g, 0, none⟩) n2 cg) n2 ((pre ++ [last ++ y]).map fun s => Value.string (str s)) := by
        have h := (hown1.stored (n2 - 1) (.string (str last ++ str y))).1
        have e : ([] ++ (pre ++ [last]).map fun s => Value.string (str s)).set (n2 - 1) (.string (str last ++ str y)) = (pre ++ [last ++ y]).map fun s => Value.string (str s) := by
          rw [show n2 - 1 = pre.length from by have := hn2p.out; omega, str_append]
          simp
        rw [e, Nat.zero_add] at h
        exact h
      have hst8 : Strs (w7.setCell ⟨g, n2 - 1, none⟩ (.string (str last ++ str y))).drew w3.heap.size (some ⟨b3, o3, none⟩) n3 (y :: ys) :=
        Reads.keep hst7 fun p hp => World.cell?_setCell_other w7 _ p _ (fun e => by subst e; simp at hp; omega)
      have hm3 : n2 + (n3 - 1) ≤ maxLen := by unfold maxLen; omega
      clear hc1 hc2 hf1 hcat hr1 hown hBe6 hm1 hm2 hst2b hst2 hst3 hst2a hAw3 hBw3 hown1
      by_cases hc31 : c3 = 1
      · subst hc31
        have hys : ys = [] := List.eq_nil_of_length_eq_zero (by have := hn3p.out; omega)
        subst hys
        have hr3 : Reads (w7.setCell ⟨g, n2 - 1, none⟩ (.string (str last ++ str y))).drew w3.heap.size (some ⟨b3, o3, none⟩) 0 [] := ⟨rfl, fun h => absurd h (by omega)⟩
        have hm3' : n2 ≤ maxLen := by unfold maxLen; omega
        clear hst8 hst7
        go_wp2_with (at_builtin; refine wpList_append_reads _ rfl (.tmp 55) (.tmp 57) 24 rfl w6.heap.size 9 j0 (.string ByteArray.empty) 16 Try.underlying24 hj hy0 hy1 hy2 rfl _ n2 ((pre ++ [last ++ y]).map fun s => Value.string (str s)) rfl hown8 w3.heap.size _ 0 _ [] rfl hr3 (by simp) hm3' (by omega) hB68.size ?_; intro v2 w9 hown2 hg2; have hB69 := hB68.grown hg2 hB68.size (fun g e => (hown8.lt g e).1); obtain ⟨A9, c9, hv2, hnc9, hcm9, hrd9⟩ := own_slice hown2; subst hv2)
        have h9 : Strs w9 w9.heap.size A9 n2 (pre ++ (last ++ y) :: []) := by have := hrd9; simpa [Strs] using this
        have hS := Same_any A6 A9 n6 n2 c6 c9 _ _ (pre ++ (last ++ y) :: []) (pre ++ (last ++ y) :: []) w9 hn6s hm3' (hst6.below hB69) h9
        rw [show decide (pre ++ (last ++ y) :: [] = pre ++ (last ++ y) :: []) = true from by simp] at hS
        refine hS.mono ?_
        rintro e w10 ⟨rfl, k10, rfl⟩
        go_wp2
        go_ret
        exact ⟨rfl, below_drewN (hB16.trans (hB69.mono (by omega))) k10⟩
      · have hr3 := hst8.tail
        have hc31' : (1 : Int) < (c3 : Int) := by omega
        clear hst8 hst7
        go_wp2_with (at_builtin; refine wpList_append_reads _ rfl (.tmp 55) (.tmp 57) 24 rfl w6.heap.size 9 j0 (.string ByteArray.empty) 16 Try.underlying24 hj hy0 hy1 hy2 rfl _ n2 ((pre ++ [last ++ y]).map fun s => Value.string (str s)) rfl hown8 w3.heap.size _ (n3 - 1) _ (ys.map fun s => Value.string (str s)) rfl hr3 (strs_one _) hm3 (by omega) hB68.size ?_; intro v2 w9 hown2 hg2; have hB69 := hB68.grown hg2 hB68.size (fun g e => (hown8.lt g e).1); obtain ⟨A9, c9, hv2, hnc9, hcm9, hrd9⟩ := own_slice hown2; subst hv2)
        have h9 : Strs w9 w9.heap.size A9 (n2 + (n3 - 1)) (pre ++ (last ++ y) :: ys) := by have := hrd9; simpa [Strs] using this
        have hS := Same_any A6 A9 n6 (n2 + (n3 - 1)) c6 c9 _ _ (pre ++ (last ++ y) :: ys) (pre ++ (last ++ y) :: ys) w9 hn6s (by unfold maxLen; omega) (hst6.below hB69) h9
        rw [show decide (pre ++ (last ++ y) :: ys = pre ++ (last ++ y) :: ys) = true from by simp] at hS
        refine hS.mono ?_
        rintro e w10 ⟨rfl, k10, rfl⟩
        go_wp2
        go_ret
        exact ⟨rfl, below_drewN (hB16.trans (hB69.mono (by omega))) k10⟩
    · have hpl : splitL (as' ++ bs) = splitL as' ++ splitL bs := split_plain as' bs (by
        by_cases h1 : openB (splitL as') = true
        · right
          have : n3 = 0 := Nat.eq_zero_of_not_pos fun h => hg ⟨h1, h⟩
          exact List.eq_nil_of_length_eq_zero (by have := hn3.out; omega)
        · left; simpa using h1)
      rw [hpl] at hst6
      replace hpl := Lib.hid hpl
      obtain ⟨xa, hxa⟩ : ∃ xa, splitL as' = xa := ⟨_, rfl⟩
      obtain ⟨xb, hxb⟩ : ∃ xb, splitL bs = xb := ⟨_, rfl⟩
      rw [hxa, hxb] at hst6
      rw [hxa] at hst2b
      rw [hxb] at hst3b
      have hown := own_empty w6 w6.heap.size 9 (Nat.le_refl _)
      have hBe6 : Below w6.heap.size w6 (w6.alloc (.cells #[] 9)) := (Below.refl _ _).alloc (Nat.le_refl _) _
      have hr1 := hst2b.below (hBe6.mono (by omega))
      have hm1 : 0 + n2 ≤ maxLen := by unfold maxLen; omega
      have hm2 : 0 + n2 + n3 ≤ maxLen := by unfold maxLen; omega
      rw [hxa] at hO
      by_cases ho : openB xa = true
      · rw [ho] at hO
        have hz : ¬ (0 : Int) < (n3 : Int) := by have : ¬ 0 < n3 := (fun h => hg ⟨by rw [hxa]; exact ho, h⟩); omega
        replace hO := Lib.hid hO
        clear hg ho
        go_wp2_with (first
          | (go_at_call 13; refine hO.out.mono ?_; rintro e w' ⟨rfl, rfl⟩)
          | (at_builtin; refine wpList_append_readsG _ rfl (.tmp 68) (.tmp 69) 24 rfl w6.heap.size 9 j0 (.string ByteArray.empty) 16 Try.underlying24 hj hy0 hy1 hy2 rfl _ 0 [] rfl hown w2.heap.size A2 n2 c2 (xa.map fun s => Value.string (str s)) rfl hr1 (strs_one _) hm1 (by omega) (by simp) ?_; intro v1 w7 hown1 hg1; have hB67 := hBe6.grown hg1 hBe6.size (fun g e => (hown.lt g e).1); have hr2 := hst3b.below (hB67.mono hz6))
          | (at_builtin; refine wpList_append_readsG _ rfl (.tmp 70) (.tmp 71) 24 rfl w6.heap.size 9 j0 (.string ByteArray.empty) 16 Try.underlying24 hj hy0 hy1 hy2 rfl v1 (0 + n2) ([] ++ xa.map fun s => Value.string (str s)) rfl hown1 w3.heap.size A3 n3 c3 (xb.map fun s => Value.string (str s)) rfl hr2 (strs_one _) hm2 (by omega) hB67.size ?_; intro v2 w8 hown2 hg2; have hB68 := hB67.grown hg2 hB67.size (fun g e => (hown1.lt g e).1); obtain ⟨A8, c8, hv2, hnc8, hcm8, hrd8⟩ := own_slice hown2; subst hv2))
        have h8 : Strs w8 w8.heap.size A8 (n2 + n3) (xa ++ xb) := by have := hrd8; simpa [Strs] using this
        have hS := Same_any A6 A8 n6 (n2 + n3) c6 c8 _ _ (xa ++ xb) (xa ++ xb) w8 hn6s (by unfold maxLen; omega) (hst6.below hB68) h8
        rw [show decide (xa ++ xb = xa ++ xb) = true from by simp] at hS
        refine hS.mono ?_
        rintro e w9 ⟨rfl, k9, rfl⟩
        go_wp2
        go_ret
        exact ⟨rfl, below_drewN (hB16.trans (hB68.mono (by omega))) k9⟩
      · rw [show openB xa = false from by simpa using ho] at hO
        replace hO := Lib.hid hO
        clear hg ho
        go_wp2_with (first
          | (go_at_call 13; refine hO.out.mono ?_; rintro e w' ⟨rfl, rfl⟩)
          | (at_builtin; refine wpList_append_readsG _ rfl (.tmp 68) (.tmp 69) 24 rfl w6.heap.size 9 j0 (.string ByteArray.empty) 16 Try.underlying24 hj hy0 hy1 hy2 rfl _ 0 [] rfl hown w2.heap.size A2 n2 c2 (xa.map fun s => Value.string (str s)) rfl hr1 (strs_one _) hm1 (by omega) (by simp) ?_; intro v1 w7 hown1 hg1; have hB67 := hBe6.grown hg1 hBe6.size (fun g e => (hown.lt g e).1); have hr2 := hst3b.below (hB67.mono hz6))
          | (at_builtin; refine wpList_append_readsG _ rfl (.tmp 70) (.tmp 71) 24 rfl w6.heap.size 9 j0 (.string ByteArray.empty) 16 Try.underlying24 hj hy0 hy1 hy2 rfl v1 (0 + n2) ([] ++ xa.map fun s => Value.string (str s)) rfl hown1 w3.heap.size A3 n3 c3 (xb.map fun s => Value.string (str s)) rfl hr2 (strs_one _) hm2 (by omega) hB67.size ?_; intro v2 w8 hown2 hg2; have hB68 := hB67.grown hg2 hB67.size (fun g e => (hown1.lt g e).1); obtain ⟨A8, c8, hv2, hnc8, hcm8, hrd8⟩ := own_slice hown2; subst hv2))
        have h8 : Strs w8 w8.heap.size A8 (n2 + n3) (xa ++ xb) := by have := hrd8; simpa [Strs] using this
        have hS := Same_any A6 A8 n6 (n2 + n3) c6 c8 _ _ (xa ++ xb) (xa ++ xb) w8 hn6s (by unfold maxLen; omega) (hst6.below hB68) h8
        rw [show decide (xa ++ xb = xa ++ xb) = true from by simp] at hS
        refine hS.mono ?_
        rintro e w9 ⟨rfl, k9, rfl⟩
        go_wp2
        go_ret
        exact ⟨rfl, below_drewN (hB16.trans (hB68.mono (by omega))) k9⟩
  · by_cases h1 : 300 < n
    · have hi1 : (300 : Int) < (n : Int) := by omega
      go_enter Try.func7, Try.ntmps7
      go_wp2_with (go_at_call 8; refine (awake_any _).mono ?_; rintro e w1 ⟨rfl, hB1⟩)
      go_ret
      exact ⟨rfl, hB1⟩
    · have hi1 : ¬ (300 : Int) < (n : Int) := by omega
      have hi2 : (300 : Int) < (m : Int) := by omega
      go_enter Try.func7, Try.ntmps7
      go_wp2_with (go_at_call 8; refine (awake_any _).mono ?_; rintro e w1 ⟨rfl, hB1⟩)
      go_ret
      exact ⟨rfl, hB1⟩
end Go.Proofs.Ytaogfhmicmplbaa
