/- Proved here: contracts of the document's own answers that layer 2's statements call. -/
import Derived.Test.YtaniikdnlebknaaAll
import Derived.Test.YtaniikdnlebknaaAppend
import Derived.Deep.QuietTactic
import Derived.BigQuiet
namespace Go.Proofs.Ytaniikdnlebknaa
open Go.RowKit Go.Maps Go.WideMaps
set_option linter.unusedVariables false

/-- At most 'most' texts, of 100 bytes at most. -/
def fewB (ss : List (List UInt8)) (most : Nat) : Bool := decide (ss.length ≤ most) && (ss.take (most + 1)).all fun s => decide (s.length ≤ 100)

theorem few_step {ss : List (List UInt8)} {k : Nat} {t : List UInt8} (hq : (ss.take k).all (fun s => decide (s.length ≤ 100)) = true) (ht : ss[k]? = some t) (h : ¬ (100 : Int) < ((str t).size : Int)) : (ss.take (k + 1)).all (fun s => decide (s.length ≤ 100)) = true := by
  rw [str_size] at h
  rw [take_at ht, List.all_append, hq]
  simp; omega
theorem few_no {ss : List (List UInt8)} {k most : Nat} {t : List UInt8} (hk : k ≤ most) (ht : ss[k]? = some t) (h : (100 : Int) < ((str t).size : Int)) : false = fewB ss most := by
  rw [str_size] at h
  unfold fewB
  have hm : t ∈ ss.take (most + 1) := List.mem_of_getElem? (i := k) (by rw [List.getElem?_take]; rw [if_pos (by omega)]; exact ht)
  rw [eq_comm, Bool.and_eq_false_iff]
  right
  rw [Bool.eq_false_iff, ne_eq, List.all_eq_true]
  intro ha
  have := ha t hm
  simp at this
  omega

theorem few_end {ss : List (List UInt8)} {k n most : Nat} (hl : ss.length = n) (h : k = n ∨ most < k ∧ k < n) (hq : (ss.take k).all (fun s => decide (s.length ≤ 100)) = true) : decide (n ≤ most) = fewB ss most := by
  unfold fewB
  rw [hl]
  by_cases hm : n ≤ most
  · have : k = n := by omega
    subst this
    rw [List.take_of_length_le (by omega)] at hq
    rw [List.take_of_length_le (by omega), hq]
    simp
  · simp [hm]

set_option maxHeartbeats 400000 in
theorem Few_any (A : Option Addr) (n c most B : Nat) (ss : List (List UInt8)) (w : World) (hn : n ≤ maxLen) (hmo : most ≤ 1000000) (hA : Strs w B A n ss) :
    Calls Try.prog 9 #[.slice A n c, .int .i64 most] w fun e w' => e = .returned (.bool (fewB ss most)) ∧ w = w' := by
  unfold maxLen at hn
  have hl := hA.len
  go_enter Try.func9, Try.ntmps9
  go_wp2
  go_loop [5] (fun i => ∃ k : Nat, k ≤ n ∧ k ≤ most + 1 ∧ i = .int .i64 k ∧ Hid ((ss.take k).all (fun s => decide (s.length ≤ 100)) = true)) (fun i => n - (intOf i).toNat)
  case atStart => exact ⟨0, Nat.zero_le _, Nat.zero_le _, rfl, Lib.hid rfl⟩
  case round =>
    obtain ⟨k, hk, hkm, rfl, hq⟩ := hrel
    by_cases hlt : k < n
    · by_cases hm : k ≤ most
      · obtain ⟨b, o, t, rfl, hb, ht, hc⟩ := hA.at_ (k := k) hlt
        go_wp2
        · have h : (100 : Int) < ((str t).size : Int) := by assumption
          go_ret
          exact ⟨ret_bool (few_no hm ht h), rfl⟩
        · have h : ((str t).size : Int) ≤ 100 := by assumption
          go_round
          case rel => exact ⟨k + 1, by omega, by omega, by go_num, Lib.hid (few_step hq.out ht (by omega))⟩
          case measure => simp [intOf]; omega
      · go_wp2
        go_ret
        exact ⟨ret_bool (few_end hl (.inr ⟨by omega, hlt⟩) hq.out), rfl⟩
    · obtain rfl : k = n := by omega
      by_cases hm : k ≤ most
      · go_wp2
        go_ret
        exact ⟨ret_bool (by rw [← few_end hl (.inl rfl) hq.out]; simpa using hm), rfl⟩
      · go_wp2
        go_ret
        exact ⟨ret_bool (by rw [← few_end hl (.inl rfl) hq.out]; simpa using hm), rfl⟩


/-- At most 6 files, of 20 texts of 100 bytes, at most. -/
def fewF (files : List (List (List UInt8))) : Bool := decide (files.length ≤ 6) && (files.take 7).all fun f => fewB f 20

theorem fewF_step {files : List (List (List UInt8))} {k : Nat} {f : List (List UInt8)} (hq : (files.take k).all (fun f => fewB f 20) = true) (ht : files[k]? = some f) (h : fewB f 20 = true) : (files.take (k + 1)).all (fun f => fewB f 20) = true := by
  rw [take_at ht, List.all_append, hq]
  simp [h]
theorem fewF_no {files : List (List (List UInt8))} {k : Nat} {f : List (List UInt8)} (hk : k < 7) (ht : files[k]? = some f) (h : fewB f 20 = false) : false = fewF files := by
  unfold fewF
  have hm : f ∈ files.take 7 := List.mem_of_getElem? (i := k) (by rw [List.getElem?_take]; rw [if_pos hk]; exact ht)
  rw [eq_comm, Bool.and_eq_false_iff]
  right
  rw [Bool.eq_false_iff, ne_eq, List.all_eq_true]
  intro ha
  rw [ha f hm] at h
  cases h
theorem fewF_end {files : List (List (List UInt8))} {k n : Nat} (hl : files.length = n) (h : k = n ∨ 7 ≤ k ∧ k < n) (hq : (files.take k).all (fun f => fewB f 20) = true) : decide (n ≤ 6) = fewF files := by
  unfold fewF
  rw [hl]
  by_cases hm : n ≤ 6
  · have : k = n := by omega
    subst this
    rw [List.take_of_length_le (by omega)] at hq
    rw [List.take_of_length_le (by omega), hq]
    simp
  · simp [hm]

set_option maxHeartbeats 400000 in
theorem few_any (A : Option Addr) (n c B : Nat) (rows : List (Option Addr × Nat × Nat)) (files : List (List (List UInt8))) (w : World) (hn : n ≤ maxLen) (hf : ∀ f ∈ files, f.length ≤ maxLen) (hA : Rows2 w B A n rows files) :
    Calls Try.prog 15 #[.slice A n c] w fun e w' => e = .returned (.bool (fewF files)) ∧ w = w' := by
  unfold maxLen at hn
  have hl : files.length = n := by have := hA.1.1; have := hA.2.1; simp at *; omega
  go_enter Try.func15, Try.ntmps15
  go_wp2
  go_loop [3] (fun i => ∃ k : Nat, k ≤ n ∧ k ≤ 7 ∧ i = .int .i64 k ∧ Hid ((files.take k).all (fun f => fewB f 20) = true)) (fun i => n - (intOf i).toNat)
  case atStart => exact ⟨0, Nat.zero_le _, Nat.zero_le _, rfl, Lib.hid rfl⟩
  case round =>
    obtain ⟨k, hk, hk7, rfl, hq⟩ := hrel
    by_cases hlt : k < n
    · by_cases hm : k < 7
      · obtain ⟨b, o, A', n', c', f, rfl, hb, ht, hc, hst⟩ := hA.at_ (k := k) hlt
        have hfl : n' ≤ maxLen := by have := hf f (List.mem_of_getElem? ht); have := hst.len; omega
        obtain ⟨fb, hfb⟩ : ∃ fb, fewB f 20 = fb := ⟨_, rfl⟩
        have hC := Few_any A' n' c' 20 B f w hfl (by omega) hst
        rw [hfb] at hC
        have hC' := Lib.hid hC
        have hfb' := Lib.hid hfb
        clear hC hfb
        cases fb
        · go_wp2_with (go_at_call 9; refine hC'.out.mono ?_; rintro e w' ⟨rfl, rfl⟩)
          go_ret
          exact ⟨ret_bool (fewF_no hm ht hfb'.out), rfl⟩
        · go_wp2_with (go_at_call 9; refine hC'.out.mono ?_; rintro e w' ⟨rfl, rfl⟩)
          go_round
          case rel => exact ⟨k + 1, by omega, by omega, by go_num, Lib.hid (fewF_step hq.out ht hfb'.out)⟩
          case measure => simp [intOf]; omega
      · go_wp2
        go_ret
        exact ⟨ret_bool (by rw [← fewF_end hl (.inr ⟨by omega, hlt⟩) hq.out]; simp; try omega), rfl⟩
    · obtain rfl : k = n := by omega
      go_wp2
      all_goals
        go_ret
        exact ⟨ret_bool (by rw [← fewF_end hl (.inl rfl) hq.out]; simp; try omega), rfl⟩

/-- A table of the document's own, behind s was asked. -/
def IdOut (w w' : World) (e : Ending) (A0 : Option Addr) (ts : List (List UInt8)) (s : List UInt8) : Prop :=
  ∃ A n c, (∀ b o, A = some ⟨b, o, none⟩ → A = A0 ∨ w.heap.size ≤ b) ∧ e = .returned (.tuple #[.slice A n c, .int .i64 (numOf ts s)]) ∧ n = (withText ts s).length ∧ Strs w' w'.heap.size A n (withText ts s) ∧ Below w.heap.size w w'

theorem notin_step {ts : List (List UInt8)} {s t : List UInt8} {k : Nat} (hq : s ∉ ts.take k) (ht : ts[k]? = some t) (h : ((str t).toList == (str s).toList) = false) : s ∉ ts.take (k + 1) := by
  rw [ByteArray.toList_eq, ByteArray.toList_eq, str_data, str_data] at h
  rw [take_at ht]
  intro hm
  rcases List.mem_append.1 hm with hm | hm
  · exact hq hm
  · have : s = t := by simpa using hm
    subst this
    simp at h
theorem found {ts : List (List UInt8)} {s t : List UInt8} {k : Nat} (hq : s ∉ ts.take k) (ht : ts[k]? = some t) (h : ((str t).toList == (str s).toList) = true) : numOf ts s = k ∧ withText ts s = ts := by
  rw [ByteArray.toList_eq, ByteArray.toList_eq, str_data, str_data] at h
  have e : t = s := by simpa using h
  subst e
  have hk := (List.getElem?_eq_some_iff.1 ht).1
  have hm : t ∈ ts := List.mem_of_getElem? ht
  refine ⟨?_, by unfold withText; rw [if_pos hm]⟩
  unfold numOf
  conv => lhs; rw [← List.take_append_drop k ts, drop_at ht]
  rw [List.idxOf_append, if_neg hq, List.length_take]
  simp
  omega

theorem id_same {w : World} {A : Option Addr} {n k : Nat} (c : Nat) {ts : List (List UInt8)} {s : List UInt8} (hl : ts.length = n) (hA : Strs w w.heap.size A n ts) (h : numOf ts s = k ∧ withText ts s = ts) :
    IdOut w w (.returned (.tuple #[.slice A n c, .int .i64 k])) A ts s := by
  refine ⟨A, n, c, fun _ _ _ => .inl rfl, by rw [h.1], by rw [h.2, hl], by rw [h.2]; exact hA, Below.refl _ _⟩
theorem id_new {w w2 : World} {v : Value} {n : Nat} (A0 : Option Addr) {ts : List (List UInt8)} {s : List UInt8} (hl : ts.length = n) (hs : s ∉ ts) (hown : w2.ownsRow w.heap.size 9 1 v (n + 1) ((ts.map fun s => .string (str s)) ++ [.string (str s)])) (hB : Below w.heap.size w w2) :
    IdOut w w2 (.returned (.tuple #[v, .int .i64 n])) A0 ts s := by
  obtain ⟨A', c', rfl, _, _, hr⟩ := own_slice hown
  have e1 : numOf ts s = n := by rw [← hl]; exact List.idxOf_eq_length hs
  have e2 : withText ts s = ts ++ [s] := by unfold withText; rw [if_neg hs]
  refine ⟨A', n + 1, c', fun b o e => .inr (hown.lt b (by rw [e]; rfl)).1, by rw [e1], by rw [e2]; simp [hl], ?_, hB⟩
  rw [e2]
  unfold Strs
  simpa using hr

set_option maxHeartbeats 400000 in
theorem rId_any (A : Option Addr) (n c : Nat) (ts : List (List UInt8)) (s : List UInt8) (w : World) (hn : n ≤ 100000) (hA : Strs w w.heap.size A n ts) :
    Calls Try.prog 11 #[.slice A n c, .string (str s)] w fun e w' => IdOut w w' e A ts s := by
  have hl := hA.len
  obtain ⟨i0, hi, hz0, hz1, hz2⟩ := info_parts info9
  go_enter Try.func11, Try.ntmps11
  go_wp2
  go_loop [6] (fun i => ∃ k : Nat, k ≤ n ∧ i = .int .i64 k ∧ Hid (s ∉ ts.take k)) (fun i => n - (intOf i).toNat)
  case atStart => exact ⟨0, Nat.zero_le _, rfl, Lib.hid (by simp)⟩
  case round =>
    obtain ⟨k, hk, rfl, hq⟩ := hrel
    by_cases hlt : k < n
    · obtain ⟨b, o, t, rfl, hb, ht, hc⟩ := hA.at_ (k := k) hlt
      go_wp2
      · have h : ((str t).toList == (str s).toList) = true := by assumption
        have hf := Lib.hid (found hq.out ht h)
        go_ret2
        exact id_same c hl hA hf.out
      · have h : ((str t).toList == (str s).toList) = false := by assumption
        go_round
        case rel => exact ⟨k + 1, by omega, by go_num, Lib.hid (notin_step hq.out ht h)⟩
        case measure => simp [intOf]; omega
    · obtain rfl : k = n := by omega
      have hns : Hid (s ∉ ts) := Lib.hid (by have := hq.out; rwa [List.take_of_length_le (by omega)] at this)
      have hw0 : (w.alloc (.cells #[] 9)).ownsRow w.heap.size 9 1 (.slice (some ⟨w.heap.size, 0, none⟩) 0 0) 0 [] := own_empty w w.heap.size _ (Nat.le_refl _)
      have hB0 : Below w.heap.size w (w.alloc (.cells #[] 9)) := (Below.refl _ _).alloc (Nat.le_refl _) _
      have tok1 := trivial
      go_wp2_with (first
        | (at_builtin; have _t := tok1; refine wpList_append_reads _ rfl _ _ 22 rfl w.heap.size 9 i0 (.string ⟨#[]⟩) 16 Try.underlying22 hi hz0 hz1 hz2 rfl _ 0 [] rfl hw0 w.heap.size A k c _ rfl (hA.below hB0) (strs_one _) (by unfold maxLen; omega) (by omega) hB0.size ?_; intro v1 w1 hown1 hg1; clear tok1; have hB1 : Below w.heap.size w w1 := hB0.grown hg1 hB0.size (fun j e => (hw0.lt j e).1))
        | (at_builtin; refine wpList_append_own _ rfl _ _ 22 rfl w.heap.size 9 i0 (.string ⟨#[]⟩) 1 16 Try.underlying22 hi hz0 hz1 hz2 rfl (by decide) _ _ _ rfl (hown1.alloc _) ⟨w1.heap.size, 0, none⟩ 1 1 [.string (str s)] rfl rfl (cell_one_new _ _ _) (by simp [Value.oneCell']) (by unfold maxLen; omega) (by omega) (by have := hB1.size; simp; omega) ?_; intro v2 w2 hown2 hg2 _))
      have hB2 : Below w.heap.size w w2 := (hB1.alloc hB1.size _).grown hg2 (by have := hB1.size; simp; omega) (fun j e => (hown1.lt j e).1)
      go_ret2
      exact id_new A hl hns.out (by simpa using hown2) hB2
end Go.Proofs.Ytaniikdnlebknaa
