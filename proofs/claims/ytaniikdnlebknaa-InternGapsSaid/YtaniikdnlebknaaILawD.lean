/- Proved here: the walk of InternGaps. -/
import Derived.Test.YtaniikdnlebknaaILawB
namespace Go.Proofs.Ytaniikdnlebknaa
open Go.RowKit Go.Maps Go.WideMaps
set_option linter.unusedVariables false

theorem numsL_at {fin : List (List UInt8)} {files : List (List (List UInt8))} {k : Nat} {xs : List Int} (h : (numsL fin files)[k]? = some xs) : ∃ f, files[k]? = some f ∧ xs = f.map fun s => (numOf fin s : Int) := by
  unfold numsL at h
  rw [List.getElem?_map] at h
  cases hf : files[k]? with
  | none => rw [hf] at h; cases h
  | some f => rw [hf] at h; simp only [Option.map_some, Option.some.injEq] at h; exact ⟨f, rfl, h.symm⟩
theorem nums_at {fin f : List (List UInt8)} {j : Nat} {x : Int} (h : (f.map fun s => (numOf fin s : Int))[j]? = some x) : ∃ s, f[j]? = some s ∧ x = (numOf fin s : Int) := by
  rw [List.getElem?_map] at h
  cases hf : f[j]? with
  | none => rw [hf] at h; cases h
  | some s => rw [hf] at h; simp only [Option.map_some, Option.some.injEq] at h; exact ⟨s, rfl, h.symm⟩

/-- The table behind k files and j texts of the next one. -/
def soFar (files : List (List (List UInt8))) (f : List (List UInt8)) (k j : Nat) : List (List UInt8) := withAll (withAll [] (files.take k).flatten) (f.take j)
theorem soFar_zero (files : List (List (List UInt8))) (f : List (List UInt8)) (k : Nat) : soFar files f k 0 = withAll [] (files.take k).flatten := rfl
theorem soFar_end {files : List (List (List UInt8))} {f : List (List UInt8)} {k : Nat} (h : files[k]? = some f) : soFar files f k f.length = withAll [] (files.take (k + 1)).flatten := by
  unfold soFar
  rw [List.take_length, take_at h, List.flatten_append, withAll_app]; simp
theorem soFar_step {files : List (List (List UInt8))} {f : List (List UInt8)} {k j : Nat} {s : List UInt8} (h : f[j]? = some s) : soFar files f k (j + 1) = withText (soFar files f k j) s := by
  unfold soFar
  rw [take_at h, withAll_app]; rfl
theorem soFar_pre {files : List (List (List UInt8))} {f : List (List UInt8)} {k : Nat} (h : files[k]? = some f) (j : Nat) : soFar files f k j <+: withAll [] files.flatten := by
  unfold soFar
  rw [← withAll_app]
  have : files.flatten = (((files.take k).flatten ++ f.take j) ++ f.drop j) ++ (files.drop (k + 1)).flatten := by
    conv => lhs; rw [← List.take_append_drop k files, drop_at h]
    simp
  conv => rhs; rw [this, withAll_app _ _ (files.drop (k + 1)).flatten, withAll_app _ _ (f.drop j)]
  exact (withAll_pre _ _).trans (withAll_pre _ _)
theorem soFar_num {files : List (List (List UInt8))} {f : List (List UInt8)} {k j : Nat} {s : List UInt8} (h : files[k]? = some f) (hs : f[j]? = some s) : numOf (withAll [] files.flatten) s = numOf (soFar files f k j) s :=
  (numOf_pre (by rw [← soFar_step hs]; exact soFar_pre h _)).symm
theorem with_len (ts : List (List UInt8)) (s : List UInt8) : (withText ts s).length = if numOf ts s = ts.length then ts.length + 1 else ts.length := by
  unfold withText numOf
  by_cases h : s ∈ ts
  · have := List.idxOf_lt_length_of_mem h
    rw [if_pos h, if_neg (by omega)]
  · rw [if_neg h, if_pos (List.idxOf_eq_length h)]; simp
theorem sum_lt {files : List (List (List UInt8))} (hf : ∀ f ∈ files, f.length ≤ 20) (h6 : files.length ≤ 6) : (withAll [] files.flatten).length ≤ 120 := by
  have h1 := withAll_len files.flatten []
  have h2 : files.flatten.length ≤ files.length * 20 := by
    rw [List.length_flatten]
    exact sum_le files 20 hf
  simp only [List.length_nil, Nat.zero_add] at h1
  omega

set_option maxRecDepth 100000 in
set_option maxHeartbeats 2000000 in
theorem InternGaps_walk (A : Option Addr) (n c : Nat) (rows : List (Option Addr × Nat × Nat)) (files : List (List (List UInt8))) (w : World) (hA : ArgRows w A n c rows files) :
    Calls Try.prog 6 #[.slice A n c] w fun e w' => e = .returned (.bool true) ∧ Below w.heap.size w w' := by
  obtain ⟨hnc, hcm, hfl, hst⟩ := hA
  have hlen : files.length = n := by have := hst.1.1; have := hst.2.1; simp at *; omega
  have hn : n ≤ maxLen := by omega
  unfold maxLen at hcm
  obtain ⟨fb, hfb⟩ : ∃ fb, fewF files = fb := ⟨_, rfl⟩
  have hF := fun (w' : World) (h : Rows2 w' w.heap.size A n rows files) => few_any A n c w.heap.size rows files w' hn (fun f hf => (hfl f hf).1) h
  rw [hfb] at hF
  cases fb
  · go_enter Try.func6, Try.ntmps6
    go_wp2_with fail
    refine (awake_any _).mono ?_
    rintro e w1 ⟨rfl, hB1⟩
    have hF1 := Lib.hid (hF w1 (hst.below hB1))
    clear hF
    go_wp2_with (go_at_call 15; refine hF1.out.mono ?_; rintro e w' ⟨rfl, rfl⟩)
    go_ret
    exact ⟨rfl, hB1⟩
  · obtain ⟨h6, hf20⟩ := fewF_use hfb
    have hn6 : n ≤ 6 := by omega
    have hmore : ∀ {w' : World}, Below w.heap.size w w' → Rows2 w' w'.heap.size A n rows files := fun {w'} hB => by
      have h := hst.below hB
      exact ⟨Reads.more h.1 hB.size, h.2.1, fun k r ss h1 h2 => Strs.more (h.2.2 k r ss h1 h2) hB.size⟩
    have hAll := fun (w' : World) (hB : Below w.heap.size w w') => Lib.hid (All_any A n c rows files w' (hmore hB) (fun f hf s hs => by have := (hf20 f hf).2 s hs; unfold maxLen; omega) (by omega) (fun f hf => by have := (hf20 f hf).1; omega))
    have hfin := sum_lt (fun f hf => (hf20 f hf).1) h6
    have hAll' := Lib.hid hAll
    have hFh := Lib.hid hF
    have hsth := Lib.hid hst
    have hlenh := Lib.hid hlen
    have hf20h := Lib.hid hf20
    clear hf20 hfl hmore hAll hF hst hlen
    go_enter Try.func6, Try.ntmps6
    go_wp2_with fail
    refine (awake_any _).mono ?_
    rintro e w1 ⟨rfl, hB1⟩
    have hF1 := Lib.hid (hFh.out w1 (hsth.out.below hB1))
    go_wp2_with (first
      | (go_at_call 15; refine hF1.out.mono ?_; rintro e w' ⟨rfl, rfl⟩)
      | (go_at_call 16; refine (hAll'.out _ hB1).out.mono ?_; rintro e w2 ⟨Aa, na, ca, ra, rfl, hca, hma, hRa, hB2⟩; have hB12 := hB1.trans (hB2.mono hB1.size); have hla := hRa.len; rw [show (numsL (withAll [] files.flatten) files).length = n from by simp [numsL, hlenh.out]] at hla; subst hla))
    clear hF1 hB2
    go_loop [5, 6] (fun x i => ∃ k : Nat, k ≤ n ∧ i = .int .i64 k ∧ x = .int .i64 ((withAll [] (files.take k).flatten).length : Nat)) (fun _ i => n - (intOf i).toNat)
    case atStart => exact ⟨0, Nat.zero_le _, rfl, rfl⟩
    case round =>
      obtain ⟨k, hk, rfl, rfl⟩ := hrel
      by_cases hlt : k < n
      · obtain ⟨b, o, A1, n1, c1, xs, rfl, hb, hx, hc0, hs1⟩ := hRa.at_ (k := k) hlt
        obtain ⟨f, hf, rfl⟩ := numsL_at hx
        have hfl : f.length = n1 := by have := hs1.len; simpa using this
        have hfe := Lib.hid (soFar_end hf)
        have hfl' := Lib.hid hfl
        obtain ⟨N0, hN0⟩ : ∃ N0, N0 = (withAll [] (files.take k).flatten).length := ⟨_, rfl⟩
        have hN0' := Lib.hid hN0
        rw [← hN0]
        have hf1 := (hf20h.out f (List.mem_of_getElem? hf)).1
        have hn1 : n1 ≤ 20 := by omega
        clear hx hfl hN0
        go_wp2
        go_loop [5, 7] (fun x i => ∃ j N : Nat, j ≤ n1 ∧ i = .int .i64 j ∧ x = .int .i64 N ∧ Hid (N = (soFar files f k j).length)) (fun _ i => n1 - (intOf i).toNat)
        case atStart => exact ⟨0, N0, Nat.zero_le _, rfl, rfl, Lib.hid hN0'.out⟩
        case round =>
          obtain ⟨j, N, hj, rfl, rfl, hN⟩ := hrel
          by_cases hlt' : j < n1
          · obtain ⟨b', o', x, rfl, hb', hx, hd0⟩ := hs1.at_ (k := j) hlt'
            obtain ⟨s, hs, rfl⟩ := nums_at hx
            obtain ⟨y, hy⟩ : ∃ y, y = numOf (withAll [] files.flatten) s := ⟨_, rfl⟩
            rw [← hy] at hd0
            have hyN : y ≤ N := by rw [hy, soFar_num hf hs, hN.out]; exact numOf_le _ _
            have hN120 : N ≤ 120 := by
              have := (soFar_pre hf j).length_le
              have := hN.out
              omega
            have hstep : Hid ((soFar files f k (j + 1)).length = if y = N then N + 1 else N) := Lib.hid (by
              rw [soFar_step hs, with_len, ← soFar_num hf hs, ← hy, ← hN.out])
            have h0 : ¬ ((y : Int) < 0) := by omega
            have h1 : ¬ ((N : Int) < (y : Int)) := by omega
            clear hx hy
            by_cases hq : y = N
            · subst hq
              have hst1 := hstep.out
              rw [if_pos rfl] at hst1
              have hst2 := Lib.hid hst1
              clear hst1
              go_wp2
              go_round
              case rel => exact ⟨j + 1, y + 1, by omega, by go_num, by go_num, Lib.hid hst2.out.symm⟩
              case measure => simp [intOf]; omega
            · have hst1 := hstep.out
              rw [if_neg hq] at hst1
              have hst2 := Lib.hid hst1
              have hqb : (((y : Nat) : Int) == ((N : Nat) : Int)) = false := by simp; omega
              clear hst1 hq
              go_wp2
              go_round
              case rel => exact ⟨j + 1, N, by omega, by go_num, rfl, Lib.hid hst2.out.symm⟩
              case measure => simp [intOf]; omega
          · go_wp2
            go_round
            case rel =>
              obtain rfl : j = n1 := by omega
              exact ⟨k + 1, by omega, by go_num, by rw [← hfe.out, hfl'.out, hN.out]⟩
            case measure => simp [intOf]; omega
      · go_wp2
        go_ret
        exact ⟨rfl, hB12⟩
end Go.Proofs.Ytaniikdnlebknaa
