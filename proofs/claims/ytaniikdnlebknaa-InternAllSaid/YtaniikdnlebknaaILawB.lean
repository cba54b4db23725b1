/- Proved here: the walk of InternAll. -/
import Derived.Test.YtaniikdnlebknaaIAwake
import Derived.Test.YtaniikdnlebknaaIRefAll
import Derived.Test.YtaniikdnlebknaaFrameR
namespace Go.Proofs.Ytaniikdnlebknaa
open Go.RowKit Go.Maps Go.WideMaps
set_option linter.unusedVariables false

theorem below_drewN {B : Nat} {a w : World} (h : Below B a w) (q : Nat) : Below B a (w.drewN q) := ⟨h.os, h.tape, h.output, h.size, h.block⟩
theorem fewF_use {files : List (List (List UInt8))} (h : fewF files = true) : files.length ≤ 6 ∧ ∀ f ∈ files, f.length ≤ 20 ∧ ∀ s ∈ f, s.length ≤ 100 := by
  unfold fewF at h
  rw [Bool.and_eq_true] at h
  have h6 : files.length ≤ 6 := by simpa using h.1
  refine ⟨h6, fun f hf => ?_⟩
  have h2 := h.2
  rw [List.take_of_length_le (by omega), List.all_eq_true] at h2
  have h3 := h2 f hf
  unfold fewB at h3
  rw [Bool.and_eq_true] at h3
  have h20 : f.length ≤ 20 := by simpa using h3.1
  refine ⟨h20, fun s hs => ?_⟩
  have h4 := h3.2
  rw [List.take_of_length_le (by omega), List.all_eq_true] at h4
  simpa using h4 s hs

set_option maxRecDepth 100000 in
set_option maxHeartbeats 2000000 in
theorem InternAll_walk (A : Option Addr) (n c : Nat) (rows : List (Option Addr × Nat × Nat)) (files : List (List (List UInt8))) (w : World) (hA : ArgRows w A n c rows files) :
    Calls Try.prog 4 #[.slice A n c] w fun e w' => e = .returned (.bool true) ∧ Below w.heap.size w w' := by
  obtain ⟨hnc, hcm, hfl, hst⟩ := hA
  have hlen : files.length = n := by have := hst.1.1; have := hst.2.1; simp at *; omega
  have hn : n ≤ maxLen := by omega
  unfold maxLen at hcm
  obtain ⟨fb, hfb⟩ : ∃ fb, fewF files = fb := ⟨_, rfl⟩
  have hF := fun (w' : World) (h : Rows2 w' w.heap.size A n rows files) => few_any A n c w.heap.size rows files w' hn (fun f hf => (hfl f hf).1) h
  rw [hfb] at hF
  cases fb
  · go_enter Try.func4, Try.ntmps4
    go_wp2_with fail
    refine (awake_any _).mono ?_
    rintro e w1 ⟨rfl, hB1⟩
    have hF1 := Lib.hid (hF w1 (hst.below hB1))
    clear hF
    go_wp2_with (go_at_call 15; refine hF1.out.mono ?_; rintro e w' ⟨rfl, rfl⟩)
    go_ret
    exact ⟨rfl, hB1⟩
  · obtain ⟨h6, hf20⟩ := fewF_use hfb
    have hn6 : n ≤ 6 := by omega
    have hmore : ∀ {w' : World}, Below w.heap.size w w' → Rows2 w' w'.heap.size A n rows files := fun {w'} hB => by
      have h := hst.below hB
      exact ⟨Reads.more h.1 hB.size, h.2.1, fun k r ss h1 h2 => Strs.more (h.2.2 k r ss h1 h2) hB.size⟩
    have hAll := fun (w' : World) (hB : Below w.heap.size w w') => Lib.hid (All_any A n c rows files w' (hmore hB) (fun f hf s hs => by have := (hf20 f hf).2 s hs; unfold maxLen; omega) (by omega) (fun f hf => by have := (hf20 f hf).1; omega))
    have hrAll := fun (w' : World) (hB : Below w.heap.size w w') => Lib.hid (rAll_any A n c rows files w' (hmore hB) (by omega) (fun f hf => by have := (hf20 f hf).1; omega))
    obtain ⟨xss, hxss⟩ : ∃ xss, xss = numsL (withAll [] files.flatten) files := ⟨_, rfl⟩
    rw [← hxss] at hAll hrAll
    have hxl : Hid (xss.length = n ∧ ∀ xs ∈ xss, xs.length ≤ 20) := Lib.hid (by
      rw [hxss]
      refine ⟨by simp [numsL, hlen], fun xs hx => ?_⟩
      unfold numsL at hx
      obtain ⟨f, hf, rfl⟩ := List.mem_map.1 hx
      have := (hf20 f hf).1
      simpa using this)
    have hAll' := Lib.hid hAll
    have hrAll' := Lib.hid hrAll
    have hFh := Lib.hid hF
    have hsth := Lib.hid hst
    clear hxss hf20 hfl hmore hAll hrAll hF hst
    go_enter Try.func4, Try.ntmps4
    go_wp2_with fail
    refine (awake_any _).mono ?_
    rintro e w1 ⟨rfl, hB1⟩
    have hF1 := Lib.hid (hFh.out w1 (hsth.out.below hB1))
    go_wp2_with (first
      | (go_at_call 15; refine hF1.out.mono ?_; rintro e w' ⟨rfl, rfl⟩)
      | (go_at_call 16; refine (hAll'.out _ hB1).out.mono ?_; rintro e w2 ⟨Aa, na, ca, ra, rfl, hca, hma, hRa, hB2⟩; have hB12 := hB1.trans (hB2.mono hB1.size); have hla := hRa.len; rw [hxl.out.1] at hla; subst hla)
      | (go_at_call 17; refine (hrAll'.out _ hB12).out.mono ?_; rintro e w3 ⟨Ab, nb, cb, rb, rfl, hcb, hmb, hRb, hB3⟩; have hB13 := hB12.trans (hB3.mono hB12.size); have hlb := hRb.len; rw [hxl.out.1] at hlb; subst hlb))
    have hRa3 := hRa.below hB3
    clear hB12 hRa hF1
    go_loopw [6] (fun i wr => ∃ k q : Nat, k ≤ n ∧ i = .int .i64 k ∧ wr = w3.drewN q) (fun i _ => n - (intOf i).toNat)
    case atStart => exact ⟨0, 0, Nat.zero_le _, rfl, rfl⟩
    case round =>
      obtain ⟨k, q, hk, rfl, hwr⟩ := hrel
      have hwr' := Lib.hid hwr
      have hRw : RowsN wr w2.heap.size Aa n ra xss := by rw [hwr]; exact hRa3.drewN q
      have hRv : RowsN wr w3.heap.size Ab n rb xss := by rw [hwr]; exact hRb.drewN q
      have hBw : Below w.heap.size w wr := by rw [hwr]; exact below_drewN hB13 q
      clear hwr
      by_cases hlt : k < n
      · obtain ⟨b, o, A1, n1, c1, xs, rfl, hb, hx, hc0, hs1⟩ := hRw.at_ (k := k) hlt
        obtain ⟨b', o', A2, n2, c2, ys, rfl, hb', hy, hc0', hs2⟩ := hRv.at_ (k := k) hlt
        rw [hx] at hy
        injection hy with hy
        subst hy
        have hxm := hxl.out.2 xs (List.mem_of_getElem? hx)
        have hl1 := hs1.len
        have hl2 := hs2.len
        have hi1 : (0 : Int) ≤ (k : Int) := by omega
        have hi2 : (k : Int) < (n : Int) := by omega
        have hS : ∀ m, Calls Try.prog 18 #[.slice A1 n1 c1, .slice A2 n2 c2] (wr.drewN m) fun e w' => e = .returned (.bool true) ∧ ∃ q, w' = (wr.drewN m).drewN q := fun m =>
          (nSame_any A1 A2 n1 n2 c1 c2 w2.heap.size w3.heap.size xs xs (wr.drewN m) (by unfold maxLen; omega) (by unfold maxLen; omega) (Reads.keep hs1 fun _ _ => rfl) (Reads.keep hs2 fun _ _ => rfl)).mono fun e w' ⟨h1, h2⟩ => ⟨h1.trans (by simp), h2⟩
        have hS' := Lib.hid hS
        clear hS hx
        go_wp2
        go_quiet ((go_at_call 18; exact Calls.quiet_of (hS'.out _)))
        go_wp2
        go_roundw
        case rel => exact ⟨k + 1, q + nq, by omega, by go_num, by rw [hwr'.out, World.drewN_drewN]⟩
        case measure => simp [intOf]; omega
      · go_wp2
        go_ret
        exact ⟨ret_bool (by simp), hBw⟩
end Go.Proofs.Ytaniikdnlebknaa
