/- Proved here: the walk of InternText. -/
import Derived.Test.YtaniikdnlebknaaILawA
namespace Go.Proofs.Ytaniikdnlebknaa
open Go.RowKit Go.Maps Go.WideMaps
set_option linter.unusedVariables false

theorem numOf_at {ts : List (List UInt8)} {i : Nat} {s : List UInt8} (hn : ts.Nodup) (h : ts[i]? = some s) : numOf ts s = i := by
  obtain ⟨hi, rfl⟩ := List.getElem?_eq_some_iff.1 h
  exact hn.idxOf_getElem i hi
theorem with_at {ts : List (List UInt8)} {i : Nat} {s : List UInt8} (h : ts[i]? = some s) : withText ts s = ts := by
  unfold withText
  rw [if_pos (List.mem_of_getElem? h)]

theorem Text_nil' (i : Int) (w : World) : Calls Try.prog 14 #[.pointer none, .int .i64 i] w fun e w' => e = .returned (.string ⟨#[]⟩) ∧ w = w' := Text_nil i w
/-- The table at T has the texts ts; nothing that was there before it has turned. -/
def Has (w wr : World) (T : Nat) (ts : List (List UInt8)) : Prop := (∃ F, Tab wr T F ts) ∧ Below w.heap.size w wr
theorem Has.step {w wr w' : World} {T : Nat} {F : Nat → Prop} {ts ts' : List (List UInt8)} (hT : Tab wr T F ts) (hB : Below w.heap.size w wr) (hw : w.heap.size ≤ T) (ha : After wr w' T F ts') : Has w w' T ts' := by
  obtain ⟨F', h1, h2⟩ := ha.go hT
  exact ⟨⟨F', h1⟩, hB.trans (h2.mono hw)⟩

set_option maxRecDepth 100000 in
set_option maxHeartbeats 4000000 in
theorem InternText_walk (A : Option Addr) (n c : Nat) (ss : List (List UInt8)) (id : Int) (w : World) (hA : ArgStrs w A n c ss) (hid : (Lit.int .i64 id).wf = true) :
    Calls Try.prog 7 #[.slice A n c, .int .i64 id] w fun e w' => e = .returned (.bool true) ∧ Below w.heap.size w w' := by
  obtain ⟨hnc, hcm, hsl, hst⟩ := hA
  clear hid
  have hlen := hst.len
  have hn : n ≤ maxLen := by omega
  unfold maxLen at hcm
  obtain ⟨fb, hfb⟩ : ∃ fb, fewB ss 40 = fb := ⟨_, rfl⟩
  have hF := fun (w' : World) (h : Strs w' w.heap.size A n ss) => Few_any A n c 40 w.heap.size ss w' hn (by omega) h
  rw [hfb] at hF
  cases fb
  · go_enter Try.func7, Try.ntmps7
    go_wp2_with fail
    refine (awake_any _).mono ?_
    rintro e w1 ⟨rfl, hB1⟩
    have hF1 := Lib.hid (hF w1 (hst.below hB1))
    clear hF
    go_wp2_with (go_at_call 9; refine hF1.out.mono ?_; rintro e w' ⟨rfl, rfl⟩)
    go_ret
    exact ⟨rfl, hB1⟩
  · have hn40 : n ≤ 40 := by
      unfold fewB at hfb
      rw [Bool.and_eq_true] at hfb
      have := hfb.1
      simp at this
      omega
    go_enter Try.func7, Try.ntmps7
    go_wp2_with fail
    refine (awake_any _).mono ?_
    rintro e w1 ⟨rfl, hB1⟩
    have hF1 := Lib.hid (hF w1 (hst.below hB1))
    clear hF
    go_wp2_with (first
      | (go_at_call 9; refine hF1.out.mono ?_; rintro e w' ⟨rfl, rfl⟩)
      | (go_at_call 10; refine (New_any _).mono ?_; rintro e w2 ⟨rfl, hT2, hB2, hs2⟩; clear hs2))
    have hB12 : Below w.heap.size w w2 := hB1.trans (hB2.mono hB1.size)
    have hw1 : w.heap.size ≤ w1.heap.size := hB1.size
    have h0 : Has w w2 w1.heap.size (withAll [] (ss.take 0)) := ⟨⟨_, hT2⟩, hB12⟩
    clear hB2 hT2 hF1
    go_loopw [7] (fun i wr => ∃ (k : Nat), k ≤ n ∧ i = .int .i64 k ∧ Has w wr w1.heap.size (withAll [] (ss.take k))) (fun i _ => n - (intOf i).toNat)
    case atStart => exact ⟨0, Nat.zero_le _, rfl, h0⟩
    case round =>
      obtain ⟨k, hk, rfl, ⟨F, hT⟩, hB⟩ := hrel
      obtain ⟨wo, rfl⟩ : ∃ wo : World, wo = wr := ⟨_, rfl⟩
      clear h0 hB12
      by_cases hlt : k < n
      · obtain ⟨b, o, t, rfl, hb, ht, hc⟩ := (hst.below hB).at_ (k := k) hlt
        have htl : t.length ≤ maxLen := hsl t (List.mem_of_getElem? ht)
        have hId := Lib.hid (Id_tab F w1.heap.size _ t wo hT htl (by
          have := withAll_len (ss.take k) []
          have h2 := List.length_take_le k ss
          simp only [List.length_nil, Nat.zero_add] at this
          omega))
        have hta : Hid (withAll [] (ss.take (k + 1)) = withText (withAll [] (ss.take k)) t) := Lib.hid (by rw [take_at ht, withAll_app]; rfl)
        have hslh := Lib.hid hsl
        clear hsl
        go_wp2_with (go_at_call 12; refine hId.out.mono ?_; rintro e w3 ⟨rfl, ha⟩; have hh := Has.step hT hB hw1 ha)
        go_roundw
        case rel => exact ⟨k + 1, by omega, by go_num, by rw [hta.out]; exact hh⟩
        case measure => simp [intOf]; omega
      · obtain rfl : k = n := by omega
        rw [List.take_of_length_le (by omega)] at hT
        obtain ⟨ts, hts⟩ : ∃ ts, ts = withAll [] ss := ⟨_, rfl⟩
        rw [← hts] at hT
        have htl : ts.length ≤ k := by
          have := withAll_len ss []
          rw [← hts] at this
          simp only [List.length_nil, Nat.zero_add] at this
          omega
        have hL := Lib.hid (Len_tab F w1.heap.size ts wo hT)
        have hnd := Lib.hid hT.nodup
        have htx := Lib.hid hT.texts
        have hh0 : Has w wo w1.heap.size ts := ⟨⟨F, hT⟩, hB⟩
        obtain ⟨m, hm⟩ : ∃ m, m = ts.length := ⟨_, rfl⟩
        rw [← hm] at hL htl
        have hmh := Lib.hid hm
        clear hts hm hsl
        go_wp2_with (go_at_call 13; refine hL.out.mono ?_; rintro e w' ⟨rfl, rfl⟩)
        clear hL hT hB
        go_loopw [9] (fun i wr => ∃ (j : Nat), j ≤ m ∧ i = .int .i64 j ∧ Has w wr w1.heap.size ts) (fun i _ => m - (intOf i).toNat)
        case atStart => exact ⟨0, Nat.zero_le _, rfl, hh0⟩
        case round =>
          obtain ⟨j, hj, rfl, ⟨F, hT⟩, hB⟩ := hrel
          obtain ⟨wo, rfl⟩ : ∃ wo : World, wo = wr := ⟨_, rfl⟩
          by_cases hlt' : j < m
          · have hj50 : j < 50 := by omega
            obtain ⟨s, hs⟩ : ∃ s, ts[j]? = some s := ⟨_, List.getElem?_eq_getElem (by have := hmh.out; omega)⟩
            have hX := Text_tab F w1.heap.size ts j wo hT
            rw [textAt_in hs] at hX
            have hI := Id_tab F w1.heap.size ts s wo hT (htx.out s (List.mem_of_getElem? hs)) (by have := hmh.out; omega)
            rw [numOf_at hnd.out hs, with_at hs] at hI
            have hX' := Lib.hid hX
            have hI' := Lib.hid hI
            clear hX hI hs
            go_wp2_with (first
              | (go_at_call 14; refine hX'.out.mono ?_; rintro e w' ⟨rfl, rfl⟩)
              | (go_at_call 12; refine hI'.out.mono ?_; rintro e w3 ⟨rfl, ha⟩; have hh := Has.step hT hB hw1 ha))
            go_roundw
            case rel => exact ⟨j + 1, by omega, by go_num, hh⟩
            case measure => simp [intOf]; omega
          · obtain rfl : j = m := by omega
            have hL := Len_tab F w1.heap.size ts wo hT
            rw [← hmh.out] at hL
            have hL' := Lib.hid hL
            have hX := Text_tab F w1.heap.size ts id wo hT
            clear hL
            have hd : decide (j ≤ k) = true := by simp; omega
            by_cases g1 : 0 ≤ id
            · by_cases g2 : id < (j : Int)
              · clear hX
                go_wp2_with (first
                  | (go_at_call 13; first | ((with_reducible refine hL'.out.mono ?_); rintro e w' ⟨rfl, rfl⟩) | (refine (Len_nil _).mono ?_; rintro e w' ⟨rfl, rfl⟩))
                  | (go_at_call 12; refine (Id_nil _ _).mono ?_; rintro e w' ⟨rfl, rfl⟩)
                  | (go_at_call 14; refine (Text_nil' _ _).mono ?_; rintro e w' ⟨rfl, rfl⟩))
                go_ret
                exact ⟨rfl, hB⟩
              · rw [textAt_out (by have := hmh.out; omega), show str [] = ⟨#[]⟩ from rfl] at hX
                have hX' := Lib.hid hX
                clear hX
                go_wp2_with (first
                  | (go_at_call 13; first | ((with_reducible refine hL'.out.mono ?_); rintro e w' ⟨rfl, rfl⟩) | (refine (Len_nil _).mono ?_; rintro e w' ⟨rfl, rfl⟩))
                  | (go_at_call 12; refine (Id_nil _ _).mono ?_; rintro e w' ⟨rfl, rfl⟩)
                  | (go_at_call 14; first | ((with_reducible refine hX'.out.mono ?_); rintro e w' ⟨rfl, rfl⟩) | (refine (Text_nil' _ _).mono ?_; rintro e w' ⟨rfl, rfl⟩)))
                go_ret
                exact ⟨rfl, hB⟩
            · rw [textAt_out (by have := hmh.out; omega), show str [] = ⟨#[]⟩ from rfl] at hX
              have hX' := Lib.hid hX
              clear hX
              go_wp2_with (first
                | (go_at_call 13; first | ((with_reducible refine hL'.out.mono ?_); rintro e w' ⟨rfl, rfl⟩) | (refine (Len_nil _).mono ?_; rintro e w' ⟨rfl, rfl⟩))
                | (go_at_call 12; refine (Id_nil _ _).mono ?_; rintro e w' ⟨rfl, rfl⟩)
                | (go_at_call 14; first | ((with_reducible refine hX'.out.mono ?_); rintro e w' ⟨rfl, rfl⟩) | (refine (Text_nil' _ _).mono ?_; rintro e w' ⟨rfl, rfl⟩)))
              go_ret
              exact ⟨rfl, hB⟩
end Go.Proofs.Ytaniikdnlebknaa
