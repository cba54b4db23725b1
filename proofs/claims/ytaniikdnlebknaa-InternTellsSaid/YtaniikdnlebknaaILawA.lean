/- Proved here: the walk of InternTells. -/
import Derived.Test.YtaniikdnlebknaaIAwake
import Derived.Test.YtaniikdnlebknaaFrame
import Derived.Deep.RegionWith
namespace Go.Proofs.Ytaniikdnlebknaa
open Go.RowKit Go.Maps Go.WideMaps
set_option linter.unusedVariables false

/-- How far the rounds of InternTells have come: the document's table (the slice at A) and the program's (at T) have the same texts. -/
def Both (wr : World) (T : Nat) (A : Option Addr) (n : Nat) (ts : List (List UInt8)) : Prop :=
  n = ts.length ∧ Strs wr wr.heap.size A n ts ∧ ∃ F, Tab wr T F ts ∧ ∀ b o, A = some ⟨b, o, none⟩ → ¬ F b

theorem textAt_num {ts : List (List UInt8)} {s : List UInt8} (h : s ∈ ts) : textAt ts (numOf ts s : Int) = s := by
  refine textAt_in ?_
  have hlt := List.idxOf_lt_length_of_mem h
  unfold numOf
  rw [List.getElem?_eq_getElem hlt, List.getElem_idxOf]
theorem num_with (ts : List (List UInt8)) (s : List UInt8) : numOf (withText ts s) s = numOf ts s := (numOf_pre (List.prefix_refl _)).symm

theorem Strs.but {w w' : World} {B n : Nat} {A : Option Addr} {F : Nat → Prop} {ss : List (List UInt8)} (h : Strs w B A n ss) (hB : B ≤ w.heap.size) (hb : But F w w') (hF : ∀ b o, A = some ⟨b, o, none⟩ → ¬ F b) : Strs w' B A n ss := by
  refine ⟨h.1, fun hn => ?_⟩
  obtain ⟨b, o, rfl, hlt, hc⟩ := h.2 hn
  exact ⟨b, o, rfl, hlt, fun j u hu => (World.cell?_of_block (w := w) (hb.block b (by omega) (hF b o rfl))).trans (hc j u hu)⟩
theorem both_step {wo w3 w4 : World} {T : Nat} {X X' : Option Addr} {F : Nat → Prop} {ts : List (List UInt8)} {t : List UInt8} (hT : Tab wo T F ts) (hXF : ∀ b o, X = some ⟨b, o, none⟩ → ¬ F b)
    (hX' : ∀ b o, X' = some ⟨b, o, none⟩ → X' = X ∨ wo.heap.size ≤ b) (hS' : Strs w3 w3.heap.size X' (withText ts t).length (withText ts t)) (ha : After w3 w4 T F (withText ts t)) :
    Both w4 T X' (withText ts t).length (withText ts t) := by
  obtain ⟨F4, hT4, hb4, hF4⟩ := ha
  have hF : ∀ b o, X' = some ⟨b, o, none⟩ → ¬ F b := fun b o e hf => by
    rcases hX' b o e with h | h
    · exact hXF b o (h ▸ e) hf
    · have := (hT.lies b hf).2; omega
  refine ⟨rfl, (hS'.but (Nat.le_refl _) hb4 hF).more hb4.size, F4, hT4, fun b o e hf => ?_⟩
  obtain ⟨b', o', e', hlt, _⟩ := hS'.2 (by
    have := withText_mem ts t
    exact List.length_pos_of_mem this)
  rw [e] at e'
  injection e' with e'; injection e' with e1 e2
  subst e1
  rcases hF4 b hf with h | h
  · exact hF b o e h
  · omega

set_option maxRecDepth 100000 in
set_option maxHeartbeats 4000000 in
theorem InternTells_walk (A : Option Addr) (n c : Nat) (ss : List (List UInt8)) (w : World) (hA : ArgStrs w A n c ss) :
    Calls Try.prog 3 #[.slice A n c] w fun e w' => e = .returned (.bool true) ∧ Below w.heap.size w w' := by
  obtain ⟨hnc, hcm, hsl, hst⟩ := hA
  have hlen := hst.len
  have hn : n ≤ maxLen := by omega
  unfold maxLen at hcm
  obtain ⟨fb, hfb⟩ : ∃ fb, fewB ss 40 = fb := ⟨_, rfl⟩
  have hF := fun (w' : World) (h : Strs w' w.heap.size A n ss) => Few_any A n c 40 w.heap.size ss w' hn (by omega) h
  rw [hfb] at hF
  cases fb
  · go_enter Try.func3, Try.ntmps3
    go_wp2_with fail
    refine (awake_any _).mono ?_
    rintro e w1 ⟨rfl, hB1⟩
    have hF1 := Lib.hid (hF w1 (hst.below hB1))
    clear hF
    go_wp2_with (go_at_call 9; refine hF1.out.mono ?_; rintro e w' ⟨rfl, rfl⟩)
    go_ret
    exact ⟨rfl, hB1⟩
  · have hn40 : n ≤ 40 := by
      unfold fewB at hfb
      rw [Bool.and_eq_true] at hfb
      have := hfb.1
      simp at this
      omega
    go_enter Try.func3, Try.ntmps3
    go_wp2_with fail
    refine (awake_any _).mono ?_
    rintro e w1 ⟨rfl, hB1⟩
    have hF1 := Lib.hid (hF w1 (hst.below hB1))
    clear hF
    go_wp2_with (first
      | (go_at_call 9; refine hF1.out.mono ?_; rintro e w' ⟨rfl, rfl⟩)
      | (go_at_call 10; refine (New_any _).mono ?_; rintro e w2 ⟨rfl, hT2, hB2, hs2⟩; clear hs2))
    have hB12 : Below w.heap.size w w2 := hB1.trans (hB2.mono hB1.size)
    have h0 : Both w2 w1.heap.size none 0 (withAll [] (ss.take 0)) := ⟨rfl, ⟨rfl, fun h => by omega⟩, _, hT2, fun _ _ h => by cases h⟩
    clear hB2 hT2 hF1
    go_loopw [5, 6] (fun x i wr => ∃ (k : Nat) (X : Option Addr) (nx cx : Nat), k ≤ n ∧ i = .int .i64 k ∧ x = .slice X nx cx ∧ Both wr w1.heap.size X nx (withAll [] (ss.take k)) ∧ Below w.heap.size w wr) (fun _ i _ => n - (intOf i).toNat)
    case atStart => exact ⟨0, none, 0, 0, Nat.zero_le _, rfl, rfl, h0, hB12⟩
    case round =>
      obtain ⟨k, X, nx, cx, hk, rfl, rfl, ⟨rfl, hX, F, hT, hXF⟩, hB⟩ := hrel
      obtain ⟨wo, rfl⟩ : ∃ wo : World, wo = wr := ⟨_, rfl⟩
      clear h0 hB12
      by_cases hlt : k < n
      · obtain ⟨b, o, t, rfl, hb, ht, hc⟩ := (hst.below hB).at_ (k := k) hlt
        have htl : t.length ≤ maxLen := hsl t (List.mem_of_getElem? ht)
        obtain ⟨ts, hts⟩ : ∃ ts, ts = withAll [] (ss.take k) := ⟨_, rfl⟩
        rw [← hts] at hX hT
        have htsl : ts.length ≤ 40 := by
          have := withAll_len (ss.take k) []
          have h2 := List.length_take_le k ss
          rw [← hts] at this
          simp at this; omega
        have hsh := Lib.hid (hsl)
        have hth := Lib.hid hts
        have hta : Hid (withAll [] (ss.take (k + 1)) = withText ts t) := Lib.hid (by rw [take_at ht, withAll_app, ← hts]; rfl)
        have hlts := hT.lies _ hT.head
        rw [← hts]
        clear hsl hts
        go_wp2_with (go_at_call 11; refine (rId_any _ _ _ ts t _ (by omega) hX).mono ?_; rintro e w3 ⟨X', n', c', hX', rfl, rfl, hS', hB3⟩)
        have hc3 : w3.cell? ⟨b, o + k, none⟩ = some (.string (str t)) := by rw [hB3.cell (p := ⟨b, o + k, none⟩) (by have := hB.size; show b < _; omega)]; exact hc
        have hT3 := hT.below hB3 (Nat.le_refl _)
        have hId := Lib.hid (Id_tab F w1.heap.size ts t w3.drew hT3.drew htl (by omega))
        have hi1 : (0 : Int) ≤ (k : Int) := by omega
        have hi2 : (k : Int) < (n : Int) := by omega
        have hcd : w3.drew.cell? ⟨b, o + k, none⟩ = some (.string (str t)) := hc3
        have hgo : ∀ w4, After w3.drew w4 w1.heap.size F (withText ts t) → (w4.cell? ⟨b, o + k, none⟩ = some (.string (str t))) ∧ Below w.heap.size w w4 ∧ Both w4 w1.heap.size X' (withText ts t).length (withText ts t) ∧ ∃ F4, Tab w4 w1.heap.size F4 (withText ts t) := fun w4 ha => by
          have hb4 := both_step hT hXF hX' hS' (w4 := w4) (by obtain ⟨F4, h1, h2, h3⟩ := ha; exact ⟨F4, h1, ⟨h2.os, h2.tape, h2.output, h2.size, h2.block⟩, h3⟩)
          obtain ⟨F4, hT4, hbl⟩ := ha.go hT3.drew
          refine ⟨by rw [hbl.cell (p := ⟨b, o + k, none⟩) (by show b < _; have := hB1.size; omega)]; exact hcd, ((hB.trans (hB3.mono hB.size)).drew).trans (hbl.mono hB1.size), hb4, F4, hT4⟩
        have hnw := Lib.hid (num_with ts t)
        have hLX : ∀ w4, (∃ F4, Tab w4 w1.heap.size F4 (withText ts t)) → Hid (Calls Try.prog 13 #[.pointer (some ⟨w1.heap.size, 0, none⟩)] w4 fun e w' => e = .returned (.int .i64 (withText ts t).length) ∧ w4 = w') ∧ Hid (Calls Try.prog 14 #[.pointer (some ⟨w1.heap.size, 0, none⟩), .int .i64 (numOf ts t)] w4 fun e w' => e = .returned (.string (str t)) ∧ w4 = w') := fun w4 ⟨F4, hT4⟩ => by
          have h1 := Len_tab F4 w1.heap.size (withText ts t) w4 hT4
          have h2 := Text_tab F4 w1.heap.size (withText ts t) (numOf ts t) w4 hT4
          rw [← hnw.out, textAt_num (withText_mem ts t), hnw.out] at h2
          exact ⟨Lib.hid h1, Lib.hid h2⟩
        have hgo' := Lib.hid hgo
        have hLX' := Lib.hid hLX
        clear hgo hLX hT3 hS' hX' hXF hT hX hB3 hB
        go_region_with (first
          | (go_at_call 12; refine hId.out.mono ?_; rintro e w4 ⟨rfl, ha⟩; obtain ⟨hc4, hB4, hb4, hT4⟩ := hgo'.out w4 ha; obtain ⟨hL4, hX4⟩ := hLX'.out w4 hT4; clear hT4 ha)
          | (go_at_call 13; refine hL4.out.mono ?_; rintro e w' ⟨rfl, rfl⟩)
          | (go_at_call 14; refine hX4.out.mono ?_; rintro e w' ⟨rfl, rfl⟩))
        all_goals
          go_wp2
          go_roundw
          case rel => exact ⟨k + 1, X', _, c', by omega, by go_num, rfl, by rw [hta.out]; exact hb4, hB4⟩
          case measure => simp [intOf]; omega
      · obtain rfl : k = n := by omega
        have hL := Lib.hid (Len_tab F w1.heap.size _ wo hT)
        go_wp2_with (go_at_call 13; refine hL.out.mono ?_; rintro e w' ⟨rfl, rfl⟩)
        go_ret
        exact ⟨rfl, hB⟩
end Go.Proofs.Ytaniikdnlebknaa
