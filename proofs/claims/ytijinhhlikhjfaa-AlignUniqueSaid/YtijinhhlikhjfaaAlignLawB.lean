/- Proved here, out of the contracts of package align: the walk of AlignCovers. -/
import Derived.Test.YtijinhhlikhjfaaAlignAwake
import Derived.Test.YtijinhhlikhjfaaAlignCov
namespace Go.Proofs.Ytijinhhlikhjfaa
open Go.RowKit
set_option linter.unusedVariables false

/-- Bytes, and slices of bytes, that came in. -/
def ArgBy (w : World) (A : Option Addr) (n c : Nat) (bs : List UInt8) : Prop := n ≤ c ∧ c ≤ maxLen ∧ Byts w w.heap.size A n bs
def ArgRB (w : World) (A : Option Addr) (n c : Nat) (rows : List (Option Addr × Nat × Nat)) (bss : List (List UInt8)) : Prop := n ≤ c ∧ c ≤ maxLen ∧ RowsB w w.heap.size A n rows bss

theorem cov_range {m K : Int} {sizes : List Int} (hm : m ≤ K) (hs : ∀ z ∈ sizes, z ≤ K) : ∀ {cs : List Ck} {prev : Option Bool} {b : Int} {a : List Int}, 0 ≤ b → (∀ v ∈ a, 0 ≤ v) → Cov m sizes cs prev b a → ∀ c ∈ cs, 0 ≤ c.2.1.1 ∧ c.2.1.1 ≤ c.2.1.2 ∧ c.2.1.2 ≤ K ∧ ∀ s ∈ c.2.2, 0 ≤ s.1 ∧ s.1 ≤ s.2 ∧ s.2 ≤ K
  | [], _, _, _, _, _, _, c, hc => by cases hc
  | d :: cs, prev, b, a, hb, ha, h, c, hc => by
    have h1 := h.1
    have h2 := Cov.le h.2
    have e1 := h1.base
    have e2 := h1.le
    have sd : ∀ s ∈ d.2.2, 0 ≤ s.1 ∧ s.1 ≤ s.2 ∧ s.2 ≤ K := by
      intro sp hsp
      obtain ⟨s, hs2⟩ := List.mem_iff_getElem?.1 hsp
      obtain ⟨v, hv⟩ := at_of h1.len hs2
      obtain ⟨q1, q2, _⟩ := h1.side s sp v hs2 hv
      have q3 := ha v (List.mem_of_getElem? hv)
      have q4 : (ends d)[s]? = some sp.2 := by unfold ends; rw [List.getElem?_map, hs2]; rfl
      have q5 := (List.getElem?_eq_some_iff.1 q4).1
      have q6 := h2.2.1
      have q7 : sizes[s]? = some (sizes[s]'(by omega)) := List.getElem?_eq_getElem (by omega)
      have q8 := h2.2.2 s _ _ q4 q7
      have q9 := hs _ (List.mem_of_getElem? q7)
      omega
    rcases List.mem_cons.1 hc with rfl | hc
    · exact ⟨by omega, by omega, by omega, sd⟩
    · refine cov_range hm hs (by omega) (fun v hv => ?_) h.2 c hc
      unfold ends at hv
      obtain ⟨s, h3, rfl⟩ := List.mem_map.1 hv
      have := sd s h3
      omega

section
variable {base : List UInt8} {sides : List (List UInt8)} {cs : List Ck}
theorem cut_range (h : IsCut base.length (sizesOf (sides.map ints)) (msOf (ints base) (sides.map ints)) cs) (hb : base.length ≤ 30) (hs : ∀ s ∈ sides, s.length ≤ 30) : ∀ c ∈ cs, 0 ≤ c.2.1.1 ∧ c.2.1.1 ≤ c.2.1.2 ∧ c.2.1.2 ≤ 30 ∧ ∀ s ∈ c.2.2, 0 ≤ s.1 ∧ s.1 ≤ s.2 ∧ s.2 ≤ 30 :=
  cov_range (by omega) (fun z hz => (sizes_few hs hz).2) (Int.le_refl _) (fun v hv => by rw [List.eq_of_mem_replicate hv]; omega) h.1
theorem cut_inR (h : IsCut base.length (sizesOf (sides.map ints)) (msOf (ints base) (sides.map ints)) cs) (hb : base.length ≤ 30) (hs : ∀ s ∈ sides, s.length ≤ 30) : CksR cs := by
  intro c hc
  obtain ⟨h1, h2, h3, h4⟩ := cut_range h hb hs c hc
  refine ⟨by unfold inR; omega, by unfold inR; omega, fun s hsm => ?_⟩
  obtain ⟨k1, k2, k3⟩ := h4 s hsm
  unfold inR
  omega
end

section
variable (H : AlignOk)
include H

set_option maxHeartbeats 2000000 in
theorem AlignCovers_walk (A : Option Addr) (n c : Nat) (base : List UInt8) (A' : Option Addr) (n' c' : Nat) (rows : List (Option Addr × Nat × Nat)) (sides : List (List UInt8)) (w : World) (hA : ArgBy w A n c base) (hA' : ArgRB w A' n' c' rows sides) :
    Calls Try.prog 3 #[.slice A n c, .slice A' n' c'] w fun e w' => e = .returned (.bool true) ∧ Below w.heap.size w w' := by
  have hbl : base.length = n := hA.2.2.len
  have hsl : sides.length = n' := hA'.2.2.len
  obtain ⟨fb, hfb⟩ : ∃ fb : Bool, fb = true ↔ fewD base sides := by
    by_cases h : fewD base sides
    · exact ⟨true, by simp [h]⟩
    · exact ⟨false, by simp [h]⟩
  have hF := Lib.hid (fun (w1 : World) (hb : Below w.heap.size w w1) => Few_any A n c base A' n' c' rows sides w1 (Nat.le_trans hA.1 hA.2.1) (Nat.le_trans hA'.1 hA'.2.1) (hA.2.2.up hb) (hA'.2.2.up hb) fb hfb)
  cases fb
  · clear hA hA' hfb
    go_enter Try.func3, Try.ntmps3
    go_wp2_with fail
    refine (awake_any H _).mono ?_
    rintro e w1 ⟨rfl, hB1⟩
    have hF1 := Lib.hid (hF.out w1 hB1)
    go_wp2_with (go_at_call 9; refine hF1.out.mono ?_; rintro e w' ⟨rfl, rfl⟩)
    go_ret
    exact ⟨rfl, hB1⟩
  obtain ⟨hb30, hs1, hs6, hs30⟩ := hfb.1 rfl
  clear hfb
  have h3 := Lib.hid (fun (w' : World) (hb : Below w.heap.size w w') => Lists_any A' n' c' rows sides w' (by omega) (fun s h => by have := hs30 s h; omega) (hA'.2.2.up hb))
  have h4 := Lib.hid (fun (A2 : Option Addr) (n2 c2 : Nat) (rs : List (Option Addr × Nat × Nat)) (w' : World) (e2 : n2 ≤ 1000) (k2 : RowsN w' w'.heap.size A2 n2 rs (sides.map ints)) => Matches_any none 0 0 [] A2 n2 c2 rs (sides.map ints) w' (by omega) e2 (fun s h => by obtain ⟨t, ht, rfl⟩ := List.mem_map.1 h; have := hs30 t ht; rw [ints_len]; omega) ⟨rfl, fun h => absurd h (by omega)⟩ k2)
  have h6 := Lib.hid (fun (w' : World) (hb : Below w.heap.size w w') => cut_any H A n c base A' n' c' rows sides w' (by omega) (by omega) (by omega) hs30 (hA.2.2.up hb) (hA'.2.2.up hb))
  have h7 := Lib.hid (fun (A1 A2 : Option Addr) (n1 c1 n2 c2 : Nat) (cs : List Ck) (w' : World) (hcut : IsCut base.length (sizesOf (sides.map ints)) (msOf (ints base) (sides.map ints)) cs) (a1 : n1 ≤ c1) (a2 : c1 ≤ maxLen) (k1 : Cks w' w'.heap.size A1 n1 cs) (e2 : n2 = n') (k2 : Nums w' w'.heap.size A2 n2 (sizesOf (sides.map ints))) =>
    covers_any A1 n1 c1 w'.heap.size cs n A2 n2 c2 w'.heap.size (sizesOf (sides.map ints)) w' (Nat.le_trans a1 a2) (by omega) (cut_inR hcut (by omega) hs30) k1 k2 (Nat.le_refl _) (Nat.le_refl _) true (by
      have := hcut.1
      rw [hbl, sizes_len, List.length_map, hsl] at this
      rw [e2]
      simp [this]))
  have hszl : Hid ((sizesOf (sides.map ints)).length = n') := Lib.hid (by rw [sizes_len, List.length_map]; exact hsl)
  have hn6 : Hid (n' ≤ 6) := Lib.hid (by omega)
  have hslh := Lib.hid hsl
  clear hA hA' hbl hsl hs30 hs1 hs6 hb30
  go_enter Try.func3, Try.ntmps3
  go_wp2_with fail
  refine (awake_any H _).mono ?_
  rintro e w1 ⟨rfl, hB1⟩
  have hF1 := Lib.hid (hF.out w1 hB1)
  have h3' := Lib.hid (h3.out w1 hB1)
  have hB1h := Lib.hid hB1
  clear hB1
  go_wp2_with (first
    | (go_at_call 9; refine hF1.out.mono ?_; rintro e w' ⟨rfl, rfl⟩)
    | (go_at_call 11; refine h3'.out.mono ?_; rintro e w2 ⟨v, rs, rfl, hR, hb2⟩; obtain ⟨A2, c2, rfl, -, -, q2⟩ := hR.reads; have hB2 := Lib.hid (hB1h.out.trans (hb2.mono hB1h.out.size)); have hrl := hR.len; have h4' := Lib.hid (h4.out A2 rs.length c2 rs w2 (by rw [hrl, List.length_map]; have := hslh.out; have := hn6.out; omega) q2); clear hR hrl hb2)
    | (go_at_call 10; refine h4'.out.mono ?_; rintro e w3 ⟨v1, v2, rs2, rfl, hM⟩; obtain ⟨A3, c3, rfl, -, -, q5⟩ := nums_of_own hM.own1; obtain ⟨A4, c4, rfl, -, -, -⟩ := hM.rows2.reads; have hB3 := Lib.hid (hB2.out.trans (hM.below.mono hB2.out.size)); have h6' := Lib.hid (h6.out w3 hB3.out); clear hM)
    | (go_at_call 13; refine h6'.out.mono ?_; rintro e w4 ⟨A5, n5, c5, cs, rfl, hcut, hn5, q9, q10, q11, hb4⟩; have hB4 := Lib.hid (hB3.out.trans (hb4.mono hB3.out.size)); have h7' := Lib.hid (h7.out A5 A3 n5 c5 (sizesOf (sides.map ints)).length c3 cs w4 hcut q9 q10 q11 hszl.out (q5.up hb4)); clear hcut hn5 hb4)
    | (go_at_call 12; refine h7'.out.mono ?_; rintro e w5 ⟨rfl, hb5⟩))
  go_ret
  exact ⟨rfl, hB4.out.trans (hb5.mono hB4.out.size)⟩
end
end Go.Proofs.Ytijinhhlikhjfaa
