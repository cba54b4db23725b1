/- What the statements of layer 4 ask of package edit, and what follows of it: awake. -/
import Derived.Test.YtjbgiaekckdoaaaEditMatch
import Derived.Test.YtjbgiaekckdoaaaEditChOk
namespace Go.Proofs.Ytjbgiaekckdoaaa
open Go.RowKit
set_option linter.unusedVariables false

/-- Changes were made, and nothing that was there has turned. -/
def SwOut (w w' : World) (e : Ending) (cs : List Ch) : Prop := ∃ A n c, e = .returned (.slice A n c) ∧ n = cs.length ∧ n ≤ c ∧ c ≤ maxLen ∧ Chs w' w'.heap.size A n cs ∧ Below w.heap.size w w'

/-- The contracts of package edit. -/
structure EditOk : Prop where
  changes_ok : ChangesOk
  match_ok : ∀ (A : Option Addr) (n c : Nat) (l : List Ch) (M N : Int) (w : World), n ≤ c → c ≤ maxLen → n ≤ 5000 → inR M → inR N → ChsR l → Chs w w.heap.size A n l →
    Calls Try.prog 13 #[.slice A n c, .int .i64 M, .int .i64 N] w fun e w' => MtOut w w' e (mErr l M N) (mRes l M N)
  swap_ok : ∀ (A : Option Addr) (n c : Nat) (l : List Ch) (w : World), n ≤ c → c ≤ maxLen → n ≤ 5000 → Chs w w.heap.size A n l →
    Calls Try.prog 17 #[.slice A n c] w fun e w' => SwOut w w' e (l.map swapC)

theorem chs_inR {l : List Int} {n : Int} (h : may l n = true) (hl : l.length ≤ 2000) (hn : n ≤ 2000) : ChsR (chs l n) := by
  obtain ⟨h0, hm⟩ := may_parts h
  intro c hc
  have := chL_lies n l 0 0 0 (Int.le_refl _) (Int.le_refl _) h0 hm c hc
  unfold inR
  omega

theorem two_at {w : World} {B : Nat} {A : Option Addr} {c d : Ch} (h : Chs w B A 2 [c, d]) : ∃ g o, A = some ⟨g, o, none⟩ ∧
    (w.cell? ⟨g, o, none⟩ = some (.int .i64 c.1.1) ∧ w.cell? ⟨g, o + 1, none⟩ = some (.int .i64 c.1.2) ∧ w.cell? ⟨g, o + 2, none⟩ = some (.int .i64 c.2.1) ∧ w.cell? ⟨g, o + 3, none⟩ = some (.int .i64 c.2.2)) ∧
    w.cell? ⟨g, o + 4, none⟩ = some (.int .i64 d.1.1) ∧ w.cell? ⟨g, o + 5, none⟩ = some (.int .i64 d.1.2) ∧ w.cell? ⟨g, o + 6, none⟩ = some (.int .i64 d.2.1) ∧ w.cell? ⟨g, o + 7, none⟩ = some (.int .i64 d.2.2) := by
  obtain ⟨b, o, e, hb, hc⟩ := h.2 (by omega)
  obtain ⟨h1, h2, h3, h4⟩ := hc 0 c rfl
  obtain ⟨k1, k2, k3, k4⟩ := hc 1 d rfl
  exact ⟨b, o, e, ⟨by simpa using h1, by simpa using h2, by simpa using h3, by simpa using h4⟩, k1, k2, k3, k4⟩
theorem rng : ChsR [((0, 1), (0, 0)), ((3, 3), (2, 3))] := by
  intro c hc
  simp at hc
  rcases hc with rfl | rfl <;> simp [inR]

set_option maxRecDepth 100000 in
set_option maxHeartbeats 1000000 in
theorem awake_any (H : EditOk) (w : World) : Calls Try.prog 9 #[] w fun e w' => e = .returned (.bool true) ∧ Below w.heap.size w w' := by
  have e1 : chErr [-1, 0, 1] 3 = 0 := by decide
  have e2 : chRes [-1, 0, 1] 3 = [((0, 1), (0, 0)), ((3, 3), (2, 3))] := by decide
  have e3 : mErr [((0, 1), (0, 0)), ((3, 3), (2, 3))] 3 3 = 0 := by decide
  have e4 : mRes [((0, 1), (0, 0)), ((3, 3), (2, 3))] 3 3 = [-1, 0, 1] := by decide
  have hC := Lib.hid (fun w' h => e1 ▸ e2 ▸ H.changes_ok (some ⟨w.heap.size, 0, none⟩) 3 3 [-1, 0, 1] 3 w' (by omega) (by decide) ⟨by omega, by omega⟩ (fun v hv => by simp at hv; unfold inR; omega) h)
  have hM := Lib.hid (fun A c w' h1 h2 h => e3 ▸ e4 ▸ H.match_ok A 2 c [((0, 1), (0, 0)), ((3, 3), (2, 3))] 3 3 w' h1 h2 (by omega) ⟨by omega, by omega⟩ ⟨by omega, by omega⟩ rng h)
  have hS := Lib.hid (fun A c w' h1 h2 h => H.swap_ok A 2 c [((0, 1), (0, 0)), ((3, 3), (2, 3))] w' h1 h2 (by omega) h)
  clear e1 e2 e3 e4
  have h0 : Nums (w.alloc (.cells #[.int .i64 (-1), .int .i64 0, .int .i64 1] 3)) (w.alloc (.cells #[.int .i64 (-1), .int .i64 0, .int .i64 1] 3)).heap.size (some ⟨w.heap.size, 0, none⟩) 3 [-1, 0, 1] := Nums.new _ _ _ _ rfl rfl
  have hb0 : Below w.heap.size w (w.alloc (.cells #[.int .i64 (-1), .int .i64 0, .int .i64 1] 3)) := (Below.refl _ _).alloc (Nat.le_refl _) _
  have h0' := Lib.hid h0
  clear h0
  go_enter Try.func9, Try.ntmps9
  go_wp2_with (first
    | (go_at_call 10; refine (hC.out _ h0'.out).mono ?_; rintro e w1 ⟨A1, n1, c1, rfl, hn1, hc1, hm1, hl1, hb1⟩; obtain rfl : n1 = 2 := hn1; have hb1' := hb0.trans (hb1.mono hb0.size); have hM1 := Lib.hid (hM.out A1 c1 w1 hc1 hm1 hl1))
    | (go_at_call 13; refine hM1.out.mono ?_; rintro e w2 ⟨A2, n2, c2, rfl, hn2, hc2, hm2, hl2, hb2⟩; obtain rfl : n2 = 3 := hn2; have hb2' := hb1'.trans (hb2.mono hb1'.size); have hl12 := hl1.up hb2; have hS2 := Lib.hid (hS.out A1 c1 w2 hc1 hm1 hl12); obtain ⟨g, o, rfl, ⟨d1, d2, d3, d4⟩, d5, d6, d7, d8⟩ := two_at hl12; obtain ⟨g2, o2, x0, rfl, -, hx0, f0⟩ := hl2.at_ (k := 0) (by omega); obtain ⟨g3, o3, x2, he3, -, hx2, f2⟩ := hl2.at_ (k := 2) (by omega); injection he3 with he3; injection he3 with he4 he5; subst he4; subst he5; simp at hx0 hx2; subst hx0; subst hx2; rw [Nat.add_zero] at f0)
    | (go_at_call 17; refine hS2.out.mono ?_; rintro e w3 ⟨A3, n3, c3, rfl, hn3, hc3, hm3, hl3, hb3⟩; obtain rfl : n3 = 2 := hn3))
  go_ret
  exact ⟨rfl, hb2'.trans (hb3.mono hb2'.size)⟩
end Go.Proofs.Ytjbgiaekckdoaaa
