/- Proved here, out of the contracts of package align: awake. -/
import Derived.Test.YtijinhhlikhjfaaAlignOk
namespace Go.Proofs.Ytijinhhlikhjfaa
open Go.RowKit
set_option linter.unusedVariables false

/-- The chunks of awake. -/
def lit3 : List Ck := [(false, (0, 1), [(0, 0)]), (true, (1, 3), [(0, 2)]), (false, (3, 3), [(2, 3)])]
theorem side1 {x y a : Int} {P : Prop} (h1 : x = a) (h2 : a ≤ y) (h3 : P → y - x = (0 : Int) + (y - x)) (d : Int) (h4 : P → y - x = d) : ∀ (s : Nat) (sp : Sp) (v : Int), ([(x, y)] : List Sp)[s]? = some sp → ([a] : List Int)[s]? = some v → sp.1 = v ∧ v ≤ sp.2 ∧ (P → sp.2 - sp.1 = d) := by
  intro s sp v e1 e2
  match s with
  | 0 =>
    simp at e1 e2
    subst e1
    subst e2
    exact ⟨h1, h2, h4⟩
  | s + 1 => simp at e1
theorem lit_cut : IsCut 3 [3] [[-1, 0, 1]] lit3 := by
  refine ⟨⟨⟨rfl, by decide, rfl, by decide, by decide, ?_⟩, ⟨rfl, by decide, rfl, by decide, by decide, ?_⟩, ⟨rfl, by decide, rfl, by decide, by decide, ?_⟩, rfl, rfl⟩, ?_⟩
  · exact side1 rfl (by decide) (by omega) _ (by simp)
  · exact side1 rfl (by decide) (by omega) _ (by decide)
  · exact side1 rfl (by decide) (by omega) _ (by simp)
  · intro c hc
    simp [lit3] at hc
    rcases hc with rfl | rfl | rfl
    · intro k h1 h2
      simp only at h1 h2
      obtain rfl : k = 0 := by omega
      exact ⟨by decide, by simp⟩
    · intro k h1 h2
      simp only at h1 h2
      have hk : k = 1 ∨ k = 2 := by omega
      rcases hk with rfl | rfl
      · refine ⟨by decide, fun _ s l sp e1 e2 => ?_⟩
        match s with
        | 0 => simp at e1 e2; subst e1; subst e2; decide
        | s + 1 => simp at e1
      · refine ⟨by decide, fun _ s l sp e1 e2 => ?_⟩
        match s with
        | 0 => simp at e1 e2; subst e1; subst e2; decide
        | s + 1 => simp at e1
    · intro k h1 h2
      simp only at h1 h2
      omega

set_option maxRecDepth 100000 in
set_option maxHeartbeats 1000000 in
theorem awake_any (H : AlignOk) (w : World) : Calls Try.prog 8 #[] w fun e w' => e = .returned (.bool true) ∧ Below w.heap.size w w' := by
  have hb1 : Below w.heap.size w (w.alloc (.cells #[.int .i64 3] 3)) := (Below.refl _ _).alloc (Nat.le_refl _) _
  have hb2 : Below (w.alloc (.cells #[.int .i64 3] 3)).heap.size (w.alloc (.cells #[.int .i64 3] 3)) ((w.alloc (.cells #[.int .i64 3] 3)).alloc (.cells #[.int .i64 (-1), .int .i64 0, .int .i64 1] 3)) := (Below.refl _ _).alloc (Nat.le_refl _) _
  have hb3 : Below ((w.alloc (.cells #[.int .i64 3] 3)).alloc (.cells #[.int .i64 (-1), .int .i64 0, .int .i64 1] 3)).heap.size ((w.alloc (.cells #[.int .i64 3] 3)).alloc (.cells #[.int .i64 (-1), .int .i64 0, .int .i64 1] 3)) (((w.alloc (.cells #[.int .i64 3] 3)).alloc (.cells #[.int .i64 (-1), .int .i64 0, .int .i64 1] 3)).alloc (.cells #[.slice (some ⟨w.heap.size + 1, 0, none⟩) 3 3] 26)) := (Below.refl _ _).alloc (Nat.le_refl _) _
  have n1 : Nums (w.alloc (.cells #[.int .i64 3] 3)) (w.alloc (.cells #[.int .i64 3] 3)).heap.size (some ⟨w.heap.size, 0, none⟩) 1 [3] := Nums.new _ _ _ _ rfl rfl
  have s1 : (w.alloc (.cells #[.int .i64 3] 3)).heap.size = w.heap.size + 1 := by simp
  have n2 : Nums ((w.alloc (.cells #[.int .i64 3] 3)).alloc (.cells #[.int .i64 (-1), .int .i64 0, .int .i64 1] 3)) ((w.alloc (.cells #[.int .i64 3] 3)).alloc (.cells #[.int .i64 (-1), .int .i64 0, .int .i64 1] 3)).heap.size (some ⟨w.heap.size + 1, 0, none⟩) 3 [-1, 0, 1] := by
    have := Nums.new (w := w.alloc (.cells #[.int .i64 3] 3)) [-1, 0, 1] 3 3 #[.int .i64 (-1), .int .i64 0, .int .i64 1] rfl rfl
    rw [s1] at this
    exact this
  have s2 : ((w.alloc (.cells #[.int .i64 3] 3)).alloc (.cells #[.int .i64 (-1), .int .i64 0, .int .i64 1] 3)).heap.size = w.heap.size + 1 + 1 := by simp
  have hW := (n1.up hb2).up hb3
  have hX : RowsN (((w.alloc (.cells #[.int .i64 3] 3)).alloc (.cells #[.int .i64 (-1), .int .i64 0, .int .i64 1] 3)).alloc (.cells #[.slice (some ⟨w.heap.size + 1, 0, none⟩) 3 3] 26)) (((w.alloc (.cells #[.int .i64 3] 3)).alloc (.cells #[.int .i64 (-1), .int .i64 0, .int .i64 1] 3)).alloc (.cells #[.slice (some ⟨w.heap.size + 1, 0, none⟩) 3 3] 26)).heap.size (some ⟨w.heap.size + 1 + 1, 0, none⟩) 1 [(some ⟨w.heap.size + 1, 0, none⟩, 3, 3)] [[-1, 0, 1]] := by
    refine ⟨⟨rfl, fun _ => ⟨w.heap.size + 1 + 1, 0, rfl, by simp, fun j u hu => ?_⟩⟩, rfl, fun k r xs e1 e2 => ?_⟩
    · rw [← s2, World.cell?_alloc_mark]
      simpa using hu
    · match k with
      | 0 =>
        simp at e1 e2
        subst e1
        subst e2
        exact n2.up hb3
      | k + 1 => simp at e1
  have hB3 := (hb1.trans (hb2.mono hb1.size)).trans (hb3.mono (hb1.trans (hb2.mono hb1.size)).size)
  have h1 := Lib.hid (H.align_ok _ 1 1 [3] _ 1 1 _ [[-1, 0, 1]] 3 _ (by omega) (by omega) (by omega) (by decide) (by omega) (by decide) rfl (by omega) (fun z hz => by simp at hz; omega) (fun k l z e1 e2 => by
    match k with
    | 0 =>
      simp at e1 e2
      subst e1
      subst e2
      exact ⟨rfl, by decide, by decide⟩
    | k + 1 => simp at e1) hW hX)
  have h2 := Lib.hid (fun w' => H.align_nil 3 w' (by omega))
  have hB3h := Lib.hid hB3
  clear hb1 hb2 hb3 n1 n2 s1 s2 hW hX hB3
  have tok1 := trivial
  go_enter Try.func8, Try.ntmps8
  go_wp2_with (first
    | (go_at_call 18; have _t := tok1; refine h1.out.mono ?_; rintro e w1 ⟨cs, hcut, A1, n1, c1, rfl, hn1, -, -, hk, hb4⟩; clear tok1; obtain rfl : cs = lit3 := cov_one rfl hcut.1 lit_cut.1 hcut.2 lit_cut.2; obtain rfl : n1 = 3 := hn1; have hkh := Lib.hid hk; have hb4h := Lib.hid (hB3h.out.trans (hb4.mono hB3h.out.size)); clear hcut hk hb4)
    | (go_at_call 18; refine (h2.out w1).mono ?_; rintro e w2 ⟨A2, n2, c2, rfl, hn2, -, -, -, hb5⟩; clear hn2; have hk2 := hkh.out.up hb5; have hb5h := Lib.hid (hb4h.out.trans (hb5.mono hb4h.out.size)); clear hb5; obtain ⟨g, o, he, hg, hc⟩ := hk2.2 (by omega); subst he; obtain ⟨a1, a2, a3, -⟩ := hc 0 _ rfl; obtain ⟨b1, b2, b3, -⟩ := hc 1 _ rfl; obtain ⟨d1, d2, d3, A3, n3, c3, d4, -, -, hs⟩ := hc 2 _ rfl; obtain rfl : 1 = n3 := hs.1; obtain ⟨p, q, hp, hpl, hq⟩ := hs.2 (by omega); subst hp; obtain ⟨f1, f2⟩ := hq 0 _ rfl; simp only [Nat.zero_mul, Nat.one_mul, Nat.add_zero] at a1 a2 a3 b1 b2 b3 d1 d2 d3 d4 f1 f2; clear hc hq hk2 hs))
  go_ret
  exact ⟨rfl, hb5h.out⟩
end Go.Proofs.Ytijinhhlikhjfaa
