/- Proved here: the contracts of package edit's small functions: empty, pair, and the closure of between that tells the places up to a part. -/
import Derived.Test.YtijinhhlikhjfaaChs
import Derived.Test.YtijinhhlikhjfaaEditGap
import Derived.Test.YtijinhhlikhjfaaSeqs
import Derived.Test.YtijinhhlikhjfaaChecked
import Derived.WalkLawsBesides
import Derived.BigFrame
import Derived.Deep.CutRange
import Derived.Deep.DeepCutAuto
import Derived.Outline
namespace Go.Proofs.Ytijinhhlikhjfaa
open Go.RowKit
set_option linter.unusedVariables false

theorem cells_set {w : World} {T j : Nat} {C : Array Value} {t : TypeId} (x : Value) (h : w.heap[T]? = some (.cells C t (0, 0))) : (w.setCell ⟨T, j, none⟩ x).heap[T]? = some (.cells (C.setIfInBounds j x) t (0, 0)) := by
  simp [World.setCell, Array.getElem?_modify, h]

/-- A change as a value. -/
def chA (c : Ch) : Value := .agg #[.int .i64 c.1.1, .int .i64 c.1.2, .int .i64 c.2.1, .int .i64 c.2.2]
/-- Block L is a change's box. -/
def BoxC (w : World) (L : Nat) (c : Ch) : Prop := w.heap[L]? = some (.cells #[.int .i64 c.1.1, .int .i64 c.1.2, .int .i64 c.2.1, .int .i64 c.2.2] 48 (0, 0))
theorem BoxC.at_ {w : World} {L : Nat} {c : Ch} (h : BoxC w L c) : w.cell? ⟨L, 0, none⟩ = some (.int .i64 c.1.1) ∧ w.cell? ⟨L, 1, none⟩ = some (.int .i64 c.1.2) ∧ w.cell? ⟨L, 2, none⟩ = some (.int .i64 c.2.1) ∧ w.cell? ⟨L, 3, none⟩ = some (.int .i64 c.2.2) ∧ ∀ k, w.frozen? ⟨L, k, none⟩ = false :=
  ⟨by rw [cells_of h]; rfl, by rw [cells_of h]; rfl, by rw [cells_of h]; rfl, by rw [cells_of h]; rfl, fun k => unfrozen_of h k⟩
theorem BoxC.lt {w : World} {L : Nat} {c : Ch} (h : BoxC w L c) : L < w.heap.size := (Array.getElem?_eq_some_iff.1 h).1
theorem BoxC.kept {w w' : World} {L : Nat} {c : Ch} (h : BoxC w L c) (hk : w'.heap[L]? = w.heap[L]?) : BoxC w' L c := hk.trans h
theorem BoxC.below {w w' : World} {L : Nat} {c : Ch} (h : BoxC w L c) (hb : Below w.heap.size w w') : BoxC w' L c := (hb.block L h.lt).trans h

set_option maxRecDepth 100000 in
theorem empty_any (a b c d : Int) (w : World) : Calls Try.prog 24 #[.agg #[.int .i64 a, .int .i64 b, .int .i64 c, .int .i64 d]] w fun e w' => e = .returned (.bool (emp ((a, b), (c, d)))) ∧ Below w.heap.size w w' := by
  by_cases h : a = b
  · subst h
    have he : emp ((a, a), (c, d)) = decide (c = d) := by simp [emp]
    rw [he]
    go_enter Try.func24, Try.ntmps24
    go_wp2
    go_ret
    exact ⟨rfl, (Below.refl _ _).alloc (Nat.le_refl _) _⟩
  · have he : emp ((a, b), (c, d)) = false := by simp [emp, h]
    have h' : (a == b) = false := by simpa using h
    rw [he]
    go_enter Try.func24, Try.ntmps24
    go_wp2
    go_ret
    exact ⟨rfl, (Below.refl _ _).alloc (Nat.le_refl _) _⟩

set_option maxHeartbeats 400000 in
theorem pair_any (i j : Int) (w : World) (hi : 0 ≤ i) (hi2 : i ≤ 2000) (hj : 0 ≤ j) (hj2 : j ≤ 2000) : Calls Try.prog 37 #[.int .i64 i, .int .i64 j] w fun e w' => e = .returned (.agg #[.int .i64 i, .int .i64 (i + 1), .int .i64 j, .int .i64 (j + 1)]) ∧ Below w.heap.size w w' := by
  go_enter Try.func37, Try.ntmps37
  go_wp2
  refine bodyPost_ret (v := .agg #[.int .i64 i, .int .i64 (i + 1), .int .i64 j, .int .i64 (j + 1)]) (by simp [results, Try.results37, go_sem]) rfl ⟨rfl, ?_⟩
  exact (Below.refl _ w).alloc (Nat.le_refl _) _

theorem newC {w : World} {c : Ch} : BoxC (w.alloc (.cells #[.int .i64 c.1.1, .int .i64 c.1.2, .int .i64 c.2.1, .int .i64 c.2.2] 48)) w.heap.size c := World.alloc_heap_new w _
theorem BoxC.alloc {w : World} {L : Nat} {c : Ch} (h : BoxC w L c) (o : Obj) : BoxC (w.alloc o) L c := h.below ((Below.refl _ w).alloc (Nat.le_refl _) o)
/-- A change is stored into a box. -/
theorem BoxC.set {w : World} {L : Nat} {c : Ch} (d : Ch) (h : BoxC w L c) : BoxC ((((w.setCell ⟨L, 0, none⟩ (.int .i64 d.1.1)).setCell ⟨L, 1, none⟩ (.int .i64 d.1.2)).setCell ⟨L, 2, none⟩ (.int .i64 d.2.1)).setCell ⟨L, 3, none⟩ (.int .i64 d.2.2)) L d := by
  unfold BoxC at h ⊢
  rw [cells_set _ (cells_set _ (cells_set _ (cells_set _ h)))]
  rfl
theorem But.set4 (w : World) (L : Nat) (a b c d : Value) : But (fun k => k = L) w ((((w.setCell ⟨L, 0, none⟩ a).setCell ⟨L, 1, none⟩ b).setCell ⟨L, 2, none⟩ c).setCell ⟨L, 3, none⟩ d) :=
  (((But.setCell (F := fun k => k = L) w (p := ⟨L, 0, none⟩) rfl a).trans (But.setCell (F := fun k => k = L) _ (p := ⟨L, 1, none⟩) rfl b) fun k e => .inl e).trans (But.setCell (F := fun k => k = L) _ (p := ⟨L, 2, none⟩) rfl c) fun k e => .inl e).trans (But.setCell (F := fun k => k = L) _ (p := ⟨L, 3, none⟩) rfl d) fun k e => .inl e

set_option maxHeartbeats 1000000 in
theorem upTo_any (L : Nat) (a b c d : Int) (p : Ch) (w : World) (hL : BoxC w L ((a, b), (c, d))) : Calls Try.prog 36 #[chA p, .pointer (some ⟨L, 0, none⟩)] w fun e w' => e = .returned (chA ((b, p.1.1), (d, p.2.1))) ∧ BoxC w' L p ∧ But (fun k => k = L) w w' := by
  obtain ⟨h0, h1, h2, h3, hf⟩ := hL.at_
  have hlt := hL.lt
  have hL' := Lib.hid hL
  clear hL hf
  unfold chA
  go_enter Try.func36, Try.ntmps36
  go_upto_region 1 with fail
  go_cut [4] (fun s4 wx => s4 = .pointer (some ⟨w.heap.size + 1 + 1, 0, none⟩) ∧ wx.heap.size = w.heap.size + 3 ∧
    BoxC wx L ((a, b), (c, d)) ∧ BoxC wx w.heap.size p ∧ BoxC wx (w.heap.size + 1) ((0, 0), (0, 0)) ∧ BoxC wx (w.heap.size + 1 + 1) ((b, p.1.1), (d, p.2.1)) ∧ But (fun k => k = L) w wx)
  case first =>
    go_wp2
    go_meet
    refine ⟨rfl, by simp, ((hL'.out.alloc _).alloc _).alloc _, (newC.alloc _).alloc _, ?_, ?_, ?_⟩
    · have := newC (w := w.alloc (.cells #[.int .i64 p.1.1, .int .i64 p.1.2, .int .i64 p.2.1, .int .i64 p.2.2] 48)) (c := ((0, 0), (0, 0)))
      rw [World.size_alloc] at this
      exact this.alloc _
    · have := newC (w := (w.alloc (.cells #[.int .i64 p.1.1, .int .i64 p.1.2, .int .i64 p.2.1, .int .i64 p.2.2] 48)).alloc (.cells #[.int .i64 0, .int .i64 0, .int .i64 0, .int .i64 0] 48)) (c := ((b, p.1.1), (d, p.2.1)))
      rw [World.size_alloc, World.size_alloc] at this
      exact this
    · exact .of_below ((((Below.refl _ w).alloc (Nat.le_refl _) _).alloc (by simp) _).alloc (by simp; omega) _) fun k hk _ => hk
  case rest =>
    obtain ⟨rfl, hs, hL, hP, hR, hO, hb⟩ := hcut
    obtain ⟨d0, d1, d2, d3, df⟩ := hP.at_
    obtain ⟨e0, e1, e2, e3, ef⟩ := hL.at_
    have e4 := ef 0
    have e5 := ef 1
    have e6 := ef 2
    have e7 := ef 3
    clear ef df h0 h1 h2 h3
    have hc := Lib.hid (⟨hs, hL, hP, hR, hO, hb⟩ : wc.heap.size = w.heap.size + 3 ∧ BoxC wc L ((a, b), (c, d)) ∧ BoxC wc w.heap.size p ∧ BoxC wc (w.heap.size + 1) ((0, 0), (0, 0)) ∧ BoxC wc (w.heap.size + 1 + 1) ((b, p.1.1), (d, p.2.1)) ∧ But (fun k => k = L) w wc)
    clear hs hL hP hR hO hb
    obtain ⟨wo, rfl⟩ : ∃ wo : World, wo = wc := ⟨_, rfl⟩
    go_upto_region 2 with fail
    go_cut [20] (fun s20 wx => BoxC wx L p ∧ BoxC wx (w.heap.size + 1) ((0, 0), (0, 0)) ∧ BoxC wx (w.heap.size + 1 + 1) ((b, p.1.1), (d, p.2.1)) ∧ But (fun k => k = L) w wx)
    case first =>
      go_wp2
      go_meet
      obtain ⟨hs, hL, hP, hR, hO, hb⟩ := hc.out
      have h4 := But.set4 wo L (.int .i64 p.1.1) (.int .i64 p.1.2) (.int .i64 p.2.1) (.int .i64 p.2.2)
      exact ⟨hL.set p, hR.kept (h4.block _ (by omega) (by omega)), hO.kept (h4.block _ (by omega) (by omega)), hb.trans h4 fun k e => .inl e⟩
    case rest =>
      obtain ⟨hL, hR, hO, hb⟩ := hcut
      obtain ⟨d0, d1, d2, d3, df⟩ := hO.at_
      obtain ⟨e0, e1, e2, e3, ef⟩ := hR.at_
      have e4 := ef 0
      have e5 := ef 1
      have e6 := ef 2
      have e7 := ef 3
      clear ef df hc
      have hc := Lib.hid (⟨hL, hR, hO, hb⟩ : BoxC wc L p ∧ BoxC wc (w.heap.size + 1) ((0, 0), (0, 0)) ∧ BoxC wc (w.heap.size + 1 + 1) ((b, p.1.1), (d, p.2.1)) ∧ But (fun k => k = L) w wc)
      have hr := (hR.set ((b, p.1.1), (d, p.2.1))).at_
      obtain ⟨r0, r1, r2, r3, -⟩ := hr
      have hr := Lib.hid (⟨r0, r1, r2, r3⟩ : _ ∧ _ ∧ _ ∧ _)
      clear hL hR hO hb r0 r1 r2 r3
      go_wp2
      obtain ⟨r0, r1, r2, r3⟩ := hr.out
      refine bodyPost_ret (v := .agg #[.int .i64 b, .int .i64 p.1.1, .int .i64 d, .int .i64 p.2.1]) (by simp [results, Try.results36, go_sem, World.cell?_setCell_same', e0, e1, e2, e3]) rfl ⟨rfl, ?_⟩
      obtain ⟨hL, hR, hO, hb⟩ := hc.out
      have h4 := But.set4 wc (w.heap.size + 1) (.int .i64 b) (.int .i64 p.1.1) (.int .i64 d) (.int .i64 p.2.1)
      exact ⟨hL.kept (h4.block _ hL.lt (by omega)), hb.trans h4 fun k e => .inr (by omega)⟩
end Go.Proofs.Ytijinhhlikhjfaa
