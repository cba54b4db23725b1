/- Proved here: contracts of the document's own answers of layer 4: May, inNew. -/
import Derived.Test.YtjbgiaekckdoaaaChs
import Derived.Test.YtjbgiaekckdoaaaAppend
import Derived.Test.YtjbgiaekckdoaaaChecked
import Derived.WalkLawsBesides
import Derived.BigFrame
import Derived.Deep.QuietTactic
import Derived.BigQuiet
import Derived.Outline
namespace Go.Proofs.Ytjbgiaekckdoaaa
open Go.RowKit
set_option linter.unusedVariables false

theorem infoInt : (Try.prog.info? 3).map (fun i => (i.zero, i.size, i.bytes)) = some (some (.int .i64 0), 1, 8) := by kernel_rfl
theorem infoCh : (Try.prog.info? 43).map (fun i => (i.zero, i.size, i.bytes)) = some (some (.agg #[.int .i64 0, .int .i64 0, .int .i64 0, .int .i64 0]), 4, 32) := by kernel_rfl

theorem mayL_miss {n : Int} {l : List Int} {b : Int} {k : Nat} (h : l[k]? = some (-1)) : mayL n (l.drop k) b = mayL n (l.drop (k + 1)) b := by
  rw [drop_at h, mayL, if_pos rfl]
theorem mayL_hit {n v : Int} {l : List Int} {b : Int} {k : Nat} (h : l[k]? = some v) (hv : v ≠ -1) (h1 : b ≤ v) (h2 : v < n) : mayL n (l.drop k) b = mayL n (l.drop (k + 1)) (v + 1) := by
  rw [drop_at h, mayL, if_neg hv]
  simp [h1, h2]
theorem mayL_out {n v : Int} {l : List Int} {b : Int} {k : Nat} (h : l[k]? = some v) (hv : v ≠ -1) (h1 : ¬ (b ≤ v ∧ v < n)) : mayL n (l.drop k) b = false := by
  rw [drop_at h, mayL, if_neg hv]
  by_cases e : b ≤ v
  · have : ¬ v < n := fun h => h1 ⟨e, h⟩
    simp [this]
  · simp [e]

set_option maxHeartbeats 1000000 in
theorem May_any (A : Option Addr) (n c B : Nat) (l : List Int) (N : Int) (w : World) (hn : n ≤ maxLen) (hN : N ≤ 9223372036854775807) (hA : Nums w B A n l) :
    Calls Try.prog 16 #[.slice A n c, .int .i64 N] w fun e w' => e = .returned (.bool (may l N)) ∧ w = w' := by
  have hl := hA.len
  unfold maxLen at hn
  by_cases h0 : N < 0
  · have hm : may l N = false := by unfold may; simp; omega
    rw [hm]
    go_enter Try.func16, Try.ntmps16
    go_wp2
    go_ret
    exact ⟨rfl, rfl⟩
  · have hm : may l N = mayL N l 0 := by unfold may; simp; omega
    rw [hm]
    go_enter Try.func16, Try.ntmps16
    go_wp2
    go_loop [5, 6] (fun sb si => ∃ (k : Nat) (b : Int), k ≤ n ∧ si = .int .i64 k ∧ sb = .int .i64 b ∧ 0 ≤ b ∧ Hid (mayL N l 0 = mayL N (l.drop k) b)) (fun _ si => n - (intOf si).toNat)
    case atStart => exact ⟨0, 0, Nat.zero_le _, rfl, rfl, Int.le_refl _, Lib.hid rfl⟩
    case round =>
      obtain ⟨k, b, hk, rfl, rfl, hb, hq⟩ := hrel
      clear hm
      by_cases hlt : k < n
      · obtain ⟨g, o, v, rfl, hg, hv, hc⟩ := hA.at_ (k := k) hlt
        have hki : (k : Int) < (n : Int) := by omega
        by_cases h1 : v = -1
        · subst h1
          have hq2 := Lib.hid (hq.out.trans (mayL_miss hv))
          go_wp2
          go_round
          case rel => exact ⟨k + 1, b, by omega, by go_num, rfl, hb, hq2⟩
          case measure => simp [intOf] <;> omega
        · have he : (v == -1) = false := by simpa using h1
          by_cases h2 : v < b
          · have hq2 := Lib.hid (hq.out.trans (mayL_out hv h1 (by omega)))
            go_wp2
            go_ret
            exact ⟨ret_bool hq2.out.symm, rfl⟩
          · have h2' : decide (v < b) = false := by simp; omega
            by_cases h3 : N ≤ v
            · have hq2 := Lib.hid (hq.out.trans (mayL_out hv h1 (by omega)))
              go_wp2
              go_ret
              exact ⟨ret_bool hq2.out.symm, rfl⟩
            · have hq2 := Lib.hid (hq.out.trans (mayL_hit hv h1 (by omega) (by omega)))
              go_wp2
              go_round
              case rel => exact ⟨k + 1, v + 1, by omega, by go_num, rfl, by omega, hq2⟩
              case measure => simp [intOf] <;> omega
      · obtain rfl : k = n := by omega
        have hq2 : Hid (mayL N l 0 = true) := Lib.hid (by rw [hq.out, List.drop_of_length_le (by omega)]; rfl)
        go_wp2
        go_ret
        exact ⟨ret_bool hq2.out.symm, rfl⟩

theorem inNew_no {l : List Ch} {k : Nat} {c : Ch} {j : Int} (h : l[k]? = some c) (hc : ¬ (c.2.1 ≤ j ∧ j < c.2.2)) : inNew (l.drop k) j = inNew (l.drop (k + 1)) j := by
  rw [drop_at h]
  unfold inNew
  rw [List.any_cons]
  by_cases e : c.2.1 ≤ j
  · have : ¬ j < c.2.2 := fun h => hc ⟨e, h⟩
    simp [this]
  · simp [e]
theorem inNew_yes {l : List Ch} {k : Nat} {c : Ch} {j : Int} (h : l[k]? = some c) (h1 : c.2.1 ≤ j) (h2 : j < c.2.2) : inNew (l.drop k) j = true := by
  rw [drop_at h]
  unfold inNew
  rw [List.any_cons]
  simp [h1, h2]

set_option maxHeartbeats 1000000 in
theorem inNew_any (A : Option Addr) (n c B : Nat) (l : List Ch) (j : Int) (w : World) (hn : n ≤ maxLen) (hA : Chs w B A n l) :
    Calls Try.prog 34 #[.slice A n c, .int .i64 j] w fun e w' => e = .returned (.bool (inNew l j)) ∧ w = w' := by
  have hl := hA.len
  unfold maxLen at hn
  go_enter Try.func34, Try.ntmps34
  go_wp2
  go_loop [5] (fun si => ∃ k : Nat, k ≤ n ∧ si = .int .i64 k ∧ Hid (inNew l j = inNew (l.drop k) j)) (fun si => n - (intOf si).toNat)
  case atStart => exact ⟨0, Nat.zero_le _, rfl, Lib.hid rfl⟩
  case round =>
    obtain ⟨k, hk, rfl, hq⟩ := hrel
    by_cases hlt : k < n
    · obtain ⟨g, o, ⟨⟨x1, x2⟩, y1, y2⟩, rfl, hg, hv, c1, c2, c3, c4⟩ := hA.at_ (k := k) hlt
      have hki : (k : Int) < (n : Int) := by omega
      by_cases h1 : y1 ≤ j
      · by_cases h2 : j < y2
        · have hq2 := Lib.hid (hq.out.trans (inNew_yes hv h1 h2))
          go_wp2
          go_ret
          exact ⟨ret_bool hq2.out.symm, rfl⟩
        · have hq2 := Lib.hid (hq.out.trans (inNew_no hv (by simp; omega)))
          have h2' : decide (j < y2) = false := by simp; omega
          go_wp2
          go_round
          case rel => exact ⟨k + 1, by omega, by go_num, hq2⟩
          case measure => simp [intOf] <;> omega
      · have hq2 := Lib.hid (hq.out.trans (inNew_no hv (by simp; omega)))
        have h1' : decide (y1 ≤ j) = false := by simp; omega
        go_wp2
        go_round
        case rel => exact ⟨k + 1, by omega, by go_num, hq2⟩
        case measure => simp [intOf] <;> omega
    · obtain rfl : k = n := by omega
      have hq2 : Hid (inNew l j = false) := Lib.hid (by rw [hq.out, List.drop_of_length_le (by omega)]; rfl)
      go_wp2
      go_ret
      exact ⟨ret_bool hq2.out.symm, rfl⟩

theorem cell_new4 (w : World) (a b c d : Value) (t : TypeId) : ∀ j u, [a, b, c, d][j]? = some u → (w.alloc (.cells #[a, b, c, d] t)).cell? ((⟨w.heap.size, 0, none⟩ : Addr).add j) = some u := by
  intro j u hu
  rw [show (⟨w.heap.size, 0, none⟩ : Addr).add j = ⟨w.heap.size, 0 + j, none⟩ from by unfold Addr.add; split <;> simp_all, World.cell?_alloc_mark]
  simpa using hu

/-- The changes that are left at place k: none behind the last. -/
def chR (N : Int) (l : List Int) (k : Nat) (x y : Int) : List Ch := if k ≤ l.length then chL N (l.drop k) k x y else []
theorem chR_in {N : Int} {l : List Int} {k : Nat} {x y : Int} (h : k ≤ l.length) : chR N l k x y = chL N (l.drop k) k x y := if_pos h
theorem chR_out {N : Int} {l : List Int} {k : Nat} {x y : Int} (h : ¬ k ≤ l.length) : chR N l k x y = [] := if_neg h
theorem chR_miss {N : Int} {l : List Int} {k : Nat} {x y : Int} (h : l[k]? = some (-1)) : chR N l k x y = chR N l (k + 1) x y := by
  have hk := (List.getElem?_eq_some_iff.1 h).1
  rw [chR_in (by omega), chR_in (by omega), drop_at h, chL, if_pos rfl]
  rfl
theorem chR_go {N : Int} {l : List Int} {k : Nat} {x y j : Int} (hk : k ≤ l.length) (h : (l[k]? = some j ∧ j ≠ -1) ∨ (k = l.length ∧ j = N)) : chR N l k x y = (if x < k ∨ y < j then [((x, (k : Int)), (y, j))] else []) ++ chR N l (k + 1) ((k : Int) + 1) (j + 1) := by
  rcases h with ⟨h, hj⟩ | ⟨rfl, rfl⟩
  · have hk := (List.getElem?_eq_some_iff.1 h).1
    rw [chR_in (by omega), chR_in (k := k + 1) (by omega), drop_at h, chL, if_neg hj]
    rfl
  · rw [chR_in (Nat.le_refl _), chR_out (k := l.length + 1) (by omega), List.drop_of_length_le (Nat.le_refl _), chL, List.append_nil]

/-- What has been told, as far as place k. -/
def ChIn (w wr : World) (l : List Int) (N : Int) (v : Value) (k : Nat) (x y : Int) (p : Nat) (done : List Ch) : Prop :=
  wr.ownsRow w.heap.size 43 4 v p (chCs done) ∧ done.length = p ∧ p ≤ k ∧ Below w.heap.size w wr ∧ chs l N = done ++ chR N l k x y
theorem ChIn.skip {w wr : World} {l : List Int} {N : Int} {v : Value} {k : Nat} {x y x' y' : Int} {p : Nat} {done : List Ch} (h : ChIn w wr l N v k x y p done) (he : chR N l k x y = chR N l (k + 1) x' y') : ChIn w wr l N v (k + 1) x' y' p done :=
  ⟨h.1, h.2.1, by have := h.2.2.1; omega, h.2.2.2.1, by rw [h.2.2.2.2, he]⟩
theorem ChIn.put {w wr w2 : World} {l : List Int} {N : Int} {v v' : Value} {k : Nat} {x y x' y' : Int} {p : Nat} {done : List Ch} {c : Ch} {o : Obj} (h : ChIn w wr l N v k x y p done) (he : chR N l k x y = [c] ++ chR N l (k + 1) x' y')
    (hown : w2.ownsRow w.heap.size 43 4 v' (p + 1) (chCs done ++ chC c)) (hg : (wr.alloc o).grownBy w2 v.ownBlock) : ChIn w w2 l N v' (k + 1) x' y' (p + 1) (done ++ [c]) := by
  obtain ⟨h1, h2, h3, h4, h5⟩ := h
  exact ⟨by rw [chCs_snoc]; exact hown, by simp [h2], by omega, (h4.alloc h4.size o).grown hg (by have := h4.size; simp; omega) (fun j e => (h1.lt j e).1), by rw [h5, he]; simp⟩

set_option maxHeartbeats 2000000 in
theorem rChanges_any (A : Option Addr) (n c B : Nat) (l : List Int) (N : Int) (w : World) (hn : n ≤ maxLen) (hN : N ≤ 9223372036854775807) (hA : Nums w B A n l) (hB : B ≤ w.heap.size) :
    Calls Try.prog 11 #[.slice A n c, .int .i64 N] w fun e w' => ChOut w w' e (chErr l N) (chRes l N) := by
  have hl := hA.len
  have hM := Lib.hid (May_any A n c B l N w hn hN hA)
  obtain ⟨i0, hi, hz0, hz1, hz2⟩ := info_parts infoCh
  unfold maxLen at hn
  by_cases h1 : 2000 < n
  · have h1' : (2000 : Int) < (n : Int) := by omega
    have he : chErr l N = 4 := by unfold chErr; rw [if_pos (.inl (by omega))]
    have hr : chRes l N = [] := by unfold chRes; rw [he]; rfl
    rw [he, hr]
    go_enter Try.func11, Try.ntmps11
    go_wp2
    go_ret2
    exact ChOut.nothing (Below.refl _ _)
  · have h1' : decide ((2000 : Int) < (n : Int)) = false := by simp; omega
    by_cases h2 : 2000 < N
    · have he : chErr l N = 4 := by unfold chErr; rw [if_pos (.inr h2)]
      have hr : chRes l N = [] := by unfold chRes; rw [he]; rfl
      rw [he, hr]
      go_enter Try.func11, Try.ntmps11
      go_wp2
      go_ret2
      exact ChOut.nothing (Below.refl _ _)
    · obtain ⟨mb, hmb⟩ : ∃ mb, may l N = mb := ⟨_, rfl⟩
      rw [hmb] at hM
      cases mb
      · have he : chErr l N = 1 := by unfold chErr; rw [if_neg (by omega), hmb]; rfl
        have hr : chRes l N = [] := by unfold chRes; rw [he]; rfl
        rw [he, hr]
        clear he hr hmb
        go_enter Try.func11, Try.ntmps11
        go_wp2_with (go_at_call 16; refine hM.out.mono ?_; rintro e w' ⟨rfl, rfl⟩)
        go_ret2
        exact ChOut.nothing (Below.refl _ _)
      · have he : chErr l N = 0 := by unfold chErr; rw [if_neg (by omega), hmb]; rfl
        have hr : chRes l N = chs l N := by unfold chRes; rw [he]; rfl
        obtain ⟨hN0, hml⟩ := may_parts hmb
        rw [he, hr]
        have hmm := Lib.hid (mayL_mem hml)
        clear he hr hmb hml
        go_enter Try.func11, Try.ntmps11
        go_wp2_with (go_at_call 16; refine hM.out.mono ?_; rintro e w' ⟨rfl, rfl⟩)
        have h0 := (⟨World.ownsRow_nil _ _ _ _, rfl, Nat.le_refl _, Below.refl _ _, by simp [chR, chs]⟩ : ChIn w w l N (.slice none 0 0) 0 0 0 0 [])
        have h0' := Lib.hid h0
        clear h0
        go_loopw [6, 7, 8, 9, 10] (fun s6 s7 s8 s9 _ wr => ∃ (k : Nat) (x y : Int) (v : Value) (p : Nat) (done : List Ch), k ≤ n + 1 ∧ s9 = .int .i64 k ∧ s7 = .int .i64 x ∧ s8 = .int .i64 y ∧ v = s6 ∧ 0 ≤ x ∧ x ≤ k ∧ 0 ≤ y ∧ y ≤ N + 1 ∧ Hid (ChIn w wr l N v k x y p done)) (fun _ _ _ s9 _ _ => n + 1 - (intOf s9).toNat)
        case atStart => exact ⟨0, 0, 0, _, 0, [], by omega, rfl, rfl, rfl, rfl, by omega, by omega, by omega, by omega, h0'⟩
        case round =>
          obtain ⟨k, x, y, v, p, done, hk, rfl, rfl, rfl, rfl, hx0, hxk, hy0, hyN, hI⟩ := hrel
          obtain ⟨wo, rfl⟩ : ∃ wo : World, wo = wr := ⟨_, rfl⟩
          clear h0'
          have hown := hI.out.1
          have hpk := hI.out.2.2.1
          have hso := hI.out.2.2.2.1.size
          have hBe := hI.out.2.2.2.1
          have hmax : Hid (p + 1 ≤ maxLen ∧ (p + 1) * 32 ≤ 140737488355328) := Lib.hid ⟨by unfold maxLen; omega, by omega⟩
          by_cases hkn : k < n
          · obtain ⟨g, o, j, rfl, hg, hv, hc0⟩ := hA.at_ (k := k) hkn
            have hc := (hBe.cell (p := ⟨g, o + k, none⟩) (by show g < _; omega)).trans hc0
            clear hc0
            by_cases hj : j = -1
            · subst hj
              have hfin := Lib.hid (hI.out.skip (chR_miss hv))
              go_wp2
              go_roundw
              case rel => exact ⟨k + 1, x, y, v, p, done, by omega, by go_num, rfl, rfl, rfl, by omega, by omega, by omega, by omega, hfin⟩
              case measure => simp [intOf] <;> omega
            · have hje : (j == -1) = false := by simpa using hj
              have hjb := hmm.out j (List.mem_of_getElem? hv) hj
              have hgo := chR_go (N := N) (x := x) (y := y) (by omega) (.inl ⟨hv, hj⟩)
              clear hBe
              by_cases hx : x < (k : Int)
              · have he := hgo; rw [if_pos (.inl hx)] at he
                have hfin := Lib.hid (fun v' w2 => hI.out.put (v' := v') (w2 := w2) (o := .cells #[.int .i64 x, .int .i64 (k : Int), .int .i64 y, .int .i64 j] 43) he)
                clear hgo he
                go_wp2_with (at_builtin; refine wpList_append_own_at _ rfl _ _ 24 rfl w.heap.size 43 i0 (.agg #[.int .i64 0, .int .i64 0, .int .i64 0, .int .i64 0]) 4 32 Try.underlying24 hi hz0 hz1 hz2 rfl (by decide) v p _ rfl (hown.alloc _) ⟨wo.heap.size, 0, none⟩ 1 1 (chC ((x, (k : Int)), (y, j))) rfl rfl (cell_new4 _ _ _ _ _ _) (chC_one _) hmax.out.1 hmax.out.2 (by simp; omega) ?_; intro v' w2 hown2 hg2 hnil2 hloc2; clear hnil2)
                go_roundw
                case rel => exact ⟨k + 1, (k : Int) + 1, j + 1, v', p + 1, _, by omega, by go_num, by go_num, by go_num, rfl, by omega, by omega, by omega, by omega, Lib.hid (hfin.out v' w2 hown2 hg2)⟩
                case measure => simp [intOf] <;> omega
              · have hxf : decide (x < (k : Int)) = false := by simp; omega
                by_cases hy : y < j
                · have he := hgo; rw [if_pos (.inr hy)] at he
                  have hfin := Lib.hid (fun v' w2 => hI.out.put (v' := v') (w2 := w2) (o := .cells #[.int .i64 x, .int .i64 (k : Int), .int .i64 y, .int .i64 j] 43) he)
                  clear hgo he
                  go_wp2_with (at_builtin; refine wpList_append_own_at _ rfl _ _ 24 rfl w.heap.size 43 i0 (.agg #[.int .i64 0, .int .i64 0, .int .i64 0, .int .i64 0]) 4 32 Try.underlying24 hi hz0 hz1 hz2 rfl (by decide) v p _ rfl (hown.alloc _) ⟨wo.heap.size, 0, none⟩ 1 1 (chC ((x, (k : Int)), (y, j))) rfl rfl (cell_new4 _ _ _ _ _ _) (chC_one _) hmax.out.1 hmax.out.2 (by simp; omega) ?_; intro v' w2 hown2 hg2 hnil2 hloc2; clear hnil2)
                  go_roundw
                  case rel => exact ⟨k + 1, (k : Int) + 1, j + 1, v', p + 1, _, by omega, by go_num, by go_num, by go_num, rfl, by omega, by omega, by omega, by omega, Lib.hid (hfin.out v' w2 hown2 hg2)⟩
                  case measure => simp [intOf] <;> omega
                · have he := hgo; rw [if_neg (by omega), List.nil_append] at he
                  have hfin := Lib.hid (hI.out.skip he)
                  clear hgo he
                  go_wp2
                  go_roundw
                  case rel => exact ⟨k + 1, (k : Int) + 1, j + 1, v, p, done, by omega, by go_num, by go_num, by go_num, rfl, by omega, by omega, by omega, by omega, hfin⟩
                  case measure => simp [intOf] <;> omega
          · by_cases hkl : k = n
            · subst hkl
              have hgo := chR_go (N := N) (l := l) (k := k) (x := x) (y := y) (by omega) (.inr ⟨hl.symm, rfl⟩)
              have hNe : (N == -1) = false := by simp; omega
              clear hBe
              by_cases hx : x < (k : Int)
              · have he := hgo; rw [if_pos (.inl hx)] at he
                have hfin := Lib.hid (fun v' w2 => hI.out.put (v' := v') (w2 := w2) (o := .cells #[.int .i64 x, .int .i64 (k : Int), .int .i64 y, .int .i64 N] 43) he)
                clear hgo he
                go_wp2_with (at_builtin; refine wpList_append_own_at _ rfl _ _ 24 rfl w.heap.size 43 i0 (.agg #[.int .i64 0, .int .i64 0, .int .i64 0, .int .i64 0]) 4 32 Try.underlying24 hi hz0 hz1 hz2 rfl (by decide) v p _ rfl (hown.alloc _) ⟨wo.heap.size, 0, none⟩ 1 1 (chC ((x, (k : Int)), (y, N))) rfl rfl (cell_new4 _ _ _ _ _ _) (chC_one _) hmax.out.1 hmax.out.2 (by simp; omega) ?_; intro v' w2 hown2 hg2 hnil2 hloc2; clear hnil2)
                go_roundw
                case rel => exact ⟨k + 1, (k : Int) + 1, N + 1, v', p + 1, _, by omega, by go_num, by go_num, by go_num, rfl, by omega, by omega, by omega, by omega, Lib.hid (hfin.out v' w2 hown2 hg2)⟩
                case measure => simp [intOf] <;> omega
              · have hxf : decide (x < (k : Int)) = false := by simp; omega
                by_cases hy : y < N
                · have he := hgo; rw [if_pos (.inr hy)] at he
                  have hfin := Lib.hid (fun v' w2 => hI.out.put (v' := v') (w2 := w2) (o := .cells #[.int .i64 x, .int .i64 (k : Int), .int .i64 y, .int .i64 N] 43) he)
                  clear hgo he
                  go_wp2_with (at_builtin; refine wpList_append_own_at _ rfl _ _ 24 rfl w.heap.size 43 i0 (.agg #[.int .i64 0, .int .i64 0, .int .i64 0, .int .i64 0]) 4 32 Try.underlying24 hi hz0 hz1 hz2 rfl (by decide) v p _ rfl (hown.alloc _) ⟨wo.heap.size, 0, none⟩ 1 1 (chC ((x, (k : Int)), (y, N))) rfl rfl (cell_new4 _ _ _ _ _ _) (chC_one _) hmax.out.1 hmax.out.2 (by simp; omega) ?_; intro v' w2 hown2 hg2 hnil2 hloc2; clear hnil2)
                  go_roundw
                  case rel => exact ⟨k + 1, (k : Int) + 1, N + 1, v', p + 1, _, by omega, by go_num, by go_num, by go_num, rfl, by omega, by omega, by omega, by omega, Lib.hid (hfin.out v' w2 hown2 hg2)⟩
                  case measure => simp [intOf] <;> omega
                · have he := hgo; rw [if_neg (by omega), List.nil_append] at he
                  have hfin := Lib.hid (hI.out.skip he)
                  clear hgo he
                  go_wp2
                  go_roundw
                  case rel => exact ⟨k + 1, (k : Int) + 1, N + 1, v, p, done, by omega, by go_num, by go_num, by go_num, rfl, by omega, by omega, by omega, by omega, hfin⟩
                  case measure => simp [intOf] <;> omega
            · have hfin : Hid (chs l N = done) := Lib.hid (by rw [hI.out.2.2.2.2]; unfold chR; rw [if_neg (by omega), List.append_nil])
              have hkf : ¬ ((k : Int) ≤ (n : Int)) := by omega
              have hdl := hI.out.2.1
              go_wp2
              go_ret2
              obtain ⟨Ao, co, rfl, q1, q2, q3⟩ := chs_of_own hown
              exact ⟨Ao, p, co, rfl, by rw [hfin.out, hdl], q1, q2, by rw [hfin.out]; exact q3, hBe⟩
end Go.Proofs.Ytjbgiaekckdoaaa
