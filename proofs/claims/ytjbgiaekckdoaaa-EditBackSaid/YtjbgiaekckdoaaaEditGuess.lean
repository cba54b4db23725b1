/- Proved here: contracts of the document's own answers of layer 4: guess, Match. -/
import Derived.Test.YtjbgiaekckdoaaaEditSame
import Derived.OwnWalk
import Derived.Maps.AppendAt
namespace Go.Proofs.Ytjbgiaekckdoaaa
open Go.RowKit
set_option linter.unusedVariables false

/-- Numbers were made, and nothing that was there has turned. -/
def NewNums (w w' : World) (e : Ending) (xs : List Int) : Prop := ∃ A n c, e = .returned (.slice A n c) ∧ n = xs.length ∧ n ≤ c ∧ c ≤ maxLen ∧ Nums w' w'.heap.size A n xs ∧ Below w.heap.size w w'

theorem inOld_step {l : List Ch} {k : Nat} {c : Ch} {i : Int} {ob ob' : Bool} (h : l[k]? = some c) (he : ob' = (ob || (decide (c.1.1 ≤ i) && decide (i < c.1.2)))) : (ob || inOld (l.drop k) i) = (ob' || inOld (l.drop (k + 1)) i) := by
  rw [drop_at h, he]
  unfold inOld
  rw [List.any_cons, Bool.or_assoc]
theorem skip_go {l : List Ch} {N j : Int} (h1 : j < N) (h2 : inNew l j = true) : skipTo l N (N - j).toNat j = skipTo l N (N - (j + 1)).toNat (j + 1) := by
  rw [show (N - j).toNat = (N - (j + 1)).toNat + 1 by omega, skipTo, if_pos ⟨h1, h2⟩]
theorem skip_end {l : List Ch} {N j : Int} (h : N ≤ j ∨ inNew l j = false) : ∀ f, skipTo l N f j = j
  | 0 => rfl
  | f + 1 => by
    rw [skipTo, if_neg]
    rintro ⟨h1, h2⟩
    rcases h with h | h
    · omega
    · rw [h] at h2; cases h2
theorem guess_go {l : List Ch} {N i j s : Int} {r : Nat} {ob : Bool} (hs : skipTo l N (N - j).toNat j = s) (ho : inOld l i = ob) : guessL l N (r + 1) i j = if ob = true ∨ N ≤ s then -1 :: guessL l N r (i + 1) s else s :: guessL l N r (i + 1) (s + 1) := by
  rw [guessL, hs, ho]

theorem gu_miss {l : List Ch} {m i : Nat} {N j s : Int} {ob : Bool} {done : List Int} (h : guess l m N = done ++ guessL l N (m - i) i j) (hi : i < m) (hs : skipTo l N (N - j).toNat j = s) (ho : inOld l i = ob) (hc : ob = true ∨ N ≤ s) :
    guess l m N = (done ++ [-1]) ++ guessL l N (m - (i + 1)) ((i + 1 : Nat) : Int) s := by
  rw [h, show m - i = (m - (i + 1)) + 1 by omega, guess_go hs ho, if_pos hc]
  simp
theorem gu_hit {l : List Ch} {m i : Nat} {N j s : Int} {ob : Bool} {done : List Int} (h : guess l m N = done ++ guessL l N (m - i) i j) (hi : i < m) (hs : skipTo l N (N - j).toNat j = s) (ho : inOld l i = ob) (hc : ¬ (ob = true ∨ N ≤ s)) :
    guess l m N = (done ++ [s]) ++ guessL l N (m - (i + 1)) ((i + 1 : Nat) : Int) (s + 1) := by
  rw [h, show m - i = (m - (i + 1)) + 1 by omega, guess_go hs ho, if_neg hc]
  simp

set_option maxRecDepth 100000 in
set_option maxHeartbeats 2000000 in
theorem guess_any (A : Option Addr) (n c B m : Nat) (l : List Ch) (N : Int) (w : World) (hn : n ≤ 5000) (hm : m ≤ 2000) (hN0 : 0 ≤ N) (hN : N ≤ 2000) (hA : Chs w B A n l) (hB : B ≤ w.heap.size) :
    Calls Try.prog 26 #[.slice A n c, .int .i64 m, .int .i64 N] w fun e w' => NewNums w w' e (guess l m N) := by
  have hl := hA.len
  obtain ⟨i0, hi, hz0, hz1, hz2⟩ := info_parts infoInt
  have hg0 : guess l m N = guessL l N (m - 0) 0 0 := by unfold guess; simp
  have hA0 := Lib.hid hA
  go_enter Try.func26, Try.ntmps26
  go_wp2
  go_loopw [7, 8, 9, 10, 11] (fun s7 s8 s9 _ _ wr => ∃ (i : Nat) (j : Int) (v : Value) (done : List Int), i ≤ m ∧ s9 = .int .i64 i ∧ s8 = .int .i64 j ∧ v = s7 ∧ 0 ≤ j ∧ j ≤ N ∧ done.length = i ∧ Hid (guess l m N = done ++ guessL l N (m - i) i j) ∧ wr.ownsRow w.heap.size 3 1 v i (done.map fun x => .int .i64 x) ∧ Below w.heap.size w wr) (fun _ _ s9 _ _ _ => m - (intOf s9).toNat)
  case atStart => exact ⟨0, 0, _, [], Nat.zero_le _, rfl, rfl, rfl, Int.le_refl _, hN0, rfl, Lib.hid hg0, World.ownsRow_nil _ _ _ _, Below.refl _ _⟩
  case round =>
    obtain ⟨i, j, v, done, him, rfl, rfl, rfl, hj0, hjN, hdl, hgu, hown, hBe⟩ := hrel
    obtain ⟨wo, rfl⟩ : ∃ wo : World, wo = wr := ⟨_, rfl⟩
    clear hg0
    have hdl' := Lib.hid hdl
    clear hdl
    by_cases him2 : i < m
    · have hAo : Chs wo wo.heap.size A n l := (hA0.out.more hB).up hBe
      have hin := Lib.hid (fun j => inNew_any A n c wo.heap.size l j wo (by unfold maxLen; omega) hAo)
      have hAh := Lib.hid hAo
      clear hA
      go_wp2
      go_loop [10, 11] (fun s10 s11 => ∃ (k : Nat) (ob : Bool), k ≤ n ∧ s11 = .int .i64 k ∧ s10 = .bool ob ∧ Hid (inOld l i = (ob || inOld (l.drop k) i))) (fun _ s11 => n - (intOf s11).toNat)
      case atStart => exact ⟨0, false, Nat.zero_le _, rfl, rfl, Lib.hid (by simp)⟩
      case round =>
        obtain ⟨k, ob, hk, rfl, rfl, hq⟩ := hrel
        by_cases hkn : k < n
        · obtain ⟨g, o, ⟨⟨x1, x2⟩, y1, y2⟩, rfl, hg, hv, c1, c2, c3, c4⟩ := hAh.out.at_ (k := k) hkn
          cases ob
          · by_cases h1 : x1 ≤ (i : Int)
            · by_cases h2 : (i : Int) < x2
              · have hq2 := Lib.hid (hq.out.trans (inOld_step (ob' := true) hv (by simp [h1, h2])))
                go_wp2
                go_round
                case rel => exact ⟨k + 1, true, by omega, by go_num, rfl, hq2⟩
                case measure => simp [intOf] <;> omega
              · have hq2 := Lib.hid (hq.out.trans (inOld_step (ob' := false) hv (by simp [h2])))
                have h2' : decide ((i : Int) < x2) = false := by simp; omega
                go_wp2
                go_round
                case rel => exact ⟨k + 1, false, by omega, by go_num, rfl, hq2⟩
                case measure => simp [intOf] <;> omega
            · have hq2 := Lib.hid (hq.out.trans (inOld_step (ob' := false) hv (by simp [h1])))
              have h1' : decide (x1 ≤ (i : Int)) = false := by simp; omega
              go_wp2
              go_round
              case rel => exact ⟨k + 1, false, by omega, by go_num, rfl, hq2⟩
              case measure => simp [intOf] <;> omega
          · have hq2 := Lib.hid (hq.out.trans (inOld_step (ob' := true) hv (by simp)))
            go_wp2
            go_round
            case rel => exact ⟨k + 1, true, by omega, by go_num, rfl, hq2⟩
            case measure => simp [intOf] <;> omega
        · obtain rfl : k = n := by omega
          have hold : Hid (inOld l i = ob) := Lib.hid (by rw [hq.out, List.drop_of_length_le (by omega)]; simp [inOld])
          clear hq
          go_wp2
          go_loop [8] (fun s8 => ∃ j' : Int, s8 = .int .i64 j' ∧ j ≤ j' ∧ j' ≤ N ∧ Hid (skipTo l N (N - j).toNat j = skipTo l N (N - j').toNat j')) (fun s8 => (N - intOf s8).toNat)
          case atStart => exact ⟨j, rfl, Int.le_refl _, hjN, Lib.hid rfl⟩
          case round =>
            obtain ⟨j', rfl, hjj, hjN', hs⟩ := hrel
            have hin' := Lib.hid (hin.out j')
            obtain ⟨nb, hnb⟩ : ∃ nb, inNew l j' = nb := ⟨_, rfl⟩
            rw [hnb] at hin'
            have hnb' := Lib.hid hnb
            clear hnb
            have hmax : Hid (i + 1 ≤ maxLen ∧ (i + 1) * 8 ≤ 140737488355328) := Lib.hid ⟨by unfold maxLen; omega, by omega⟩
            have hso := hBe.size
            by_cases hjn : j' < N
            · cases nb
              · have hsk : skipTo l N (N - j).toNat j = j' := hs.out.trans (skip_end (.inr hnb'.out) _)
                cases ob
                · have hfin := Lib.hid (gu_hit hgu.out him2 hsk hold.out (by simp; omega))
                  have hNj : ¬ (N ≤ j') := by omega
                  clear hsk
                  go_wp2_with (first
                    | (go_at_call 34; refine hin'.out.mono ?_; rintro e w' ⟨rfl, rfl⟩)
                    | (at_builtin; refine wpList_append_own_at _ rfl _ _ 22 rfl w.heap.size 3 i0 (.int .i64 0) 1 8 Try.underlying22 hi hz0 hz1 hz2 rfl (by decide) v i _ rfl (hown.alloc _) ⟨wo.heap.size, 0, none⟩ 1 1 [.int .i64 (j')] rfl rfl (cell_one_new _ _ _) (by simp [Value.oneCell']) hmax.out.1 hmax.out.2 (by simp; omega) ?_; intro v' w2 hown2 hg2 hnil2 hloc2; clear hnil2))
                  go_roundw
                  case rel => exact ⟨i + 1, j' + 1, v', done ++ [j'], by omega, by go_num, by go_num, rfl, by omega, by omega, by simp [hdl'.out], hfin, by simpa using hown2, (hBe.alloc hso _).grown hg2 (by simp; omega) (fun j e => (hown.lt j e).1)⟩
                  case measure => simp [intOf] <;> omega
                · have hfin := Lib.hid (gu_miss hgu.out him2 hsk hold.out (.inl rfl))
                  clear hsk
                  go_wp2_with (first
                    | (go_at_call 34; refine hin'.out.mono ?_; rintro e w' ⟨rfl, rfl⟩)
                    | (at_builtin; refine wpList_append_own_at _ rfl _ _ 22 rfl w.heap.size 3 i0 (.int .i64 0) 1 8 Try.underlying22 hi hz0 hz1 hz2 rfl (by decide) v i _ rfl (hown.alloc _) ⟨wo.heap.size, 0, none⟩ 1 1 [.int .i64 (-1)] rfl rfl (cell_one_new _ _ _) (by simp [Value.oneCell']) hmax.out.1 hmax.out.2 (by simp; omega) ?_; intro v' w2 hown2 hg2 hnil2 hloc2; clear hnil2))
                  go_roundw
                  case rel => exact ⟨i + 1, j', v', done ++ [-1], by omega, by go_num, by go_num, rfl, by omega, by omega, by simp [hdl'.out], hfin, by simpa using hown2, (hBe.alloc hso _).grown hg2 (by simp; omega) (fun j e => (hown.lt j e).1)⟩
                  case measure => simp [intOf] <;> omega
              · have hs2 := Lib.hid (hs.out.trans (skip_go hjn hnb'.out))
                go_wp2_with (go_at_call 34; refine hin'.out.mono ?_; rintro e w' ⟨rfl, rfl⟩)
                go_round
                case rel => exact ⟨j' + 1, by go_num, by omega, by omega, hs2⟩
                case measure => simp [intOf] <;> omega
            · have hsk : skipTo l N (N - j).toNat j = j' := hs.out.trans (skip_end (.inl (by omega)) _)
              have hfin := Lib.hid (gu_miss hgu.out him2 hsk hold.out (.inr (by omega)))
              have hjf : decide (j' < N) = false := by simp; omega
              have hNj : N ≤ j' := by omega
              clear hsk
              cases ob
              · go_wp2_with (at_builtin; refine wpList_append_own_at _ rfl _ _ 22 rfl w.heap.size 3 i0 (.int .i64 0) 1 8 Try.underlying22 hi hz0 hz1 hz2 rfl (by decide) v i _ rfl (hown.alloc _) ⟨wo.heap.size, 0, none⟩ 1 1 [.int .i64 (-1)] rfl rfl (cell_one_new _ _ _) (by simp [Value.oneCell']) hmax.out.1 hmax.out.2 (by simp; omega) ?_; intro v' w2 hown2 hg2 hnil2 hloc2; clear hnil2)
                go_roundw
                case rel => exact ⟨i + 1, j', v', done ++ [-1], by omega, by go_num, by go_num, rfl, by omega, by omega, by simp [hdl'.out], hfin, by simpa using hown2, (hBe.alloc hso _).grown hg2 (by simp; omega) (fun j e => (hown.lt j e).1)⟩
                case measure => simp [intOf] <;> omega
              · go_wp2_with (at_builtin; refine wpList_append_own_at _ rfl _ _ 22 rfl w.heap.size 3 i0 (.int .i64 0) 1 8 Try.underlying22 hi hz0 hz1 hz2 rfl (by decide) v i _ rfl (hown.alloc _) ⟨wo.heap.size, 0, none⟩ 1 1 [.int .i64 (-1)] rfl rfl (cell_one_new _ _ _) (by simp [Value.oneCell']) hmax.out.1 hmax.out.2 (by simp; omega) ?_; intro v' w2 hown2 hg2 hnil2 hloc2; clear hnil2)
                go_roundw
                case rel => exact ⟨i + 1, j', v', done ++ [-1], by omega, by go_num, by go_num, rfl, by omega, by omega, by simp [hdl'.out], hfin, by simpa using hown2, (hBe.alloc hso _).grown hg2 (by simp; omega) (fun j e => (hown.lt j e).1)⟩
                case measure => simp [intOf] <;> omega
    · obtain rfl : i = m := by omega
      have hfin : Hid (guess l i N = done) := Lib.hid (by rw [hgu.out, Nat.sub_self]; simp [guessL])
      go_wp2
      go_ret
      obtain ⟨Ao, co, rfl, q1, q2, q3⟩ := nums_of_own hown
      exact ⟨Ao, i, co, rfl, by rw [hfin.out, hdl'.out], q1, q2, by rw [hfin.out]; exact q3, hBe⟩
end Go.Proofs.Ytjbgiaekckdoaaa
