/- Proved here: package edit's iterator pairs; and how between makes its own. -/
import Derived.Test.YtijinhhlikhjfaaSeqs
import Derived.Test.YtijinhhlikhjfaaEditFns
import Derived.Shelf.Abstract
import Derived.WalkKit
import Derived.OwnWalkIn
import Derived.TacticsInMore
import Derived.LoopNIn
import Derived.LoopIn
namespace Go.Proofs.Ytijinhhlikhjfaa
open Go.RowKit Go.Shelf
set_option linter.unusedVariables false
attribute [local go_sem] Oper.semAt_some

theorem pairs_any (A : Option Addr) (n c : Nat) (w : World) : Calls Try.prog 23 #[.slice A n c] w fun e w' => e = .returned (.func (.func 38) #[] #[.pointer (some ⟨w.heap.size, 0, none⟩)]) ∧ w' = w.alloc (.cells #[.slice A n c] 26) := by
  go_enter Try.func23, Try.ntmps23
  go_wp2
  go_ret
  exact ⟨rfl, rfl⟩
theorem between_any (f : Nat) (B : Nat) (m n : Int) (w : World) : Calls Try.prog 22 #[.func (.func f) #[] #[.pointer (some ⟨B, 0, none⟩)], .int .i64 m, .int .i64 n] w fun e w' =>
    e = .returned (.func (.func 35) #[] #[.pointer (some ⟨w.heap.size, 0, none⟩), .pointer (some ⟨w.heap.size + 1, 0, none⟩), .pointer (some ⟨w.heap.size + 1 + 1, 0, none⟩)]) ∧
    w' = ((w.alloc (.cells #[.func (.func f) #[] #[.pointer (some ⟨B, 0, none⟩)]] 57)).alloc (.cells #[.int .i64 m] 3)).alloc (.cells #[.int .i64 n] 3) := by
  go_enter Try.func22, Try.ntmps22
  go_wp2
  go_ret
  exact ⟨rfl, rfl⟩

theorem prL_append : ∀ (a b : List Int) (i : Int), prL (a ++ b) i = prL a i ++ prL b (i + a.length)
  | [], b, i => by simp [prL]
  | v :: a, b, i => by
    rw [List.cons_append, prL, prL, prL_append a b (i + 1), show i + 1 + (a.length : Int) = i + ((v :: a).length : Int) by simp only [List.length_cons]; push_cast; omega]
    split <;> rfl
/-- The parts that pairs tells. -/
def parts (l : List Int) : List Ch := (prL l 0).map pt
theorem parts_next {l : List Int} {k : Nat} {v : Int} (h : l[k]? = some v) (hv : v ≠ -1) : parts (l.take (k + 1)) = parts (l.take k) ++ [pt ((k : Int), v)] ∧ parts l = parts (l.take k) ++ pt ((k : Int), v) :: (prL (l.drop (k + 1)) (k + 1)).map pt := by
  have hk := (List.getElem?_eq_some_iff.1 h).1
  have hl : (l.take k).length = k := by rw [List.length_take]; omega
  have h1 : parts (l.take (k + 1)) = parts (l.take k) ++ [pt ((k : Int), v)] := by
    unfold parts
    rw [take_at h, prL_append, hl]
    simp [prL, hv]
  refine ⟨h1, ?_⟩
  have h2 : parts l = parts (l.take (k + 1)) ++ (prL (l.drop (k + 1)) (k + 1)).map pt := by
    conv => lhs; rw [← List.take_append_drop (k + 1) l]
    unfold parts
    rw [prL_append, List.map_append, show (0 : Int) + ((l.take (k + 1)).length : Int) = (k : Int) + 1 by rw [List.length_take]; omega]
  rw [h2, h1, List.append_assoc]
  rfl
theorem parts_skip {l : List Int} {k : Nat} (h : l[k]? = some (-1)) : parts (l.take (k + 1)) = parts (l.take k) := by
  unfold parts
  rw [take_at h, prL_append]
  simp [prL]

/-- The block in which a slice's cells lie. -/
def RowOf (A : Option Addr) (n k : Nat) : Prop := 0 < n ∧ ∃ o, A = some ⟨k, o, none⟩
theorem Nums.rowLt {w : World} {B n k : Nat} {A : Option Addr} {xs : List Int} (h : Nums w B A n xs) (hr : RowOf A n k) : k < B := by
  obtain ⟨hn, o, rfl⟩ := hr
  obtain ⟨b, o', e, hb, -⟩ := h.2 hn
  injection e with e
  injection e with e1 _
  subst e1
  exact hb
theorem Chs.rowLt {w : World} {B n k : Nat} {A : Option Addr} {cs : List Ch} (h : Chs w B A n cs) (hr : RowOf A n k) : k < B := by
  obtain ⟨hn, o, rfl⟩ := hr
  obtain ⟨b, o', e, hb, -⟩ := h.2 hn
  injection e with e
  injection e with e1 _
  subst e1
  exact hb
theorem Nums.left {w w' : World} {B n b k : Nat} {A : Option Addr} {xs : List Int} (h : Nums w B A n xs) (hB : B ≤ w.heap.size) (hl : Leaves (RowOf A n) b k w w') : Nums w' B A n xs := by
  refine ⟨h.1, fun hn => ?_⟩
  obtain ⟨b, o, rfl, hlt, hc⟩ := h.2 hn
  exact ⟨b, o, rfl, hlt, fun i u hu => (World.cell?_of_block (w := w) (hl.kept b (by omega) (.inl ⟨hn, o, rfl⟩))).trans (hc i u hu)⟩
theorem Chs.left {w w' : World} {B n b k : Nat} {A : Option Addr} {cs : List Ch} (h : Chs w B A n cs) (hB : B ≤ w.heap.size) (hl : Leaves (RowOf A n) b k w w') : Chs w' B A n cs := by
  refine ⟨h.1, fun hn => ?_⟩
  obtain ⟨b, o, rfl, hlt, hc⟩ := h.2 hn
  refine ⟨b, o, rfl, hlt, fun i c hi => ?_⟩
  have key : ∀ q, w'.cell? ⟨b, q, none⟩ = w.cell? ⟨b, q, none⟩ := fun q => World.cell?_of_block (w := w) (hl.kept b (by omega) (.inl ⟨hn, o, rfl⟩))
  obtain ⟨h1, h2, h3, h4⟩ := hc i c hi
  exact ⟨(key _).trans h1, (key _).trans h2, (key _).trans h3, (key _).trans h4⟩

set_option maxRecDepth 100000 in
set_option maxHeartbeats 2000000 in
theorem pairs_iter (n : Nat) (hn : 1 ≤ n) (Bs : Nat) (A : Option Addr) (len cap : Nat) (xs : List Int) (N : Int) (w : World) (hN : N ≤ 2000) (hm : may xs N = true) (hlen : len ≤ 2000) (hA : Nums w w.heap.size A len xs)
    (hBs : w.cell? ⟨Bs, 0, none⟩ = some (.slice A len cap)) (hB : Bs < w.heap.size) :
    Iter Fence.wide n Try.prog 38 #[.pointer (some ⟨Bs, 0, none⟩)] (fun c => #[chA c]) (RowOf A len) 0 (parts xs) w := by
  intro l J Jx W hbW hJ hJx hY h0
  have hAW := hA.up hbW
  have hBW : W.cell? ⟨Bs, 0, none⟩ = some (.slice A len cap) := (hbW.cell (p := ⟨Bs, 0, none⟩) hB).trans hBs
  have hmm := (may_parts hm).2
  have hxl := hA.len
  refine callsIn_of_wp Try.func38 rfl trivial ?_ rfl
  simp only [Try.ntmps38, List.size_toArray, List.length_cons, List.length_nil, Nat.reduceAdd, Nat.reduceSub, Array.replicate_succ, Array.replicate_zero, List.push_toArray, List.append_toArray, List.nil_append, List.cons_append]
  gi_wp2
  gi_loopw [3, 4, 7] (fun s3 s4 i wr => ∃ k : Nat, k ≤ len ∧ i = .int .i64 k ∧ J (parts (xs.take k)) wr ∧ Leaves (RowOf A len) W.heap.size 0 W wr)
    (fun s3 s4 i _ => len - (intOf i).toNat)
  case atStart => exact ⟨0, Nat.zero_le _, rfl, h0, Leaves.refl _ _ _ _⟩
  case round =>
    obtain ⟨k, hk, rfl, hJs, hlv⟩ := hrel
    by_cases hlt : k < len
    · obtain ⟨b, o, v, rfl, hb, hv, hc⟩ := (hAW.left (Nat.le_refl _) hlv).at_ hlt
      by_cases hj : v = -1
      · subst hj
        have hsk := Lib.hid (parts_skip hv)
        gi_wp2
        refine ⟨trivial, ?_⟩
        gi_wp2
        refine ⟨fun _ h => (by cases h), ?_⟩
        gi_wp2
        go_roundw
        case rel => exact ⟨k + 1, by omega, by simp, by rw [hsk.out]; exact hJs, hlv⟩
        case measure => simp [intOf]; omega
      · have hvr := mayL_mem hmm v (List.mem_of_getElem? hv) hj
        have hvn : (v != -1) = true := by simpa using hj
        have hvn2 : (v == -1) = false := by simpa using hj
        have hnx := Lib.hid (parts_next hv hj)
        have hp := Lib.hid (pair_any (k : Int) v wr (by omega) (by omega) hvr.1 (by omega))
        have hYw := Lib.hid (fun (w1 : World) (hb1 : Below wr.heap.size wr w1) => hY (parts (xs.take k)) (pt ((k : Int), v)) w1 (hJ.below hJs hb1) (by have := hlv.size; have := hb1.size; omega) ⟨_, hnx.out.2⟩)
        gi_wp2_with (refine ⟨trivial, ?_⟩; gi_at_call 37; refine (callsIn_wide.2 hp.out).mono ?_; rintro e w1 ⟨rfl, hb1⟩; obtain ⟨fn, tmps, assign, body, hy, hR⟩ := hYw.out w1 hb1; dsimp only [chA, pt] at hy)
        refine hR.mono ?_
        rintro e W3 (⟨rfl, hJ3, hk3⟩ | ⟨rfl, hJx3, hk3⟩)
        · gi_wp2
          go_roundw
          case rel => exact ⟨k + 1, by omega, by simp, by rw [hnx.out.1]; exact hJ3, hlv.trans ((Leaves.below hb1).trans hk3)⟩
          case measure => simp [intOf]; omega
        · gi_wp2
          refine bodyPost_ret (results_none rfl _ _ _) rfl ?_
          exact ⟨⟨_, rfl⟩, .inr ⟨_, ⟨_, by rw [hnx.out.2, List.append_assoc]; rfl⟩, hJx3⟩⟩
    · obtain rfl : k = len := by omega
      gi_wp2
      go_end0
      exact ⟨⟨_, rfl⟩, .inl (by rw [List.take_of_length_le (by omega)] at hJs; exact hJs)⟩
end Go.Proofs.Ytijinhhlikhjfaa
