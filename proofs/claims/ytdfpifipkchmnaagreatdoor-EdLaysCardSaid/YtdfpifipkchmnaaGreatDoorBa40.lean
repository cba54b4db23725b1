/- Proved here: texts joined: EdIt, EdIt2. -/
import Derived.Test.YtdfpifipkchmnaaGreatDoorBa14
import Derived.Test.YtdfpifipkchmnaaGreatDoorBa17
import Derived.Test.YtdfpifipkchmnaaGreatDoorBa26
import Derived.Test.YtdfpifipkchmnaaGreatDoorBa39
import Derived.Lib.IndexLaws
import Derived.Shelf.Abstract
import Derived.WalkKit
import Derived.OwnWalkIn
import Derived.TacticsInMore
import Derived.LoopNIn
import Derived.LoopIn
import Derived.Deep.DeepCutAuto
/- Proved here: strings.Index at a comma; the iterator that strings.SplitSeq tells. -/
namespace Go.Proofs.YtdfpifipkchmnaaGreatDoor
open Go.RowKit Go.Shelf
set_option linter.unusedVariables false
set_option maxRecDepth 100000
attribute [local go_sem] Oper.semAt_some

theorem idx_at : ∀ (a b : Tx), (44 : UInt8) ∉ a → Lib.indexByte (a ++ 44 :: b) 44 = (a.length : Int)
  | [], b, _ => by simp [Lib.indexByte]
  | c :: a, b, h => by
    have hc : (c == 44) = false := by rw [beq_eq_false_iff_ne]; exact fun e => h (by rw [e]; exact List.mem_cons_self ..)
    have ih := idx_at a b fun hr => h (List.mem_cons_of_mem _ hr)
    rw [List.cons_append, Lib.indexByte, hc, ih]
    simp only [Bool.false_eq_true, if_false]
    rw [if_neg (by rw [beq_iff_eq]; omega), List.length_cons]
    push_cast
    rfl
theorem idx_no : ∀ (a : Tx), (44 : UInt8) ∉ a → Lib.indexByte a 44 = -1
  | [], _ => rfl
  | c :: a, h => by
    have hc : (c == 44) = false := by rw [beq_eq_false_iff_ne]; exact fun e => h (by rw [e]; exact List.mem_cons_self ..)
    have ih := idx_no a fun hr => h (List.mem_cons_of_mem _ hr)
    rw [Lib.indexByte, hc, ih]
    rfl
set_option maxHeartbeats 1000000 in
theorem indexL_any (t : Tx) (w : World) : Calls Tryz.prog 94 #[.string (str t), .string ⟨#[44]⟩] w fun e w' => e = .returned (.int .i64 (Lib.indexByte t 44)) ∧ w' = w := by
  have h1 : (⟨#[44]⟩ : ByteArray).size = 1 := rfl
  have hB := Lib.hid (indexByteL_any (str t) 44 w)
  obtain ⟨r, hr⟩ : ∃ r, Lib.indexByte t 44 = r := ⟨_, rfl⟩
  have hBr : Hid (Lib.indexByte (str t).data.toList (44 : Int).toNat.toUInt8 = r) := Lib.hid (by rw [str_data, ← hr]; rfl)
  rw [hr]
  by_cases he : t = [44]
  · have e1 : ([44] == (str t).toList) = true := by rw [Lib.toList_data, str_data, he]; rfl
    have hr0 : Hid (r = 0) := Lib.hid (by rw [← hr, he]; rfl)
    obtain ⟨S, hS⟩ : ∃ S, str t = S := ⟨_, rfl⟩
    rw [hS] at hB e1 hBr ⊢
    clear hS hr
    go_enter Tryz.func94, Tryz.ntmps94
    go_wp2
    go_ret
    exact ⟨ret_int hr0.out.symm, rfl⟩
  · have e1 : ([44] == (str t).toList) = false := by rw [Lib.toList_data, str_data, beq_eq_false_iff_ne]; exact fun h => he h.symm
    obtain ⟨S, hS⟩ : ∃ S, str t = S := ⟨_, rfl⟩
    rw [hS] at hB e1 hBr ⊢
    clear hS hr
    go_enter Tryz.func94, Tryz.ntmps94
    go_wp2_with (go_at_call 70; refine hB.out.mono ?_; rintro e w' ⟨rfl, rfl⟩)
    go_ret
    exact ⟨ret_int hBr.out, rfl⟩
theorem index_any (t : Tx) (w : World) : Calls Tryz.prog 80 #[.string (str t), .string ⟨#[44]⟩] w fun e w' => e = .returned (.int .i64 (Lib.indexByte t 44)) ∧ w' = w := by
  have h := Lib.hid (indexL_any t w)
  go_enter Tryz.func80, Tryz.ntmps80
  go_wp2_with (go_at_call 94; refine h.out.mono ?_; rintro e w' ⟨rfl, rfl⟩)
  go_ret
  exact ⟨rfl, rfl⟩
theorem split_any (s p : ByteArray) (w : World) : Calls Tryz.prog 52 #[.string s, .string p] w fun e w' =>
    e = .returned (.func (.func 79) #[] #[.pointer (some ⟨w.heap.size + 1, 0, none⟩), .pointer (some ⟨w.heap.size, 0, none⟩), .pointer (some ⟨w.heap.size + 1 + 1, 0, none⟩)]) ∧
    w' = ((w.alloc (.cells #[.string s] 9)).alloc (.cells #[.string p] 9)).alloc (.cells #[.int .i64 0] 3) := by
  go_enter Tryz.func52, Tryz.ntmps52
  go_wp2
  go_ret
  exact ⟨rfl, rfl⟩

/-- How long a text in a box is. -/
def boxLen (B : Nat) (V : World) : Nat := match V.cell? ⟨B, 0, none⟩ with
  | some (.string S) => S.size
  | _ => 0
theorem boxLen_of {B : Nat} {V : World} {t : TypeId} {r : Tx} (h : Boxed V B t (.string (str r))) : boxLen B V = r.length := by
  unfold boxLen
  rw [h.cell]
  exact str_size r
end Go.Proofs.YtdfpifipkchmnaaGreatDoor
/- Proved here: what the iterator of strings.SplitSeq owes. -/
namespace Go.Proofs.YtdfpifipkchmnaaGreatDoor
open Go.RowKit Go.Shelf
set_option linter.unusedVariables false
set_option maxRecDepth 100000
attribute [local go_sem] Oper.semAt_some

set_option maxHeartbeats 4000000 in
theorem split_iter (Bp Bs Bn : Nat) (s : Tx) (w : World) (hs : s.length ≤ 1000000) (h1 : Boxed w Bp 9 (.string ⟨#[44]⟩)) (h2 : Boxed w Bs 9 (.string (str s))) (h3 : Boxed w Bn 3 (.int .i64 0)) (hps : Bp ≠ Bs) (hns : Bn ≠ Bs) :
    IterW Tryz.prog 79 #[.pointer (some ⟨Bp, 0, none⟩), .pointer (some ⟨Bs, 0, none⟩), .pointer (some ⟨Bn, 0, none⟩)] (fun p : Tx => #[.string (str p)]) (fun r => r = Bs) (fun r => r = Bp ∨ r = Bn) (splitC s) w := by
  intro l J Jp W hbW hJ hY h0
  have k1 : Boxed W Bp 9 (.string ⟨#[44]⟩) := (hbW.block _ h1.lt).trans h1
  have k2 : Boxed W Bs 9 (.string (str s)) := (hbW.block _ h2.lt).trans h2
  have k3 : Boxed W Bn 3 (.int .i64 0) := (hbW.block _ h3.lt).trans h3
  have x1 := k1.cell
  have hsz1 : (⟨#[44]⟩ : ByteArray).size = 1 := rfl
  have hJh := Lib.hid hJ
  have hYh := Lib.hid hY
  have hk := Lib.hid (And.intro k1 (And.intro k2 k3))
  clear hJ hY k1 k2 k3 h1 h2 h3 hbW
  refine (callsIn_wide (n := 1)).1 ?_
  refine callsIn_of_wp Tryz.func79 rfl trivial ?_ rfl
  simp only [Tryz.ntmps79, List.size_toArray, List.length_cons, List.length_nil, Nat.reduceAdd, Nat.reduceSub, Array.replicate_succ, Array.replicate_zero, List.push_toArray, List.append_toArray, List.nil_append, List.cons_append]
  gi_wp2
  gi_loopw [7, 8] (fun s7 s8 V => ∃ (rem : Tx) (done : List Tx), splitC s = done ++ splitC rem ∧ rem.length ≤ 1000000 ∧ Hid (J done V) ∧ Hid (Boxed V Bs 9 (.string (str rem)) ∧ Boxed V Bp 9 (.string ⟨#[44]⟩) ∧ Boxed V Bn 3 (.int .i64 0) ∧ W.heap.size ≤ V.heap.size))
    (fun s7 s8 V => boxLen Bs V)
  case atStart => exact ⟨s, [], rfl, hs, Lib.hid h0, Lib.hid ⟨hk.out.2.1, hk.out.1, hk.out.2.2, Nat.le_refl _⟩⟩
  case round =>
    obtain ⟨rem, done, hsp, hrl, hJd, hbx⟩ := hrel
    obtain ⟨b1, b2, b3, b4⟩ := hbx.out
    have y1 := b1.cell
    have y2 := b2.cell
    have y3 := b3.cell
    have z1 := b1.frozen
    by_cases hc : (44 : UInt8) ∈ rem
    · obtain ⟨a, b, rfl, ha⟩ := comma_cut hc
      have hal : a.length ≤ 1000000 := by simp at hrl; omega
      have hbl : b.length ≤ 1000000 := by simp at hrl; omega
      have hI := Lib.hid (fun W2 => index_any (a ++ 44 :: b) W2)
      rw [idx_at a b ha] at hI
      have hsp2 : splitC s = done ++ a :: splitC b := by rw [hsp, splitC_at b ha]
      have hsph := Lib.hid hsp2
      have hYw := hYh.out done a (splitC b) wr hsp2 hJd.out b4
      have hs1 : ∀ W2, (Instr.slice 9 (.string (str (a ++ 44 :: b))) none (some (.int .i64 (a.length : Int))) none).run Tryz.prog W2 = .ok (.string (str a)) W2 := fun W2 => by
        have := slice_str_to (a ++ 44 :: b) a.length (by simp) W2
        rwa [List.take_left] at this
      have hs2 : ∀ W2, (Instr.slice 9 (.string (str (a ++ 44 :: b))) (some (.int .i64 ((a.length : Int) + 1))) none none).run Tryz.prog W2 = .ok (.string (str b)) W2 := fun W2 => by
        have := slice_str_from (a ++ 44 :: b) (a.length + 1) (by simp) W2
        rw [show a ++ 44 :: b = (a ++ [44]) ++ b by simp, show a.length + 1 = (a ++ [44]).length by simp, List.drop_left, ← show a ++ 44 :: b = (a ++ [44]) ++ b by simp] at this
        rw [← this]
        simp
      obtain ⟨R, hR⟩ : ∃ R, str (a ++ 44 :: b) = R := ⟨_, rfl⟩
      obtain ⟨Sa, hSa⟩ : ∃ S, str a = S := ⟨_, rfl⟩
      obtain ⟨Sb, hSb⟩ : ∃ S, str b = S := ⟨_, rfl⟩
      obtain ⟨N, hN⟩ : ∃ N, a.length = N := ⟨_, rfl⟩
      have hRl := Lib.hid hR
      have hSbh := Lib.hid hSb
      rw [hR, hSa, hN] at hs1
      rw [hR, hSb, hN] at hs2
      rw [hR, hN] at hI
      rw [hR] at y1
      obtain ⟨fn, tmps, assign, body, hy, hRd⟩ := hYw
      try dsimp only at hy
      rw [hSa] at hy
      have hwr1 : IntKind.i64.wrap (N : Int) = N := by rw [IntKind.wrap_i64]; omega
      have hwr2 : IntKind.i64.wrap ((N : Int) + 1) = (N : Int) + 1 := by rw [IntKind.wrap_i64]; omega
      have hNl : (N : Int) ≤ 1000000 := by omega
      have hN0 : ¬ ((N : Int) < 0) := by omega
      clear hR hSa hSb hN hsp hsp2 hc ha hrl hal b1 b2 b3
      gi_wp2_with (refine ⟨trivial, ?_⟩; gi_at_call 80; refine (callsIn_wide.2 (hI.out _)).mono ?_; rintro e wv ⟨rfl, rfl⟩)
      refine hRd.mono ?_
      rintro e V3 (⟨rfl, hJ3, hs3, hk3⟩ | ⟨chain, rfl, hp3⟩)
      · obtain ⟨b1, b2, b3, b4⟩ := hbx.out
        have c1 := (hk3 _ (.inl rfl)).trans b1
        have c2 : Boxed V3 Bp 9 (.string ⟨#[44]⟩) := (hk3 _ (.inr (.inl rfl))).trans b2
        have c3 : Boxed V3 Bn 3 (.int .i64 0) := (hk3 _ (.inr (.inr rfl))).trans b3
        have c1b : Boxed V3 Bs 9 (.string (str (a ++ 44 :: b))) := c1
        have v1 := c1b.cell
        rw [hRl.out] at v1
        have v2 := c2.cell
        have v3 := c3.cell
        have v4 := c1b.frozen
        have hJ4 : Hid (J (done ++ [a]) (V3.setCell ⟨Bs, 0, none⟩ (.string Sb))) := Lib.hid (hJh.out _ V3 _ hJ3 (by omega) (But.setCell (F := fun r => r = Bs) V3 (p := ⟨Bs, 0, none⟩) rfl _))
        have hb4 : Hid (Boxed (V3.setCell ⟨Bs, 0, none⟩ (.string Sb)) Bs 9 (.string (str b)) ∧ Boxed (V3.setCell ⟨Bs, 0, none⟩ (.string Sb)) Bp 9 (.string ⟨#[44]⟩) ∧ Boxed (V3.setCell ⟨Bs, 0, none⟩ (.string Sb)) Bn 3 (.int .i64 0) ∧ W.heap.size ≤ (V3.setCell ⟨Bs, 0, none⟩ (.string Sb)).heap.size) := Lib.hid (by
          rw [hSbh.out]
          exact ⟨c1b.set _, (Below.heap_setCell V3 ⟨Bs, 0, none⟩ _ Bp hps).trans c2, (Below.heap_setCell V3 ⟨Bs, 0, none⟩ _ Bn hns).trans c3, by simp only [World.setCell, Array.size_modify]; omega⟩)
        have hm : Hid (boxLen Bs (V3.setCell ⟨Bs, 0, none⟩ (.string Sb)) < boxLen Bs wv) := Lib.hid (by
          rw [boxLen_of hb4.out.1, boxLen_of b1]
          simp
          omega)
        clear c1 c2 c3 c1b b1 b2 b3 b4 hbx hJ3 hk3 hs3 y1 y2 y3 z1 hy hRd
        gi_wp2
        go_roundw
        case rel => exact ⟨b, done ++ [a], by rw [hsph.out]; simp, hbl, hJ4, hb4⟩
        case measure => exact hm.out
      · gi_wp2
        exact ⟨rfl, .inr ⟨chain, rfl, hp3⟩⟩
    · have hI := Lib.hid (fun W2 => index_any rem W2)
      rw [idx_no rem hc] at hI
      have hsp2 : splitC s = done ++ rem :: [] := by rw [hsp, splitC_none hc]
      have hsph := Lib.hid hsp2
      have hYw := hYh.out done rem [] wr hsp2 hJd.out b4
      obtain ⟨R, hR⟩ : ∃ R, str rem = R := ⟨_, rfl⟩
      rw [hR] at hI y1
      obtain ⟨fn, tmps, assign, body, hy, hRd⟩ := hYw
      rw [hR] at hy
      clear hR hsp hsp2 hc hrl b1 b2 b3
      gi_wp2_with (refine ⟨trivial, ?_⟩; gi_at_call 80; refine (callsIn_wide.2 (hI.out _)).mono ?_; rintro e wv ⟨rfl, rfl⟩)
      refine hRd.mono ?_
      rintro e V3 (⟨rfl, hJ3, hs3, hk3⟩ | ⟨chain, rfl, hp3⟩)
      · gi_wp2
        go_end0
        exact .inl ⟨_, rfl, by rw [hsph.out]; exact hJ3⟩
      · gi_wp2
        exact ⟨rfl, .inr ⟨chain, rfl, hp3⟩⟩
end Go.Proofs.YtdfpifipkchmnaaGreatDoor
