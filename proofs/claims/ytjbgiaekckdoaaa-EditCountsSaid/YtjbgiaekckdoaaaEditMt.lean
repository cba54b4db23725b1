/- Proved here: the contract of package edit's Match. -/
import Derived.Test.YtjbgiaekckdoaaaEditAre
import Derived.Test.YtjbgiaekckdoaaaEditRep
import Derived.Test.YtjbgiaekckdoaaaEditMatch
namespace Go.Proofs.Ytjbgiaekckdoaaa
open Go.RowKit Go.Shelf
set_option linter.unusedVariables false
attribute [local go_sem] Oper.semAt_some

/-- Numbers as cells. -/
def ints (l : List Int) : List Value := l.map fun v => .int .i64 v
theorem ints_set (l : List Int) (j : Nat) (v : Int) : (ints l).toArray.setIfInBounds j (.int .i64 v) = (ints (l.set j v)).toArray := by
  unfold ints
  simp [List.map_set]
theorem rowK_ints (m : Nat) : rowK m m = ints (List.replicate m (-1)) := by simp [rowK, ints]
theorem nums_of_cells {w : World} {b n : Nat} {t : TypeId} {xs : List Int} (h : w.heap[b]? = some (.cells (ints xs).toArray t (0, 0))) (hl : xs.length = n) : Nums w w.heap.size (some ⟨b, 0, none⟩) n xs :=
  ⟨by simpa using hl, fun _ => ⟨b, 0, rfl, (Array.getElem?_eq_some_iff.1 h).1, fun j u hu => by
    rw [Nat.zero_add, cells_of h]
    simpa [ints] using hu⟩⟩

set_option maxRecDepth 100000 in
set_option maxHeartbeats 4000000 in
theorem Match_in (n : Nat) (hn : 7 ≤ n) (A : Option Addr) (len cap : Nat) (l : List Ch) (M N : Int) (w : World) (hnc : len ≤ cap) (hcm : cap ≤ maxLen) (hlen : len ≤ 5000) (hMr : inR M) (hNr : inR N) (hA : Chs w w.heap.size A len l) :
    CallsIn Fence.wide n Try.prog 13 #[.slice A len cap, .int .i64 M, .int .i64 N] w fun e w' => MtOut w w' e (mErr l M N) (mRes l M N) := by
  have hl := hA.len
  have hn1 : 1 ≤ n := by omega
  have hn3 : 1 ≤ n - 1 - 1 := by omega
  unfold inR at hMr hNr
  have hcmh := Lib.hid hcm
  unfold maxLen at hcm
  by_cases h1 : 2000 < M
  · have he : mErr l M N = 4 := by unfold mErr; rw [if_pos (.inl h1)]
    have hr : mRes l M N = [] := by unfold mRes; rw [he]; rfl
    rw [he, hr]
    refine callsIn_of_wp_marks Try.func13 rfl trivial ?_ rfl
    simp only [Try.ntmps13, List.size_toArray, List.length_cons, List.length_nil, Nat.reduceAdd, Nat.reduceSub, Array.replicate_succ, Array.replicate_zero, List.push_toArray, List.append_toArray, List.nil_append, List.cons_append]
    gi_wp2
    exact ⟨_, results_tmp2 rfl _ _ _, MtOut.nothing (Below.refl _ _)⟩
  · have h1' : decide (2000 < M) = false := by simpa using h1
    by_cases h2 : 2000 < N
    · have he : mErr l M N = 4 := by unfold mErr; rw [if_pos (.inr h2)]
      have hr : mRes l M N = [] := by unfold mRes; rw [he]; rfl
      rw [he, hr]
      refine callsIn_of_wp_marks Try.func13 rfl trivial ?_ rfl
      simp only [Try.ntmps13, List.size_toArray, List.length_cons, List.length_nil, Nat.reduceAdd, Nat.reduceSub, Array.replicate_succ, Array.replicate_zero, List.push_toArray, List.append_toArray, List.nil_append, List.cons_append]
      gi_wp2
      exact ⟨_, results_tmp2 rfl _ _ _, MtOut.nothing (Below.refl _ _)⟩
    · have h2' : decide (2000 < N) = false := by simpa using h2
      by_cases h3 : M < 0
      · have he : mErr l M N = 1 := by unfold mErr; rw [if_neg (by omega), if_pos (.inl h3)]
        have hr : mRes l M N = [] := by unfold mRes; rw [he]; rfl
        rw [he, hr]
        refine callsIn_of_wp_marks Try.func13 rfl trivial ?_ rfl
        simp only [Try.ntmps13, List.size_toArray, List.length_cons, List.length_nil, Nat.reduceAdd, Nat.reduceSub, Array.replicate_succ, Array.replicate_zero, List.push_toArray, List.append_toArray, List.nil_append, List.cons_append]
        gi_wp2
        refine ⟨trivial, ?_⟩
        gi_wp2
        exact ⟨_, results_tmp2 rfl _ _ _, MtOut.nothing (Below.refl _ _)⟩
      · have h3' : decide (M < 0) = false := by simpa using h3
        by_cases h4 : N < 0
        · have he : mErr l M N = 1 := by unfold mErr; rw [if_neg (by omega), if_pos (.inr h4)]
          have hr : mRes l M N = [] := by unfold mRes; rw [he]; rfl
          rw [he, hr]
          refine callsIn_of_wp_marks Try.func13 rfl trivial ?_ rfl
          simp only [Try.ntmps13, List.size_toArray, List.length_cons, List.length_nil, Nat.reduceAdd, Nat.reduceSub, Array.replicate_succ, Array.replicate_zero, List.push_toArray, List.append_toArray, List.nil_append, List.cons_append]
          gi_wp2
          refine ⟨trivial, ?_⟩
          gi_wp2
          exact ⟨_, results_tmp2 rfl _ _ _, MtOut.nothing (Below.refl _ _)⟩
        · have h4' : decide (N < 0) = false := by simpa using h4
          obtain ⟨m, rfl⟩ : ∃ m : Nat, M = m := ⟨M.toNat, by omega⟩
          have hAr := Lib.hid (areChanges_in (n - 1) (by omega) A len cap l m N w hnc hcmh.out hlen (by omega) (by omega) (by omega) (by omega) hA)
          have hiff := are_iff (l := l) (m := (m : Int)) (n := N) (by omega) (by omega)
          cases hab : areB l m N
          · have he : mErr l m N = 1 := by
              unfold mErr
              rw [if_neg (by omega), if_neg (by omega), if_neg (fun h => by have := hiff.2 h; rw [hab] at this; cases this)]
            have hr : mRes l m N = [] := by unfold mRes; rw [he]; rfl
            rw [he, hr]
            rw [hab] at hAr
            clear hab hiff
            refine callsIn_of_wp_marks Try.func13 rfl trivial ?_ rfl
            simp only [Try.ntmps13, List.size_toArray, List.length_cons, List.length_nil, Nat.reduceAdd, Nat.reduceSub, Array.replicate_succ, Array.replicate_zero, List.push_toArray, List.append_toArray, List.nil_append, List.cons_append]
            gi_wp2_with (refine ⟨trivial, ?_⟩; gi_at_call 22; refine hAr.out.mono ?_; rintro e w1 ⟨rfl, hb1⟩)
            refine ⟨_, results_tmp2 rfl _ _ _, ?_⟩
            show MtOut w w1 (.returned (.tuple #[.slice none 0 0, .int .i64 1])) 1 []
            exact MtOut.nothing hb1
          · have he : mErr l m N = 0 := by
              unfold mErr
              rw [if_neg (by omega), if_neg (by omega), if_pos (hiff.1 hab)]
            have hr : mRes l m N = guess l m N := by unfold mRes; rw [he]; rfl
            rw [he, hr]
            rw [hab] at hAr
            have hwa := wr_all (l := l) (m := (m : Int)) (n := N) (by omega) (by omega) hab
            rw [show ((m : Int)).toNat = m by omega] at hwa
            have hwah := Lib.hid hwa
            have habp : (l.all (fits m N) && okG l.length (gapL m N l 0 0) 0) = true := hab
            rw [Bool.and_eq_true] at habp
            have hall : ∀ d ∈ l, fits m N d = true := List.all_eq_true.1 habp.1
            have hgf := Lib.hid (gap_fits (m := (m : Int)) (n := N) l 0 0 0 (Int.le_refl _) (Int.le_refl _) (by omega) (by omega) hall habp.2)
            clear hab hiff he hr hwa habp hall
            refine callsIn_of_wp_marks Try.func13 rfl trivial ?_ rfl
            simp only [Try.ntmps13, List.size_toArray, List.length_cons, List.length_nil, Nat.reduceAdd, Nat.reduceSub, Array.replicate_succ, Array.replicate_zero, List.push_toArray, List.append_toArray, List.nil_append, List.cons_append]
            gi_wp2_with (refine ⟨trivial, ?_⟩; first
              | (gi_at_call 22; refine hAr.out.mono ?_; rintro e w1 ⟨rfl, hb1⟩; have hm1 : (w1.alloc (.cells #[.int .i64 (-1)] 3)).cell? ⟨w1.heap.size, 0, none⟩ = some (.int .i64 (-1)) := (by rw [World.cell?_alloc_mark]; rfl); have hm1h := Lib.hid hm1; clear hm1)
              | (gi_at_call 23; refine (callsIn_wide.2 (repeat_any w1.heap.size m _ (by omega) hm1h.out (by simp))).mono ?_; rintro e wb ⟨rfl, hrow, hb2⟩)
              | (gi_at_call 24; refine (callsIn_wide.2 (values_any _ _ _ _)).mono ?_; rintro e w' ⟨rfl, rfl⟩)
              | (gi_at_call 19; refine (callsIn_wide.2 (between_any _ _ _ _ _)).mono ?_; rintro e w' ⟨rfl, rfl⟩))
            have hbw : Below w.heap.size w wb := hb1.trans ((((Below.refl _ w1).alloc (Nat.le_refl _) (.cells #[.int .i64 (-1)] 3)).trans (hb2.mono (by simp))).mono hb1.size)
            have hsz := hb1.size
            have hRlt : w1.heap.size + 1 < wb.heap.size := by
              have := (Array.getElem?_eq_some_iff.1 hrow).1
              rw [World.size_alloc] at this
              exact this
            rw [World.size_alloc, rowK_ints] at hrow
            have h5 := five wb (.cells #[.slice (some ⟨w1.heap.size + 1, 0, none⟩) m m] 22) (.cells #[.slice A len cap] 24) (.cells #[.func (.func 33) #[] #[.pointer (some ⟨wb.heap.size + 1, 0, none⟩)]] 45) (.cells #[.int .i64 (m : Int)] 3) (.cells #[.int .i64 N] 3)
            obtain ⟨W0, hW0⟩ : ∃ W0, ((((wb.alloc (.cells #[.slice (some ⟨w1.heap.size + 1, 0, none⟩) m m] 22)).alloc (.cells #[.slice A len cap] 24)).alloc (.cells #[.func (.func 33) #[] #[.pointer (some ⟨wb.heap.size + 1, 0, none⟩)]] 45)).alloc (.cells #[.int .i64 (m : Int)] 3)).alloc (.cells #[.int .i64 N] 3) = W0 := ⟨_, rfl⟩
            rw [hW0] at h5 ⊢
            clear hW0
            obtain ⟨hs0, e1, e2, e3, e4, e5, hB0⟩ := h5
            have hA0 := (hA.up hbw).up hB0
            have gA : W0.cell? ⟨wb.heap.size + 1, 0, none⟩ = some (.slice A len cap) := by rw [cells_of e2]; rfl
            have hwsz := hbw.size
            have hit := between_iter (n - 1) (by omega) 33 (wb.heap.size + 1) (wb.heap.size + 1 + 1) (wb.heap.size + 1 + 1 + 1) (wb.heap.size + 1 + 1 + 1 + 1) m N l (RowOf A len) W0 (by omega) (by omega) (by omega) (by omega)
              (fun w' hb => values_iter (n - 1 - 1) (by omega) (wb.heap.size + 1) A len cap l w' (by omega) (hA0.up hb) ((hb.cell (p := ⟨wb.heap.size + 1, 0, none⟩) (by show wb.heap.size + 1 < W0.heap.size; omega)).trans gA) (by have := hb.size; omega))
              (enters_of Try.func33 (by kernel_rfl) rfl) (fun r h => by have := hA.rowLt h; omega) e3 e4 e5
            have hB0w : Below w.heap.size w W0 := hbw.trans (hB0.mono hbw.size)
            have hrow0 := (hB0.block (w1.heap.size + 1) hRlt).trans hrow
            clear gA e2
            refine wpIn_range_iter rfl (by omega) (gf := 27) (lb := #[.pointer (some ⟨wb.heap.size + 1 + 1, 0, none⟩), .pointer (some ⟨wb.heap.size + 1 + 1 + 1, 0, none⟩), .pointer (some ⟨wb.heap.size + 1 + 1 + 1 + 1, 0, none⟩)]) rfl trivial (enters_of Try.func27 (by kernel_rfl) rfl)
              hit (fun r h => ?hR) (fun _ => rfl)
              (fun pre V => V.heap[w1.heap.size + 1]? = some (.cells (ints (wr (List.replicate m (-1)) pre)).toArray 3 (0, 0)) ∧ V.heap[wb.heap.size]? = some (.cells #[.slice (some ⟨w1.heap.size + 1, 0, none⟩) m m] 22 (0, 0)) ∧ Below w.heap.size w V)
              (fun _ _ => False) ?hI ?hIx ?h0
              (fun x a' V => ∃ Bx, wb.heap.size + 12 ≤ Bx ∧ BoxC V Bx x ∧ a' = { tmps := #[.slice A len cap, .int .i64 (m : Int), .int .i64 N, undef, undef, undef, .slice none 0 0, .int .i64 0, .pointer (some ⟨wb.heap.size, 0, none⟩), .pointer (some ⟨Bx, 0, none⟩), undef, .int .i64 (m : Int), .bool false, .bool false, .int .i64 N, .bool false, .bool false, .int .i64 (m : Int), .bool false, .bool false, .int .i64 N, .bool false, .bool false, .bool false, .slice A len cap, .int .i64 (m : Int), .int .i64 N, .bool true, .bool false, .bool false, .slice (some ⟨w1.heap.size, 0, none⟩) 1 1, .int .i64 (m : Int), .slice (some ⟨w1.heap.size + 1, 0, none⟩) m m, .slice A len cap, .func (.func 33) #[] #[.pointer (some ⟨wb.heap.size + 1, 0, none⟩)], .int .i64 (m : Int), .int .i64 N, .func (.func 27) #[] #[.pointer (some ⟨wb.heap.size + 1 + 1, 0, none⟩), .pointer (some ⟨wb.heap.size + 1 + 1 + 1, 0, none⟩), .pointer (some ⟨wb.heap.size + 1 + 1 + 1 + 1, 0, none⟩)], chA x, undef, undef, undef, undef, undef, undef, undef, undef, undef, undef, undef, undef, undef, undef, undef, undef, undef, undef, undef, undef], defers := [] }) ?hAx ?assign ?body ?done ?stop
            case hR =>
              rcases h with h | rfl | rfl
              · have := hA.rowLt h; omega
              · omega
              · omega
            case hI =>
              rw [hs0]
              intro s X Y row hs hg hr
              obtain ⟨p1, p2, p3⟩ := hs
              exact ⟨stands_block (f := fun _ : Unit => _) (by omega) () X Y row p1 hg hr, stands_block (f := fun _ : Unit => _) (by omega) () X Y row p2 hg hr, stands_below (Nat.le_refl _) (by omega) () X Y row p3 hg hr⟩
            case hIx => exact fun _ _ _ _ hs _ _ => hs
            case h0 => exact ⟨hrow0, e1, hB0w⟩
            case hAx =>
              rw [hs0]
              intro x a' s X Y row hs hg hr
              obtain ⟨Bx, h1, h2, h3⟩ := hs
              exact ⟨Bx, h1, stands_cells (f := fun _ : Unit => _) (t := fun _ => _) (by omega) () X Y row h2 hg hr, h3⟩
            case assign =>
              rintro l1 pre x V K hi hsV hK
              rw [hs0] at hsV
              unfold chA
              gi_wp2
              exact hK _ _ ((Below.refl _ V).alloc (Nat.le_refl _) _) ⟨V.heap.size, by omega, newC, rfl⟩
            case body =>
              rintro l1 pre post x a' V hx hsV ⟨hrw, hbox, hB⟩ ⟨Bx, hBx, bX, rfl⟩
              rw [hs0] at hsV
              have hxg := hgf.out x (by rw [hx]; simp)
              obtain ⟨x0, x1, x2, x3, -⟩ := bX.at_
              obtain ⟨a1, ha1⟩ : ∃ a1 : Nat, x.1.1 = a1 := ⟨x.1.1.toNat, by omega⟩
              obtain ⟨b1, hb1'⟩ : ∃ b1 : Nat, x.2.1 = b1 := ⟨x.2.1.toNat, by omega⟩
              obtain ⟨L, hL⟩ : ∃ L : Nat, x.1.2 - x.1.1 = L := ⟨(x.1.2 - x.1.1).toNat, by omega⟩
              have hS := Lib.hid (size_any x.1.1 x.1.2 V (by omega) (by omega) (by omega) (by omega))
              rw [hL, ha1] at hS
              rw [ha1] at x0
              rw [hb1'] at x2
              have hbnd : a1 + L ≤ m ∧ b1 ≤ 2000 := by omega
              obtain ⟨r0, hr0⟩ : ∃ r0, wr (List.replicate m (-1)) pre = r0 := ⟨_, rfl⟩
              rw [hr0] at hrw
              have hr0l : r0.length = m := by rw [← hr0, wr_len, List.length_replicate]
              have hnext : Hid (wr (List.replicate m (-1)) (pre ++ [x]) = writeK r0 x L) := Lib.hid (by rw [wr_snoc, hr0]; unfold lenO; rw [hL]; rfl)
              have hwk : Hid (∀ t, writeK r0 x (t + 1) = (writeK r0 x t).set (a1 + t) ((b1 : Int) + (t : Int))) := Lib.hid (fun t => by rw [writeK, ha1, hb1', show ((a1 : Int) + (t : Int)).toNat = a1 + t by omega])
              have hwl : Hid (∀ t, (writeK r0 x t).length = m) := Lib.hid (fun t => by rw [writeK_len, hr0l])
              have hXlt := bX.lt
              have c8 : V.cell? ⟨wb.heap.size, 0, none⟩ = some (.slice (some ⟨w1.heap.size + 1, 0, none⟩) m m) := by rw [cells_of hbox]; rfl
              obtain ⟨hbn1, hbn2⟩ := hbnd
              have hrwh := Lib.hid hrw
              have hxh := Lib.hid hx
              have hX0 := Lib.hid (⟨x0, x1, x2, x3⟩ : _ ∧ _ ∧ _ ∧ _)
              clear hx hr0 hr0l hrw
              gi_wp2_with (refine ⟨trivial, ?_⟩; gi_at_call 25; refine (CallsIn.inRound l1 (callsIn_wide.2 (by have := hS.out; first | exact this | (rw [ha1]; exact this)))).mono ?_; rintro e w2 ⟨rfl, hb3⟩)
              have h2rw := (hb3.block _ (by omega)).trans hrwh.out
              gi_loopw [10, 42] (fun _ s42 wr => ∃ t : Nat, t ≤ L ∧ s42 = .int .i64 t ∧ Hid (wr.heap[w1.heap.size + 1]? = some (.cells (ints (writeK r0 x t)).toArray 3 (0, 0))) ∧ But (fun r => r = w1.heap.size + 1) w2 wr)
                (fun _ s42 _ => L - (intOf s42).toNat)
              case atStart => exact ⟨0, Nat.zero_le _, rfl, Lib.hid h2rw, But.refl _ _⟩
              case round =>
                obtain ⟨t, ht, rfl, hrt, hbt⟩ := hrel
                obtain ⟨wo, rfl⟩ : ∃ wo : World, wo = wr := ⟨_, rfl⟩
                have hs3 := hb3.size
                have hst := hbt.size
                have hXo : wo.heap[Bx]? = V.heap[Bx]? := (hbt.block Bx (by omega) (by omega)).trans (hb3.block Bx hXlt)
                have hBo : wo.heap[wb.heap.size]? = V.heap[wb.heap.size]? := (hbt.block _ (by omega) (by omega)).trans (hb3.block _ (by omega))
                have z8 : wo.cell? ⟨wb.heap.size, 0, none⟩ = some (.slice (some ⟨w1.heap.size + 1, 0, none⟩) m m) := (World.cell?_of_block (w := V) hBo).trans c8
                by_cases hlt : t < L
                · obtain ⟨x0, x1, x2, x3⟩ := hX0.out
                  have y0 := (World.cell?_of_block (w := V) (a := ⟨Bx, 0, none⟩) hXo).trans x0
                  have y2 := (World.cell?_of_block (w := V) (a := ⟨Bx, 2, none⟩) hXo).trans x2
                  have hwt := hwl.out t
                  have zc : (wo.cell? ⟨w1.heap.size + 1, a1 + t, none⟩).isSome = true := by
                    rw [cells_of hrt.out]
                    simp [ints, hwt]
                    omega
                  obtain ⟨ov, hov⟩ := Option.isSome_iff_exists.1 zc
                  have zf := unfrozen_of hrt.out (a1 + t)
                  have hsetc := Lib.hid (cells_set (j := a1 + t) (.int .i64 ((b1 : Int) + (t : Int))) hrt.out)
                  have hidx : a1 + t < m := by omega
                  clear zc hwt x0 x1 x2 x3
                  gi_wp2
                  go_roundw
                  case rel =>
                    refine ⟨t + 1, by omega, by simp, ?_, hbt.trans (But.setCell (F := fun r => r = w1.heap.size + 1) wo (p := ⟨w1.heap.size + 1, a1 + t, none⟩) rfl _) fun r e => .inl e⟩
                    rw [hwk.out]
                    have h := hsetc.out
                    rw [ints_set] at h
                    exact Lib.hid h
                  case measure => simp [intOf]; omega
                · obtain rfl : t = L := by omega
                  gi_wp2
                  have hbF : But (fun r => r = w1.heap.size + 1) V wo := (But.of_below hb3 fun k hk _ => hk).trans hbt fun r e => .inl e
                  refine ⟨(Leaves.below hb3).trans (Leaves.but hbt (fun r e => ⟨fun h => ?_, .inl (by omega)⟩) (fun r e h => by omega)), ?_, ?_, hB.trans (hbF.below hB.size (fun r e => by omega))⟩
                  · rcases h with h | h | h
                    · have := hA.rowLt h; omega
                    · omega
                    · omega
                  · rw [hnext.out]; exact hrt.out
                  · exact hBo.trans hbox
            case done =>
              rintro D V hD hV2 ⟨hrw, hbox, hB⟩ hK
              have c8 : V.cell? ⟨wb.heap.size, 0, none⟩ = some (.slice (some ⟨w1.heap.size + 1, 0, none⟩) m m) := by rw [cells_of hbox]; rfl
              gi_wp2
              refine ⟨by simp, .inl ⟨_, _, rfl, run_takeDeferred hK, ?_⟩⟩
              have hlg : (guess l m N).length = m := by rw [guess_len]; omega
              rw [hwah.out] at hrw
              have hrw2 := (World.putObj_heap_other (w := V) (r := D) (o := .deferred none) (k := w1.heap.size + 1) (by omega)).trans hrw
              exact ⟨_, results_tmp2 rfl _ _ _, some ⟨w1.heap.size + 1, 0, none⟩, m, m, rfl, hlg.symm, Nat.le_refl _, by unfold maxLen; omega, nums_of_cells hrw2 hlg, hB.trans (belowK_b (w := w) (Nat.le_refl _) V D _ _ (by omega) hK rfl rfl)⟩
            case stop =>
              rintro D pre V hD hpre h hK
              exact h.elim
end Go.Proofs.Ytjbgiaekckdoaaa
