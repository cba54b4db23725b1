/- Proved here: the contract of package edit's Changes (and of isMatch). -/
import Derived.Test.YtijinhhlikhjfaaEditBt
import Derived.Test.YtijinhhlikhjfaaEditChOk
import Derived.Maps.AppendAt
namespace Go.Proofs.Ytijinhhlikhjfaa
open Go.RowKit Go.Shelf
set_option linter.unusedVariables false
attribute [local go_sem] Oper.semAt_some

set_option maxHeartbeats 1000000 in
theorem isMatch_any (A : Option Addr) (n c B : Nat) (l : List Int) (N : Int) (w : World) (hn : n ≤ 2000) (hN : N ≤ 2000) (hA : Nums w B A n l) :
    Calls Try.prog 21 #[.slice A n c, .int .i64 N] w fun e w' => e = .returned (.bool (may l N)) ∧ w = w' := by
  have hl := hA.len
  obtain ⟨r, hr⟩ : ∃ r, may l N = r := ⟨_, rfl⟩
  have hmay : Hid (may l N = (decide (0 ≤ N) && mayL N l 0)) := Lib.hid rfl
  rw [hr]
  have hr' := Lib.hid hr
  clear hr
  have hr := hr'
  clear hr'
  go_enter Try.func21, Try.ntmps21
  go_wp2
  go_loop [5, 7, 10] (fun s5 s7 s10 => ∃ (k : Nat) (b : Int), k ≤ n ∧ 0 ≤ b ∧ b ≤ 2000 ∧ s10 = .int .i64 k ∧ s5 = .int .i64 (b - 1) ∧ Hid (mayL N l 0 = mayL N (l.drop k) b)) (fun _ _ s10 => n - (intOf s10).toNat)
  case atStart => exact ⟨0, 0, Nat.zero_le _, Int.le_refl _, by omega, rfl, rfl, Lib.hid rfl⟩
  case round =>
    obtain ⟨k, b, hk, hb0, hb, rfl, rfl, hx⟩ := hrel
    by_cases hlt : k < n
    · obtain ⟨g, o, v, rfl, hg, hv, hc⟩ := hA.at_ hlt
      have hst := Lib.hid (drop_at hv)
      by_cases hj : v = -1
      · subst hj
        go_wp2
        go_round
        case rel => exact ⟨k + 1, b, by omega, hb0, hb, by go_num, rfl, Lib.hid (by rw [hx.out, hst.out, mayL, if_pos rfl])⟩
        case measure => simp [intOf]; omega
      · have hj' : (v == -1) = false := by simpa using hj
        by_cases h1 : v ≤ b - 1
        · have hf : may l N = false := by rw [hmay.out, hx.out, hst.out, mayL, if_neg hj]; simp; omega
          go_wp2
          go_ret
          exact ⟨ret_bool (a := false) (by rw [← hr.out, hf]), rfl⟩
        · have h1' : decide (v ≤ b - 1) = false := by simpa using h1
          by_cases h2 : N ≤ v
          · have hf : may l N = false := by rw [hmay.out, hx.out, hst.out, mayL, if_neg hj]; simp; omega
            go_wp2
            go_ret
            exact ⟨ret_bool (a := false) (by rw [← hr.out, hf]), rfl⟩
          · have h2' : decide (N ≤ v) = false := by simpa using h2
            go_wp2
            go_round
            case rel => exact ⟨k + 1, v + 1, by omega, by omega, by omega, by go_num, by rw [Int.add_sub_cancel], Lib.hid (by rw [hx.out, hst.out, mayL, if_neg hj, show decide (b ≤ v) = true by simp; omega, show decide (v < N) = true by simp; omega]; rfl)⟩
            case measure => simp [intOf]; omega
    · obtain rfl : k = n := by omega
      have he : may l N = decide (0 ≤ N) := by
        rw [hmay.out, hx.out, List.drop_of_length_le (by omega)]
        simp [mayL]
      go_wp2
      go_ret
      exact ⟨ret_bool (a := decide (0 ≤ N)) (by rw [← hr.out, he]), rfl⟩

theorem appended {W w1 : World} {n₀ B : Nat} {t e : TypeId} {size : Nat} {v v' : Value} {k m : Nat} {xs ys : List Value} {tmp : Obj}
    (hv : Boxed W B t v) (hte : t ≠ e) (hrow : W.ownsRow n₀ e size v k xs) (hown' : w1.ownsRow n₀ e size v' m ys) (hgrow : (W.alloc tmp).grownBy w1 v.ownBlock) :
    Boxed w1 B t v ∧ Boxed (w1.setCell ⟨B, 0, none⟩ v') B t v' ∧ (w1.setCell ⟨B, 0, none⟩ v').ownsRow n₀ e size v' m ys ∧ But (fun r => r = B ∨ v.ownBlock = some r) W (w1.setCell ⟨B, 0, none⟩ v') := by
  have hv1 : Boxed w1 B t v := (hv.alloc tmp).kept hgrow (hv.not_row hte hrow)
  refine ⟨hv1, hv1.set v', hown'.kept (grownBy_setCell' w1 B v') (.inr (hv1.not_row hte hown').symm), ?_⟩
  exact ((But.alloc W tmp).trans (But.of_grown (F := fun r => v.ownBlock = some r) hgrow fun k e => e) (fun k e => .inl (.inr e))).trans (But.setCell (F := fun r => r = B) w1 (p := ⟨B, 0, none⟩) rfl v') fun k e => .inl (.inl e)
theorem row_cells {W : World} {n₀ : Nat} {e : TypeId} {size : Nat} {v : Value} {k : Nat} {xs : List Value} (h : W.ownsRow n₀ e size v k xs) {r : Nat} (hr : v.ownBlock = some r) {o : Obj} (ho : W.heap[r]? = some o) : o.isCells = true := by
  rcases h.2 with ⟨rfl, _⟩ | ⟨g, cap, cur, rfl, _, hg, _⟩
  · cases hr
  · obtain rfl : g = r := by simpa [Value.ownBlock] using hr
    rw [hg] at ho; cases ho; rfl

theorem infoC : (Try.prog.info? 48).map (fun i => (i.zero, i.size, i.bytes)) = some (some (.agg #[.int .i64 0, .int .i64 0, .int .i64 0, .int .i64 0]), 4, 32) := by kernel_rfl
theorem prL_le : ∀ (l : List Int) (i : Int), (prL l i).length ≤ l.length
  | [], _ => by simp [prL]
  | v :: l, i => by
    unfold prL
    have := prL_le l (i + 1)
    split <;> simp only [List.length_cons] <;> omega
theorem cell4 (w : World) (a b c d : Value) (t : TypeId) : ∀ j u, [a, b, c, d][j]? = some u → (w.alloc (.cells #[a, b, c, d] t)).cell? ((⟨w.heap.size, 0, none⟩ : Addr).add j) = some u := by
  intro j u hu
  have : (⟨w.heap.size, 0, none⟩ : Addr).add j = ⟨w.heap.size, j, none⟩ := by unfold Addr.add; split <;> simp_all
  rw [this, World.cell?_alloc_mark]
  simpa using hu
/-- What isn't empty. -/
def full (pre : List Ch) : List Ch := pre.filter fun c => !emp c
theorem full_snoc (pre : List Ch) (x : Ch) : full (pre ++ [x]) = if emp x = true then full pre else full pre ++ [x] := by
  unfold full
  rw [List.filter_append]
  cases h : emp x <;> simp [h]

theorem five (w : World) (o1 o2 o3 o4 o5 : Obj) : ((((((w.alloc o1).alloc o2).alloc o3).alloc o4).alloc o5).heap.size = w.heap.size + 5) ∧ (((((w.alloc o1).alloc o2).alloc o3).alloc o4).alloc o5).heap[w.heap.size]? = some o1 ∧ (((((w.alloc o1).alloc o2).alloc o3).alloc o4).alloc o5).heap[w.heap.size + 1]? = some o2 ∧
    (((((w.alloc o1).alloc o2).alloc o3).alloc o4).alloc o5).heap[w.heap.size + 1 + 1]? = some o3 ∧ (((((w.alloc o1).alloc o2).alloc o3).alloc o4).alloc o5).heap[w.heap.size + 1 + 1 + 1]? = some o4 ∧ (((((w.alloc o1).alloc o2).alloc o3).alloc o4).alloc o5).heap[w.heap.size + 1 + 1 + 1 + 1]? = some o5 ∧ Below w.heap.size w (((((w.alloc o1).alloc o2).alloc o3).alloc o4).alloc o5) := by
  have n2 := World.alloc_heap_new (w.alloc o1) o2
  have n3 := World.alloc_heap_new ((w.alloc o1).alloc o2) o3
  have n4 := World.alloc_heap_new (((w.alloc o1).alloc o2).alloc o3) o4
  have n5 := World.alloc_heap_new ((((w.alloc o1).alloc o2).alloc o3).alloc o4) o5
  simp only [World.size_alloc] at n2 n3 n4 n5
  have b2 := Below.heap_alloc (w.alloc o1) o2
  have b3 := Below.heap_alloc ((w.alloc o1).alloc o2) o3
  have b4 := Below.heap_alloc (((w.alloc o1).alloc o2).alloc o3) o4
  have b5 := Below.heap_alloc ((((w.alloc o1).alloc o2).alloc o3).alloc o4) o5
  simp only [World.size_alloc] at b2 b3 b4 b5
  refine ⟨by simp, ?_, ?_, ?_, ?_, n5, ?_⟩
  · exact (b5 _ (by omega)).trans ((b4 _ (by omega)).trans ((b3 _ (by omega)).trans ((b2 _ (by omega)).trans (World.alloc_heap_new w o1))))
  · exact (b5 _ (by omega)).trans ((b4 _ (by omega)).trans ((b3 _ (by omega)).trans n2))
  · exact (b5 _ (by omega)).trans ((b4 _ (by omega)).trans n3)
  · exact (b5 _ (by omega)).trans n4
  exact (((((Below.refl _ w).alloc (Nat.le_refl _) _).alloc (by simp) _).alloc (by simp; omega) _).alloc (by simp; omega) _).alloc (by simp; omega) _

set_option maxRecDepth 100000 in
set_option maxHeartbeats 4000000 in
theorem Changes_in (n : Nat) (hn : 6 ≤ n) (A : Option Addr) (len cap : Nat) (l : List Int) (N : Int) (w : World) (hnc : len ≤ cap) (hcm : cap ≤ maxLen) (hNr : inR N) (hA : Nums w w.heap.size A len l) :
    CallsIn Fence.wide n Try.prog 16 #[.slice A len cap, .int .i64 N] w fun e w' => ChOut w w' e (chErr l N) (chRes l N) := by
  have hl := hA.len
  have hn1 : 1 ≤ n := by omega
  have hn3 : 1 ≤ n - 1 - 1 := by omega
  unfold inR at hNr
  unfold maxLen at hcm
  by_cases h1 : 2000 < len
  · have he : chErr l N = 4 := by unfold chErr; rw [if_pos (.inl (by omega))]
    have hr : chRes l N = [] := by unfold chRes; rw [he]; rfl
    rw [he, hr]
    refine callsIn_of_wp_marks Try.func16 rfl trivial ?_ rfl
    simp only [Try.ntmps16, List.size_toArray, List.length_cons, List.length_nil, Nat.reduceAdd, Nat.reduceSub, Array.replicate_succ, Array.replicate_zero, List.push_toArray, List.append_toArray, List.nil_append, List.cons_append]
    gi_wp2
    exact ⟨_, results_tmp2 rfl _ _ _, ChOut.nothing (Below.refl _ _)⟩
  · have h1' : decide (2000 < (len : Int)) = false := by simp; omega
    have h1n : decide (2000 < len) = false := by simpa using h1
    by_cases h2 : 2000 < N
    · have he : chErr l N = 4 := by unfold chErr; rw [if_pos (.inr h2)]
      have hr : chRes l N = [] := by unfold chRes; rw [he]; rfl
      rw [he, hr]
      refine callsIn_of_wp_marks Try.func16 rfl trivial ?_ rfl
      simp only [Try.ntmps16, List.size_toArray, List.length_cons, List.length_nil, Nat.reduceAdd, Nat.reduceSub, Array.replicate_succ, Array.replicate_zero, List.push_toArray, List.append_toArray, List.nil_append, List.cons_append]
      gi_wp2
      exact ⟨_, results_tmp2 rfl _ _ _, ChOut.nothing (Below.refl _ _)⟩
    · have h2' : ¬ (2000 < N) := h2
      have hM := Lib.hid (isMatch_any A len cap w.heap.size l N w (by omega) (by omega) hA)
      cases hm : may l N
      · have he : chErr l N = 1 := by unfold chErr; rw [if_neg (by omega), hm]; rfl
        have hr : chRes l N = [] := by unfold chRes; rw [he]; rfl
        rw [he, hr]
        rw [hm] at hM
        clear hm
        refine callsIn_of_wp_marks Try.func16 rfl trivial ?_ rfl
        simp only [Try.ntmps16, List.size_toArray, List.length_cons, List.length_nil, Nat.reduceAdd, Nat.reduceSub, Array.replicate_succ, Array.replicate_zero, List.push_toArray, List.append_toArray, List.nil_append, List.cons_append]
        gi_wp2_with (refine ⟨trivial, ?_⟩; gi_at_call 21; refine (callsIn_wide.2 hM.out).mono ?_; rintro e w' ⟨rfl, rfl⟩)
        exact ⟨_, results_tmp2 rfl _ _ _, ChOut.nothing (Below.refl _ _)⟩
      · have he : chErr l N = 0 := by unfold chErr; rw [if_neg (by omega), hm]; rfl
        have hr : chRes l N = chs l N := by unfold chRes; rw [he]; rfl
        have h0N := (may_parts hm).1
        have hcg := Lib.hid (chs_gap hm)
        rw [he, hr]
        rw [hm] at hM
        have hmh := Lib.hid hm
        clear hm he hr
        refine callsIn_of_wp_marks Try.func16 rfl trivial ?_ rfl
        simp only [Try.ntmps16, List.size_toArray, List.length_cons, List.length_nil, Nat.reduceAdd, Nat.reduceSub, Array.replicate_succ, Array.replicate_zero, List.push_toArray, List.append_toArray, List.nil_append, List.cons_append]
        gi_wp2_with (refine ⟨trivial, ?_⟩; first
          | (gi_at_call 21; refine (callsIn_wide.2 hM.out).mono ?_; rintro e w' ⟨rfl, rfl⟩)
          | (gi_at_call 23; refine (callsIn_wide.2 (pairs_any _ _ _ _)).mono ?_; rintro e w' ⟨rfl, rfl⟩)
          | (gi_at_call 22; refine (callsIn_wide.2 (between_any _ _ _ _ _)).mono ?_; rintro e w' ⟨rfl, rfl⟩))
        have h5 := five w (.cells #[.slice none 0 0] 43) (.cells #[.slice A len cap] 26) (.cells #[.func (.func 38) #[] #[.pointer (some ⟨w.heap.size + 1, 0, none⟩)]] 57) (.cells #[.int .i64 (len : Int)] 3) (.cells #[.int .i64 N] 3)
        obtain ⟨W0, hW0⟩ : ∃ W0, ((((w.alloc (.cells #[.slice none 0 0] 43)).alloc (.cells #[.slice A len cap] 26)).alloc (.cells #[.func (.func 38) #[] #[.pointer (some ⟨w.heap.size + 1, 0, none⟩)]] 57)).alloc (.cells #[.int .i64 (len : Int)] 3)).alloc (.cells #[.int .i64 N] 3) = W0 := ⟨_, rfl⟩
        rw [hW0] at h5 ⊢
        clear hW0 hM
        obtain ⟨hs0, g1, g2, g3, g4, g5, hB0⟩ := h5
        have hA0 : Nums W0 W0.heap.size A len l := hA.up hB0
        have gA : W0.cell? ⟨w.heap.size + 1, 0, none⟩ = some (.slice A len cap) := by rw [cells_of g2]; rfl
        obtain ⟨i0, hi, hz0, hz1, hz2⟩ := info_parts infoC
        have hit := between_iter (n - 1) (by omega) 38 (w.heap.size + 1) (w.heap.size + 1 + 1) (w.heap.size + 1 + 1 + 1) (w.heap.size + 1 + 1 + 1 + 1) len N (parts l) (RowOf A len) W0 (by omega) (by omega) h0N (by omega)
          (fun w' hb => pairs_iter (n - 1 - 1) (by omega) (w.heap.size + 1) A len cap l N w' (by omega) hmh.out (by omega) (hA0.up hb) ((hb.cell (p := ⟨w.heap.size + 1, 0, none⟩) (by show w.heap.size + 1 < W0.heap.size; omega)).trans gA) (by have := hb.size; omega))
          (enters_of Try.func38 (by kernel_rfl) rfl) (fun r h => by have := hA.rowLt h; omega) g3 g4 g5
        have hgl : (gapL (len : Int) N (parts l) 0 0).length ≤ len + 1 := by
          rw [gapL_len]
          unfold parts
          rw [List.length_map]
          have := prL_le l 0
          omega
        rw [hl] at hcg
        have hcgh := hcg
        refine wpIn_range_iter rfl (by omega) (gf := 35) (lb := #[.pointer (some ⟨w.heap.size + 1 + 1, 0, none⟩), .pointer (some ⟨w.heap.size + 1 + 1 + 1, 0, none⟩), .pointer (some ⟨w.heap.size + 1 + 1 + 1 + 1, 0, none⟩)]) rfl trivial (enters_of Try.func35 (by kernel_rfl) rfl)
          hit (fun r h => ?hR) (fun _ => rfl)
          (fun pre V => (∃ v, Boxed V w.heap.size 43 v ∧ V.ownsRow (w.heap.size + 12) 48 4 v (full pre).length (chCs (full pre)) ∧ (v = .slice none 0 0 ↔ full pre = [])) ∧ Below w.heap.size w V)
          (fun _ _ => False) ?hI ?hIx ?h0
          (fun x a' V => ∃ Bx, w.heap.size + 12 ≤ Bx ∧ BoxC V Bx x ∧ a' = { tmps := #[.slice A len cap, .int .i64 N, undef, undef, .slice none 0 0, .int .i64 0, .pointer (some ⟨w.heap.size, 0, none⟩), .pointer (some ⟨Bx, 0, none⟩), .slice A len cap, .int .i64 (len : Int), .bool false, .bool false, .int .i64 N, .bool false, .bool false, .slice A len cap, .int .i64 N, .bool true, .bool false, .slice A len cap,
            .func (.func 38) #[] #[.pointer (some ⟨w.heap.size + 1, 0, none⟩)], .slice A len cap, .int .i64 (len : Int), .int .i64 N, .func (.func 35) #[] #[.pointer (some ⟨w.heap.size + 1 + 1, 0, none⟩), .pointer (some ⟨w.heap.size + 1 + 1 + 1, 0, none⟩), .pointer (some ⟨w.heap.size + 1 + 1 + 1 + 1, 0, none⟩)],
            chA x, undef, undef, undef, undef, undef, undef, undef, undef], defers := [] }) ?hAx ?assign ?body ?done ?stop
        case hR =>
          rcases h with h | rfl | rfl
          · have := hA.rowLt h; omega
          · omega
          · omega
        case hI =>
          rw [hs0]
          intro s X Y row hs hg hr
          obtain ⟨⟨v, q1, q2, q3⟩, q4⟩ := hs
          exact ⟨⟨v, bides_boxed (f := fun _ : Unit => v) (by omega) () X Y row q1 hg hr, bides_own (v := fun _ : Unit => v) (n := fun _ => _) (f := fun _ => _) (by omega) () X Y row q2 hg hr, q3⟩, bides_below (Nat.le_refl _) (by omega) () X Y row q4 hg hr⟩
        case hIx => exact fun _ _ _ _ hs _ _ => hs
        case h0 => exact ⟨⟨_, g1, World.ownsRow_nil _ _ _ _, by simp [full]⟩, hB0⟩
        case hAx =>
          rw [hs0]
          intro x a' s X Y row hs hg hr
          obtain ⟨Bx, h1, h2, h3⟩ := hs
          exact ⟨Bx, h1, bides_cells (f := fun _ : Unit => _) (t := fun _ => _) (by omega) () X Y row h2 hg hr, h3⟩
        case assign =>
          rintro l1 pre x V K hi hsV hK
          rw [hs0] at hsV
          unfold chA
          gi_wp2
          exact hK _ _ ((Below.refl _ V).alloc (Nat.le_refl _) _) ⟨V.heap.size, by omega, newC, rfl⟩
        case body =>
          rintro l1 pre post x a' V hx hsV ⟨⟨v, hv, hrow, hnil⟩, hB⟩ ⟨Bx, hBx, bX, rfl⟩
          rw [hs0] at hsV
          have hlen : pre.length ≤ 2000 := by
            have := congrArg List.length hx
            rw [List.length_append, List.length_cons] at this
            omega
          obtain ⟨x0, x1, x2, x3, -⟩ := bX.at_
          have hEm := Lib.hid (empty_any x.1.1 x.1.2 x.2.1 x.2.2 V)
          cases hem : emp x
          · have hemp : emp ((x.1.1, x.1.2), (x.2.1, x.2.2)) = false := hem
            rw [hemp] at hEm
            have hfs : full (pre ++ [x]) = full pre ++ [x] := by rw [full_snoc, if_neg (by rw [hem]; simp)]
            have hfh := Lib.hid hfs
            have hfl : (full pre).length ≤ 2000 := by unfold full; have := List.length_filter_le (fun c => !emp c) pre; omega
            have hmax := Lib.hid (⟨by unfold maxLen; omega, by omega⟩ : (full pre).length + 1 ≤ maxLen ∧ ((full pre).length + 1) * 32 ≤ 140737488355328)
            clear hem hemp hfs hnil
            gi_wp2_with (first
              | (refine ⟨trivial, ?_⟩; gi_at_call 24; refine (CallsIn.inRound l1 (callsIn_wide.2 hEm.out)).mono ?_; rintro e w1 ⟨rfl, hb1⟩; have hv1 : Boxed w1 w.heap.size 43 v := (hb1.block _ hv.lt).trans hv; have hrow1 := ownsRow_kept hrow (w' := w1) (fun q hq => hb1.block q (hrow.lt q hq).2); have hc1 := hv1.cell; obtain ⟨y0, y1, y2, y3, -⟩ := (bX.below hb1).at_; have hs1 := hb1.size)
              | (gi_at_builtin; refine wpListIn_append_own _ rfl _ _ 43 rfl (w.heap.size + 12) 48 i0 (.agg #[.int .i64 0, .int .i64 0, .int .i64 0, .int .i64 0]) 4 32 Try.underlying43 hi hz0 hz1 hz2 rfl (by decide) _ _ _ rfl (hrow1.alloc _) ⟨w1.heap.size, 0, none⟩ 1 1 (chC x) rfl rfl (cell4 _ _ _ _ _ _) (chC_one _) hmax.out.1 hmax.out.2 (by simp; omega) ?_; intro v' w2 hown' hgrow _; obtain ⟨g', cap', rfl⟩ := ownsRow_succ hown'; obtain ⟨hv1', hv2, hr2, hbut⟩ := appended hv1 (by decide) hrow1 hown' hgrow; have hc2 := hv1'.cell; have hf2 := hv1'.frozen))
            refine ⟨(Leaves.below hb1).trans (Leaves.but hbut (fun r hr => ?_) (fun r hr hb o ho => ?_)), ?_⟩
            · rcases hr with rfl | hr
              · refine ⟨fun h => ?_, .inl (by omega)⟩
                rcases h with h | h | h
                · have := hA.rowLt h; omega
                · omega
                · omega
              · have := hrow1.lt r hr
                refine ⟨fun h => ?_, .inr (by omega)⟩
                rcases h with h | h | h
                · have := hA.rowLt h; omega
                · omega
                · omega
            · rcases hr with rfl | hr
              · omega
              · exact row_cells hrow1 hr ho
            · dsimp only
              rw [hfh.out, List.length_append, chCs_snoc]
              refine ⟨⟨_, hv2, hr2, by simp⟩, (hB.trans (hb1.mono hB.size)).trans (hbut.below (by omega) (fun r hr => ?_))⟩
              rcases hr with rfl | hr
              · exact Nat.le_refl _
              · have := hrow1.lt r hr; omega
          · have hemp : emp ((x.1.1, x.1.2), (x.2.1, x.2.2)) = true := hem
            rw [hemp] at hEm
            have hfs : full (pre ++ [x]) = full pre := by rw [full_snoc, if_pos hem]
            have hfh := Lib.hid hfs
            have hnilh := Lib.hid hnil
            clear hem hemp hfs hnil
            gi_wp2_with (refine ⟨trivial, ?_⟩; gi_at_call 24; refine (CallsIn.inRound l1 (callsIn_wide.2 hEm.out)).mono ?_; rintro e w1 ⟨rfl, hb1⟩)
            refine ⟨Leaves.below hb1, ?_⟩
            dsimp only
            rw [hfh.out]
            exact ⟨⟨v, (hb1.block _ hv.lt).trans hv, ownsRow_kept hrow (fun q hq => hb1.block q (hrow.lt q hq).2), hnilh.out⟩, hB.trans (hb1.mono hB.size)⟩
        case done =>
          rintro D V hD hV2 ⟨⟨v, hv, hrow, hnil⟩, hB⟩ hK
          have hc := hv.cell
          gi_wp2
          refine ⟨by simp, .inl ⟨_, _, rfl, run_takeDeferred hK, ?_⟩⟩
          have hf : full (gapL (len : Int) N (parts l) 0 0) = chs l N := hcgh.out
          rw [hf] at hrow
          obtain ⟨A1, c1, rfl, k1, k2, k3⟩ := chs_of_own (ownsRow_putObj hrow (.deferred none) hK rfl)
          exact ⟨_, results_tmp2 rfl _ _ _, A1, _, c1, rfl, rfl, k1, k2, k3, hB.trans (belowK_b (w := w) (Nat.le_refl _) V D _ _ (by omega) hK rfl rfl)⟩
        case stop =>
          rintro D pre V hD hpre h hK
          exact h.elim
end Go.Proofs.Ytijinhhlikhjfaa
