/- Proved here: the contract of package edit's areChanges. -/
import Derived.Test.YtjbgiaekckdoaaaEditCh
import Derived.Sort.QuietTacIn
namespace Go.Proofs.Ytjbgiaekckdoaaa
open Go.RowKit Go.Shelf
set_option linter.unusedVariables false
attribute [local go_sem] Oper.semAt_some

/-- A world that has grown. -/
structure Grown (W : World) where
  w : World
  below : Below W.heap.size W w

/-- What lies between parts within the lists lies within. -/
theorem gap_in {m n : Int} : ∀ (cs : List Ch) (x y : Int), 0 ≤ x → x ≤ m → 0 ≤ y → y ≤ n → (∀ d ∈ cs, fits m n d = true) → ∀ g ∈ gapL m n cs x y, 0 ≤ g.1.1 ∧ g.1.1 ≤ m ∧ 0 ≤ g.1.2 ∧ g.1.2 ≤ m ∧ 0 ≤ g.2.1 ∧ g.2.1 ≤ n ∧ 0 ≤ g.2.2 ∧ g.2.2 ≤ n
  | [], x, y, h1, h2, h3, h4, _, g, hg => by
    simp only [gapL, List.mem_singleton] at hg
    subst hg
    dsimp only
    omega
  | c :: cs, x, y, h1, h2, h3, h4, hf, g, hg => by
    have hc := fits_parts (hf c (List.mem_cons_self ..))
    simp only [gapL, List.mem_cons] at hg
    rcases hg with rfl | hg
    · dsimp only
      omega
    · exact gap_in cs c.1.2 c.2.2 (by omega) (by omega) (by omega) (by omega) (fun q hq => hf q (List.mem_cons_of_mem _ hq)) g hg
theorem boxed_set_to {W : World} {B : Nat} {t : TypeId} {v v' v'' : Value} (h : Boxed W B t v) (e : v' = v'') : Boxed (W.setCell ⟨B, 0, none⟩ v') B t v'' := e ▸ h.set v'
theorem okG_snoc (e : Nat) (pre : List Ch) (x : Ch) (k : Nat) : okG e (pre ++ [x]) k = (okG e pre k && !bad x (decide (k + pre.length = 0) || decide (k + pre.length = e))) := by
  rw [okG_append]
  simp [okG]

theorem fits_def (m n : Int) (c : Ch) : fits m n c = (!emp c && inB c.1.1 c.1.2 m && inB c.2.1 c.2.2 n) := rfl

set_option maxRecDepth 100000 in
set_option maxHeartbeats 4000000 in
theorem areChanges_in (n : Nat) (hn : 6 ≤ n) (A : Option Addr) (len cap : Nat) (l : List Ch) (M N : Int) (w : World) (hnc : len ≤ cap) (hcm : cap ≤ maxLen) (hlen : len ≤ 5000) (hM0 : 0 ≤ M) (hM : M ≤ 2000) (hN0 : 0 ≤ N) (hN : N ≤ 2000) (hA : Chs w w.heap.size A len l) :
    CallsIn Fence.wide n Try.prog 22 #[.slice A len cap, .int .i64 M, .int .i64 N] w fun e w' => e = .returned (.bool (areB l M N)) ∧ Below w.heap.size w w' := by
  have hl := hA.len
  have hn1 : 1 ≤ n := by omega
  have hn3 : 1 ≤ n - 1 - 1 := by omega
  unfold maxLen at hcm
  obtain ⟨r, hr⟩ : ∃ r, areB l M N = r := ⟨_, rfl⟩
  have hab : Hid (areB l M N = (l.all (fits M N) && okG l.length (gapL M N l 0 0) 0)) := Lib.hid rfl
  rw [hr]
  have hrh := Lib.hid hr
  clear hr
  refine callsIn_of_wp_marks Try.func22 rfl trivial ?_ rfl
  simp only [Try.ntmps22, List.size_toArray, List.length_cons, List.length_nil, Nat.reduceAdd, Nat.reduceSub, Array.replicate_succ, Array.replicate_zero, List.push_toArray, List.append_toArray, List.nil_append, List.cons_append]
  gi_wp2
  have g6 := World.alloc_heap_new (w.alloc (.cells #[.slice A len cap] 24)) (.cells #[.bool false] 4)
  have g3 := (Below.heap_alloc (w.alloc (.cells #[.slice A len cap] 24)) (.cells #[.bool false] 4) w.heap.size (by simp)).trans (World.alloc_heap_new w (.cells #[.slice A len cap] 24))
  have hB1 : Below w.heap.size w ((w.alloc (.cells #[.slice A len cap] 24)).alloc (.cells #[.bool false] 4)) := ((Below.refl _ w).alloc (Nat.le_refl _) _).alloc (by simp) _
  have hs1 : ((w.alloc (.cells #[.slice A len cap] 24)).alloc (.cells #[.bool false] 4)).heap.size = w.heap.size + 2 := by simp
  rw [World.size_alloc] at g6
  obtain ⟨W1, hW1⟩ : ∃ W1, (w.alloc (.cells #[.slice A len cap] 24)).alloc (.cells #[.bool false] 4) = W1 := ⟨_, rfl⟩
  rw [hW1] at g6 g3 hB1 hs1 ⊢
  clear hW1
  have hA1 := hA.up hB1
  gi_loopw [8, 14] (fun _ s14 wr => ∃ k : Nat, k ≤ len ∧ s14 = .int .i64 k ∧ Hid ((l.take k).all (fits M N) = true) ∧ Below W1.heap.size W1 wr)
    (fun _ s14 _ => len - (intOf s14).toNat)
  case atStart => exact ⟨0, Nat.zero_le _, rfl, Lib.hid rfl, Below.refl _ _⟩
  case round =>
    obtain ⟨k, hk, rfl, hall, hbr⟩ := hrel
    obtain ⟨wo, rfl⟩ : ∃ wo : World, wo = wr := ⟨_, rfl⟩
    by_cases hlt : k < len
    · obtain ⟨b, o, c, rfl, hb, hv, x0, x1, x2, x3⟩ := (hA1.up hbr).at_ hlt
      have hst := Lib.hid (takeC hv)
      have h6 := (hbr.block (w.heap.size + 1) (by omega)).trans g6
      have hso := hbr.size
      have bX := newC (w := wo) (c := c)
      have hbx : Below wo.heap.size wo (wo.alloc (.cells #[.int .i64 c.1.1, .int .i64 c.1.2, .int .i64 c.2.1, .int .i64 c.2.2] 43)) := (Below.refl _ _).alloc (Nat.le_refl _) _
      have hE := empty_any c.1.1 c.1.2 c.2.1 c.2.2 (wo.alloc (.cells #[.int .i64 c.1.1, .int .i64 c.1.2, .int .i64 c.2.1, .int .i64 c.2.2] 43))
      have bad : fits M N c = false → areB l M N = false := fun h => by
        rw [hab.out, hst.out.2, List.all_append, List.all_cons, h]
        simp
      have hbxh := Lib.hid hbx
      have bXh := Lib.hid bX
      clear hbx bX
      cases hem : emp c
      · have hemp : emp ((c.1.1, c.1.2), (c.2.1, c.2.2)) = false := hem
        rw [hemp] at hE
        have hEh := Lib.hid hE
        clear hE hemp
        cases hIo : inB c.1.1 c.1.2 M
        · have hfx := Lib.hid (bad (by rw [fits_def, hem, hIo]; rfl))
          clear bad hem
          gi_wp2_with (refine ⟨trivial, ?_⟩; first
            | (gi_at_call 21; refine (callsIn_wide.2 hEh.out).mono ?_; rintro e w1 ⟨rfl, hb1⟩; have hbw := hbxh.out.trans (hb1.mono hbxh.out.size); have h6w := (hbw.block (w.heap.size + 1) (by omega)).trans h6; have c6 : w1.cell? ⟨w.heap.size + 1, 0, none⟩ = some (.bool false) := (by rw [cells_of h6w]; rfl); have f6 := unfrozen_of h6w 0; obtain ⟨y0, y1, y2, y3, -⟩ := (bXh.out.below hb1).at_; have bY := Lib.hid (bXh.out.below hb1))
            | (gi_at_call 31; (with_reducible refine (callsIn_wide.2 (within_any c.1.1 c.1.2 M w1)).mono ?_); rw [hIo]; rintro e w2 ⟨rfl, hb2⟩; have hbw2 := hbw.trans (hb2.mono hbw.size); have h6w2 := (hbw2.block (w.heap.size + 1) (by omega)).trans h6; have c62 : w2.cell? ⟨w.heap.size + 1, 0, none⟩ = some (.bool false) := (by rw [cells_of h6w2]; rfl); have f62 := unfrozen_of h6w2 0; obtain ⟨z0, z1, z2, z3, -⟩ := (bY.out.below hb2).at_))
          refine ⟨trivial, ?_⟩
          gi_wp2
          exact ⟨.bool false, by simp [results, Try.results22, go_sem, World.cell?_setCell_same', c62], ret_bool (by rw [← hrh.out, hfx.out]), (hB1.trans ((hbr.trans (hbw2.mono hbr.size)).mono hB1.size)).setCell (p := ⟨w.heap.size + 1, 0, none⟩) (by show _ ≤ w.heap.size + 1; omega) _⟩
        · cases hIn : inB c.2.1 c.2.2 N
          · have hfx := Lib.hid (bad (by rw [fits_def, hem, hIo, hIn]; rfl))
            clear bad hem
            gi_wp2_with (refine ⟨trivial, ?_⟩; first
              | (gi_at_call 21; refine (callsIn_wide.2 hEh.out).mono ?_; rintro e w1 ⟨rfl, hb1⟩; have hbw := hbxh.out.trans (hb1.mono hbxh.out.size); have h6w := (hbw.block (w.heap.size + 1) (by omega)).trans h6; have c6 : w1.cell? ⟨w.heap.size + 1, 0, none⟩ = some (.bool false) := (by rw [cells_of h6w]; rfl); have f6 := unfrozen_of h6w 0; obtain ⟨y0, y1, y2, y3, -⟩ := (bXh.out.below hb1).at_; have bY := Lib.hid (bXh.out.below hb1))
              | (gi_at_call 31; (with_reducible refine (callsIn_wide.2 (within_any c.1.1 c.1.2 M w1)).mono ?_); rw [hIo]; rintro e w2 ⟨rfl, hb2⟩; have hbw2 := hbw.trans (hb2.mono hbw.size); have h6w2 := (hbw2.block (w.heap.size + 1) (by omega)).trans h6; have c62 : w2.cell? ⟨w.heap.size + 1, 0, none⟩ = some (.bool false) := (by rw [cells_of h6w2]; rfl); have f62 := unfrozen_of h6w2 0; obtain ⟨z0, z1, z2, z3, -⟩ := (bY.out.below hb2).at_)
              | (gi_at_call 31; (with_reducible refine (callsIn_wide.2 (within_any c.2.1 c.2.2 N w2)).mono ?_); rw [hIn]; rintro e w3 ⟨rfl, hb3⟩; have hbw3 := hbw2.trans (hb3.mono hbw2.size); have h6w3 := (hbw3.block (w.heap.size + 1) (by omega)).trans h6; have c63 : w3.cell? ⟨w.heap.size + 1, 0, none⟩ = some (.bool false) := (by rw [cells_of h6w3]; rfl); have f63 := unfrozen_of h6w3 0))
            exact ⟨.bool false, by simp [results, Try.results22, go_sem, World.cell?_setCell_same', c63], ret_bool (by rw [← hrh.out, hfx.out]), (hB1.trans ((hbr.trans (hbw3.mono hbr.size)).mono hB1.size)).setCell (p := ⟨w.heap.size + 1, 0, none⟩) (by show _ ≤ w.heap.size + 1; omega) _⟩
          · have hfx : Hid (fits M N c = true) := Lib.hid (by rw [fits_def, hem, hIo, hIn]; rfl)
            clear bad hem
            gi_wp2_with (refine ⟨trivial, ?_⟩; first
              | (gi_at_call 21; refine (callsIn_wide.2 hEh.out).mono ?_; rintro e w1 ⟨rfl, hb1⟩; have hbw := hbxh.out.trans (hb1.mono hbxh.out.size); have h6w := (hbw.block (w.heap.size + 1) (by omega)).trans h6; have c6 : w1.cell? ⟨w.heap.size + 1, 0, none⟩ = some (.bool false) := (by rw [cells_of h6w]; rfl); have f6 := unfrozen_of h6w 0; obtain ⟨y0, y1, y2, y3, -⟩ := (bXh.out.below hb1).at_; have bY := Lib.hid (bXh.out.below hb1))
              | (gi_at_call 31; (with_reducible refine (callsIn_wide.2 (within_any c.1.1 c.1.2 M w1)).mono ?_); rw [hIo]; rintro e w2 ⟨rfl, hb2⟩; have hbw2 := hbw.trans (hb2.mono hbw.size); have h6w2 := (hbw2.block (w.heap.size + 1) (by omega)).trans h6; have c62 : w2.cell? ⟨w.heap.size + 1, 0, none⟩ = some (.bool false) := (by rw [cells_of h6w2]; rfl); have f62 := unfrozen_of h6w2 0; obtain ⟨z0, z1, z2, z3, -⟩ := (bY.out.below hb2).at_)
              | (gi_at_call 31; (with_reducible refine (callsIn_wide.2 (within_any c.2.1 c.2.2 N w2)).mono ?_); rw [hIn]; rintro e w3 ⟨rfl, hb3⟩; have hbw3 := hbw2.trans (hb3.mono hbw2.size); have h6w3 := (hbw3.block (w.heap.size + 1) (by omega)).trans h6; have c63 : w3.cell? ⟨w.heap.size + 1, 0, none⟩ = some (.bool false) := (by rw [cells_of h6w3]; rfl); have f63 := unfrozen_of h6w3 0))
            go_roundw
            case rel => exact ⟨k + 1, by omega, by simp, Lib.hid (by rw [hst.out.1, List.all_append, hall.out]; simp [hfx.out]), hbr.trans (hbw3.mono hbr.size)⟩
            case measure => simp [intOf]; omega
      · have hemp : emp ((c.1.1, c.1.2), (c.2.1, c.2.2)) = true := hem
        rw [hemp] at hE
        have hfx := Lib.hid (bad (by rw [fits_def, hem]; rfl))
        have hEh := Lib.hid hE
        clear hem hemp hE bad
        gi_wp2_with (refine ⟨trivial, ?_⟩; (gi_at_call 21; refine (callsIn_wide.2 hEh.out).mono ?_; rintro e w1 ⟨rfl, hb1⟩; have hbw := hbxh.out.trans (hb1.mono hbxh.out.size); have h6w := (hbw.block (w.heap.size + 1) (by omega)).trans h6; have c6 : w1.cell? ⟨w.heap.size + 1, 0, none⟩ = some (.bool false) := (by rw [cells_of h6w]; rfl); have f6 := unfrozen_of h6w 0; obtain ⟨y0, y1, y2, y3, -⟩ := (bXh.out.below hb1).at_; have bY := Lib.hid (bXh.out.below hb1)))
        refine ⟨trivial, ?_⟩
        gi_wp2
        refine ⟨trivial, ?_⟩
        gi_wp2
        exact ⟨.bool false, by simp [results, Try.results22, go_sem, World.cell?_setCell_same', c6], ret_bool (by rw [← hrh.out, hfx.out]), (hB1.trans ((hbr.trans (hbw.mono hbr.size)).mono hB1.size)).setCell (p := ⟨w.heap.size + 1, 0, none⟩) (by show _ ≤ w.heap.size + 1; omega) _⟩
    · obtain rfl : k = len := by omega
      have hallT : Hid (l.all (fits M N) = true) := Lib.hid (by have h := hall.out; rw [List.take_of_length_le (by omega)] at h; exact h)
      have h6 := (hbr.block (w.heap.size + 1) (by omega)).trans g6
      have h3 := (hbr.block w.heap.size (by omega)).trans g3
      have c3 : wo.cell? ⟨w.heap.size, 0, none⟩ = some (.slice A k cap) := by rw [cells_of h3]; rfl
      have hso := hbr.size
      have q1 : w.heap.size < wo.heap.size := by omega
      have q2 : w.heap.size < wo.heap.size + 1 := by omega
      have hAo := hA1.up hbr
      have h3h := Lib.hid h3
      have h6h := Lib.hid h6
      clear h3 h6 hall
      gi_wp2_with (refine ⟨trivial, ?_⟩; first
          | (gi_at_call 24; refine (callsIn_wide.2 (values_any _ _ _ _)).mono ?_; rintro e w' ⟨rfl, rfl⟩)
          | (gi_at_call 19; refine (callsIn_wide.2 (between_any _ _ _ _ _)).mono ?_; rintro e w' ⟨rfl, rfl⟩))
      have h5 := five wo (.cells #[.int .i64 0] 3) (.cells #[.slice A k cap] 24) (.cells #[.func (.func 33) #[] #[.pointer (some ⟨wo.heap.size + 1, 0, none⟩)]] 45) (.cells #[.int .i64 M] 3) (.cells #[.int .i64 N] 3)
      obtain ⟨W0, hW0⟩ : ∃ W0, ((((wo.alloc (.cells #[.int .i64 0] 3)).alloc (.cells #[.slice A k cap] 24)).alloc (.cells #[.func (.func 33) #[] #[.pointer (some ⟨wo.heap.size + 1, 0, none⟩)]] 45)).alloc (.cells #[.int .i64 M] 3)).alloc (.cells #[.int .i64 N] 3) = W0 := ⟨_, rfl⟩
      rw [hW0] at h5 ⊢
      clear hW0 c3 q1 q2
      obtain ⟨hs0, e1, e2, e3, e4, e5, hB0⟩ := h5
      have hA0 := hAo.up hB0
      have gA : W0.cell? ⟨wo.heap.size + 1, 0, none⟩ = some (.slice A k cap) := by rw [cells_of e2]; rfl
      have hall' : ∀ d ∈ l, fits M N d = true := List.all_eq_true.1 hallT.out
      have hgi := gap_in l 0 0 (Int.le_refl _) hM0 (Int.le_refl _) hN0 hall'
      have hit := between_iter (n - 1) (by omega) 33 (wo.heap.size + 1) (wo.heap.size + 1 + 1) (wo.heap.size + 1 + 1 + 1) (wo.heap.size + 1 + 1 + 1 + 1) M N l (RowOf A k) W0 hM0 hM hN0 hN
        (fun w' hb => values_iter (n - 1 - 1) (by omega) (wo.heap.size + 1) A k cap l w' (by omega) (hA0.up hb) ((hb.cell (p := ⟨wo.heap.size + 1, 0, none⟩) (by show wo.heap.size + 1 < W0.heap.size; omega)).trans gA) (by have := hb.size; omega))
        (enters_of Try.func33 (by kernel_rfl) rfl) (fun r h => by have := hA.rowLt h; omega) e3 e4 e5
      have hgih := Lib.hid hgi
      have hB0w := hB1.trans ((hbr.trans (hB0.mono hbr.size)).mono hB1.size)
      have e6 := (hB0.block (w.heap.size + 1) (by omega)).trans h6h.out
      have e7 := (hB0.block w.heap.size (by omega)).trans h3h.out
      clear hgi hall' gA e2
      refine wpIn_range_iter rfl (by omega) (gf := 27) (lb := #[.pointer (some ⟨wo.heap.size + 1 + 1, 0, none⟩), .pointer (some ⟨wo.heap.size + 1 + 1 + 1, 0, none⟩), .pointer (some ⟨wo.heap.size + 1 + 1 + 1 + 1, 0, none⟩)]) rfl trivial (enters_of Try.func27 (by kernel_rfl) rfl)
        hit (fun r h => ?hR) (fun _ => rfl)
        (fun pre V => okG k pre 0 = true ∧ Boxed V wo.heap.size 3 (.int .i64 (pre.length : Int)) ∧ V.heap[w.heap.size + 1]? = some (.cells #[.bool false] 4 (0, 0)) ∧ V.heap[w.heap.size]? = some (.cells #[.slice A k cap] 24 (0, 0)) ∧ Below w.heap.size w V)
        (fun _ V => okG k (gapL M N l 0 0) 0 = false ∧ V.heap[w.heap.size + 1]? = some (.cells #[.bool false] 4 (0, 0)) ∧ Below w.heap.size w V) ?hI ?hIx ?h0
        (fun x a' V => ∃ Bx, wo.heap.size + 12 ≤ Bx ∧ BoxC V Bx x ∧ a' = { tmps := #[.slice A k cap, .int .i64 M, .int .i64 N, .pointer (some ⟨w.heap.size, 0, none⟩), undef, undef, .pointer (some ⟨w.heap.size + 1, 0, none⟩), undef, u8, .pointer (some ⟨wo.heap.size, 0, none⟩), .pointer (some ⟨Bx, 0, none⟩), undef, .slice A k cap, .int .i64 (k : Int), .int .i64 (k : Int), .bool false, u16, u17, u18, u19, u20, u21, u22, u23, u24, u25, u26, u27, u28, u29, u30, u31, u32, u33, u34, .slice A k cap, .func (.func 33) #[] #[.pointer (some ⟨wo.heap.size + 1, 0, none⟩)], .int .i64 M, .int .i64 N, .func (.func 27) #[] #[.pointer (some ⟨wo.heap.size + 1 + 1, 0, none⟩), .pointer (some ⟨wo.heap.size + 1 + 1 + 1, 0, none⟩), .pointer (some ⟨wo.heap.size + 1 + 1 + 1 + 1, 0, none⟩)], chA x, undef, undef, undef, undef, undef, undef, undef, undef, undef, undef, undef, undef, undef, undef, undef, undef, undef, undef, undef, undef, undef, undef, undef, undef, undef, undef, undef, undef, undef, undef, undef], defers := [] }) ?hAx ?assign ?body ?done ?stop
      case hR =>
        rcases h with h | rfl | rfl
        · have := hA.rowLt h; omega
        · omega
        · omega
      case hI =>
        rw [hs0]
        intro s X Y row hs hg hr
        obtain ⟨p1, p2, p3, p4, p5⟩ := hs
        exact ⟨p1, stands_boxed (f := fun _ : Unit => _) (by omega) () X Y row p2 hg hr, stands_block (f := fun _ : Unit => _) (by omega) () X Y row p3 hg hr, stands_block (f := fun _ : Unit => _) (by omega) () X Y row p4 hg hr, stands_below (Nat.le_refl _) (by omega) () X Y row p5 hg hr⟩
      case hIx =>
        rw [hs0]
        intro s X Y row hs hg hr
        obtain ⟨p1, p3, p5⟩ := hs
        exact ⟨p1, stands_block (f := fun _ : Unit => _) (by omega) () X Y row p3 hg hr, stands_below (Nat.le_refl _) (by omega) () X Y row p5 hg hr⟩
      case h0 => exact ⟨rfl, e1, e6, e7, hB0w⟩
      case hAx =>
        rw [hs0]
        intro x a' s X Y row hs hg hr
        obtain ⟨Bx, h1, h2, h3⟩ := hs
        exact ⟨Bx, h1, stands_cells (f := fun _ : Unit => _) (t := fun _ => _) (by omega) () X Y row h2 hg hr, h3⟩
      case assign =>
        rintro l1 pre x V K hi hsV hK
        rw [hs0] at hsV
        unfold chA
        gi_wp2
        exact hK _ _ ((Below.refl _ V).alloc (Nat.le_refl _) _) ⟨V.heap.size, by omega, newC, rfl⟩
      case body =>
        rintro l1 pre post x a' V hx hsV ⟨hok, hcnt, h6, h3, hB⟩ ⟨Bx, hBx, bX, rfl⟩
        rw [hs0] at hsV
        have hxg := hgih.out x (by rw [hx]; simp)
        have c9 := hcnt.cell
        have f9 := hcnt.frozen
        have c3 : V.cell? ⟨w.heap.size, 0, none⟩ = some (.slice A k cap) := by rw [cells_of h3]; rfl
        have c6 : V.cell? ⟨w.heap.size + 1, 0, none⟩ = some (.bool false) := by rw [cells_of h6]; rfl
        obtain ⟨x0, x1, x2, x3, -⟩ := bX.at_
        obtain ⟨a1, a2, b1, b2, ha1, ha2, hb1, hb2⟩ : ∃ a1 a2 b1 b2 : Int, x.1.1 = a1 ∧ x.1.2 = a2 ∧ x.2.1 = b1 ∧ x.2.2 = b2 := ⟨_, _, _, _, rfl, rfl, rfl, rfl⟩
        obtain ⟨p, hp⟩ : ∃ p : Int, a2 - a1 = p := ⟨_, rfl⟩
        obtain ⟨q, hq⟩ : ∃ q : Int, b2 - b1 = q := ⟨_, rfl⟩
        rw [ha1, ha2, hb1, hb2] at hxg
        rw [ha1] at x0
        rw [ha2] at x1
        rw [hb1] at x2
        rw [hb2] at x3
        have hO := Lib.hid (fun W' => size_any a1 a2 W' (by omega) (by omega) (by omega) (by omega))
        have hN' := Lib.hid (fun W' => size_any b1 b2 W' (by omega) (by omega) (by omega) (by omega))
        have hE := Lib.hid (fun W' => empty_any a1 a2 b1 b2 W')
        have hem : Hid (emp ((a1, a2), (b1, b2)) = emp x) := Lib.hid (by rw [← ha1, ← ha2, ← hb1, ← hb2])
        rw [hp] at hO
        rw [hq] at hN'
        rw [hem.out] at hE
        have hbad : Hid (∀ o, bad x o = (!decide (p = q) || decide (p < 0) || (emp x && !o))) := Lib.hid (fun o => by
          have h1 : lenO x = p := by unfold lenO; rw [ha1, ha2, hp]
          have h2 : lenN x = q := by unfold lenN; rw [hb1, hb2, hq]
          unfold bad
          rw [h1, h2])
        have hsn := Lib.hid (okG_snoc k pre x 0)
        have hgl : Hid (gapL M N l 0 0 = (pre ++ [x]) ++ post) := Lib.hid (by rw [hx]; simp)
        have hokh := Lib.hid hok
        have hchA : Hid (chA x = .agg #[.int .i64 a1, .int .i64 a2, .int .i64 b1, .int .i64 b2]) := Lib.hid (by unfold chA; rw [ha1, ha2, hb1, hb2])
        clear hx hp hq ha1 ha2 hb1 hb2 hok hgih hxg hit
        obtain ⟨ob, hob, hcase⟩ : ∃ ob, (decide (pre.length = 0) || decide (pre.length = k)) = ob ∧ ((ob = true ∧ pre.length = 0) ∨ (ob = true ∧ pre.length ≠ 0 ∧ pre.length = k) ∨ (ob = false ∧ pre.length ≠ 0 ∧ pre.length ≠ k)) := by
          refine ⟨_, rfl, ?_⟩
          by_cases g1 : pre.length = 0
          · exact .inl ⟨by simp [g1], g1⟩
          · by_cases g2 : pre.length = k
            · exact .inr (.inl ⟨by simp [g2], g1, g2⟩)
            · exact .inr (.inr ⟨by simp [g1, g2], g1, g2⟩)
        have hobh := Lib.hid hob
        clear hob
        have gx0 : ∀ y : Grown V, y.w.cell? ⟨Bx, 0, none⟩ = some (.int .i64 a1) := fun y => (y.below.cell (p := ⟨Bx, 0, none⟩) bX.lt).trans x0
        have gx1 : ∀ y : Grown V, y.w.cell? ⟨Bx, 1, none⟩ = some (.int .i64 a2) := fun y => (y.below.cell (p := ⟨Bx, 1, none⟩) bX.lt).trans x1
        have gx2 : ∀ y : Grown V, y.w.cell? ⟨Bx, 2, none⟩ = some (.int .i64 b1) := fun y => (y.below.cell (p := ⟨Bx, 2, none⟩) bX.lt).trans x2
        have gx3 : ∀ y : Grown V, y.w.cell? ⟨Bx, 3, none⟩ = some (.int .i64 b2) := fun y => (y.below.cell (p := ⟨Bx, 3, none⟩) bX.lt).trans x3
        have hcO : Hid (∀ (m : Nat) (y : Grown V), CallsIn Fence.wide m Try.prog 25 #[.agg #[.int .i64 a1, .int .i64 a2]] y.w fun e w'' => e = .returned (.int .i64 p) ∧ ∃ z : Grown V, w'' = z.w) :=
          Lib.hid (fun m y => (callsIn_wide.2 (hO.out y.w)).mono fun e w'' h => ⟨h.1, ⟨w'', y.below.trans (h.2.mono y.below.size)⟩, rfl⟩)
        have hcN : Hid (∀ (m : Nat) (y : Grown V), CallsIn Fence.wide m Try.prog 25 #[.agg #[.int .i64 b1, .int .i64 b2]] y.w fun e w'' => e = .returned (.int .i64 q) ∧ ∃ z : Grown V, w'' = z.w) :=
          Lib.hid (fun m y => (callsIn_wide.2 (hN'.out y.w)).mono fun e w'' h => ⟨h.1, ⟨w'', y.below.trans (h.2.mono y.below.size)⟩, rfl⟩)
        have hcE : Hid (∀ (m : Nat) (y : Grown V), CallsIn Fence.wide m Try.prog 21 #[.agg #[.int .i64 a1, .int .i64 a2, .int .i64 b1, .int .i64 b2]] y.w fun e w'' => e = .returned (.bool (emp x)) ∧ ∃ z : Grown V, w'' = z.w) :=
          Lib.hid (fun m y => (callsIn_wide.2 (hE.out y.w)).mono fun e w'' h => ⟨h.1, ⟨w'', y.below.trans (h.2.mono y.below.size)⟩, rfl⟩)
        haveI hne5 : Nonempty (Grown V) := ⟨⟨V, Below.refl _ _⟩⟩
        obtain ⟨em, hemx⟩ : ∃ em, emp x = em := ⟨_, rfl⟩
        rw [hemx] at hcE hbad
        have hXlt := bX.lt
        clear hO hN' hE hem hemx hchA bX
        obtain ⟨bd, hbd, hsub⟩ : ∃ bd, bad x ob = bd ∧ ((bd = true ∧ (p != q) = true) ∨ (bd = true ∧ p = q ∧ decide (p < 0) = true) ∨ (p = q ∧ decide (p < 0) = false ∧ em = true ∧ bd = !ob) ∨ (p = q ∧ decide (p < 0) = false ∧ em = false ∧ bd = false)) := by
          refine ⟨_, rfl, ?_⟩
          rw [hbad.out]
          by_cases t1 : p = q
          · by_cases t2 : p < 0
            · exact .inr (.inl ⟨by simp [t2], t1, by simpa using t2⟩)
            · cases em
              · exact .inr (.inr (.inr ⟨t1, by simpa using t2, rfl, by simp [t1]; omega⟩))
              · exact .inr (.inr (.inl ⟨t1, by simpa using t2, rfl, by simp [t1]; omega⟩))
          · exact .inl ⟨by simp [t1], by simpa using t1⟩
        have hgo : Hid (bd = false → okG k (pre ++ [x]) 0 = true) := Lib.hid (fun h => by
          have h1 := hsn.out
          rw [Nat.zero_add, hobh.out, hbd, h, hokh.out] at h1
          exact h1)
        have hba : Hid (bd = true → okG k (gapL M N l 0 0) 0 = false) := Lib.hid (fun h => by
          have h1 := hsn.out
          rw [Nat.zero_add, hobh.out, hbd, h, hokh.out] at h1
          rw [hgl.out, okG_append, h1]
          rfl)
        clear hbd hbad hsn hobh hokh
        have hob2 : Hid (pre.length = pre.length) := Lib.hid rfl
        obtain ⟨cv, hcv⟩ : ∃ cv : Int, (pre.length : Int) = cv := ⟨_, rfl⟩
        rw [hcv] at c9
        have hkr : (0 ≤ cv ∧ cv ≤ 6000) ∧ ((ob = true ∧ cv = 0) ∨ (ob = true ∧ (cv == 0) = false ∧ cv = (k : Int)) ∨ (ob = false ∧ (cv == 0) = false ∧ (cv == (k : Int)) = false)) := by
          have hpl : pre.length ≤ k := by
            have h1 := congrArg List.length hgl.out
            rw [gapL_len] at h1
            simp at h1
            omega
          refine ⟨by omega, ?_⟩
          rcases hcase with ⟨t0, t1⟩ | ⟨t0, t1, t2⟩ | ⟨t0, t1, t2⟩
          · exact .inl ⟨t0, by omega⟩
          · exact .inr (.inl ⟨t0, by simp; omega, by omega⟩)
          · exact .inr (.inr ⟨t0, by simp; omega, by simp; omega⟩)
        have hcvh := Lib.hid hcv
        clear hcase hcv hob2
        obtain ⟨⟨hk1, hk2⟩, hkr⟩ := hkr
        rcases hsub with ⟨rfl, t1⟩ | ⟨rfl, rfl, t2⟩ | ⟨rfl, t2, rfl, rfl⟩ | ⟨rfl, t2, rfl, rfl⟩ <;> rcases hkr with ⟨rfl, rfl⟩ | ⟨rfl, u1, rfl⟩ | ⟨rfl, u1, u2⟩
        all_goals
          gi_wp2
          refine wpIn_region_quiet_round (C := fun wx => ∃ y : Grown V, wx = y.w) l1 rfl (by simp) (by kernel_rfl) (by kernel_rfl) ⟨⟨V.drew, (Below.refl _ V).drew⟩, rfl⟩ ?_
          repeat (refine wpQuietIn_step (fun _ _ _ _ => trivial) (fun K hK => ?_); go_simp; first
            | (refine hK _ ?_; clear hK K)
            | (apply Exists.intro
               refine ⟨fun _ => ?_, hK _ ?_⟩
               (first
                 | (gi_at_call 25; first
                   | (with_reducible exact hcO.out _ _)
                   | (with_reducible exact hcN.out _ _))
                 | (gi_at_call 21; exact hcE.out _ _))
               clear hK K))
          refine wpQuietIn_nil ?_
          rintro wx ⟨⟨wz, hwx⟩, hwz⟩
          obtain rfl : wx = wz := hwz
          have y6 : wx.heap[w.heap.size + 1]? = some (.cells #[.bool false] 4 (0, 0)) := (hwx.block _ (by omega)).trans h6
          have z6 : wx.cell? ⟨w.heap.size + 1, 0, none⟩ = some (.bool false) := by rw [cells_of y6]; rfl
          have v6 := unfrozen_of y6 0
          have ycnt : Boxed wx wo.heap.size 3 (.int .i64 (pre.length : Int)) := (hwx.block _ hcnt.lt).trans hcnt
          have z9 := (hwx.cell (p := ⟨wo.heap.size, 0, none⟩) hcnt.lt).trans c9
          have v9 := ycnt.frozen
          gi_wp2
        all_goals first
          | (refine ⟨(Leaves.below hwx).trans (Leaves.but (But.setCell (F := fun r => r = wo.heap.size) wx (p := ⟨wo.heap.size, 0, none⟩) rfl _) (fun r e => ⟨fun h => ?_, .inl (by omega)⟩) (fun r e h => by omega)), (by first | exact hgo.out rfl | exact hgo.out trivial | exact hgo.out), boxed_set_to ycnt (by rw [List.length_append]; have := hcvh.out; simp; omega), (Below.heap_setCell _ _ _ _ (by show w.heap.size + 1 ≠ wo.heap.size; omega)).trans y6, (Below.heap_setCell _ _ _ _ (by show w.heap.size ≠ wo.heap.size; omega)).trans ((hwx.block _ (by omega)).trans h3), (hB.trans (hwx.mono hB.size)).setCell (p := ⟨wo.heap.size, 0, none⟩) (by show _ ≤ wo.heap.size; omega) _⟩
             rcases h with h | h | h
             · have := hA.rowLt h; omega
             · omega
             · omega)
          | (refine ⟨(Leaves.below hwx).trans (Leaves.but (But.setCell (F := fun r => r = w.heap.size + 1) wx (p := ⟨w.heap.size + 1, 0, none⟩) rfl _) (fun r e => ⟨fun h => ?_, .inl (by omega)⟩) (fun r e h => by omega)), (by first | exact hba.out rfl | exact hba.out trivial | exact hba.out), cells_set _ y6, (hB.trans (hwx.mono hB.size)).setCell (p := ⟨w.heap.size + 1, 0, none⟩) (by show _ ≤ w.heap.size + 1; omega) _⟩
             rcases h with h | h | h
             · have := hA.rowLt h; omega
             · omega
             · omega)
      case done =>
        rintro D V hD hV2 ⟨hok, hcnt, h6, h3, hB⟩ hK
        have c6 : V.cell? ⟨w.heap.size + 1, 0, none⟩ = some (.bool false) := by rw [cells_of h6]; rfl
        have f6 := unfrozen_of h6 0
        gi_wp2
        have hK2 : (V.setCell ⟨w.heap.size + 1, 0, none⟩ (.bool true)).heap[D]? = some (.deferred (some [])) := (KeepsOthers.setCell V ⟨w.heap.size + 1, 0, none⟩ (.bool true)).same D _ hK rfl
        refine ⟨by simp, .inl ⟨_, _, rfl, run_takeDeferred hK2, ?_⟩⟩
        have h7 : ((V.setCell ⟨w.heap.size + 1, 0, none⟩ (.bool true)).putObj D (.deferred none)).heap[w.heap.size + 1]? = some (.cells #[.bool true] 4 (0, 0)) := (World.putObj_heap_other (by omega)).trans (cells_set _ h6)
        have c7 : ((V.setCell ⟨w.heap.size + 1, 0, none⟩ (.bool true)).putObj D (.deferred none)).cell? ⟨w.heap.size + 1, 0, none⟩ = some (.bool true) := by rw [cells_of h7]; rfl
        have hrt : r = true := by rw [← hrh.out, hab.out, hallT.out, hl, hok]; rfl
        exact ⟨.bool true, by simp [results, Try.results22, go_sem, c7], ret_bool hrt.symm, (hB.setCell (p := ⟨w.heap.size + 1, 0, none⟩) (by show _ ≤ w.heap.size + 1; omega) _).trans (belowK_b (w := w) (Nat.le_refl _) _ D _ _ (by omega) hK2 rfl rfl)⟩
      case stop =>
        rintro D pre V hD hpre ⟨hok, h6, hB⟩ hK
        gi_wp2
        refine ⟨by simp, .inl ⟨_, _, rfl, run_takeDeferred hK, ?_⟩⟩
        have h7 : (V.putObj D (.deferred none)).heap[w.heap.size + 1]? = some (.cells #[.bool false] 4 (0, 0)) := (World.putObj_heap_other (by omega)).trans h6
        have c7 : (V.putObj D (.deferred none)).cell? ⟨w.heap.size + 1, 0, none⟩ = some (.bool false) := by rw [cells_of h7]; rfl
        have hrf : r = false := by rw [← hrh.out, hab.out, hl, hok, Bool.and_false]
        exact ⟨.bool false, by simp [results, Try.results22, go_sem, c7], ret_bool hrf.symm, hB.trans (belowK_b (w := w) (Nat.le_refl _) V D _ _ (by omega) hK rfl rfl)⟩
end Go.Proofs.Ytjbgiaekckdoaaa
