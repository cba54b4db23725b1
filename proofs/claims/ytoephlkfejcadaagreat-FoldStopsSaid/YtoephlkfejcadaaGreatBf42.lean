/- Proved here: texts joined: MgCk2, MgCk3, NmPure, PkPile. -/
import Derived.Test.YtoephlkfejcadaaGreatBf04
import Derived.Test.YtoephlkfejcadaaGreatBf29
import Derived.Test.YtoephlkfejcadaaGreatBf41
import Derived.Laws.EntriesVeiled
import Derived.RangeFuncBox
/- Proved here: the contract of the landed merge.Chunks. -/
namespace Go.Proofs.YtoephlkfejcadaaGreat
open Go.RowKit
set_option linter.unusedVariables false
set_option maxRecDepth 100000

/-- What is asked of the files, one behind the other. -/
def FilesK (w w' : World) (e : Ending) (N : Nat) (base : Txs) (sides : List Txs) : Prop := ∃ A1 c1 r rs, e = .returned (.slice A1 N c1) ∧ N ≤ c1 ∧ c1 ≤ maxLen ∧ RowsT w' w'.heap.size A1 N (r :: rs) (base :: sides) ∧ Below w.heap.size w w'
/-- The numbers of all files. -/
def IdsK (w w' : World) (e : Ending) (N : Nat) (a : List Int) (bs : List (List Int)) : Prop := ∃ A2 c2 r rs, e = .returned (.slice A2 N c2) ∧ N ≤ c2 ∧ c2 ≤ maxLen ∧ RowsN w' w'.heap.size A2 N (r :: rs) (a :: bs) ∧ Below w.heap.size w w'

theorem cat_files (A0 : Option Addr) (n0 c0 : Nat) (base : Txs) (A : Option Addr) (n c : Nat) (rows : List Slc) (sides : List Txs) (w : World) (hn1 : 1 ≤ n) (hn2 : n ≤ 16) (hA0 : TxR w w.heap.size (A0, n0, c0) base) (hA : RowsT w w.heap.size A n rows sides) :
    Calls Tryz.prog 38 #[.slice (some ⟨w.heap.size + 1, 0, none⟩) 2 2] ((w.alloc (.cells #[.slice A0 n0 c0] 22)).alloc (.cells #[.slice (some ⟨w.heap.size, 0, none⟩) 1 1, .slice A n c] 23)) fun e w' => FilesK w w' e (n + 1) base sides := by
  obtain ⟨W1, hW1⟩ : ∃ W1, W1 = w.alloc (.cells #[.slice A0 n0 c0] 22) := ⟨_, rfl⟩
  have hz1 : W1.heap.size = w.heap.size + 1 := by rw [hW1]; simp
  have hB1 : Below w.heap.size w W1 := by rw [hW1]; exact (Below.refl _ _).alloc (Nat.le_refl _) _
  have hc1 : W1.cell? ⟨w.heap.size, 0, none⟩ = some (.slice A0 n0 c0) := by rw [hW1, World.cell?_alloc_mark]; rfl
  rw [← hW1]
  obtain ⟨W2, hW2⟩ : ∃ W2, W2 = W1.alloc (.cells #[.slice (some ⟨w.heap.size, 0, none⟩) 1 1, .slice A n c] 23) := ⟨_, rfl⟩
  have hB2 : Below W1.heap.size W1 W2 := by rw [hW2]; exact (Below.refl _ _).alloc (Nat.le_refl _) _
  have hz2 : W2.heap.size = w.heap.size + 2 := by rw [hW2, size_push, hz1]
  have hcc : ∀ j, W2.cell? ⟨w.heap.size + 1, j, none⟩ = #[.slice (some ⟨w.heap.size, 0, none⟩) 1 1, .slice A n c][j]? := fun j => by rw [hW2, ← hz1, World.cell?_alloc_mark]
  rw [← hW2]
  have hB : Below w.heap.size w W2 := hB1.trans (hB2.mono hB1.size)
  have hR0 : Reads W2 W2.heap.size (some ⟨w.heap.size, 0, none⟩) 1 ([(A0, n0, c0)].map slcV) := ⟨rfl, fun _ => ⟨_, _, rfl, by omega, fun j u hu => by
    match j, hu with
    | 0, hu =>
      simp at hu
      subst hu
      exact (hB2.cell (p := ⟨w.heap.size, 0, none⟩) (by show w.heap.size < _; omega)).trans hc1
    | j + 1, hu => simp at hu⟩⟩
  refine (concat_any _ _ (some ⟨w.heap.size, 0, none⟩) A n c (A0, n0, c0) rows W2 hn1 (by omega) ⟨rfl, fun _ => ⟨_, _, rfl, by omega, fun j u hu => ?_⟩⟩ hR0 ((hA.1.below hB).more hB.size)).mono ?_
  · rw [Nat.zero_add, hcc]
    match j, hu with
    | 0, hu => simpa using hu
    | 1, hu => simpa using hu
    | j + 2, hu => simp at hu
  · rintro e w' ⟨A1, N, c1, rfl, hN, h1, h2, h3, h4⟩
    have hrl := hA.rlen
    obtain rfl : N = n + 1 := by rw [hN]; simp; omega
    have hBB : Below w.heap.size w w' := hB.trans (h4.mono hB.size)
    exact ⟨A1, c1, (A0, n0, c0), rows, rfl, h1, h2, ⟨h3, by simp; exact hA.2.1, fun k r ss a b => by
      match k, a, b with
      | 0, a, b => simp at a b; subst a; subst b; exact hA0.up hBB
      | k + 1, a, b => exact (hA.up hBB).2.2 k r ss (by simpa using a) (by simpa using b)⟩, hBB⟩

set_option maxHeartbeats 1000000 in
/-- One of them may not be lines. -/
theorem chunks_form (A0 : Option Addr) (n0 c0 : Nat) (base : Txs) (A : Option Addr) (n c : Nat) (rows : List Slc) (sides : List Txs) (w : World) (hn1 : 1 ≤ n) (hn2 : n ≤ 16) (hsm : smallM base sides) (hA0 : TxR w w.heap.size (A0, n0, c0) base) (hA : RowsT w w.heap.size A n rows sides) (hbad : (base :: sides).all mayB = false) :
    Calls Tryz.prog 19 #[.slice A0 n0 c0, .slice A n c] w fun e w' => ChunksOut w w' e base sides := by
  have hl := hA.len
  have hz : wrongN base sides = 2 := by
    unfold wrongN
    rw [if_neg (by omega), if_pos]
    simpa using hbad
  have hcat := Lib.hid (cat_files A0 n0 c0 base A n c rows sides w hn1 hn2 hA0 hA)
  have hfin := Lib.hid (fun w' hb => cuts_bad (w := w) (w' := w') hz (by decide) hb)
  obtain ⟨N, hN⟩ : ∃ N, n + 1 = N := ⟨_, rfl⟩
  have hln : Hid (∀ A1 c1 r rs w1, RowsT w1 w1.heap.size A1 N (r :: rs) (base :: sides) → Calls Tryz.prog 39 #[.slice A1 N c1] w1 fun e w' => e = .returned (.bool false) ∧ w1 = w') := Lib.hid fun A1 c1 r rs w1 h => by
    have := areLines_any A1 N c1 (r :: rs) (base :: sides) w1 (by unfold maxLen; omega) h (fun f hf s hs => Nat.le_trans ((hsm.2 f hf).2 s hs) (by decide))
    rwa [hbad] at this
  rw [hN] at hcat
  have e1 : ((n : Int) == 0) = false := by simp; omega
  have e2 : decide ((16 : Int) < (n : Int)) = false := by simp; omega
  clear hA hA0 hbad hz hN hsm hl
  go_enter Tryz.func19, Tryz.ntmps19
  go_wp2_with (first
    | (go_at_call 38; refine hcat.out.mono ?_; rintro e w1 ⟨A1, c1, r, rs, rfl, -, -, hR, hb1⟩; have hRh := Lib.hid hR; have hbh := Lib.hid hb1; clear hR hb1)
    | (go_at_call 39; refine (hln.out _ _ _ _ _ hRh.out).mono ?_; rintro e w2 ⟨rfl, rfl⟩))
  go_ret2
  exact hfin.out _ hbh.out
end Go.Proofs.YtoephlkfejcadaaGreat
/- Proved here: the contract of the landed merge.Chunks, of files that may be. -/
namespace Go.Proofs.YtoephlkfejcadaaGreat
open Go.RowKit
set_option linter.unusedVariables false
set_option maxRecDepth 100000

theorem ids_all (base : Txs) (sides : List Txs) (n : Nat) (hsm : smallM base sides) (hn : n ≤ 16) (hl : sides.length = n) (A1 : Option Addr) (c1 : Nat) (r : Slc) (rs : List Slc) (w1 : World) (hR : RowsT w1 w1.heap.size A1 (n + 1) (r :: rs) (base :: sides)) :
    Calls Tryz.prog 41 #[.slice A1 (n + 1) c1] w1 fun e w' => IdsK w1 w' e (n + 1) (base.map fun s => (numOf (withAll [] (base :: sides).flatten) s : Int)) (sides.map fun d => d.map fun s => (numOf (withAll [] (base :: sides).flatten) s : Int)) := by
  refine (All_any A1 (n + 1) c1 (r :: rs) (base :: sides) w1 hR.to2 (fun f hf s hs => Nat.le_trans ((hsm.2 f hf).2 s hs) (by decide)) (by omega) (fun f hf => Nat.le_trans (hsm.2 f hf).1 (by omega))).mono ?_
  rintro e w' ⟨A2, n2, c2, rows2, rfl, h1, h2, h3, h4⟩
  have hlen := h3.len
  obtain rfl : n2 = n + 1 := by rw [← hlen]; simp [numsL, hl]
  cases rows2 with
  | nil => have := h3.2.1; simp [numsL] at this
  | cons r2 rs2 => exact ⟨A2, c2, r2, rs2, rfl, h1, h2, h3, h4⟩

set_option maxHeartbeats 4000000 in
theorem chunks_good (A0 : Option Addr) (n0 c0 : Nat) (base : Txs) (A : Option Addr) (n c : Nat) (rows : List Slc) (sides : List Txs) (w : World) (hn1 : 1 ≤ n) (hn2 : n ≤ 16) (hnc : n ≤ c) (hsm : smallM base sides) (hA0 : TxR w w.heap.size (A0, n0, c0) base) (hA : RowsT w w.heap.size A n rows sides) (hok : (base :: sides).all mayB = true) :
    Calls Tryz.prog 19 #[.slice A0 n0 c0, .slice A n c] w fun e w' => ChunksOut w w' e base sides := by
  have hl := hA.len
  have hl0 : base.length = n0 := hA0.2.2.len
  have hz : wrongN base sides = 0 := by
    have h2 : ∀ d ∈ base :: sides, mayB d = true := List.all_eq_true.1 hok
    exact wrong_zero (by omega) (by omega) (h2 _ (List.mem_cons_self ..)) (fun d hd => h2 d (List.mem_cons_of_mem _ hd)) (Nat.le_trans (hsm.2 _ (List.mem_cons_self ..)).1 (by omega)) (fun d hd => Nat.le_trans (hsm.2 d (List.mem_cons_of_mem _ hd)).1 (by omega))
  have hcat := Lib.hid (cat_files A0 n0 c0 base A n c rows sides w hn1 hn2 hA0 hA)
  obtain ⟨F, hF⟩ : ∃ F : Tx → Int, F = fun s => (numOf (withAll [] (base :: sides).flatten) s : Int) := ⟨_, rfl⟩
  obtain ⟨a, ha⟩ : ∃ a, base.map F = a := ⟨_, rfl⟩
  obtain ⟨bs, hbs⟩ : ∃ bs, (sides.map fun d => d.map F) = bs := ⟨_, rfl⟩
  have hal : a.length = n0 := by rw [← ha, List.length_map, hl0]
  have hbl : bs.length = n := by rw [← hbs, List.length_map, hl]
  have hbsm : ∀ b ∈ bs, b.length ≤ 2000 := fun b hb => by
    rw [← hbs] at hb
    obtain ⟨d, hd, rfl⟩ := List.mem_map.1 hb
    have := (hsm.2 d (List.mem_cons_of_mem _ hd)).1
    simp; omega
  have hn0 : n0 ≤ 100 := by have := (hsm.2 base (List.mem_cons_self ..)).1; omega
  have hms : Hid (MsOf base sides (msOf a bs)) := Lib.hid (by have := ms_of base sides; rw [← hF, ha, hbs] at this; exact this)
  have hsz : sizesOf bs = szs sides := by rw [← hbs]; exact sizes_of F sides
  have hszl : (szs sides).length = n := by rw [szs_len, hl]
  obtain ⟨sz, hsze⟩ : ∃ sz, szs sides = sz := ⟨_, rfl⟩
  have hszat : Hid (∀ (k : Nat) (ss : Txs), sides[k]? = some ss → sz[k]? = some (ss.length : Int)) := Lib.hid fun k ss h => by rw [← hsze]; unfold szs; rw [List.getElem?_map, h]; rfl
  obtain ⟨N, hN⟩ : ∃ N, n + 1 = N := ⟨_, rfl⟩
  have hln : Hid (∀ A1 c1 r rs w1, RowsT w1 w1.heap.size A1 N (r :: rs) (base :: sides) → Calls Tryz.prog 39 #[.slice A1 N c1] w1 fun e w' => e = .returned (.bool true) ∧ w1 = w') := Lib.hid fun A1 c1 r rs w1 h => by
    have := areLines_any A1 N c1 (r :: rs) (base :: sides) w1 (by unfold maxLen; omega) h (fun f hf s hs => Nat.le_trans ((hsm.2 f hf).2 s hs) (by decide))
    rwa [hok] at this
  have hall : Hid (∀ A1 c1 r rs w1, RowsT w1 w1.heap.size A1 N (r :: rs) (base :: sides) → Calls Tryz.prog 41 #[.slice A1 N c1] w1 fun e w' => IdsK w1 w' e N a bs) := Lib.hid fun A1 c1 r rs w1 h => by
    have := ids_all base sides n hsm hn2 hl A1 c1 r rs w1 (by rw [hN]; exact h)
    rw [← hF, ha, hbs, hN] at this
    exact this
  have hup : Hid (∀ A2 c2 r rs w2, N ≤ c2 → c2 ≤ maxLen → RowsN w2 w2.heap.size A2 N (r :: rs) (a :: bs) → Calls Tryz.prog 40 #[.slice A2 N c2] w2 fun e w' => PairsOut w2 w' e a bs) := Lib.hid fun A2 c2 r rs w2 h1 h2 h3 => pairUp_any A2 N c2 r rs a bs w2 h1 h2 (by omega) (by omega) hbsm h3
  have hAl : Hid (∀ Gs Gm (M : Nat → SlcN) (W : World), Nums W W.heap.size (some ⟨Gs, 0, none⟩) n sz → RowsN W W.heap.size (some ⟨Gm, 0, none⟩) n ((List.range n).map M) (msOf a bs) →
      Calls Tryz.prog 43 #[.int .i64 n0, .slice (some ⟨Gs, 0, none⟩) n n, .slice (some ⟨Gm, 0, none⟩) n n] W fun e w' => AlignOut W w' e n0 sz (msOf a bs)) := Lib.hid fun Gs Gm M W h1 h2 =>
    align_ok.align_ok _ n n sz _ n n _ (msOf a bs) n0 W hn1 hn2 (Nat.le_refl _) (by unfold maxLen; omega) (Nat.le_refl _) (by unfold maxLen; omega) (by rw [ms_len, hbl]) (by omega)
      (fun z hzz => by
        rw [← hsze] at hzz
        unfold szs at hzz
        obtain ⟨d, hd, rfl⟩ := List.mem_map.1 hzz
        have := (hsm.2 d (List.mem_cons_of_mem _ hd)).1
        omega)
      (fun k l z k1 k2 => by
        rw [← hsze, ← hsz] at k2
        have := ms_match k1 k2
        rwa [hal] at this) h1 h2
  have hcuts : Hid (∀ cs, IsCut n0 sz (msOf a bs) cs → CutsTo base sides 0 cs) := Lib.hid (fun cs h => ⟨hz.symm, fun h => absurd rfl h, fun _ => ⟨msOf a bs, hms.out, by rw [hl0, hsze]; exact h⟩⟩)
  have hAh := Lib.hid hA
  rw [hN] at hcat
  have hmk1 := run_make_row' (P := Tryz.prog) 76 3 (.int .i64 0) 8 Tryz.underlying76 info3 rfl .i64 .i64 n (by omega) (by omega)
  have hmk2 := run_make_row' (P := Tryz.prog) 74 76 (.slice none 0 0) 24 Tryz.underlying74 info39 rfl .i64 .i64 n (by omega) (by omega)
  have e1 : ((n : Int) == 0) = false := by simp; omega
  have e2 : decide ((16 : Int) < (n : Int)) = false := by simp; omega
  have hblh := Lib.hid hbl
  have halh := Lib.hid hal
  have hszlh : Hid (sz.length = n) := Lib.hid (by rw [← hsze]; exact hszl)
  clear hA hA0 hok hz hN hsm hl hl0 hF ha hbs hal hbl hbsm hms hsz hszl hsze
  go_enter Tryz.func19, Tryz.ntmps19
  go_upto_region 9 with (first
    | (go_at_call 38; refine hcat.out.mono ?_; rintro e w1 ⟨A1, c1, r, rs, rfl, -, -, hR, hb1⟩; have hRh := Lib.hid hR; have hbh := Lib.hid hb1; clear hR hb1)
    | (go_at_call 39; refine (hln.out _ _ _ _ _ hRh.out).mono ?_; rintro e w2 ⟨rfl, rfl⟩)
    | (go_at_call 41; refine (hall.out _ _ _ _ _ hRh.out).mono ?_; rintro e w3 ⟨A2, c2, r2, rs2, rfl, i1, i2, i3, i4⟩; have hIh := Lib.hid (And.intro i1 (And.intro i2 i3)); have hbh2 := Lib.hid (hbh.out.trans (i4.mono hbh.out.size)); clear i1 i2 i3 i4)
    | (go_at_call 40; refine (hup.out _ _ _ _ _ hIh.out.1 hIh.out.2.1 hIh.out.2.2).mono ?_; rintro e w4 ⟨G, n5, T, lo, hi, rfl, hn5, hP, hG, hb4⟩; have hGh := Lib.hid (Nat.le_trans hbh2.out.size hG); rw [hblh.out] at hn5; subst hn5; have hPh := Lib.hid hP; have hbh3 := Lib.hid (hbh2.out.trans (hb4.mono hbh2.out.size)); clear hP hb4 hG))
  have hn' : n5 ≤ 16 := hn2
  go_cut [9, 10] (fun s9 s10 wx => ∃ Gs Gm, s9 = .slice (some ⟨Gs, 0, none⟩) n5 n5 ∧ s10 = .slice (some ⟨Gm, 0, none⟩) n5 n5 ∧ TwoK w4 wx Gs Gm n5)
  case first =>
    go_region
    all_goals (go_wp2_with fail; go_meet; first | exact ⟨_, _, rfl, rfl, twoK_a w4 n5⟩ | exact ⟨_, _, rfl, rfl, twoK_b w4 n5⟩)
  case rest =>
  obtain ⟨Gs, Gm, rfl, rfl, hT⟩ := hcut
  obtain ⟨hRd, hL0⟩ := loop_start (sz := sz) hblh.out hPh.out hT
  have hRdh := Lib.hid hRd
  have hL0h := Lib.hid hL0
  have hBc := Lib.hid (hbh3.out.trans (hT.below.mono hbh3.out.size))
  have hlow : Hid (∀ j, (j = Gs ∨ j = Gm ∨ ∃ i, i < n5 ∧ j = T i) → w.heap.size ≤ j) := Lib.hid fun j hj => by
    have h1 := hbh3.out.size
    have h2 := hT.gs
    have h3 := hT.gm
    rcases hj with e | e | ⟨i, hi', e⟩
    · omega
    · omega
    · obtain ⟨b', hb', q1, q2, -⟩ := hRd.at_ i hi'
      have := q1.le
      have := hGh.out
      omega
  clear hmk1 hmk2 hRd hL0 hT hcat hln hall hup
  go_wp2
  go_loopw [46] (fun i wr => ∃ k : Nat, k ≤ n5 ∧ i = .int .i64 k ∧ Hid (∃ M, LoopK wc wr Gs Gm n5 T a bs sz M k)) (fun i _ => n5 - (intOf i).toNat)
  case atStart => exact ⟨0, Nat.zero_le _, rfl, Lib.hid ⟨_, hL0h.out⟩⟩
  case round =>
    obtain ⟨k, hk, rfl, hL⟩ := hrel
    obtain ⟨wo, rfl⟩ : ∃ wo : World, wo = wr := ⟨_, rfl⟩
    clear hL0h
    have hBo : Below w.heap.size w wo := by
      obtain ⟨M, hLM⟩ := hL.out
      have := hBc.out
      exact this.trans (hLM.but.below this.size fun j hj => hlow.out j (by
        rcases hj with e | e | ⟨i, hi', e⟩
        · exact .inl e
        · exact .inr (.inl e)
        · exact .inr (.inr ⟨i, by omega, e⟩)))
    by_cases hlt : k < n5
    · obtain ⟨M, hLM⟩ := hL.out
      obtain ⟨b1, o1, A5, n6, c6, ss, rfl, hb1, hss, -, hc1, hnc6, hcm6, hS6⟩ := (hAh.out.below hBo).at_ (k := k) hlt
      obtain ⟨bk, hbk, -⟩ := hRdh.out.at_ k hlt
      have hTk : w.heap.size ≤ T k := hlow.out _ (.inr (.inr ⟨k, hlt, rfl⟩))
      have hgc := hLM.gcell hRdh.out hlt
      have hzk : sz[k]? = some (n6 : Int) := by rw [hszat.out k ss hss, hS6.len]
      have hcall : Calls Tryz.prog 42 #[.pointer (some ⟨T k, 0, none⟩)] wo.drew fun e w1 => ∃ A c, e = .returned (.slice A a.length c) ∧ (w1.cell? ⟨b1, o1 + k, none⟩ = some (.slice A5 n6 c6) ∧ (w1.cell? ⟨Gs, k, none⟩ = some (.int .i64 0) ∧ w1.frozen? ⟨Gs, k, none⟩ = false ∧ w1.cell? ⟨Gm, k, none⟩ = some (.slice none 0 0) ∧ w1.frozen? ⟨Gm, k, none⟩ = false)) ∧
          Hid (∃ M, LoopK wc ((w1.setCell ⟨Gs, k, none⟩ (.int .i64 n6)).setCell ⟨Gm, k, none⟩ (.slice A a.length c)) Gs Gm n5 T a bs sz M (k + 1)) :=
        (matchK_any (T k) a bk wo.drew (pair_kept (hLM.pair hRdh.out hlt hbk) (Below.refl _ _).drew)).mono fun e w1 h => by
          obtain ⟨A7, c7, rfl, g1, g2, g3, g4, g5⟩ := h
          have hbut : But (fun j => j = T k) wo w1 := ⟨g5.os, g5.tape, g5.output, g5.size, g5.block⟩
          have hst := hLM.step hRdh.out hlt hbk hzk g1 g2 g3 g4 hbut
          exact ⟨A7, c7, rfl, ⟨(World.cell?_of_block (w := wo) (hbut.block b1 (Nat.lt_of_lt_of_le hb1 hBo.size) (by show ¬ b1 = T k; omega))).trans hc1, hst.1⟩, Lib.hid ⟨_, hst.2⟩⟩
      have hcallh := Lib.hid hcall
      have hk1 : (0 : Int) ≤ (k : Int) := by omega
      have hk2 : (k : Int) < (n5 : Int) := by omega
      have hg1 : w.heap.size ≤ Gs := hlow.out _ (.inl rfl)
      have hg2 : w.heap.size ≤ Gm := hlow.out _ (.inr (.inl rfl))
      have hn1 : ¬ Gs = Gm := hRdh.out.ne
      have hn2 : ¬ Gm = Gs := fun e => hRdh.out.ne e.symm
      have hn3 : ¬ b1 = Gs := by omega
      have hn4 : ¬ b1 = Gm := by omega
      have hn5 : ¬ Gs = b1 := by omega
      have hn6 : ¬ Gm = b1 := by omega
      clear hcall hLM hL hss hS6 hbk hzk hBo
      go_wp2
      go_region_with (go_at_call 42; refine hcallh.out.mono ?_; rintro e w1 ⟨A7, c7, rfl, ⟨j0, j1, j2, j3, j4⟩, hfin⟩)
      all_goals (go_wp2; go_roundw)
      all_goals first
        | exact ⟨k + 1, by omega, by go_num, hfin⟩
        | exact ⟨k + 1, by omega, by go_num, Lib.hid (by obtain ⟨M2, h2⟩ := hfin.out; exact ⟨M2, h2.drew⟩)⟩
        | (simp [intOf]; omega)
    · obtain rfl : k = n5 := by omega
      obtain ⟨M, hLM⟩ := hL.out
      obtain ⟨f1, f2⟩ := hLM.fin hRdh.out hszlh.out
      have hC := Lib.hid (hAl.out Gs Gm M wo f1 f2)
      have hBoh := Lib.hid hBo
      clear hLM hL f1 f2 hBo
      go_wp2_with (go_at_call 43; refine hC.out.mono ?_; rintro e w5 ⟨cs, hcut, A8, n8, c8, rfl, q1, q2, q3, q4, q5⟩; have hq := Lib.hid (And.intro hcut (And.intro q2 (And.intro q3 (And.intro q4 q5)))); clear hcut q1 q2 q3 q4 q5)
      go_ret2
      exact ⟨0, A8, n8, c8, cs, rfl, hq.out.2.1, hq.out.2.2.1, hq.out.2.2.2.1, hcuts.out cs hq.out.1, hBoh.out.trans (hq.out.2.2.2.2.mono hBoh.out.size)⟩

/-- The landed package keeps what the laws ask of Chunks. -/
theorem chunks_any : MergeChunksOk := fun A0 n0 c0 base A n c rows sides w hnc hcm hsm hA0 hA => by
  have hl := hA.len
  by_cases h : n = 0 ∨ 16 < n
  · exact chunks_arg A0 n0 c0 base A n c sides w hl (by have := hsm.1; omega) h
  · cases hok : (base :: sides).all mayB with
    | false => exact chunks_form A0 n0 c0 base A n c rows sides w (by omega) (by omega) hsm hA0 hA hok
    | true => exact chunks_good A0 n0 c0 base A n c rows sides w (by omega) (by omega) hnc hsm hA0 hA hok
end Go.Proofs.YtoephlkfejcadaaGreat
/- Proved here, without conditions: plain facts on pieces that are put behind others, as the landed Normal does it. -/
namespace Go.Proofs.YtoephlkfejcadaaGreat
set_option linter.unusedVariables false

/-- One more piece behind pieces that are put together. -/
def pushT (l : List Pc) (t : Txs) : List Pc := match l.getLast? with
  | some (false, x, b, s) => l.dropLast ++ [(false, x ++ t, b, s)]
  | _ => l ++ [tPc t]
def pushP (l : List Pc) (p : Pc) : List Pc := if p.1 = true then l ++ [cPc p.2.2.1 p.2.2.2] else if p.2.1 = [] then l else pushT l p.2.1
theorem pushT_cons (x : Pc) {l : List Pc} (t : Txs) (h : l ≠ [] ∨ x.1 = true) : pushT (x :: l) t = x :: pushT l t := by
  unfold pushT
  cases l with
  | nil =>
    obtain ⟨c, a, b, s⟩ := x
    rcases h with h | h
    · exact absurd rfl h
    · simp at h
      subst h
      rfl
  | cons y l =>
    rw [List.getLast?_cons_cons]
    cases hl : (y :: l).getLast? with
    | none => simp at hl
    | some q =>
      obtain ⟨c, a, b, s⟩ := q
      cases c
      · simp
      · simp
theorem push_cons (x : Pc) {l : List Pc} (p : Pc) (h : l ≠ [] ∨ x.1 = true) : pushP (x :: l) p = x :: pushP l p := by
  unfold pushP
  split
  · rfl
  · split
    · rfl
    · exact pushT_cons x _ h
theorem join_push (t : Txs) (p : Pc) : ∀ l : List Pc, joinT t (pushP l p) = pushP (joinT t l) p
  | [] => by
    obtain ⟨c, x, b, s⟩ := p
    cases c
    · by_cases hx : x = []
      · subst hx
        simp [pushP]
      · by_cases ht : t = [] <;> simp [pushP, pushT, joinT, hx, ht, tPc]
    · by_cases ht : t = [] <;> simp [pushP, joinT, ht, cPc, tPc]
  | (true, x, b, s) :: r => by
    rw [push_cons _ _ (.inr rfl)]
    show (if t = [] then (true, x, b, s) :: pushP r p else tPc t :: (true, x, b, s) :: pushP r p) = pushP (if t = [] then (true, x, b, s) :: r else tPc t :: (true, x, b, s) :: r) p
    by_cases ht : t = []
    · rw [if_pos ht, if_pos ht, push_cons _ _ (.inr rfl)]
    · rw [if_neg ht, if_neg ht, push_cons _ _ (.inl (by simp)), push_cons _ _ (.inr rfl)]
  | [(false, x, b, s)] => by
    obtain ⟨c, y, b', s'⟩ := p
    cases c
    · by_cases hy : y = []
      · subst hy
        simp [pushP]
      · simp [pushP, pushT, joinT, hy]
    · simp [pushP, joinT]
  | (false, x, b, s) :: y :: r => by
    rw [push_cons (false, x, b, s) (l := y :: r) p (.inl (by simp))]
    show (false, t ++ x, b, s) :: pushP (y :: r) p = pushP ((false, t ++ x, b, s) :: y :: r) p
    rw [push_cons (false, t ++ x, b, s) (l := y :: r) p (.inl (by simp))]
theorem normal_snoc (p : Pc) : ∀ l : List Pc, normal (l ++ [p]) = pushP (normal l) p
  | [] => by
    obtain ⟨c, x, b, s⟩ := p
    cases c
    · by_cases hx : x = [] <;> simp [normal, pushP, pushT, joinT, hx, tPc]
    · simp [normal, pushP, cPc]
  | (true, x, b, s) :: l => by
    rw [List.cons_append, normal, normal_snoc p l, normal, push_cons _ _ (.inr rfl)]
  | (false, x, b, s) :: l => by
    rw [List.cons_append, normal, normal_snoc p l, normal, join_push]
theorem normal_take {ps : List Pc} {i : Nat} {p : Pc} (h : ps[i]? = some p) : normal (ps.take (i + 1)) = pushP (normal (ps.take i)) p := by
  rw [take_at h, normal_snoc]
theorem push_conf (l : List Pc) (t b : Txs) (s : List Txs) : pushP l (true, t, b, s) = l ++ [cPc b s] := rfl
theorem push_empty (l : List Pc) (b : Txs) (s : List Txs) : pushP l (false, [], b, s) = l := rfl
theorem push_text (l : List Pc) {t : Txs} (b : Txs) (s : List Txs) (h : t ≠ []) : pushP l (false, t, b, s) = pushT l t := by simp [pushP, h]
theorem pushT_new {l : List Pc} (t : Txs) (h : ∀ q, l.getLast? = some q → q.1 = true) : pushT l t = l ++ [tPc t] := by
  unfold pushT
  cases hl : l.getLast? with
  | none => rfl
  | some q =>
    obtain ⟨c, x, b, s⟩ := q
    have := h _ hl
    simp at this
    subst this
    rfl
theorem pushT_old (l : List Pc) (x t b : Txs) (s : List Txs) : pushT (l ++ [(false, x, b, s)]) t = l ++ [(false, x ++ t, b, s)] := by
  unfold pushT
  simp
end Go.Proofs.YtoephlkfejcadaaGreat
/- Proved here: the pile of pieces of the landed package pick: what was put last, one more piece. -/
namespace Go.Proofs.YtoephlkfejcadaaGreat
open Go.RowKit
set_option linter.unusedVariables false

section
variable {P : Program} (w : World)
/-- append of what reads as a list, and where it lies then. -/
theorem run_append_readsL (base : Nat) (t ty e : TypeId) (i : TypeInfo) (z : Value) (bytes : Nat) (ht : P.underlying t = some (.slice e)) (hi : P.info? e = some i) (hz : i.zero = some z)
    (hsize : i.size = 1) (hby : i.bytes = bytes) (hzs : z.cells.size = 1)
    (v : Value) (n : Nat) (xs : List Value) (hown : w.ownsRow base e 1 v n xs)
    (B : Nat) (A : Option Addr) (m c : Nat) (news : List Value) (hr : Reads w B A m news) (h1 : ∀ u ∈ news, u.oneCell' = true)
    (h63 : n + m ≤ maxLen) (hbytes : (n + m) * bytes ≤ 140737488355328) (hbase : base ≤ w.heap.size) :
    ∃ v' w', (Builtin.append_ #[t, t] ty #[v, .slice A m c]).run P w = .ok v' w' ∧ w'.ownsRow base e 1 v' (n + m) (xs ++ news) ∧ w.grownBy w' v.ownBlock ∧ (v'.ownBlock = v.ownBlock ∨ v'.ownBlock = some w.heap.size) := by
  rcases A with _ | ad
  · have hm : m = 0 := by
      rcases Nat.eq_zero_or_pos m with h0 | h0
      · exact h0
      · obtain ⟨_, _, h, _⟩ := hr.2 h0
        cases h
    subst hm
    have hn : news = [] := List.eq_nil_of_length_eq_zero hr.1
    subst hn
    exact ⟨v, w, run_append_of_nil w base t ty e i ht hi v n xs hown c, by simpa using hown, World.grownBy.refl w _, .inl rfl⟩
  · have hcells : ∀ j u, news[j]? = some u → w.cell? (ad.add j) = some u := by
      intro j u hu
      rcases Nat.eq_zero_or_pos m with h0 | h0
      · subst h0
        have hn : news = [] := List.eq_nil_of_length_eq_zero hr.1
        subst hn
        simp at hu
      · obtain ⟨b, o, h, _, hc⟩ := hr.2 h0
        injection h with h
        subst h
        rw [show (⟨b, o, none⟩ : Addr).add j = ⟨b, o + j, none⟩ from by unfold Addr.add; split <;> simp_all]
        exact hc j u hu
    obtain ⟨v', w', hrun, h2, h3, _, h5⟩ := run_append_own_at (P := P) w base t ty e i z 1 bytes ht hi hz hsize hby hzs (by decide) v n xs hown ad m c news (by rw [hr.1, Nat.mul_one]) hcells h1 h63 hbytes hbase
    exact ⟨v', w', hrun, h2, h3, h5⟩
theorem wpList_append_readsL {ops : Array Oper} {rest : List Oper} {o : Oper} {a : Act} {Q : Exit → Act → World → Prop} (hgd : o.guard = none) (s x : Operand) (t : TypeId)
    (ho : o.op = .call { callee := .builtin .append, args := #[s, x], argTypes := #[t, t] })
    (base : Nat) (e : TypeId) (i : TypeInfo) (z : Value) (bytes : Nat) (ht : P.underlying t = some (.slice e)) (hi : P.info? e = some i) (hz : i.zero = some z)
    (hsize : i.size = 1) (hby : i.bytes = bytes) (hzs : z.cells.size = 1)
    (v : Value) (n : Nat) (xs : List Value) (hs : a.eval s = v) (hown : w.ownsRow base e 1 v n xs)
    (B : Nat) (A : Option Addr) (m c : Nat) (news : List Value) (hx : a.eval x = .slice A m c) (hr : Reads w B A m news) (h1 : ∀ u ∈ news, u.oneCell' = true)
    (h63 : n + m ≤ maxLen) (hbytes : (n + m) * bytes ≤ 140737488355328) (hbase : base ≤ w.heap.size)
    (h : ∀ v' w', w'.ownsRow base e 1 v' (n + m) (xs ++ news) → w.grownBy w' v.ownBlock → (v'.ownBlock = v.ownBlock ∨ v'.ownBlock = some w.heap.size) → wpList P ops Q rest (a.put o.dst v') w') : wpList P ops Q (o :: rest) a w :=
  wpList_plain hgd fun _ hK => by
    obtain ⟨v', w', hrun, h2, h3, h4⟩ := run_append_readsL (P := P) w base t o.type e i z bytes ht hi hz hsize hby hzs v n xs hown B A m c news hr h1 h63 hbytes hbase
    unfold Oper.wp execOp
    simp only [ho, resolve, invoke, builtin, Sem.run_bind, Sem.run_pure, Result.andThen_ok, List.map_toArray, List.map_cons, List.map_nil, hs, hx, hrun]
    exact hK _ _ (h v' w' h2 h3 h4)
end

/-- What was put last, where nothing was. -/
theorem pileLastP_none (L c : Nat) (A : Option Addr) (w : World) (hL : Boxed w L 95 (.slice A 0 c)) :
    Calls Tryz.prog 51 #[.pointer (some ⟨L, 0, none⟩)] w fun e w' => e = .returned (.pointer none) ∧ w' = w := by
  have x0 := hL.cell
  clear hL
  go_enter Tryz.func51, Tryz.ntmps51
  go_wp2
  go_ret
  exact ⟨rfl, rfl⟩
set_option maxRecDepth 100000 in
set_option maxHeartbeats 1000000 in
theorem pileLastP_any (g m N cap : Nat) (w : World) (L : Nat) (hm : m < maxLen) (hN : m + 1 = N) (hL : Boxed w L 95 (.slice (some ⟨g, 0, none⟩) N cap)) :
    Calls Tryz.prog 51 #[.pointer (some ⟨L, 0, none⟩)] w fun e w' => e = .returned (.pointer (some ⟨g, m * 4, none⟩)) ∧ ∃ q, w' = w.drewN q := by
  unfold maxLen at hm
  have x0 := hL.cell
  have e0 : ((N : Int) == 0) = false := by simp; omega
  have e1 : (N : Int) - 1 = (m : Int) := by omega
  have e2 : IntKind.i64.wrap ((N : Int) - 1) = (m : Int) := by rw [e1]; exact IntWalk.i64_in _ (by omega)
  have i1 : (0 : Int) ≤ (m : Int) := by omega
  have i2 : (m : Int) < (N : Int) := by omega
  clear hL hN
  go_enter Tryz.func51, Tryz.ntmps51
  go_wp2
  go_quiet (fail)
  go_wp2
  go_ret
  exact ⟨by simp, nq, rfl⟩

set_option maxRecDepth 100000 in
set_option maxHeartbeats 1000000 in
/-- One more piece, that lies in a block of its own. -/
theorem pilePutP_any (L base n h : Nat) (v : Value) (cells : List Value) (cf : Bool) (r : PcV) (w : World) (hn : n ≤ 1000000) (hL : Boxed w L 95 v) (hown : w.ownsRow base 44 4 v n cells) (hbase : base ≤ w.heap.size) (hh : w.heap[h]? = some (pcObj cf r)) :
    Calls Tryz.prog 53 #[.pointer (some ⟨L, 0, none⟩), .slice (some ⟨h, 0, none⟩) 1 1] w fun e w' => e = .returned (.tuple #[]) ∧ ∃ v' w2, w' = w2.setCell ⟨L, 0, none⟩ v' ∧
      w2.ownsRow base 44 4 v' (n + 1) (cells ++ pcC cf r) ∧ w.grownBy w2 v.ownBlock ∧ (v'.ownBlock = v.ownBlock ∨ v'.ownBlock = some w.heap.size) := by
  obtain ⟨j0, hj, hyy⟩ := Option.map_eq_some_iff.1 infoPc
  simp only [Prod.mk.injEq] at hyy
  obtain ⟨hy0, hy1, hy2⟩ := hyy
  have hmax : Hid (n + 1 ≤ maxLen ∧ (n + 1) * 80 ≤ 140737488355328) := Lib.hid ⟨by unfold maxLen; omega, by omega⟩
  have hcell : Hid (∀ j u, (pcC cf r)[j]? = some u → w.cell? ((⟨h, 0, none⟩ : Addr).add j) = some u) := Lib.hid (fun j u hu => by
    rw [addr_add, cells_of (t := 44) hh]
    simpa [pcC, slcV] using hu)
  have x0 := hL.cell
  have hLh := Lib.hid hL
  clear hL hn hh
  go_enter Tryz.func53, Tryz.ntmps53
  go_wp2_with (at_builtin; refine wpList_append_own_at _ rfl _ _ 26 rfl base 44 j0 (.agg #[.bool false, .slice none 0 0, .slice none 0 0, .slice none 0 0]) 4 80 Tryz.underlying26 hj hy0 hy1 hy2 rfl (by decide) v n _ rfl hown ⟨h, 0, none⟩ 1 1 (pcC cf r) rfl rfl hcell.out (pcC_one _ _) hmax.out.1 hmax.out.2 hbase ?_; intro v' w2 hown2 hg2 hnil2 hloc2; clear hnil2; obtain ⟨g2, c2, rfl⟩ := ownsRow_succ hown2; have hbx : Boxed w2 L 95 v := hLh.out.kept hg2 (Boxed.not_row hLh.out (by decide) hown); have x1 := hbx.cell; have x2 := hbx.frozen; have hfin := Lib.hid (And.intro hown2 (And.intro hg2 hloc2)); clear hbx x0 hown2 hg2 hloc2)
  go_end0
  exact ⟨rfl, _, w2, rfl, hfin.out.1, hfin.out.2.1, hfin.out.2.2⟩
end Go.Proofs.YtoephlkfejcadaaGreat
