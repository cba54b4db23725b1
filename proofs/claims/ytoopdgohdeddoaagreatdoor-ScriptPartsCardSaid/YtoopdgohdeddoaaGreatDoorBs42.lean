/- Proved here: texts joined: MgCk3, AnyF, Scr, ScrFew. -/
import Derived.Test.YtoopdgohdeddoaaGreatDoorBs02
import Derived.Test.YtoopdgohdeddoaaGreatDoorBs04
import Derived.Test.YtoopdgohdeddoaaGreatDoorBs09
import Derived.Test.YtoopdgohdeddoaaGreatDoorBs10
import Derived.Test.YtoopdgohdeddoaaGreatDoorBs19
import Derived.Test.YtoopdgohdeddoaaGreatDoorBs24
import Derived.Test.YtoopdgohdeddoaaGreatDoorBs30
import Derived.Test.YtoopdgohdeddoaaGreatDoorBs36
import Derived.Test.YtoopdgohdeddoaaGreatDoorBs41
import Derived.RangeFuncBox
import Derived.Deep.DeepCutAuto
/- Proved here: the contract of the landed merge.Chunks, of files that may be. -/
namespace Go.Proofs.YtoopdgohdeddoaaGreatDoor
open Go.RowKit
set_option linter.unusedVariables false
set_option maxRecDepth 100000

theorem ids_all (base : Txs) (sides : List Txs) (n : Nat) (hsm : smallM base sides) (hn : n ≤ 16) (hl : sides.length = n) (A1 : Option Addr) (c1 : Nat) (r : Slc) (rs : List Slc) (w1 : World) (hR : RowsT w1 w1.heap.size A1 (n + 1) (r :: rs) (base :: sides)) :
    Calls Tryz.prog 37 #[.slice A1 (n + 1) c1] w1 fun e w' => IdsK w1 w' e (n + 1) (base.map fun s => (numOf (withAll [] (base :: sides).flatten) s : Int)) (sides.map fun d => d.map fun s => (numOf (withAll [] (base :: sides).flatten) s : Int)) := by
  refine (All_any A1 (n + 1) c1 (r :: rs) (base :: sides) w1 hR.to2 (fun f hf s hs => Nat.le_trans ((hsm.2 f hf).2 s hs) (by decide)) (by omega) (fun f hf => Nat.le_trans (hsm.2 f hf).1 (by omega))).mono ?_
  rintro e w' ⟨A2, n2, c2, rows2, rfl, h1, h2, h3, h4⟩
  have hlen := h3.len
  obtain rfl : n2 = n + 1 := by rw [← hlen]; simp [numsL, hl]
  cases rows2 with
  | nil => have := h3.2.1; simp [numsL] at this
  | cons r2 rs2 => exact ⟨A2, c2, r2, rs2, rfl, h1, h2, h3, h4⟩

set_option maxHeartbeats 4000000 in
theorem chunks_good (A0 : Option Addr) (n0 c0 : Nat) (base : Txs) (A : Option Addr) (n c : Nat) (rows : List Slc) (sides : List Txs) (w : World) (hn1 : 1 ≤ n) (hn2 : n ≤ 16) (hnc : n ≤ c) (hsm : smallM base sides) (hA0 : TxR w w.heap.size (A0, n0, c0) base) (hA : RowsT w w.heap.size A n rows sides) (hok : (base :: sides).all mayB = true) :
    Calls Tryz.prog 19 #[.slice A0 n0 c0, .slice A n c] w fun e w' => ChunksOut w w' e base sides := by
  have hl := hA.len
  have hl0 : base.length = n0 := hA0.2.2.len
  have hz : wrongN base sides = 0 := by
    have h2 : ∀ d ∈ base :: sides, mayB d = true := List.all_eq_true.1 hok
    exact wrong_zero (by omega) (by omega) (h2 _ (List.mem_cons_self ..)) (fun d hd => h2 d (List.mem_cons_of_mem _ hd)) (Nat.le_trans (hsm.2 _ (List.mem_cons_self ..)).1 (by omega)) (fun d hd => Nat.le_trans (hsm.2 d (List.mem_cons_of_mem _ hd)).1 (by omega))
  have hcat := Lib.hid (cat_files A0 n0 c0 base A n c rows sides w hn1 hn2 hA0 hA)
  obtain ⟨F, hF⟩ : ∃ F : Tx → Int, F = fun s => (numOf (withAll [] (base :: sides).flatten) s : Int) := ⟨_, rfl⟩
  obtain ⟨a, ha⟩ : ∃ a, base.map F = a := ⟨_, rfl⟩
  obtain ⟨bs, hbs⟩ : ∃ bs, (sides.map fun d => d.map F) = bs := ⟨_, rfl⟩
  have hal : a.length = n0 := by rw [← ha, List.length_map, hl0]
  have hbl : bs.length = n := by rw [← hbs, List.length_map, hl]
  have hbsm : ∀ b ∈ bs, b.length ≤ 2000 := fun b hb => by
    rw [← hbs] at hb
    obtain ⟨d, hd, rfl⟩ := List.mem_map.1 hb
    have := (hsm.2 d (List.mem_cons_of_mem _ hd)).1
    simp; omega
  have hn0 : n0 ≤ 100 := by have := (hsm.2 base (List.mem_cons_self ..)).1; omega
  have hms : Hid (MsOf base sides (msOf a bs)) := Lib.hid (by have := ms_of base sides; rw [← hF, ha, hbs] at this; exact this)
  have hsz : sizesOf bs = szs sides := by rw [← hbs]; exact sizes_of F sides
  have hszl : (szs sides).length = n := by rw [szs_len, hl]
  obtain ⟨sz, hsze⟩ : ∃ sz, szs sides = sz := ⟨_, rfl⟩
  have hszat : Hid (∀ (k : Nat) (ss : Txs), sides[k]? = some ss → sz[k]? = some (ss.length : Int)) := Lib.hid fun k ss h => by rw [← hsze]; unfold szs; rw [List.getElem?_map, h]; rfl
  obtain ⟨N, hN⟩ : ∃ N, n + 1 = N := ⟨_, rfl⟩
  have hln : Hid (∀ A1 c1 r rs w1, RowsT w1 w1.heap.size A1 N (r :: rs) (base :: sides) → Calls Tryz.prog 35 #[.slice A1 N c1] w1 fun e w' => e = .returned (.bool true) ∧ w1 = w') := Lib.hid fun A1 c1 r rs w1 h => by
    have := areLines_any A1 N c1 (r :: rs) (base :: sides) w1 (by unfold maxLen; omega) h (fun f hf s hs => Nat.le_trans ((hsm.2 f hf).2 s hs) (by decide))
    rwa [hok] at this
  have hall : Hid (∀ A1 c1 r rs w1, RowsT w1 w1.heap.size A1 N (r :: rs) (base :: sides) → Calls Tryz.prog 37 #[.slice A1 N c1] w1 fun e w' => IdsK w1 w' e N a bs) := Lib.hid fun A1 c1 r rs w1 h => by
    have := ids_all base sides n hsm hn2 hl A1 c1 r rs w1 (by rw [hN]; exact h)
    rw [← hF, ha, hbs, hN] at this
    exact this
  have hup : Hid (∀ A2 c2 r rs w2, N ≤ c2 → c2 ≤ maxLen → RowsN w2 w2.heap.size A2 N (r :: rs) (a :: bs) → Calls Tryz.prog 36 #[.slice A2 N c2] w2 fun e w' => PairsOut w2 w' e a bs) := Lib.hid fun A2 c2 r rs w2 h1 h2 h3 => pairUp_any A2 N c2 r rs a bs w2 h1 h2 (by omega) (by omega) hbsm h3
  have hAl : Hid (∀ Gs Gm (M : Nat → SlcN) (W : World), Nums W W.heap.size (some ⟨Gs, 0, none⟩) n sz → RowsN W W.heap.size (some ⟨Gm, 0, none⟩) n ((List.range n).map M) (msOf a bs) →
      Calls Tryz.prog 39 #[.int .i64 n0, .slice (some ⟨Gs, 0, none⟩) n n, .slice (some ⟨Gm, 0, none⟩) n n] W fun e w' => AlignOut W w' e n0 sz (msOf a bs)) := Lib.hid fun Gs Gm M W h1 h2 =>
    align_ok.align_ok _ n n sz _ n n _ (msOf a bs) n0 W hn1 hn2 (Nat.le_refl _) (by unfold maxLen; omega) (Nat.le_refl _) (by unfold maxLen; omega) (by rw [ms_len, hbl]) (by omega)
      (fun z hzz => by
        rw [← hsze] at hzz
        unfold szs at hzz
        obtain ⟨d, hd, rfl⟩ := List.mem_map.1 hzz
        have := (hsm.2 d (List.mem_cons_of_mem _ hd)).1
        omega)
      (fun k l z k1 k2 => by
        rw [← hsze, ← hsz] at k2
        have := ms_match k1 k2
        rwa [hal] at this) h1 h2
  have hcuts : Hid (∀ cs, IsCut n0 sz (msOf a bs) cs → CutsTo base sides 0 cs) := Lib.hid (fun cs h => ⟨hz.symm, fun h => absurd rfl h, fun _ => ⟨msOf a bs, hms.out, by rw [hl0, hsze]; exact h⟩⟩)
  have hAh := Lib.hid hA
  rw [hN] at hcat
  have hmk1 := run_make_row' (P := Tryz.prog) 75 3 (.int .i64 0) 8 Tryz.underlying75 info3 rfl .i64 .i64 n (by omega) (by omega)
  have hmk2 := run_make_row' (P := Tryz.prog) 73 75 (.slice none 0 0) 24 Tryz.underlying73 info39 rfl .i64 .i64 n (by omega) (by omega)
  have e1 : ((n : Int) == 0) = false := by simp; omega
  have e2 : decide ((16 : Int) < (n : Int)) = false := by simp; omega
  have hblh := Lib.hid hbl
  have halh := Lib.hid hal
  have hszlh : Hid (sz.length = n) := Lib.hid (by rw [← hsze]; exact hszl)
  clear hA hA0 hok hz hN hsm hl hl0 hF ha hbs hal hbl hbsm hms hsz hszl hsze
  go_enter Tryz.func19, Tryz.ntmps19
  go_upto_region 9 with (first
    | (go_at_call 34; refine hcat.out.mono ?_; rintro e w1 ⟨A1, c1, r, rs, rfl, -, -, hR, hb1⟩; have hRh := Lib.hid hR; have hbh := Lib.hid hb1; clear hR hb1)
    | (go_at_call 35; refine (hln.out _ _ _ _ _ hRh.out).mono ?_; rintro e w2 ⟨rfl, rfl⟩)
    | (go_at_call 37; refine (hall.out _ _ _ _ _ hRh.out).mono ?_; rintro e w3 ⟨A2, c2, r2, rs2, rfl, i1, i2, i3, i4⟩; have hIh := Lib.hid (And.intro i1 (And.intro i2 i3)); have hbh2 := Lib.hid (hbh.out.trans (i4.mono hbh.out.size)); clear i1 i2 i3 i4)
    | (go_at_call 36; refine (hup.out _ _ _ _ _ hIh.out.1 hIh.out.2.1 hIh.out.2.2).mono ?_; rintro e w4 ⟨G, n5, T, lo, hi, rfl, hn5, hP, hG, hb4⟩; have hGh := Lib.hid (Nat.le_trans hbh2.out.size hG); rw [hblh.out] at hn5; subst hn5; have hPh := Lib.hid hP; have hbh3 := Lib.hid (hbh2.out.trans (hb4.mono hbh2.out.size)); clear hP hb4 hG))
  have hn' : n5 ≤ 16 := hn2
  go_cut [9, 10] (fun s9 s10 wx => ∃ Gs Gm, s9 = .slice (some ⟨Gs, 0, none⟩) n5 n5 ∧ s10 = .slice (some ⟨Gm, 0, none⟩) n5 n5 ∧ TwoK w4 wx Gs Gm n5)
  case first =>
    go_region
    all_goals (go_wp2_with fail; go_meet; first | exact ⟨_, _, rfl, rfl, twoK_a w4 n5⟩ | exact ⟨_, _, rfl, rfl, twoK_b w4 n5⟩)
  case rest =>
  obtain ⟨Gs, Gm, rfl, rfl, hT⟩ := hcut
  obtain ⟨hRd, hL0⟩ := loop_start (sz := sz) hblh.out hPh.out hT
  have hRdh := Lib.hid hRd
  have hL0h := Lib.hid hL0
  have hBc := Lib.hid (hbh3.out.trans (hT.below.mono hbh3.out.size))
  have hlow : Hid (∀ j, (j = Gs ∨ j = Gm ∨ ∃ i, i < n5 ∧ j = T i) → w.heap.size ≤ j) := Lib.hid fun j hj => by
    have h1 := hbh3.out.size
    have h2 := hT.gs
    have h3 := hT.gm
    rcases hj with e | e | ⟨i, hi', e⟩
    · omega
    · omega
    · obtain ⟨b', hb', q1, q2, -⟩ := hRd.at_ i hi'
      have := q1.le
      have := hGh.out
      omega
  clear hmk1 hmk2 hRd hL0 hT hcat hln hall hup
  go_wp2
  go_loopw [46] (fun i wr => ∃ k : Nat, k ≤ n5 ∧ i = .int .i64 k ∧ Hid (∃ M, LoopK wc wr Gs Gm n5 T a bs sz M k)) (fun i _ => n5 - (intOf i).toNat)
  case atStart => exact ⟨0, Nat.zero_le _, rfl, Lib.hid ⟨_, hL0h.out⟩⟩
  case round =>
    obtain ⟨k, hk, rfl, hL⟩ := hrel
    obtain ⟨wo, rfl⟩ : ∃ wo : World, wo = wr := ⟨_, rfl⟩
    clear hL0h
    have hBo : Below w.heap.size w wo := by
      obtain ⟨M, hLM⟩ := hL.out
      have := hBc.out
      exact this.trans (hLM.but.below this.size fun j hj => hlow.out j (by
        rcases hj with e | e | ⟨i, hi', e⟩
        · exact .inl e
        · exact .inr (.inl e)
        · exact .inr (.inr ⟨i, by omega, e⟩)))
    by_cases hlt : k < n5
    · obtain ⟨M, hLM⟩ := hL.out
      obtain ⟨b1, o1, A5, n6, c6, ss, rfl, hb1, hss, -, hc1, hnc6, hcm6, hS6⟩ := (hAh.out.below hBo).at_ (k := k) hlt
      obtain ⟨bk, hbk, -⟩ := hRdh.out.at_ k hlt
      have hTk : w.heap.size ≤ T k := hlow.out _ (.inr (.inr ⟨k, hlt, rfl⟩))
      have hgc := hLM.gcell hRdh.out hlt
      have hzk : sz[k]? = some (n6 : Int) := by rw [hszat.out k ss hss, hS6.len]
      have hcall : Calls Tryz.prog 38 #[.pointer (some ⟨T k, 0, none⟩)] wo.drew fun e w1 => ∃ A c, e = .returned (.slice A a.length c) ∧ (w1.cell? ⟨b1, o1 + k, none⟩ = some (.slice A5 n6 c6) ∧ (w1.cell? ⟨Gs, k, none⟩ = some (.int .i64 0) ∧ w1.frozen? ⟨Gs, k, none⟩ = false ∧ w1.cell? ⟨Gm, k, none⟩ = some (.slice none 0 0) ∧ w1.frozen? ⟨Gm, k, none⟩ = false)) ∧
          Hid (∃ M, LoopK wc ((w1.setCell ⟨Gs, k, none⟩ (.int .i64 n6)).setCell ⟨Gm, k, none⟩ (.slice A a.length c)) Gs Gm n5 T a bs sz M (k + 1)) :=
        (matchK_any (T k) a bk wo.drew (pair_kept (hLM.pair hRdh.out hlt hbk) (Below.refl _ _).drew)).mono fun e w1 h => by
          obtain ⟨A7, c7, rfl, g1, g2, g3, g4, g5⟩ := h
          have hbut : But (fun j => j = T k) wo w1 := ⟨g5.os, g5.tape, g5.output, g5.size, g5.block⟩
          have hst := hLM.step hRdh.out hlt hbk hzk g1 g2 g3 g4 hbut
          exact ⟨A7, c7, rfl, ⟨(World.cell?_of_block (w := wo) (hbut.block b1 (Nat.lt_of_lt_of_le hb1 hBo.size) (by show ¬ b1 = T k; omega))).trans hc1, hst.1⟩, Lib.hid ⟨_, hst.2⟩⟩
      have hcallh := Lib.hid hcall
      have hk1 : (0 : Int) ≤ (k : Int) := by omega
      have hk2 : (k : Int) < (n5 : Int) := by omega
      have hg1 : w.heap.size ≤ Gs := hlow.out _ (.inl rfl)
      have hg2 : w.heap.size ≤ Gm := hlow.out _ (.inr (.inl rfl))
      have hn1 : ¬ Gs = Gm := hRdh.out.ne
      have hn2 : ¬ Gm = Gs := fun e => hRdh.out.ne e.symm
      have hn3 : ¬ b1 = Gs := by omega
      have hn4 : ¬ b1 = Gm := by omega
      have hn5 : ¬ Gs = b1 := by omega
      have hn6 : ¬ Gm = b1 := by omega
      clear hcall hLM hL hss hS6 hbk hzk hBo
      go_wp2
      go_region_with (go_at_call 38; refine hcallh.out.mono ?_; rintro e w1 ⟨A7, c7, rfl, ⟨j0, j1, j2, j3, j4⟩, hfin⟩)
      all_goals (go_wp2; go_roundw)
      all_goals first
        | exact ⟨k + 1, by omega, by go_num, hfin⟩
        | exact ⟨k + 1, by omega, by go_num, Lib.hid (by obtain ⟨M2, h2⟩ := hfin.out; exact ⟨M2, h2.drew⟩)⟩
        | (simp [intOf]; omega)
    · obtain rfl : k = n5 := by omega
      obtain ⟨M, hLM⟩ := hL.out
      obtain ⟨f1, f2⟩ := hLM.fin hRdh.out hszlh.out
      have hC := Lib.hid (hAl.out Gs Gm M wo f1 f2)
      have hBoh := Lib.hid hBo
      clear hLM hL f1 f2 hBo
      go_wp2_with (go_at_call 39; refine hC.out.mono ?_; rintro e w5 ⟨cs, hcut, A8, n8, c8, rfl, q1, q2, q3, q4, q5⟩; have hq := Lib.hid (And.intro hcut (And.intro q2 (And.intro q3 (And.intro q4 q5)))); clear hcut q1 q2 q3 q4 q5)
      go_ret2
      exact ⟨0, A8, n8, c8, cs, rfl, hq.out.2.1, hq.out.2.2.1, hq.out.2.2.2.1, hcuts.out cs hq.out.1, hBoh.out.trans (hq.out.2.2.2.2.mono hBoh.out.size)⟩

/-- The landed package keeps what the laws ask of Chunks. -/
theorem chunks_any : MergeChunksOk := fun A0 n0 c0 base A n c rows sides w hnc hcm hsm hA0 hA => by
  have hl := hA.len
  by_cases h : n = 0 ∨ 16 < n
  · exact chunks_arg A0 n0 c0 base A n c sides w hl (by have := hsm.1; omega) h
  · cases hok : (base :: sides).all mayB with
    | false => exact chunks_form A0 n0 c0 base A n c rows sides w (by omega) (by omega) hsm hA0 hA hok
    | true => exact chunks_good A0 n0 c0 base A n c rows sides w (by omega) (by omega) hnc hsm hA0 hA hok
end Go.Proofs.YtoopdgohdeddoaaGreatDoor
/- Proved here: contracts of slices.IndexFunc and slices.ContainsFunc over lists of texts, for whatever function is handed in that tells of each list a thing of its own. -/
namespace Go.Proofs.YtoopdgohdeddoaaGreatDoor
open Go.RowKit
set_option linter.unusedVariables false
set_option maxRecDepth 100000

/-- What a function tells of each list, in whatever world that has drawn more. -/
def AskF (g2 : Nat) (lb : Array Value) (p : Txs → Bool) (rows : List Slc) (lists : List Txs) (w : World) : Prop :=
  ∀ (q k : Nat) (A1 : Option Addr) (n1 c1 : Nat) (ss : Txs), rows[k]? = some (A1, n1, c1) → lists[k]? = some ss → Calls Tryz.prog g2 (#[.slice A1 n1 c1] ++ lb) (w.drewN q) fun e w' => e = .returned (.bool (p ss)) ∧ ∃ z, w' = (w.drewN q).drewN z

set_option maxHeartbeats 1000000 in
theorem indexF_any (g2 : Nat) (lb : Array Value) (p : Txs → Bool) (A : Option Addr) (n c B : Nat) (rows : List Slc) (lists : List Txs) (w : World) (hn : n ≤ maxLen) (hA : RowsT w B A n rows lists)
    (hent : ∀ args w, (callFunc g2 args).run Tryz.prog w = .ok (.enter g2 args) w) (hX : AskF g2 lb p rows lists w) :
    Calls Tryz.prog 74 #[.slice A n c, .func (.func g2) #[] lb] w fun e w' => (∃ z : Int, e = .returned (.int .i64 z) ∧ decide (0 ≤ z) = lists.any p) ∧ ∃ k, w' = w.drewN k := by
  have hl := hA.len
  have hAh := Lib.hid hA
  have hlh := Lib.hid hl
  have hXh := Lib.hid hX
  unfold maxLen at hn
  clear hA hl hX
  go_enter Tryz.func74, Tryz.ntmps74
  go_wp2
  go_loopw [5, 8] (fun _ i wr => ∃ k : Nat, k ≤ n ∧ i = .int .i64 k ∧ Hid ((lists.take k).any p = false) ∧ ∃ q, wr = w.drewN q) (fun _ i _ => n - (intOf i).toNat)
  case atStart => exact ⟨0, Nat.zero_le _, rfl, Lib.hid (by simp), 0, rfl⟩
  case round =>
    obtain ⟨k, hk, rfl, hno, q, rfl⟩ := hrel
    by_cases hlt : k < n
    · obtain ⟨b, o, A1, n1, c1, ss, rfl, hb, hss, hrr, hc, hnc, hcm, hS⟩ := hAh.out.at_ (k := k) hlt
      have hi1 : (0 : Int) ≤ (k : Int) := by omega
      have hi2 : (k : Int) < (n : Int) := by omega
      have hC := hXh.out q k A1 n1 c1 ss hrr hss
      have hssh := Lib.hid hss
      have hc' : (w.drewN q).cell? ⟨b, o + k, none⟩ = some (.slice A1 n1 c1) := hc
      obtain ⟨r, hr⟩ : ∃ r, p ss = r := ⟨_, rfl⟩
      rw [hr] at hC
      have hCh := Lib.hid hC
      have hrh := Lib.hid hr
      clear hS hss hrr hC hr
      cases r
      · have hno3 := Lib.hid (show (lists.take (k + 1)).any p = false by rw [take_at hssh.out, List.any_append, hno.out]; simp [hrh.out])
        go_wp2_with (refine hCh.out.mono ?_; rintro e w1 ⟨rfl, q1, rfl⟩)
        go_roundw
        case rel => exact ⟨k + 1, by omega, by go_num, hno3, q + q1, rfl⟩
        case measure => simp [intOf]; omega
      · have hyes := Lib.hid (show lists.any p = true from List.any_eq_true.2 ⟨ss, List.mem_of_getElem? hssh.out, hrh.out⟩)
        go_wp2_with (refine hCh.out.mono ?_; rintro e w1 ⟨rfl, q1, rfl⟩)
        go_ret
        exact ⟨⟨_, rfl, by rw [hyes.out]; simp⟩, q + q1, rfl⟩
    · obtain rfl : k = n := by omega
      have hno2 : Hid (lists.any p = false) := Lib.hid (by have := hno.out; rwa [List.take_of_length_le (by rw [hlh.out]; exact Nat.le_refl _)] at this)
      go_wp2
      go_ret
      exact ⟨⟨_, rfl, by rw [hno2.out]; rfl⟩, q, rfl⟩

set_option maxHeartbeats 800000 in
theorem containsF_any (g2 : Nat) (lb : Array Value) (p : Txs → Bool) (A : Option Addr) (n c B : Nat) (rows : List Slc) (lists : List Txs) (w : World) (hn : n ≤ maxLen) (hA : RowsT w B A n rows lists)
    (hent : ∀ args w, (callFunc g2 args).run Tryz.prog w = .ok (.enter g2 args) w) (hX : AskF g2 lb p rows lists w) :
    Calls Tryz.prog 40 #[.slice A n c, .func (.func g2) #[] lb] w fun e w' => e = .returned (.bool (lists.any p)) ∧ ∃ k, w' = w.drewN k := by
  have hI := Lib.hid (indexF_any g2 lb p A n c B rows lists w hn hA hent hX)
  obtain ⟨r, hr⟩ : ∃ r, lists.any p = r := ⟨_, rfl⟩
  rw [hr] at hI ⊢
  clear hA hr hn hX hent
  go_enter Tryz.func40, Tryz.ntmps40
  go_wp2_with (go_at_call 74; refine hI.out.mono ?_; rintro e w1 ⟨⟨z, rfl, hz⟩, q, rfl⟩; have hzh := Lib.hid hz; clear hz)
  go_ret
  exact ⟨ret_bool hzh.out, q, rfl⟩
end Go.Proofs.YtoopdgohdeddoaaGreatDoor
/- Proved here: the contract of the landed script.Script. -/
namespace Go.Proofs.YtoopdgohdeddoaaGreatDoor
open Go.RowKit
set_option linter.unusedVariables false
set_option maxRecDepth 100000

theorem spans_two {l : List Sp} (h : l.length = 2) : ∃ a b, l = [a, b] := by
  match l, h with
  | [a, b], _ => exact ⟨a, b, rfl⟩

set_option maxHeartbeats 1000000 in
theorem anyOpen_any (A : Option Addr) (n c : Nat) (rows : List Slc) (lists : List Txs) (w : World) (hn : n ≤ 100) (hs : ∀ d ∈ lists, d.length ≤ 1000 ∧ ∀ s ∈ d, s.length ≤ 1000) (hA : RowsT w w.heap.size A n rows lists) :
    Calls Tryz.prog 20 #[.slice A n c] w fun e w' => e = .returned (.bool (lists.any openB)) ∧ Below w.heap.size w w' := by
  have hC := Lib.hid (containsF_any 41 #[] openB A n c w.heap.size rows lists w (by unfold maxLen; omega) hA (enters_of Tryz.func41 (by kernel_rfl) rfl) (fun q k A1 n1 c1 ss h1 h2 => by
    obtain ⟨e1, e2, e3⟩ := hA.2.2 k _ ss h1 h2
    have h3 := hs ss (List.mem_of_getElem? h2)
    have h4 := e3.len
    refine (Open_any A1 n1 c1 w.heap.size ss (w.drewN q) (by have := h3.1; dsimp only at h4; unfold maxLen; omega) (fun s h => by have := h3.2 s h; unfold maxLen; omega) (Strs.drewN e3 q)).mono ?_
    rintro e w' ⟨rfl, rfl⟩
    exact ⟨rfl, 0, rfl⟩))
  obtain ⟨r, hr⟩ : ∃ r, lists.any openB = r := ⟨_, rfl⟩
  rw [hr] at hC ⊢
  clear hA hs hn hr
  go_enter Tryz.func20, Tryz.ntmps20
  go_wp2_with (go_at_call 40; refine hC.out.mono ?_; rintro e w1 ⟨rfl, q, rfl⟩)
  go_ret
  exact ⟨rfl, below_drewN (Below.refl _ _) q⟩

set_option maxHeartbeats 8000000 in
theorem scr_ok : ScriptOk := by
  intro c A0 n0 c0 mine A1 n1 c1 older A2 n2 c2 yours fin w hm ho hy h0 h1 h2
  have hsm : smallM older [mine, yours] := ⟨by simp, fun d hd => by
    simp only [List.mem_cons, List.not_mem_nil, or_false] at hd
    rcases hd with rfl | rfl | rfl
    · exact ⟨by have := ho.1; omega, fun s hs => by have := ho.2 s hs; omega⟩
    · exact ⟨by have := hm.1; omega, fun s hs => by have := hm.2 s hs; omega⟩
    · exact ⟨by have := hy.1; omega, fun s hs => by have := hy.2 s hs; omega⟩⟩
  have hK := Lib.hid (known_any c w)
  have hfb := Lib.hid (fun (z : Int) (w' : World) (hz : errS c mine older yours = z) (hn : z ≠ 0) (hb : Below w.heap.size w w') => scr_bad (fin := fin) hz hn hb)
  obtain ⟨kn, hkn⟩ : ∃ kn, knownB c = kn := ⟨_, rfl⟩
  rw [hkn] at hK
  cases kn
  · have e1 := Lib.hid (show errS c mine older yours = 1 by unfold errS; rw [if_pos hkn])
    clear hkn h0 h1 h2 hsm hm ho hy
    go_enter Tryz.func10, Tryz.ntmps10
    go_wp2_with (go_at_call 18; refine hK.out.mono ?_; rintro e w2 ⟨rfl, hb⟩; have hB2 := Lib.hid hb; clear hb)
    go_ret2
    exact hfb.out 1 _ e1.out (by decide) hB2.out
  have hC : Hid (∀ W, Below w.heap.size w W → Calls Tryz.prog 19 #[.slice A1 n1 c1, .slice (some ⟨W.heap.size, 0, none⟩) 2 2] (W.alloc (.cells #[.slice A0 n0 c0, .slice A2 n2 c2] 22)) fun e w' => ChunksOut (W.alloc (.cells #[.slice A0 n0 c0, .slice A2 n2 c2] 22)) w' e older [mine, yours] ∧ RowsT (W.alloc (.cells #[.slice A0 n0 c0, .slice A2 n2 c2] 22)) (W.alloc (.cells #[.slice A0 n0 c0, .slice A2 n2 c2] 22)).heap.size (some ⟨W.heap.size, 0, none⟩) 2 [(A0, n0, c0), (A2, n2, c2)] [mine, yours] ∧ Below w.heap.size w (W.alloc (.cells #[.slice A0 n0 c0, .slice A2 n2 c2] 22))) := Lib.hid (fun W hW => by
    have hb := below_alloc hW (.cells #[.slice A0 n0 c0, .slice A2 n2 c2] 22)
    have hR := pair_rows (r1 := (A0, n0, c0)) (r2 := (A2, n2, c2)) hb (one_a W _) h0 h2
    exact (chunks_any A1 n1 c1 older _ 2 2 [(A0, n0, c0), (A2, n2, c2)] [mine, yours] _ (Nat.le_refl _) (by decide) hsm (h1.up hb) hR).mono fun e w' h => ⟨h, hR, hb⟩)
  obtain ⟨z, hz⟩ : ∃ z, wrongN older [mine, yours] = z := ⟨_, rfl⟩
  have hzh := Lib.hid hz
  by_cases hz0 : z = 0
  rotate_left
  · have hzb : (z != 0) = true := by simpa using hz0
    have e1 := Lib.hid (show errS c mine older yours = z by unfold errS; rw [if_neg (by rw [hkn]; decide), if_pos (by rw [hz]; exact hz0), hz])
    have hz1 := Lib.hid hz0
    clear hkn h0 h1 h2 hsm hm ho hy hz hz0
    go_enter Tryz.func10, Tryz.ntmps10
    go_wp2_with (first
      | (go_at_call 18; refine hK.out.mono ?_; rintro e w2 ⟨rfl, hb⟩; have hB2 := Lib.hid hb; clear hb)
      | (go_at_call 19; refine (hC.out _ hB2.out).mono ?_; rintro e w3 ⟨⟨er, A5, n5, c5, cs, rfl, q1, q2, q3, q4, q5⟩, q6, q7⟩; have her : er = z := (q4.1.trans hzh.out); subst her; have hB3 := Lib.hid (q7.trans (q5.mono q7.size)); clear q1 q2 q3 q4 q5 q6 q7))
    go_ret2
    exact hfb.out er _ e1.out hz1.out hB3.out
  subst hz0
  have hAo : Hid (∀ W, Below w.heap.size w W → Calls Tryz.prog 20 #[.slice (some ⟨W.heap.size, 0, none⟩) 3 3] (W.alloc (.cells #[.slice A0 n0 c0, .slice A1 n1 c1, .slice A2 n2 c2] 22)) fun e w' => e = .returned (.bool (openB mine || openB older || openB yours)) ∧ Below W.heap.size W w' ∧ Below w.heap.size w w') := Lib.hid (fun W hW => by
    have hb := below_alloc hW (.cells #[.slice A0 n0 c0, .slice A1 n1 c1, .slice A2 n2 c2] 22)
    have hR : RowsT (W.alloc (.cells #[.slice A0 n0 c0, .slice A1 n1 c1, .slice A2 n2 c2] 22)) (W.alloc (.cells #[.slice A0 n0 c0, .slice A1 n1 c1, .slice A2 n2 c2] 22)).heap.size (some ⟨W.heap.size, 0, none⟩) 3 [(A0, n0, c0), (A1, n1, c1), (A2, n2, c2)] [mine, older, yours] := rowsT_of (one_a W _) rfl rfl rfl fun k r ss a b => by
      match k, a, b with
      | 0, a, b => simp at a b; subst a; subst b; exact h0.up hb
      | 1, a, b => simp at a b; subst a; subst b; exact h1.up hb
      | 2, a, b => simp at a b; subst a; subst b; exact h2.up hb
      | k + 3, a, b => simp at a
    refine (anyOpen_any _ 3 3 _ _ _ (by decide) (fun d hd => ?_) hR).mono fun e w' h => ⟨by rw [h.1]; simp [Bool.or_assoc], (below_alloc (Below.refl _ _) _).trans (h.2.mono (below_alloc (Below.refl W.heap.size W) _).size), hb.trans (h.2.mono hb.size)⟩
    have := hsm.2 d (by simp only [List.mem_cons, List.not_mem_nil, or_false] at hd ⊢; rcases hd with rfl | rfl | rfl <;> simp)
    exact ⟨by omega, this.2⟩)
  obtain ⟨op, hop⟩ : ∃ p, (openB mine || openB older || openB yours) = p := ⟨_, rfl⟩
  rw [hop] at hAo
  cases op
  rotate_left
  · have e1 := Lib.hid (show errS c mine older yours = 5 by unfold errS; rw [if_neg (by rw [hkn]; decide), if_neg (by rw [hz]; simp), if_pos hop])
    clear hkn h0 h1 h2 hsm hm ho hy hz hop
    go_enter Tryz.func10, Tryz.ntmps10
    go_wp2_with (first
      | (go_at_call 18; refine hK.out.mono ?_; rintro e w2 ⟨rfl, hb⟩; have hB2 := Lib.hid hb; clear hb)
      | (go_at_call 19; refine (hC.out _ hB2.out).mono ?_; rintro e w3 ⟨⟨er, A5, n5, c5, cs, rfl, q1, q2, q3, q4, q5⟩, q6, q7⟩; have her : er = 0 := (q4.1.trans hzh.out); subst her; have hB3 := Lib.hid (q7.trans (q5.mono q7.size)); clear q1 q2 q3 q4 q5 q6 q7)
      | (go_at_call 20; refine (hAo.out _ hB3.out).mono ?_; rintro e w4 ⟨rfl, -, hb⟩; have hB4 := Lib.hid hb; clear hb))
    go_ret2
    exact hfb.out 5 _ e1.out (by decide) hB4.out
  have heh : Hid (errS c mine older yours = 0) := Lib.hid (by unfold errS; rw [if_neg (by rw [hkn]; decide), if_neg (by rw [hz]; simp), if_neg (by rw [hop]; decide)])
  have hT1 := Lib.hid (fun (W : World) (hb : Below w.heap.size w W) => h1.up hb)
  have hsmh := Lib.hid (And.intro hm (And.intro ho hy))
  have hlM : Hid (mine.length ≤ 16) := Lib.hid hm.1
  clear hkn h0 h1 h2 hsm hm ho hy hz hop hfb
  go_enter Tryz.func10, Tryz.ntmps10
  go_upto_region 9 with (first
    | (go_at_call 18; refine hK.out.mono ?_; rintro e w2 ⟨rfl, hb⟩; have hB2 := Lib.hid hb; clear hb)
    | (go_at_call 19; refine (hC.out _ hB2.out).mono ?_; rintro e w3 ⟨⟨er, A5, n5, c5, cs, rfl, q1, q2, q3, q4, q5⟩, q6, q7⟩; have her : er = 0 := (q4.1.trans hzh.out); subst her; have hB3 := Lib.hid (q7.trans (q5.mono q7.size)); have hR3 := Lib.hid (q6.up q5); have hcs3 := Lib.hid (And.intro q1 (And.intro q2 (And.intro q3 q4))); clear q1 q2 q3 q4 q5 q6 q7)
    | (go_at_call 20; refine (hAo.out _ hB3.out).mono ?_; rintro e w4 ⟨rfl, ha, hb⟩; have hB4 := Lib.hid hb; have hR4 := Lib.hid (hR3.out.up ha); have hcs4 := Lib.hid (hcs3.out.2.2.1.up ha); clear hb ha))
  obtain ⟨ms, hMs, hCut⟩ := hcs3.out.2.2.2.2.2 rfl
  have hLd := Lib.hid (hMs.laid hCut)
  have hMC := Lib.hid (And.intro hMs hCut)
  have hn5 : cs.length = n5 := hcs4.out.1
  have hnc : n5 ≤ 40 := by
    have h1 := cov_few hCut.1
    rw [if_neg (by simp)] at h1
    have h2 := hsmh.out.2.1.1
    omega
  have hn5h := Lib.hid hn5
  have hnch := Lib.hid hnc
  obtain ⟨L2, hL2⟩ : ∃ L : Nat, L = w2.heap.size := ⟨_, rfl⟩
  rw [← hL2] at hR3 hR4 ⊢
  obtain ⟨wb, hwb⟩ : ∃ wb, wb = w4 := ⟨_, rfl⟩
  have hstart : Hid (Pn wb wb.heap.size (wb.alloc (.cells #[.slice none 0 0] 22)) (.slice none 0 0) []) := Lib.hid ⟨Boxed.new _ _ _, ⟨World.ownsRow_nil _ _ _ _, below_alloc (Below.refl _ _) _⟩, Nat.le_refl _⟩
  subst hwb
  obtain ⟨Bl, hBl⟩ : ∃ Bl, Bl = wb.heap.size := ⟨_, rfl⟩
  rw [← hBl] at hstart
  have hBlh := Lib.hid hBl
  clear hMs hCut hC hn5 hK hzh hAo hB2 hR3 hL2 hBl hB3
  go_upto_region 11 with fail
  rw [← hBlh.out]
  obtain ⟨W5, hW5⟩ : ∃ W5, W5 = wb.alloc (.cells #[.slice none 0 0] 22) := ⟨_, rfl⟩
  rw [← hW5]
  rw [← hW5] at hstart
  clear hW5
  go_wp2
  go_loopw [41] (fun i wr => ∃ (k : Nat) (v : Value) (xs : Txs), k ≤ n5 ∧ i = .int .i64 k ∧ Hid (Pn wb Bl wr v xs) ∧ Hid (xs = (cs.drop (n5 - k)).reverse.flatMap (fun ck => cmdsD c (chunkC mine older yours ck))) ∧ Hid (xs.length ≤ k * 50)) (fun i _ => n5 - (intOf i).toNat)
  case atStart => exact ⟨0, _, [], Nat.zero_le _, rfl, hstart, Lib.hid (by rw [List.drop_of_length_le (by rw [hn5h.out]; omega)]; rfl), Lib.hid (by simp)⟩
  case round =>
    obtain ⟨k, v, xs, hk, rfl, hO, hX, hL⟩ := hrel
    obtain ⟨wo, rfl⟩ : ∃ wo : World, wo = wr := ⟨_, rfl⟩
    have hxl : Hid (xs.length ≤ 2000) := Lib.hid (by have := hL.out; have := hnch.out; have : k * 50 ≤ 40 * 50 := Nat.mul_le_mul_right _ (by omega); omega)
    by_cases hkn : k < n5
    · obtain ⟨i, hi⟩ : ∃ i, n5 - (k + 1) = i := ⟨_, rfl⟩
      have hlt2 : i < n5 := by omega
      have hbo := Lib.hid hO.out.own.below
      obtain ⟨b, o, ck, A6, n6, c6, rfl, hb6, hck, y0, y1, y2, y3, hn6, hc6, hS⟩ := (hcs4.out.up hbo.out).at_ (k := i) hlt2
      have hmem := List.mem_of_getElem? hck
      obtain ⟨st, ⟨f, t⟩, spans⟩ := ck
      have hsl : spans.length = 2 := (hLd.out.lies hmem).2.2.2
      obtain ⟨s0, s1, rfl⟩ := spans_two hsl
      obtain ⟨sp, p1, p2, p3, p4, -⟩ := hLd.out.side hmem (s := 0) (d := mine) rfl
      obtain rfl : s0 = sp := by simpa using p1
      have hlp := laid_parts hLd.out hmem
      obtain ⟨f0, t0⟩ := s0
      dsimp only at p2 p3 p4 y0 y1 y2 y3 hS
      obtain ⟨f0, rfl⟩ := Int.eq_ofNat_of_zero_le p2
      obtain ⟨t0, rfl⟩ := Int.eq_ofNat_of_zero_le (Int.le_trans p2 p3)
      have hn62 : n6 = 2 := hS.len.symm
      subst hn62
      have hlm := hlM.out
      have hCk := scChunk_any wb Bl c mine older yours st f t f0 t0 s1 A6 c6 A1 n1 c1 (some ⟨L2, 0, none⟩) 2 [(A0, n0, c0), (A2, n2, c2)] v xs wo hO.out ⟨hn6, hc6⟩ hS (hT1.out wo (hB4.out.trans (hbo.out.mono hB4.out.size))) (hR4.out.up hbo.out) hlp (by omega) (by omega) hsmh.out.1 hsmh.out.2.1 hsmh.out.2.2 (by have := hxl.out; omega)
      obtain ⟨Z, hZ⟩ : ∃ Z, cmdsD c (chunkC mine older yours (st, (f, t), [((f0 : Int), (t0 : Int)), s1])) = Z := ⟨_, rfl⟩
      have hXn : Hid ((cs.drop (n5 - (k + 1))).reverse.flatMap (fun ck => cmdsD c (chunkC mine older yours ck)) = xs ++ Z) := Lib.hid (by
        rw [hX.out, ← hZ, hi, rev_step hck, show i + 1 = n5 - k from by omega])
      have hZl : Hid (Z.length ≤ 50) := Lib.hid (by
        have h := cmds_ln c (chunkC mine older yours (st, (f, t), [((f0 : Int), (t0 : Int)), s1]))
        rw [hZ] at h
        have e1 : (chunkC mine older yours (st, (f, t), [((f0 : Int), (t0 : Int)), s1])).older.length ≤ 16 := Nat.le_trans (cutL_le _ _ _) hsmh.out.2.1.1
        have e2 : (chunkC mine older yours (st, (f, t), [((f0 : Int), (t0 : Int)), s1])).yours.length ≤ 16 := Nat.le_trans (cutL_le _ _ _) hsmh.out.2.2.1
        omega)
      rw [hZ] at hCk
      have hCkh := Lib.hid hCk
      obtain ⟨m, hm⟩ : ∃ m, n5 - 1 = m := ⟨_, rfl⟩
      have e1 : (n5 : Int) - 1 = (m : Int) := by omega
      have e2 : (m : Int) - (k : Int) = (i : Int) := by omega
      have ew1 : IntKind.i64.wrap ((n5 : Int) - 1) = (m : Int) := by rw [e1]; exact IntWalk.i64_in _ (by omega)
      have ew2 : IntKind.i64.wrap ((m : Int) - (k : Int)) = (i : Int) := by rw [e2]; exact IntWalk.i64_in _ (by omega)
      have ew3 : IntKind.i64.wrap (m : Int) = (m : Int) := IntWalk.i64_in _ (by omega)
      have ew4 : IntKind.i64.wrap (i : Int) = (i : Int) := IntWalk.i64_in _ (by omega)
      have i0 : (0 : Int) ≤ (i : Int) := by omega
      have i1 : (i : Int) < (n5 : Int) := by omega
      have k1 : (k : Int) < (n5 : Int) := by omega
      have hLn : Hid ((xs ++ Z).length ≤ (k + 1) * 50) := Lib.hid (by rw [List.length_append, Nat.add_mul]; have := hL.out; have := hZl.out; omega)
      have hOh := hO
      clear hCk hZ hS hck hmem hsl p1 p2 p3 p4 hlp hlm hi hlt2 hm hb6 hn6 hc6
      unfold putFn at hCkh
      go_wp2_with (go_at_call 22; refine hCkh.out.mono ?_; rintro e w6 ⟨rfl, q6⟩; obtain ⟨v6, q7, -, -⟩ := q6; have hO6 := Lib.hid q7; clear q7)
      go_roundw
      case rel => exact ⟨k + 1, v6, xs ++ Z, by omega, by go_num, hO6, Lib.hid hXn.out.symm, hLn⟩
      case measure => simp [intOf]; omega
    · obtain rfl : k = n5 := by omega
      have hXf : Hid (xs ++ tailS fin = scriptD c (cs.map (chunkC mine older yours)) fin) := Lib.hid (by rw [rev_map, hX.out, Nat.sub_self]; rfl)
      have hfin : Hid (∀ (v' : Value) (V : World), TxO wb V v' (scriptD c (cs.map (chunkC mine older yours)) fin) → ScrOut w V (.returned (.tuple #[v', .int .i64 0])) c mine older yours fin) := Lib.hid fun v' V hv => by
        obtain ⟨A, c', rfl, r1, r2, r3⟩ := own_slice hv.own
        exact ⟨A, _, c', 0, _, rfl, ⟨r1, r2, r3⟩, ⟨heh.out.symm, fun h => absurd rfl h, fun _ => ⟨ms, cs, hMC.out.1, hMC.out.2, rfl⟩⟩, hB4.out.trans (hv.below.mono hB4.out.size)⟩
      have x0 := hO.out.bl.cell
      cases fin
      · go_wp2
        go_ret2
        refine hfin.out _ _ ?_
        rw [← hXf.out]
        show TxO wb _ _ (xs ++ [])
        rw [List.append_nil]
        exact hO.out.own
      · have hPu : Hid (Calls Tryz.prog 21 #[.slice (some ⟨wo.heap.size, 0, none⟩) 2 2, .pointer (some ⟨Bl, 0, none⟩)] (wo.alloc (.cells #[.string ⟨#[119, 10]⟩, .string ⟨#[113, 10]⟩] 9)) fun e w' => e = .returned (.tuple #[]) ∧ PnPut wb Bl (wo.alloc (.cells #[.string ⟨#[119, 10]⟩, .string ⟨#[113, 10]⟩] 9)) w' v (xs ++ tailS true)) := Lib.hid (pnPut_any wb Bl _ 2 2 _ v xs (tailS true) _ (hO.out.up (below_alloc (Below.refl _ _) _)) (txr_of (one_a wo _) (ss := tailS true) rfl rfl (by decide)).2.2 (by have := hxl.out; omega))
        clear x0
        go_wp2_with (go_at_call 21; refine hPu.out.mono ?_; rintro e w6 ⟨rfl, q6⟩; obtain ⟨v6, q7, -, -⟩ := q6; have x0 := q7.bl.cell; have hO6 := Lib.hid q7; clear q7)
        go_ret2
        refine hfin.out _ _ ?_
        rw [← hXf.out]
        exact hO6.out.own
end Go.Proofs.YtoopdgohdeddoaaGreatDoor
/- Proved here: the contract of the document's own answer of layer 16: Few. -/
namespace Go.Proofs.YtoopdgohdeddoaaGreatDoor
open Go.RowKit
set_option linter.unusedVariables false
set_option maxRecDepth 100000

/-- Three lists that may be merged, neither many nor long. -/
def fewS (mine older yours : Txs) : Bool := fewM older [mine, yours] && decide (wrongN older [mine, yours] = 0)
theorem fewS_is {a b c : Txs} (h : fewS a b c = true) : smallS a ∧ smallS b ∧ smallS c ∧ wrongN b [a, c] = 0 := by
  unfold fewS at h
  rw [Bool.and_eq_true, decide_eq_true_eq] at h
  obtain ⟨-, h1, h2, h3⟩ := fewM_small h.1
  exact ⟨h3 a (by simp), ⟨h1, h2⟩, h3 c (by simp), h.2⟩
set_option maxHeartbeats 1000000 in
theorem rsFew_any (A0 : Option Addr) (n0 c0 : Nat) (a : Txs) (A1 : Option Addr) (n1 c1 : Nat) (b : Txs) (A2 : Option Addr) (n2 c2 : Nat) (c : Txs) (w : World) (h0 : TxR w w.heap.size (A0, n0, c0) a) (h1 : TxR w w.heap.size (A1, n1, c1) b) (h2 : TxR w w.heap.size (A2, n2, c2) c) :
    Calls Tryz.prog 14 #[.agg #[.slice A0 n0 c0, .slice A1 n1 c1, .slice A2 n2 c2]] w fun e w' => e = .returned (.bool (fewS a b c)) ∧ Below w.heap.size w w' := by
  obtain ⟨W1, hW1⟩ : ∃ W1, W1 = w.alloc (.cells #[.slice A0 n0 c0, .slice A1 n1 c1, .slice A2 n2 c2] 23) := ⟨_, rfl⟩
  have hb1 : Below w.heap.size w W1 := by rw [hW1]; exact (Below.refl _ _).alloc (Nat.le_refl _) _
  obtain ⟨W2, hW2⟩ : ∃ W2, W2 = W1.alloc (.cells #[.slice A0 n0 c0, .slice A2 n2 c2] 22) := ⟨_, rfl⟩
  have hb2 : Below W1.heap.size W1 W2 := by rw [hW2]; exact (Below.refl _ _).alloc (Nat.le_refl _) _
  have k2 : W2.heap[W1.heap.size]? = some (.cells #[.slice A0 n0 c0, .slice A2 n2 c2] 22 (0, 0)) := by rw [hW2]; exact Go.Deep.blk_alloc_new W1 _
  have hbw2 := hb1.trans (hb2.mono hb1.size)
  have hR : RowsT W2 W2.heap.size (some ⟨W1.heap.size, 0, none⟩) 2 [(A0, n0, c0), (A2, n2, c2)] [a, c] := rowsT_of k2 rfl rfl rfl fun k r ss p q => by
    match k, p, q with
    | 0, p, q => simp at p q; subst p; subst q; exact h0.up hbw2
    | 1, p, q => simp at p q; subst p; subst q; exact h2.up hbw2
    | k + 2, p, q => simp at p
  have hM := Lib.hid (mMay_any A1 n1 c1 b (some ⟨W1.heap.size, 0, none⟩) 2 2 W2.heap.size [(A0, n0, c0), (A2, n2, c2)] [a, c] W2 (Nat.le_trans h1.1 h1.2.1) (by decide) (h1.up hbw2).2.2 hR)
  have eg : W1.heap.size = w.heap.size + 1 := by rw [hW1]; simp
  obtain ⟨F, hF⟩ : ∃ F, fewS a b c = F := ⟨_, rfl⟩
  rw [show (fewM b [a, c] && decide (wrongN b [a, c] = 0)) = F from hF, eg, hW2, hW1] at hM
  rw [hF]
  rw [hW2, hW1] at hbw2
  have hbh := Lib.hid hbw2
  clear h0 h1 h2 hb1 hb2 k2 hbw2 hR hW1 hW2 eg hF
  go_enter Tryz.func14, Tryz.ntmps14
  go_wp2_with (go_at_call 30; refine hM.out.mono ?_; rintro e w4 ⟨rfl, hww⟩; subst hww)
  go_ret
  exact ⟨rfl, hbh.out⟩
end Go.Proofs.YtoopdgohdeddoaaGreatDoor
