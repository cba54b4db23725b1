/- Proved here: texts joined: EdLawE. -/
import Derived.Test.YtdfpifipkchmnaaGreatDoorBa17
import Derived.Test.YtdfpifipkchmnaaGreatDoorBa44
import Derived.Test.YtdfpifipkchmnaaGreatDoorBa45
import Derived.Deep.RegionHeld3
import Derived.Laws.OwnMore
/- Proved here: what the statement EdLays says, by the contracts of ed.Run and dots.Block. -/
namespace Go.Proofs.YtdfpifipkchmnaaGreatDoor
open Go.RowKit
set_option linter.unusedVariables false
set_option maxRecDepth 100000

section
variable (H : EdRunOk) (H2 : DotBlockOk)
include H H2

set_option maxHeartbeats 32000000 in
theorem EdLays_walk (A : Option Addr) (n c : Nat) (file : Txs) (At : Option Addr) (nt ct : Nat) (text : Txs) (x y : Int) (w : World) (h0 : TxR w w.heap.size (A, n, c) file) (h1 : TxR w w.heap.size (At, nt, ct) text) (hx : 0 ≤ x ∧ x ≤ 255) (hy : 0 ≤ y ∧ y ≤ 255) :
    Calls Tryz.prog 4 #[.slice A n c, .slice At nt ct, .agg #[.int .u8 x, .int .u8 y]] w fun e w' => e = .returned (.bool true) ∧ Below w.heap.size w w' := by
  obtain ⟨xn, rfl⟩ : ∃ xn : Nat, x = xn := ⟨x.toNat, by omega⟩
  obtain ⟨yn, rfl⟩ : ∃ yn : Nat, y = yn := ⟨y.toNat, by omega⟩
  obtain ⟨W0, hW0⟩ : ∃ W0, W0 = w.alloc (.cells #[.int .u8 (xn : Int), .int .u8 (yn : Int)] 31) := ⟨_, rfl⟩
  have hb0 : Below w.heap.size w W0 := by rw [hW0]; exact (Below.refl _ _).alloc (Nat.le_refl _) _
  have k0 : W0.heap[w.heap.size]? = some (.cells #[.int .u8 (xn : Int), .int .u8 (yn : Int)] 31 (0, 0)) := by rw [hW0]; exact Go.Deep.blk_alloc_new w _
  have haw := Lib.hid (edAwake_any H W0)
  have hk0 := Lib.hid k0
  have hW0b := Lib.hid hb0
  have hW0h := Lib.hid hW0
  have hlt0 : Hid (w.heap.size < W0.heap.size) := Lib.hid (Array.getElem?_eq_some_iff.1 k0).1
  have hln : file.length = n := h0.2.2.len
  have htn : text.length = nt := h1.2.2.len
  obtain ⟨fm, hfm⟩ : ∃ fm, fewB file 20 = fm := ⟨_, rfl⟩
  obtain ⟨fn, hfn⟩ : ∃ fm, fewB text 20 = fm := ⟨_, rfl⟩
  have hF := Lib.hid (few_call A n c 20 file w (by decide) h0 fm hfm)
  have hF2 := Lib.hid (few_call At nt ct 20 text w (by decide) h1 fn hfn)
  have g1 := trivial
  clear hb0 k0 hW0
  by_cases hff : fm = true ∧ fn = true
  rotate_left
  · have hways : fm = false ∨ (fm = true ∧ fn = false) := by cases fm <;> cases fn <;> simp_all
    clear h0 h1 hfm hfn H H2 hln htn hx hy hff
    rcases hways with rfl | ⟨rfl, rfl⟩
    all_goals
      go_enter Tryz.func4, Tryz.ntmps4
      go_upto_region 1 with fail
      rw [← hW0h.out]
      go_wp2_with (first
      | (go_at_call 7; refine haw.out.mono ?_; rintro e w1 ⟨rfl, hb1⟩; have hB1 := Lib.hid (hW0b.out.trans (hb1.mono hW0b.out.size)); have hh1 := (hb1.block _ hlt0.out).trans hk0.out; have q0 : w1.cell? ⟨w.heap.size, 0, none⟩ = some (.int .u8 (xn : Int)) := (by rw [cells_of hh1]; rfl); have q1 : w1.cell? ⟨w.heap.size, 1, none⟩ = some (.int .u8 (yn : Int)) := (by rw [cells_of hh1]; rfl); clear hb1 hh1)
      | (go_at_call 8; have _t := g1; refine (hF.out _ hB1.out).mono ?_; rintro e w2 ⟨rfl, hww⟩; have hws := hww.symm; clear hww; subst hws; have g2 := trivial; clear g1)
      | (go_at_call 8; have _t := g2; refine (hF2.out _ hB1.out).mono ?_; rintro e w2 ⟨rfl, hww⟩; have hws := hww.symm; clear hww; subst hws; clear g2))
      go_ret
      exact ⟨rfl, hB1.out⟩
  obtain ⟨rfl, rfl⟩ := hff
  have hls := few_lens hfm
  have htls := few_lens hfn
  have hk := fewK hfm (by decide)
  have htk := fewK hfn (by decide)
  have hfE := few_E hfm (by decide)
  have htD := few_D hfn (by decide)
  obtain ⟨mb, hmb⟩ : ∃ mb, mayB file = mb := ⟨_, rfl⟩
  obtain ⟨ob, hob⟩ : ∃ ob, openB file = ob := ⟨_, rfl⟩
  obtain ⟨mt, hmt⟩ : ∃ mb, mayB text = mb := ⟨_, rfl⟩
  obtain ⟨ot, hot⟩ : ∃ ob, openB text = ob := ⟨_, rfl⟩
  have hM := Lib.hid (may_call A n c file w hls h0 mb hmb)
  have hO := Lib.hid (open_call A n c file w hls h0 ob hob)
  have hM2 := Lib.hid (may_call At nt ct text w htls h1 mt hmt)
  have hO2 := Lib.hid (open_call At nt ct text w htls h1 ot hot)
  by_cases hg : mb = true ∧ mt = true ∧ ob = false ∧ ot = false
  rotate_left
  · have hways : mb = false ∨ (mb = true ∧ mt = false) ∨ (mb = true ∧ mt = true ∧ ob = true) ∨ (mb = true ∧ mt = true ∧ ob = false ∧ ot = true) := by cases mb <;> cases mt <;> cases ob <;> cases ot <;> simp_all
    clear h0 h1 hfm hfn H H2 hg hls htls hk htk hfE htD hmb hob hmt hot hln htn hx hy
    rcases hways with rfl | ⟨rfl, rfl⟩ | ⟨rfl, rfl, rfl⟩ | ⟨rfl, rfl, rfl, rfl⟩
    all_goals
      go_enter Tryz.func4, Tryz.ntmps4
      go_upto_region 1 with fail
      rw [← hW0h.out]
      go_wp2_with (first
      | (go_at_call 7; refine haw.out.mono ?_; rintro e w1 ⟨rfl, hb1⟩; have hB1 := Lib.hid (hW0b.out.trans (hb1.mono hW0b.out.size)); have hh1 := (hb1.block _ hlt0.out).trans hk0.out; have q0 : w1.cell? ⟨w.heap.size, 0, none⟩ = some (.int .u8 (xn : Int)) := (by rw [cells_of hh1]; rfl); have q1 : w1.cell? ⟨w.heap.size, 1, none⟩ = some (.int .u8 (yn : Int)) := (by rw [cells_of hh1]; rfl); clear hb1 hh1)
      | (go_at_call 8; have _t := g1; refine (hF.out _ hB1.out).mono ?_; rintro e w2 ⟨rfl, hww⟩; have hws := hww.symm; clear hww; subst hws; have g2 := trivial; clear g1)
      | (go_at_call 8; have _t := g2; refine (hF2.out _ hB1.out).mono ?_; rintro e w2 ⟨rfl, hww⟩; have hws := hww.symm; clear hww; subst hws; have g3 := trivial; clear g2)
      | (go_at_call 12; have _t := g3; refine (hM.out _ hB1.out).mono ?_; rintro e w2 ⟨rfl, hww⟩; have hws := hww.symm; clear hww; subst hws; have g4 := trivial; clear g3)
      | (go_at_call 12; have _t := g4; refine (hM2.out _ hB1.out).mono ?_; rintro e w2 ⟨rfl, hww⟩; have hws := hww.symm; clear hww; subst hws; have g5 := trivial; clear g4)
      | (go_at_call 13; have _t := g5; refine (hO.out _ hB1.out).mono ?_; rintro e w2 ⟨rfl, hww⟩; have hws := hww.symm; clear hww; subst hws; have g6 := trivial; clear g5)
      | (go_at_call 13; have _t := g6; refine (hO2.out _ hB1.out).mono ?_; rintro e w2 ⟨rfl, hww⟩; have hws := hww.symm; clear hww; subst hws; clear g6))
      go_ret
      exact ⟨rfl, hB1.out⟩
  obtain ⟨rfl, rfl, rfl, rfl⟩ := hg
  have hlines := lines_iff.1 ⟨hmb, hob⟩
  have htlines := lines_iff.1 ⟨hmt, hot⟩
  have hn20 : n ≤ 20 := by omega
  have hnt20 : nt ≤ 20 := by omega
  obtain ⟨n1, hn1⟩ : ∃ n1, n + 1 = n1 := ⟨_, rfl⟩
  have a1 : (n : Int) + 1 = (n1 : Int) := by omega
  have a2 : IntKind.i64.wrap (n1 : Int) = (n1 : Int) := IntWalk.i64_in _ (by omega)
  have a3 : ((n1 : Int) == 0) = false := by rw [beq_eq_false_iff_ne]; omega
  have a4 : ¬ (n1 : Int) = 0 := by omega
  obtain ⟨m, hm⟩ : ∃ r, xn % n1 = r := ⟨_, rfl⟩
  have hmn1 : m < n1 := by rw [← hm]; exact Nat.mod_lt _ (by omega)
  have f1 : ((xn : Int)).tmod (n1 : Int) = (m : Int) := by rw [← hm]; exact Int.ofNat_tmod xn n1 ▸ rfl
  obtain ⟨d, hd⟩ : ∃ d, n - m = d := ⟨_, rfl⟩
  have f4 : (n : Int) - (m : Int) = (d : Int) := by omega
  have f5 : IntKind.i64.wrap (d : Int) = (d : Int) := IntWalk.i64_in _ (by omega)
  obtain ⟨g, hg⟩ : ∃ g, d + 1 = g := ⟨_, rfl⟩
  have f6 : (d : Int) + 1 = (g : Int) := by omega
  have f7 : IntKind.i64.wrap (g : Int) = (g : Int) := IntWalk.i64_in _ (by omega)
  have f77 : ¬ (g : Int) = 0 := by omega
  have f78 : ((g : Int) == 0) = false := by rw [beq_eq_false_iff_ne]; omega
  obtain ⟨r1, hr1⟩ : ∃ r, yn % g = r := ⟨_, rfl⟩
  have hr1g : r1 < g := by rw [← hr1]; exact Nat.mod_lt _ (by omega)
  have f8 : ((yn : Int)).tmod (g : Int) = (r1 : Int) := by rw [← hr1]; exact Int.ofNat_tmod yn g ▸ rfl
  obtain ⟨N, hN⟩ : ∃ N, m + r1 = N := ⟨_, rfl⟩
  have f9 : (m : Int) + (r1 : Int) = (N : Int) := by omega
  have f10 : IntKind.i64.wrap (N : Int) = (N : Int) := IntWalk.i64_in _ (by omega)
  obtain ⟨M1, hM1⟩ : ∃ M, m + 1 = M := ⟨_, rfl⟩
  have f11 : (m : Int) + 1 = (M1 : Int) := by omega
  have f12 : IntKind.i64.wrap (M1 : Int) = (M1 : Int) := IntWalk.i64_in _ (by omega)
  obtain ⟨L2, hL2⟩ : ∃ M, m + nt = M := ⟨_, rfl⟩
  have f13 : (m : Int) + (nt : Int) = (L2 : Int) := by omega
  have f14 : IntKind.i64.wrap (L2 : Int) = (L2 : Int) := IntWalk.i64_in _ (by omega)
  have hmN : m ≤ N := by omega
  have hNn : N ≤ n := by omega
  have hxn : xn ≤ 255 := by omega
  have hyn : yn ≤ 255 := by omega
  have hrun := lays_run (m := m) (n := N) hlines htlines hmN (by omega) (by omega) (by omega)
  obtain ⟨G, hG⟩ : ∃ G, layE file m N text = G := ⟨_, rfl⟩
  rw [hG] at hrun
  have hGl : file.take m ++ text ++ file.drop N = G := hG
  have hFg : Hid (∀ (k : Nat) W, k ≤ 1000000 → Below w.heap.size w W → Calls Tryz.prog 15 #[.int .i64 (k : Int)] W fun e w' => e = .returned (.string (str (figD k))) ∧ Below W.heap.size W w') := Lib.hid (fun k W hk hW => rFigures_any k W hk)
  have hFm := Lib.hid (fun W => hFg.out m W (by omega))
  have hFM := Lib.hid (fun W => hFg.out M1 W (by omega))
  have hFN := Lib.hid (fun W => hFg.out N W (by omega))
  have hFL := Lib.hid (fun W => hFg.out L2 W (by omega))
  have z0 := fig_size m (by omega)
  have z1 := fig_size M1 (by omega)
  have z2 := fig_size N (by omega)
  have z3 := fig_size L2 (by omega)
  obtain ⟨HT, hHT⟩ : ∃ T, headL m N = T := ⟨_, rfl⟩
  have hHl : HT.length ≤ 10000 := by
    have := fig_len M1
    have := fig_len N
    have := fig_len m
    rw [← hHT]
    unfold headL
    split
    · rw [hM1]; simp only [List.length_append, List.length_cons, List.length_nil]; omega
    · simp only [List.length_append, List.length_cons, List.length_nil]; omega
  obtain ⟨ST, hST⟩ : ∃ T, figD M1 ++ [44] ++ figD L2 ++ subT = T := ⟨_, rfl⟩
  have hSl : ST.length ≤ 10000 := by
    have := fig_len M1
    have := fig_len L2
    rw [← hST]
    simp only [List.length_append, List.length_cons, List.length_nil, subT]; omega
  have hHs : Hid ((m < N → str (figD M1) ++ (⟨#[44]⟩ : ByteArray) ++ str (figD N) ++ ⟨#[99, 10]⟩ = str HT) ∧ (¬ m < N → str (figD m) ++ (⟨#[97, 10]⟩ : ByteArray) = str HT)) := Lib.hid (by
    rw [← hHT, ← hM1]
    unfold headL
    refine ⟨fun h => ?_, fun h => ?_⟩
    · rw [if_pos h, show (⟨#[44]⟩ : ByteArray) = str [44] from rfl, show (⟨#[99, 10]⟩ : ByteArray) = str [99, 10] from rfl, strs_app, strs_app, strs_app]
    · rw [if_neg h, show (⟨#[97, 10]⟩ : ByteArray) = str [97, 10] from rfl, strs_app])
  have hSs : Hid (str (figD M1) ++ (⟨#[44]⟩ : ByteArray) ++ str (figD L2) ++ ⟨#[115, 47, 94, 92, 46, 47, 47, 10]⟩ = str ST) := Lib.hid (by
    rw [← hST, show (⟨#[44]⟩ : ByteArray) = str [44] from rfl, show (⟨#[115, 47, 94, 92, 46, 47, 47, 10]⟩ : ByteArray) = str subT from rfl, strs_app, strs_app, strs_app])
  obtain ⟨db, hdb⟩ : ∃ db, dottedB text = db := ⟨_, rfl⟩
  obtain ⟨B, hBB⟩ : ∃ B, blockD text = B := ⟨_, rfl⟩
  have hBl : B.length = nt + 1 := by rw [← hBB, block_len, htn]
  have hBs : ∀ s ∈ B, s.length ≤ 10000 := fun s hs => by
    rw [← hBB] at hs
    unfold blockD at hs
    rcases List.mem_append.1 hs with h | h
    · obtain ⟨t, ht, rfl⟩ := List.mem_map.1 h
      have := htk.2 t ht
      have : (dotT t).length ≤ t.length + 1 := dotT_len t
      omega
    · rw [List.mem_singleton.1 h]; simp [endD]
  have hrun2 : edR ([HT] ++ B ++ (if db = true then [ST] else []) ++ [[119, 10]]) file = (G, true, 0, 0) := by
    have e : [HT] ++ B ++ (if db = true then [ST] else []) ++ [[119, 10]] = layL m N text := by
      unfold layL
      rw [hHT, hBB, hdb, hM1, htn, hL2, hST]
      simp
    rw [e, hrun]
  have hEd : Hid (∀ (As : Option Addr) (ns cs : Nat) (W : World), Below w.heap.size w W → TxR W W.heap.size (As, ns, cs) ([HT] ++ B ++ (if db = true then [ST] else []) ++ [[119, 10]]) → Calls Tryz.prog 9 #[.slice As ns cs, .slice A n c] W fun e w' => EdOut W w' e (G, true, 0, 0)) := Lib.hid (fun As ns cs W hW hT => by
    have h := H As ns cs _ A n c file W ⟨by simp only [List.length_append, List.length_singleton]; split <;> simp <;> omega, fun s hs => by
      rcases List.mem_append.1 hs with hs | hs
      · rcases List.mem_append.1 hs with hs | hs
        · rcases List.mem_append.1 hs with hs | hs
          · rw [List.mem_singleton.1 hs]; exact hHl
          · exact hBs s hs
        · split at hs
          · rw [List.mem_singleton.1 hs]; exact hSl
          · cases hs
      · rw [List.mem_singleton.1 hs]; decide⟩ hfE hT (h0.up hW)
    rw [hrun2] at h
    exact h)
  have hBk : Hid (∀ (W : World), Below w.heap.size w W → Calls Tryz.prog 14 #[.slice At nt ct] W fun e w' => TxsB W w' e (B, db)) := Lib.hid (fun W hW => by rw [← hBB, ← hdb]; exact H2 At nt ct text W htD (h1.up hW))
  have hB1t : Hid (∀ (A3 : Option Addr) (n3 c3 : Nat) (W : World), TxR W W.heap.size (A3, n3, c3) B → Calls Tryz.prog 16 #[.slice (some ⟨W.heap.size, 0, none⟩) 1 1, .slice A3 n3 c3] (W.alloc (.cells #[.string (str HT)] 9)) fun e w' => OwnT (W.alloc (.cells #[.string (str HT)] 9)) w' e ([HT] ++ B)) := Lib.hid (fun A3 n3 c3 W hT => sBoth_own _ 1 1 [HT] A3 n3 c3 B _ (by simp) (by omega) (txr_of (one_a W _) rfl rfl (by decide)) (hT.up (below_alloc (Below.refl _ _) _)))
  obtain ⟨A1, m1, p1, hs1, hT1, e1⟩ := slice_to (k := m) h0 (by omega)
  obtain ⟨A2, m2, p2, hs2, hT2, e2⟩ := slice_from (k := N) h0 hNn
  have hBa : Hid (∀ (W : World), Below w.heap.size w W → Calls Tryz.prog 16 #[.slice A1 m1 p1, .slice At nt ct] W fun e w' => TxsOut W w' e (file.take m ++ text)) := Lib.hid (fun W hW => sBoth_any A1 m1 p1 (file.take m) At nt ct text W (by rw [List.length_take]; omega) (by omega) (hT1.up hW) (h1.up hW))
  have hBb : Hid (∀ (A3 : Option Addr) (n3 c3 : Nat) (W : World), Below w.heap.size w W → TxR W W.heap.size (A3, n3, c3) (file.take m ++ text) → Calls Tryz.prog 16 #[.slice A3 n3 c3, .slice A2 m2 p2] W fun e w' => TxsOut W w' e G) := Lib.hid (fun A3 n3 c3 W hW hT => by
    rw [← hGl]
    exact sBoth_any A3 n3 c3 (file.take m ++ text) A2 m2 p2 (file.drop N) W (by rw [List.length_append, List.length_take]; omega) (by rw [List.length_drop]; omega) hT (hT2.up hW))
  obtain ⟨i0, hi, hzz⟩ := Option.map_eq_some_iff.1 infoStr
  simp only [Prod.mk.injEq] at hzz
  obtain ⟨hz0, hz1, hz2⟩ := hzz
  have hlen1 : Hid (([HT] ++ B).length + 2 ≤ 1000) := Lib.hid (by rw [List.length_append, List.length_singleton]; omega)
  obtain ⟨X1, hX1⟩ : ∃ X, [HT] ++ B = X := ⟨_, rfl⟩
  rw [hX1] at hB1t hEd hlen1
  have hmx1 : Hid (X1.length + 1 ≤ maxLen ∧ (X1.length + 1) * 16 ≤ 140737488355328) := Lib.hid (by have := hlen1.out; unfold maxLen; omega)
  have hmx2 : Hid ((X1 ++ [ST]).length + 1 ≤ maxLen ∧ ((X1 ++ [ST]).length + 1) * 16 ≤ 140737488355328) := Lib.hid (by have := hlen1.out; rw [List.length_append, List.length_singleton]; unfold maxLen; omega)
  obtain ⟨Fm, hFm'⟩ : ∃ F, str (figD m) = F := ⟨_, rfl⟩
  obtain ⟨FM, hFM'⟩ : ∃ F, str (figD M1) = F := ⟨_, rfl⟩
  obtain ⟨FN, hFN'⟩ : ∃ F, str (figD N) = F := ⟨_, rfl⟩
  obtain ⟨FL, hFL'⟩ : ∃ F, str (figD L2) = F := ⟨_, rfl⟩
  obtain ⟨TH, hTH⟩ : ∃ F, str HT = F := ⟨_, rfl⟩
  obtain ⟨TS, hTS⟩ : ∃ F, str ST = F := ⟨_, rfl⟩
  rw [hFm'] at hFm hHs z0
  rw [hFM'] at hFM hHs hSs z1
  rw [hFN'] at hFN hHs z2
  rw [hFL'] at hFL hSs z3
  rw [hTH] at hHs hB1t
  rw [hTS] at hSs
  have hTSh := Lib.hid hTS
  have s0 : ¬ 9223372036854775807 < Fm.size + 2 := by omega
  have s1 : ¬ 9223372036854775807 < FM.size + 1 := by omega
  have s2 : ¬ 9223372036854775807 < FM.size + 1 + FN.size := by omega
  have s3 : ¬ 9223372036854775807 < FM.size + 1 + FN.size + 2 := by omega
  have s4 : ¬ 9223372036854775807 < FM.size + 1 + FL.size := by omega
  have s5 : ¬ 9223372036854775807 < FM.size + 1 + FL.size + 8 := by omega
  have tA := trivial
  have tB := trivial
  have hmNc : (m < N ∧ (m : Int) < (N : Int)) ∨ (¬ m < N ∧ ¬ (m : Int) < (N : Int)) := by omega
  clear hm hmn1 hd hg hr1 hr1g hN hM1 hL2 hmN hNn hrun hG hGl hFg hHT hHl hST hSl hdb hBB hBl hBs hrun2 hT1 hT2 e1 e2 hX1 hFm' hFM' hFN' hFL' hTH hTS z0 z1 z2 z3 h0 h1 hfm hfn H H2 hls htls hk htk hfE htD hmb hob hmt hot hln htn hx hy hlines htlines hn20 hnt20 hn1
  rcases hmNc with ⟨hc1, hc2⟩ | ⟨hc1, hc2⟩
  · have hHd := Lib.hid (hHs.out.1 hc1)
    clear hHs hc1
    cases db
    · have tC := trivial
      have hEd2 : Hid (∀ (As : Option Addr) (ns cs : Nat) (W : World), Below w.heap.size w W → TxR W W.heap.size (As, ns, cs) (X1 ++ [[119, 10]]) → Calls Tryz.prog 9 #[.slice As ns cs, .slice A n c] W fun e w' => EdOut W w' e (G, true, 0, 0)) := Lib.hid (fun As ns cs W hW hT => hEd.out As ns cs W hW (by simpa using hT))
      clear hEd
      go_enter Tryz.func4, Tryz.ntmps4
      go_upto_region 1 with fail
      rw [← hW0h.out]
      go_upto_region 15 with (first
        | (go_at_call 7; refine haw.out.mono ?_; rintro e w1 ⟨rfl, hb1⟩; have hB1 := Lib.hid (hW0b.out.trans (hb1.mono hW0b.out.size)); have hh1 := (hb1.block _ hlt0.out).trans hk0.out; have q0 : w1.cell? ⟨w.heap.size, 0, none⟩ = some (.int .u8 (xn : Int)) := (by rw [cells_of hh1]; rfl); have q1 : w1.cell? ⟨w.heap.size, 1, none⟩ = some (.int .u8 (yn : Int)) := (by rw [cells_of hh1]; rfl); clear hb1 hh1)
        | (go_at_call 8; have _t := g1; refine (hF.out _ hB1.out).mono ?_; rintro e w2 ⟨rfl, hww⟩; have hws := hww.symm; clear hww; subst hws; have g2 := trivial; clear g1)
        | (go_at_call 8; have _t := g2; refine (hF2.out _ hB1.out).mono ?_; rintro e w2 ⟨rfl, hww⟩; have hws := hww.symm; clear hww; subst hws; have g3 := trivial; clear g2)
        | (go_at_call 12; have _t := g3; refine (hM.out _ hB1.out).mono ?_; rintro e w2 ⟨rfl, hww⟩; have hws := hww.symm; clear hww; subst hws; have g4 := trivial; clear g3)
        | (go_at_call 12; have _t := g4; refine (hM2.out _ hB1.out).mono ?_; rintro e w2 ⟨rfl, hww⟩; have hws := hww.symm; clear hww; subst hws; have g5 := trivial; clear g4)
        | (go_at_call 13; have _t := g5; refine (hO.out _ hB1.out).mono ?_; rintro e w2 ⟨rfl, hww⟩; have hws := hww.symm; clear hww; subst hws; have g6 := trivial; clear g5)
        | (go_at_call 13; have _t := g6; refine (hO2.out _ hB1.out).mono ?_; rintro e w2 ⟨rfl, hww⟩; have hws := hww.symm; clear hww; subst hws; clear g6)
        | (go_at_call 14; refine (hBk.out _ hB1.out).mono ?_; rintro e w2 ⟨A3, n3, c3, rfl, p3, q3⟩; have hP3 := Lib.hid p3; have hB2 := Lib.hid (hB1.out.trans (q3.mono hB1.out.size)); clear p3 q3)
        | (go_at_call 15; have _t := tA; refine (hFm.out _ hB2.out).mono ?_; rintro e w3 ⟨rfl, hb⟩; have hP3b := Lib.hid (hP3.out.up hb); have hB3 := Lib.hid (hB2.out.trans (hb.mono hB2.out.size)); have tB1 := trivial; clear hb tA)
        | (go_at_call 15; have _t := tB1; refine (hFM.out _ hB3.out).mono ?_; rintro e w4 ⟨rfl, hb⟩; have hP3c := Lib.hid (hP3b.out.up hb); have hB4 := Lib.hid (hB3.out.trans (hb.mono hB3.out.size)); have tB2 := trivial; clear hb tB1)
        | (go_at_call 15; have _t := tB2; refine (hFN.out _ hB4.out).mono ?_; rintro e w5 ⟨rfl, hb⟩; have hP3d := Lib.hid (hP3c.out.up hb); have hB5 := Lib.hid (hB4.out.trans (hb.mono hB4.out.size)); have tB3 := trivial; clear hb tB2)
        | (go_at_call 16; rw [hHd.out]; refine (hB1t.out _ _ _ _ hP3d.out).mono ?_; rintro e w6 ⟨v6, rfl, hO⟩; have hO6 := Lib.hid hO; have hB6 := Lib.hid ((below_alloc hB5.out _).trans (hO.below.mono (below_alloc hB5.out _).size)); have ap1 := trivial; clear hO)
        | (at_builtin; have _t := ap1; refine wpList_append_own_at _ rfl _ _ 22 rfl (w5.alloc (.cells #[.string TH] 9)).heap.size 9 i0 (.string ByteArray.empty) 1 16 Tryz.underlying22 hi hz0 hz1 hz2 rfl (by decide) v6 (X1).length _ rfl (hO6.out.own.alloc _) ⟨w6.heap.size, 0, none⟩ 1 1 [.string (⟨#[119, 10]⟩)] rfl rfl (cell_one_new _ _ _) (by simp; rfl) hmx1.out.1 hmx1.out.2 (Nat.le_trans hO6.out.below.size (by simp)) ?_; intro v10 w10 hown hg hnil hloc;  have hO := hO6.out.push (s := [119, 10]) hown hg; have hO10 := Lib.hid hO; have hB10 := Lib.hid ((below_alloc hB5.out _).trans (hO.below.mono (below_alloc hB5.out _).size)); obtain ⟨A10, c10, rfl, -, -, -⟩ := own_slice hown; have hT10 := Lib.hid (txr_own hO.own); obtain ⟨K10, hK10⟩ : ∃ K, (X1).length + 1 = K := ⟨_, rfl⟩; rw [hK10] at hT10 ⊢; clear hK10; clear hown hg hnil hloc hO ap1)
        | (go_at_call 9; refine (hEd2.out _ _ _ _ hB10.out hT10.out).mono ?_; rintro e w11 ⟨A11, n11, c11, rfl, p11, q11⟩; have hP11 := Lib.hid p11; have hB11 := Lib.hid (hB10.out.trans (q11.mono hB10.out.size)); clear p11 q11))
      have hrefl := Below.refl w11.heap.size w11
      have hBa2 : Hid (∀ W, Below w11.heap.size w11 W → Calls Tryz.prog 16 #[.slice A1 m1 p1, .slice At nt ct] W fun e w' => ∃ A7 n7 c7, e = .returned (.slice A7 n7 c7) ∧ TxR w' w'.heap.size (A7, n7, c7) (file.take m ++ text) ∧ Below w11.heap.size w11 w') := Lib.hid (fun W hW => (hBa.out W (hB11.out.trans (hW.mono hB11.out.size))).mono fun e w' h => by
        obtain ⟨A7, n7, c7, h1, h2, h3⟩ := h
        exact ⟨A7, n7, c7, h1, h2, hW.trans (h3.mono hW.size)⟩)
      have hBb2 : Hid (∀ A3 n3 c3 W0 W, Below w11.heap.size w11 W0 → TxR W0 W0.heap.size (A3, n3, c3) (file.take m ++ text) → Below W0.heap.size W0 W → Calls Tryz.prog 16 #[.slice A3 n3 c3, .slice A2 m2 p2] W fun e w' => ∃ A7 n7 c7, e = .returned (.slice A7 n7 c7) ∧ TxR w' w'.heap.size (A7, n7, c7) G ∧ Below w11.heap.size w11 w') := Lib.hid (fun A3 n3 c3 W0 W h1 h2 h3 => by
        have hW := h1.trans (h3.mono h1.size)
        refine (hBb.out A3 n3 c3 W (hB11.out.trans (hW.mono hB11.out.size)) (h2.up h3)).mono fun e w' h => ?_
        obtain ⟨A7, n7, c7, e1, e2, e3⟩ := h
        exact ⟨A7, n7, c7, e1, e2, hW.trans (e3.mono hW.size)⟩)
      have hP11w := Lib.hid hP11.out
      have hB11w := Lib.hid hB11.out
      have tk1 := trivial
      clear haw hF hF2 hM hM2 hO hO2 hBk hB1t hEd2 hFm hFM hFN hFL hHd hSs hTSh hBa hBb hlen1
      go_region_held3 (fun wx : World => True)
        (trivial)
        ((first
          | (go_at_call 16; have _t := tk1; refine (hBa2.out _ ?_).mono ?_; (repeat (first | exact hrefl | refine below_drew ?_)); rintro e w12 ⟨A12, n12, c12, rfl, p12, q12⟩; have hP12 := Lib.hid p12; have hB12 := Lib.hid q12; have hrefl12 := Below.refl w12.heap.size w12; have tk2 := trivial; clear p12 q12 tk1)
          | (go_at_call 16; have _t := tk2; refine (hBb2.out _ _ _ _ _ hB12.out hP12.out ?_).mono ?_; (repeat (first | exact hrefl12 | refine below_drew ?_)); rintro e w13 ⟨A13, n13, c13, rfl, p13, q13⟩; have hP13 := Lib.hid p13; have hB13 := Lib.hid q13; clear p13 q13 tk2)))
      all_goals
        have hP11z := Lib.hid (hP11w.out.up hB13.out)
        go_wp2_with (go_at_call 11; refine (Same_any A11 A13 n11 n13 c11 c13 w13.heap.size w13.heap.size G G w13 (Nat.le_trans hP11z.out.1 hP11z.out.2.1) (Nat.le_trans hP13.out.1 hP13.out.2.1) hP11z.out.2.2 hP13.out.2.2).mono ?_; rintro e w14 ⟨rfl, q, rfl⟩; rw [decide_eq_true (rfl : G = G)])
        go_ret
        exact ⟨rfl, below_drewN (hB11w.out.trans (hB13.out.mono hB11w.out.size)) q⟩
    · have tC := trivial
      have hEd2 : Hid (∀ (As : Option Addr) (ns cs : Nat) (W : World), Below w.heap.size w W → TxR W W.heap.size (As, ns, cs) (X1 ++ [ST] ++ [[119, 10]]) → Calls Tryz.prog 9 #[.slice As ns cs, .slice A n c] W fun e w' => EdOut W w' e (G, true, 0, 0)) := Lib.hid (fun As ns cs W hW hT => hEd.out As ns cs W hW (by simpa using hT))
      clear hEd
      go_enter Tryz.func4, Tryz.ntmps4
      go_upto_region 1 with fail
      rw [← hW0h.out]
      go_upto_region 15 with (first
        | (go_at_call 7; refine haw.out.mono ?_; rintro e w1 ⟨rfl, hb1⟩; have hB1 := Lib.hid (hW0b.out.trans (hb1.mono hW0b.out.size)); have hh1 := (hb1.block _ hlt0.out).trans hk0.out; have q0 : w1.cell? ⟨w.heap.size, 0, none⟩ = some (.int .u8 (xn : Int)) := (by rw [cells_of hh1]; rfl); have q1 : w1.cell? ⟨w.heap.size, 1, none⟩ = some (.int .u8 (yn : Int)) := (by rw [cells_of hh1]; rfl); clear hb1 hh1)
        | (go_at_call 8; have _t := g1; refine (hF.out _ hB1.out).mono ?_; rintro e w2 ⟨rfl, hww⟩; have hws := hww.symm; clear hww; subst hws; have g2 := trivial; clear g1)
        | (go_at_call 8; have _t := g2; refine (hF2.out _ hB1.out).mono ?_; rintro e w2 ⟨rfl, hww⟩; have hws := hww.symm; clear hww; subst hws; have g3 := trivial; clear g2)
        | (go_at_call 12; have _t := g3; refine (hM.out _ hB1.out).mono ?_; rintro e w2 ⟨rfl, hww⟩; have hws := hww.symm; clear hww; subst hws; have g4 := trivial; clear g3)
        | (go_at_call 12; have _t := g4; refine (hM2.out _ hB1.out).mono ?_; rintro e w2 ⟨rfl, hww⟩; have hws := hww.symm; clear hww; subst hws; have g5 := trivial; clear g4)
        | (go_at_call 13; have _t := g5; refine (hO.out _ hB1.out).mono ?_; rintro e w2 ⟨rfl, hww⟩; have hws := hww.symm; clear hww; subst hws; have g6 := trivial; clear g5)
        | (go_at_call 13; have _t := g6; refine (hO2.out _ hB1.out).mono ?_; rintro e w2 ⟨rfl, hww⟩; have hws := hww.symm; clear hww; subst hws; clear g6)
        | (go_at_call 14; refine (hBk.out _ hB1.out).mono ?_; rintro e w2 ⟨A3, n3, c3, rfl, p3, q3⟩; have hP3 := Lib.hid p3; have hB2 := Lib.hid (hB1.out.trans (q3.mono hB1.out.size)); clear p3 q3)
        | (go_at_call 15; have _t := tA; refine (hFm.out _ hB2.out).mono ?_; rintro e w3 ⟨rfl, hb⟩; have hP3b := Lib.hid (hP3.out.up hb); have hB3 := Lib.hid (hB2.out.trans (hb.mono hB2.out.size)); have tB1 := trivial; clear hb tA)
        | (go_at_call 15; have _t := tB1; refine (hFM.out _ hB3.out).mono ?_; rintro e w4 ⟨rfl, hb⟩; have hP3c := Lib.hid (hP3b.out.up hb); have hB4 := Lib.hid (hB3.out.trans (hb.mono hB3.out.size)); have tB2 := trivial; clear hb tB1)
        | (go_at_call 15; have _t := tB2; refine (hFN.out _ hB4.out).mono ?_; rintro e w5 ⟨rfl, hb⟩; have hP3d := Lib.hid (hP3c.out.up hb); have hB5 := Lib.hid (hB4.out.trans (hb.mono hB4.out.size)); have tB3 := trivial; clear hb tB2)
        | (go_at_call 16; rw [hHd.out]; refine (hB1t.out _ _ _ _ hP3d.out).mono ?_; rintro e w6 ⟨v6, rfl, hO⟩; have hO6 := Lib.hid hO; have hB6 := Lib.hid ((below_alloc hB5.out _).trans (hO.below.mono (below_alloc hB5.out _).size)); have ap1 := trivial; clear hO)
        | (go_at_call 15; have _t := tB3; have _u := ap1; refine (hFM.out _ hB6.out).mono ?_; rintro e w7 ⟨rfl, hb⟩; have hO7 := Lib.hid (hO6.out.call hb); have hB7 := Lib.hid (hB6.out.trans (hb.mono hB6.out.size)); have tD := trivial; clear hb tB3)
        | (go_at_call 15; have _t := tD; refine (hFL.out _ hB7.out).mono ?_; rintro e w8 ⟨rfl, hb⟩; have hO8 := Lib.hid (hO7.out.call hb); have hB8 := Lib.hid (hB7.out.trans (hb.mono hB7.out.size)); clear hb tD)
        | (at_builtin; have _t := ap1; rw [hSs.out]; refine wpList_append_own_at _ rfl _ _ 22 rfl (w5.alloc (.cells #[.string TH] 9)).heap.size 9 i0 (.string ByteArray.empty) 1 16 Tryz.underlying22 hi hz0 hz1 hz2 rfl (by decide) v6 (X1).length _ rfl (hO8.out.own.alloc _) ⟨w8.heap.size, 0, none⟩ 1 1 [.string (TS)] rfl rfl (cell_one_new _ _ _) (by simp; rfl) hmx1.out.1 hmx1.out.2 (Nat.le_trans hO8.out.below.size (by simp)) ?_; intro v9 w9 hown hg hnil hloc; rw [← hTSh.out] at hown; have hO := hO8.out.push (s := ST) hown hg; have hO9 := Lib.hid hO; have hB9 := Lib.hid ((below_alloc hB5.out _).trans (hO.below.mono (below_alloc hB5.out _).size)); have ap2 := trivial; clear hown hg hnil hloc hO ap1)
        | (at_builtin; have _t := ap2; refine wpList_append_own_at _ rfl _ _ 22 rfl (w5.alloc (.cells #[.string TH] 9)).heap.size 9 i0 (.string ByteArray.empty) 1 16 Tryz.underlying22 hi hz0 hz1 hz2 rfl (by decide) v9 (X1 ++ [ST]).length _ rfl (hO9.out.own.alloc _) ⟨w9.heap.size, 0, none⟩ 1 1 [.string (⟨#[119, 10]⟩)] rfl rfl (cell_one_new _ _ _) (by simp; rfl) hmx2.out.1 hmx2.out.2 (Nat.le_trans hO9.out.below.size (by simp)) ?_; intro v10 w10 hown hg hnil hloc;  have hO := hO9.out.push (s := [119, 10]) hown hg; have hO10 := Lib.hid hO; have hB10 := Lib.hid ((below_alloc hB5.out _).trans (hO.below.mono (below_alloc hB5.out _).size)); obtain ⟨A10, c10, rfl, -, -, -⟩ := own_slice hown; have hT10 := Lib.hid (txr_own hO.own); obtain ⟨K10, hK10⟩ : ∃ K, (X1 ++ [ST]).length + 1 = K := ⟨_, rfl⟩; rw [hK10] at hT10 ⊢; clear hK10; clear hown hg hnil hloc hO ap2)
        | (go_at_call 9; refine (hEd2.out _ _ _ _ hB10.out hT10.out).mono ?_; rintro e w11 ⟨A11, n11, c11, rfl, p11, q11⟩; have hP11 := Lib.hid p11; have hB11 := Lib.hid (hB10.out.trans (q11.mono hB10.out.size)); clear p11 q11))
      have hrefl := Below.refl w11.heap.size w11
      have hBa2 : Hid (∀ W, Below w11.heap.size w11 W → Calls Tryz.prog 16 #[.slice A1 m1 p1, .slice At nt ct] W fun e w' => ∃ A7 n7 c7, e = .returned (.slice A7 n7 c7) ∧ TxR w' w'.heap.size (A7, n7, c7) (file.take m ++ text) ∧ Below w11.heap.size w11 w') := Lib.hid (fun W hW => (hBa.out W (hB11.out.trans (hW.mono hB11.out.size))).mono fun e w' h => by
        obtain ⟨A7, n7, c7, h1, h2, h3⟩ := h
        exact ⟨A7, n7, c7, h1, h2, hW.trans (h3.mono hW.size)⟩)
      have hBb2 : Hid (∀ A3 n3 c3 W0 W, Below w11.heap.size w11 W0 → TxR W0 W0.heap.size (A3, n3, c3) (file.take m ++ text) → Below W0.heap.size W0 W → Calls Tryz.prog 16 #[.slice A3 n3 c3, .slice A2 m2 p2] W fun e w' => ∃ A7 n7 c7, e = .returned (.slice A7 n7 c7) ∧ TxR w' w'.heap.size (A7, n7, c7) G ∧ Below w11.heap.size w11 w') := Lib.hid (fun A3 n3 c3 W0 W h1 h2 h3 => by
        have hW := h1.trans (h3.mono h1.size)
        refine (hBb.out A3 n3 c3 W (hB11.out.trans (hW.mono hB11.out.size)) (h2.up h3)).mono fun e w' h => ?_
        obtain ⟨A7, n7, c7, e1, e2, e3⟩ := h
        exact ⟨A7, n7, c7, e1, e2, hW.trans (e3.mono hW.size)⟩)
      have hP11w := Lib.hid hP11.out
      have hB11w := Lib.hid hB11.out
      have tk1 := trivial
      clear haw hF hF2 hM hM2 hO hO2 hBk hB1t hEd2 hFm hFM hFN hFL hHd hSs hTSh hBa hBb hlen1
      go_region_held3 (fun wx : World => True)
        (trivial)
        ((first
          | (go_at_call 16; have _t := tk1; refine (hBa2.out _ ?_).mono ?_; (repeat (first | exact hrefl | refine below_drew ?_)); rintro e w12 ⟨A12, n12, c12, rfl, p12, q12⟩; have hP12 := Lib.hid p12; have hB12 := Lib.hid q12; have hrefl12 := Below.refl w12.heap.size w12; have tk2 := trivial; clear p12 q12 tk1)
          | (go_at_call 16; have _t := tk2; refine (hBb2.out _ _ _ _ _ hB12.out hP12.out ?_).mono ?_; (repeat (first | exact hrefl12 | refine below_drew ?_)); rintro e w13 ⟨A13, n13, c13, rfl, p13, q13⟩; have hP13 := Lib.hid p13; have hB13 := Lib.hid q13; clear p13 q13 tk2)))
      all_goals
        have hP11z := Lib.hid (hP11w.out.up hB13.out)
        go_wp2_with (go_at_call 11; refine (Same_any A11 A13 n11 n13 c11 c13 w13.heap.size w13.heap.size G G w13 (Nat.le_trans hP11z.out.1 hP11z.out.2.1) (Nat.le_trans hP13.out.1 hP13.out.2.1) hP11z.out.2.2 hP13.out.2.2).mono ?_; rintro e w14 ⟨rfl, q, rfl⟩; rw [decide_eq_true (rfl : G = G)])
        go_ret
        exact ⟨rfl, below_drewN (hB11w.out.trans (hB13.out.mono hB11w.out.size)) q⟩
  · have hHd := Lib.hid (hHs.out.2 hc1)
    clear hHs hc1
    cases db
    · have tC := trivial
      have hEd2 : Hid (∀ (As : Option Addr) (ns cs : Nat) (W : World), Below w.heap.size w W → TxR W W.heap.size (As, ns, cs) (X1 ++ [[119, 10]]) → Calls Tryz.prog 9 #[.slice As ns cs, .slice A n c] W fun e w' => EdOut W w' e (G, true, 0, 0)) := Lib.hid (fun As ns cs W hW hT => hEd.out As ns cs W hW (by simpa using hT))
      clear hEd
      go_enter Tryz.func4, Tryz.ntmps4
      go_upto_region 1 with fail
      rw [← hW0h.out]
      go_upto_region 15 with (first
        | (go_at_call 7; refine haw.out.mono ?_; rintro e w1 ⟨rfl, hb1⟩; have hB1 := Lib.hid (hW0b.out.trans (hb1.mono hW0b.out.size)); have hh1 := (hb1.block _ hlt0.out).trans hk0.out; have q0 : w1.cell? ⟨w.heap.size, 0, none⟩ = some (.int .u8 (xn : Int)) := (by rw [cells_of hh1]; rfl); have q1 : w1.cell? ⟨w.heap.size, 1, none⟩ = some (.int .u8 (yn : Int)) := (by rw [cells_of hh1]; rfl); clear hb1 hh1)
        | (go_at_call 8; have _t := g1; refine (hF.out _ hB1.out).mono ?_; rintro e w2 ⟨rfl, hww⟩; have hws := hww.symm; clear hww; subst hws; have g2 := trivial; clear g1)
        | (go_at_call 8; have _t := g2; refine (hF2.out _ hB1.out).mono ?_; rintro e w2 ⟨rfl, hww⟩; have hws := hww.symm; clear hww; subst hws; have g3 := trivial; clear g2)
        | (go_at_call 12; have _t := g3; refine (hM.out _ hB1.out).mono ?_; rintro e w2 ⟨rfl, hww⟩; have hws := hww.symm; clear hww; subst hws; have g4 := trivial; clear g3)
        | (go_at_call 12; have _t := g4; refine (hM2.out _ hB1.out).mono ?_; rintro e w2 ⟨rfl, hww⟩; have hws := hww.symm; clear hww; subst hws; have g5 := trivial; clear g4)
        | (go_at_call 13; have _t := g5; refine (hO.out _ hB1.out).mono ?_; rintro e w2 ⟨rfl, hww⟩; have hws := hww.symm; clear hww; subst hws; have g6 := trivial; clear g5)
        | (go_at_call 13; have _t := g6; refine (hO2.out _ hB1.out).mono ?_; rintro e w2 ⟨rfl, hww⟩; have hws := hww.symm; clear hww; subst hws; clear g6)
        | (go_at_call 14; refine (hBk.out _ hB1.out).mono ?_; rintro e w2 ⟨A3, n3, c3, rfl, p3, q3⟩; have hP3 := Lib.hid p3; have hB2 := Lib.hid (hB1.out.trans (q3.mono hB1.out.size)); clear p3 q3)
        | (go_at_call 15; have _t := tA; refine (hFm.out _ hB2.out).mono ?_; rintro e w3 ⟨rfl, hb⟩; have hP3b := Lib.hid (hP3.out.up hb); have hB3 := Lib.hid (hB2.out.trans (hb.mono hB2.out.size)); have tB1 := trivial; clear hb tA)
        | (go_at_call 16; rw [hHd.out]; refine (hB1t.out _ _ _ _ hP3b.out).mono ?_; rintro e w6 ⟨v6, rfl, hO⟩; have hO6 := Lib.hid hO; have hB6 := Lib.hid ((below_alloc hB3.out _).trans (hO.below.mono (below_alloc hB3.out _).size)); have ap1 := trivial; clear hO)
        | (at_builtin; have _t := ap1; refine wpList_append_own_at _ rfl _ _ 22 rfl (w3.alloc (.cells #[.string TH] 9)).heap.size 9 i0 (.string ByteArray.empty) 1 16 Tryz.underlying22 hi hz0 hz1 hz2 rfl (by decide) v6 (X1).length _ rfl (hO6.out.own.alloc _) ⟨w6.heap.size, 0, none⟩ 1 1 [.string (⟨#[119, 10]⟩)] rfl rfl (cell_one_new _ _ _) (by simp; rfl) hmx1.out.1 hmx1.out.2 (Nat.le_trans hO6.out.below.size (by simp)) ?_; intro v10 w10 hown hg hnil hloc;  have hO := hO6.out.push (s := [119, 10]) hown hg; have hO10 := Lib.hid hO; have hB10 := Lib.hid ((below_alloc hB3.out _).trans (hO.below.mono (below_alloc hB3.out _).size)); obtain ⟨A10, c10, rfl, -, -, -⟩ := own_slice hown; have hT10 := Lib.hid (txr_own hO.own); obtain ⟨K10, hK10⟩ : ∃ K, (X1).length + 1 = K := ⟨_, rfl⟩; rw [hK10] at hT10 ⊢; clear hK10; clear hown hg hnil hloc hO ap1)
        | (go_at_call 9; refine (hEd2.out _ _ _ _ hB10.out hT10.out).mono ?_; rintro e w11 ⟨A11, n11, c11, rfl, p11, q11⟩; have hP11 := Lib.hid p11; have hB11 := Lib.hid (hB10.out.trans (q11.mono hB10.out.size)); clear p11 q11))
      have hrefl := Below.refl w11.heap.size w11
      have hBa2 : Hid (∀ W, Below w11.heap.size w11 W → Calls Tryz.prog 16 #[.slice A1 m1 p1, .slice At nt ct] W fun e w' => ∃ A7 n7 c7, e = .returned (.slice A7 n7 c7) ∧ TxR w' w'.heap.size (A7, n7, c7) (file.take m ++ text) ∧ Below w11.heap.size w11 w') := Lib.hid (fun W hW => (hBa.out W (hB11.out.trans (hW.mono hB11.out.size))).mono fun e w' h => by
        obtain ⟨A7, n7, c7, h1, h2, h3⟩ := h
        exact ⟨A7, n7, c7, h1, h2, hW.trans (h3.mono hW.size)⟩)
      have hBb2 : Hid (∀ A3 n3 c3 W0 W, Below w11.heap.size w11 W0 → TxR W0 W0.heap.size (A3, n3, c3) (file.take m ++ text) → Below W0.heap.size W0 W → Calls Tryz.prog 16 #[.slice A3 n3 c3, .slice A2 m2 p2] W fun e w' => ∃ A7 n7 c7, e = .returned (.slice A7 n7 c7) ∧ TxR w' w'.heap.size (A7, n7, c7) G ∧ Below w11.heap.size w11 w') := Lib.hid (fun A3 n3 c3 W0 W h1 h2 h3 => by
        have hW := h1.trans (h3.mono h1.size)
        refine (hBb.out A3 n3 c3 W (hB11.out.trans (hW.mono hB11.out.size)) (h2.up h3)).mono fun e w' h => ?_
        obtain ⟨A7, n7, c7, e1, e2, e3⟩ := h
        exact ⟨A7, n7, c7, e1, e2, hW.trans (e3.mono hW.size)⟩)
      have hP11w := Lib.hid hP11.out
      have hB11w := Lib.hid hB11.out
      have tk1 := trivial
      clear haw hF hF2 hM hM2 hO hO2 hBk hB1t hEd2 hFm hFM hFN hFL hHd hSs hTSh hBa hBb hlen1
      go_region_held3 (fun wx : World => True)
        (trivial)
        ((first
          | (go_at_call 16; have _t := tk1; refine (hBa2.out _ ?_).mono ?_; (repeat (first | exact hrefl | refine below_drew ?_)); rintro e w12 ⟨A12, n12, c12, rfl, p12, q12⟩; have hP12 := Lib.hid p12; have hB12 := Lib.hid q12; have hrefl12 := Below.refl w12.heap.size w12; have tk2 := trivial; clear p12 q12 tk1)
          | (go_at_call 16; have _t := tk2; refine (hBb2.out _ _ _ _ _ hB12.out hP12.out ?_).mono ?_; (repeat (first | exact hrefl12 | refine below_drew ?_)); rintro e w13 ⟨A13, n13, c13, rfl, p13, q13⟩; have hP13 := Lib.hid p13; have hB13 := Lib.hid q13; clear p13 q13 tk2)))
      all_goals
        have hP11z := Lib.hid (hP11w.out.up hB13.out)
        go_wp2_with (go_at_call 11; refine (Same_any A11 A13 n11 n13 c11 c13 w13.heap.size w13.heap.size G G w13 (Nat.le_trans hP11z.out.1 hP11z.out.2.1) (Nat.le_trans hP13.out.1 hP13.out.2.1) hP11z.out.2.2 hP13.out.2.2).mono ?_; rintro e w14 ⟨rfl, q, rfl⟩; rw [decide_eq_true (rfl : G = G)])
        go_ret
        exact ⟨rfl, below_drewN (hB11w.out.trans (hB13.out.mono hB11w.out.size)) q⟩
    · have tC := trivial
      have hEd2 : Hid (∀ (As : Option Addr) (ns cs : Nat) (W : World), Below w.heap.size w W → TxR W W.heap.size (As, ns, cs) (X1 ++ [ST] ++ [[119, 10]]) → Calls Tryz.prog 9 #[.slice As ns cs, .slice A n c] W fun e w' => EdOut W w' e (G, true, 0, 0)) := Lib.hid (fun As ns cs W hW hT => hEd.out As ns cs W hW (by simpa using hT))
      clear hEd
      go_enter Tryz.func4, Tryz.ntmps4
      go_upto_region 1 with fail
      rw [← hW0h.out]
      go_upto_region 15 with (first
        | (go_at_call 7; refine haw.out.mono ?_; rintro e w1 ⟨rfl, hb1⟩; have hB1 := Lib.hid (hW0b.out.trans (hb1.mono hW0b.out.size)); have hh1 := (hb1.block _ hlt0.out).trans hk0.out; have q0 : w1.cell? ⟨w.heap.size, 0, none⟩ = some (.int .u8 (xn : Int)) := (by rw [cells_of hh1]; rfl); have q1 : w1.cell? ⟨w.heap.size, 1, none⟩ = some (.int .u8 (yn : Int)) := (by rw [cells_of hh1]; rfl); clear hb1 hh1)
        | (go_at_call 8; have _t := g1; refine (hF.out _ hB1.out).mono ?_; rintro e w2 ⟨rfl, hww⟩; have hws := hww.symm; clear hww; subst hws; have g2 := trivial; clear g1)
        | (go_at_call 8; have _t := g2; refine (hF2.out _ hB1.out).mono ?_; rintro e w2 ⟨rfl, hww⟩; have hws := hww.symm; clear hww; subst hws; have g3 := trivial; clear g2)
        | (go_at_call 12; have _t := g3; refine (hM.out _ hB1.out).mono ?_; rintro e w2 ⟨rfl, hww⟩; have hws := hww.symm; clear hww; subst hws; have g4 := trivial; clear g3)
        | (go_at_call 12; have _t := g4; refine (hM2.out _ hB1.out).mono ?_; rintro e w2 ⟨rfl, hww⟩; have hws := hww.symm; clear hww; subst hws; have g5 := trivial; clear g4)
        | (go_at_call 13; have _t := g5; refine (hO.out _ hB1.out).mono ?_; rintro e w2 ⟨rfl, hww⟩; have hws := hww.symm; clear hww; subst hws; have g6 := trivial; clear g5)
        | (go_at_call 13; have _t := g6; refine (hO2.out _ hB1.out).mono ?_; rintro e w2 ⟨rfl, hww⟩; have hws := hww.symm; clear hww; subst hws; clear g6)
        | (go_at_call 14; refine (hBk.out _ hB1.out).mono ?_; rintro e w2 ⟨A3, n3, c3, rfl, p3, q3⟩; have hP3 := Lib.hid p3; have hB2 := Lib.hid (hB1.out.trans (q3.mono hB1.out.size)); clear p3 q3)
        | (go_at_call 15; have _t := tA; refine (hFm.out _ hB2.out).mono ?_; rintro e w3 ⟨rfl, hb⟩; have hP3b := Lib.hid (hP3.out.up hb); have hB3 := Lib.hid (hB2.out.trans (hb.mono hB2.out.size)); have tB1 := trivial; clear hb tA)
        | (go_at_call 16; rw [hHd.out]; refine (hB1t.out _ _ _ _ hP3b.out).mono ?_; rintro e w6 ⟨v6, rfl, hO⟩; have hO6 := Lib.hid hO; have hB6 := Lib.hid ((below_alloc hB3.out _).trans (hO.below.mono (below_alloc hB3.out _).size)); have ap1 := trivial; clear hO)
        | (go_at_call 15; have _t := tB1; have _u := ap1; refine (hFM.out _ hB6.out).mono ?_; rintro e w7 ⟨rfl, hb⟩; have hO7 := Lib.hid (hO6.out.call hb); have hB7 := Lib.hid (hB6.out.trans (hb.mono hB6.out.size)); have tD := trivial; clear hb tB1)
        | (go_at_call 15; have _t := tD; refine (hFL.out _ hB7.out).mono ?_; rintro e w8 ⟨rfl, hb⟩; have hO8 := Lib.hid (hO7.out.call hb); have hB8 := Lib.hid (hB7.out.trans (hb.mono hB7.out.size)); clear hb tD)
        | (at_builtin; have _t := ap1; rw [hSs.out]; refine wpList_append_own_at _ rfl _ _ 22 rfl (w3.alloc (.cells #[.string TH] 9)).heap.size 9 i0 (.string ByteArray.empty) 1 16 Tryz.underlying22 hi hz0 hz1 hz2 rfl (by decide) v6 (X1).length _ rfl (hO8.out.own.alloc _) ⟨w8.heap.size, 0, none⟩ 1 1 [.string (TS)] rfl rfl (cell_one_new _ _ _) (by simp; rfl) hmx1.out.1 hmx1.out.2 (Nat.le_trans hO8.out.below.size (by simp)) ?_; intro v9 w9 hown hg hnil hloc; rw [← hTSh.out] at hown; have hO := hO8.out.push (s := ST) hown hg; have hO9 := Lib.hid hO; have hB9 := Lib.hid ((below_alloc hB3.out _).trans (hO.below.mono (below_alloc hB3.out _).size)); have ap2 := trivial; clear hown hg hnil hloc hO ap1)
        | (at_builtin; have _t := ap2; refine wpList_append_own_at _ rfl _ _ 22 rfl (w3.alloc (.cells #[.string TH] 9)).heap.size 9 i0 (.string ByteArray.empty) 1 16 Tryz.underlying22 hi hz0 hz1 hz2 rfl (by decide) v9 (X1 ++ [ST]).length _ rfl (hO9.out.own.alloc _) ⟨w9.heap.size, 0, none⟩ 1 1 [.string (⟨#[119, 10]⟩)] rfl rfl (cell_one_new _ _ _) (by simp; rfl) hmx2.out.1 hmx2.out.2 (Nat.le_trans hO9.out.below.size (by simp)) ?_; intro v10 w10 hown hg hnil hloc;  have hO := hO9.out.push (s := [119, 10]) hown hg; have hO10 := Lib.hid hO; have hB10 := Lib.hid ((below_alloc hB3.out _).trans (hO.below.mono (below_alloc hB3.out _).size)); obtain ⟨A10, c10, rfl, -, -, -⟩ := own_slice hown; have hT10 := Lib.hid (txr_own hO.own); obtain ⟨K10, hK10⟩ : ∃ K, (X1 ++ [ST]).length + 1 = K := ⟨_, rfl⟩; rw [hK10] at hT10 ⊢; clear hK10; clear hown hg hnil hloc hO ap2)
        | (go_at_call 9; refine (hEd2.out _ _ _ _ hB10.out hT10.out).mono ?_; rintro e w11 ⟨A11, n11, c11, rfl, p11, q11⟩; have hP11 := Lib.hid p11; have hB11 := Lib.hid (hB10.out.trans (q11.mono hB10.out.size)); clear p11 q11))
      have hrefl := Below.refl w11.heap.size w11
      have hBa2 : Hid (∀ W, Below w11.heap.size w11 W → Calls Tryz.prog 16 #[.slice A1 m1 p1, .slice At nt ct] W fun e w' => ∃ A7 n7 c7, e = .returned (.slice A7 n7 c7) ∧ TxR w' w'.heap.size (A7, n7, c7) (file.take m ++ text) ∧ Below w11.heap.size w11 w') := Lib.hid (fun W hW => (hBa.out W (hB11.out.trans (hW.mono hB11.out.size))).mono fun e w' h => by
        obtain ⟨A7, n7, c7, h1, h2, h3⟩ := h
        exact ⟨A7, n7, c7, h1, h2, hW.trans (h3.mono hW.size)⟩)
      have hBb2 : Hid (∀ A3 n3 c3 W0 W, Below w11.heap.size w11 W0 → TxR W0 W0.heap.size (A3, n3, c3) (file.take m ++ text) → Below W0.heap.size W0 W → Calls Tryz.prog 16 #[.slice A3 n3 c3, .slice A2 m2 p2] W fun e w' => ∃ A7 n7 c7, e = .returned (.slice A7 n7 c7) ∧ TxR w' w'.heap.size (A7, n7, c7) G ∧ Below w11.heap.size w11 w') := Lib.hid (fun A3 n3 c3 W0 W h1 h2 h3 => by
        have hW := h1.trans (h3.mono h1.size)
        refine (hBb.out A3 n3 c3 W (hB11.out.trans (hW.mono hB11.out.size)) (h2.up h3)).mono fun e w' h => ?_
        obtain ⟨A7, n7, c7, e1, e2, e3⟩ := h
        exact ⟨A7, n7, c7, e1, e2, hW.trans (e3.mono hW.size)⟩)
      have hP11w := Lib.hid hP11.out
      have hB11w := Lib.hid hB11.out
      have tk1 := trivial
      clear haw hF hF2 hM hM2 hO hO2 hBk hB1t hEd2 hFm hFM hFN hFL hHd hSs hTSh hBa hBb hlen1
      go_region_held3 (fun wx : World => True)
        (trivial)
        ((first
          | (go_at_call 16; have _t := tk1; refine (hBa2.out _ ?_).mono ?_; (repeat (first | exact hrefl | refine below_drew ?_)); rintro e w12 ⟨A12, n12, c12, rfl, p12, q12⟩; have hP12 := Lib.hid p12; have hB12 := Lib.hid q12; have hrefl12 := Below.refl w12.heap.size w12; have tk2 := trivial; clear p12 q12 tk1)
          | (go_at_call 16; have _t := tk2; refine (hBb2.out _ _ _ _ _ hB12.out hP12.out ?_).mono ?_; (repeat (first | exact hrefl12 | refine below_drew ?_)); rintro e w13 ⟨A13, n13, c13, rfl, p13, q13⟩; have hP13 := Lib.hid p13; have hB13 := Lib.hid q13; clear p13 q13 tk2)))
      all_goals
        have hP11z := Lib.hid (hP11w.out.up hB13.out)
        go_wp2_with (go_at_call 11; refine (Same_any A11 A13 n11 n13 c11 c13 w13.heap.size w13.heap.size G G w13 (Nat.le_trans hP11z.out.1 hP11z.out.2.1) (Nat.le_trans hP13.out.1 hP13.out.2.1) hP11z.out.2.2 hP13.out.2.2).mono ?_; rintro e w14 ⟨rfl, q, rfl⟩; rw [decide_eq_true (rfl : G = G)])
        go_ret
        exact ⟨rfl, below_drewN (hB11w.out.trans (hB13.out.mono hB11w.out.size)) q⟩
end
end Go.Proofs.YtdfpifipkchmnaaGreatDoor
