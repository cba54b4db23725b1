/- Proved here: texts joined: MkPut, AnyF. -/
import Derived.Test.YtcpopnhnihbofaaGreatDoorBe02
import Derived.Test.YtcpopnhnihbofaaGreatDoorBe07
import Derived.Test.YtcpopnhnihbofaaGreatDoorBe27
import Derived.Test.YtcpopnhnihbofaaGreatDoorBe33
import Derived.RangeFuncBox
/- Proved here: the contract of the landed mark's putConflict. -/
namespace Go.Proofs.YtcpopnhnihbofaaGreatDoor
open Go.RowKit
set_option linter.unusedVariables false
set_option maxRecDepth 100000

def endedFn (Bs Be : Nat) : Value := .func (.func 80) #[] #[.pointer (some ⟨Bs, 0, none⟩), .pointer (some ⟨Be, 0, none⟩)]
/-- The boxes of putConflict, laid. -/
theorem Cf.start {w0 wr : World} {L long : Nat} {v : Value} {xs : Txs} {C : Array Value} (h : Sh w0 L wr long v xs) :
    Cf w0 L wr.heap.size (wr.heap.size + 1 + 1) (wr.heap.size + 1 + 1 + 1) (wr.heap.size + 1, C) ((((wr.alloc (.cells #[.pointer (some ⟨L, 0, none⟩)] 73)).alloc (.cells C 40)).alloc (.cells #[.string ⟨#[]⟩] 9)).alloc (.cells #[endedFn wr.heap.size (wr.heap.size + 1 + 1)] 93)) long v xs [] := by
  have hb := below_alloc (below_alloc (below_alloc (below_alloc (Below.refl wr.heap.size wr) (.cells #[.pointer (some ⟨L, 0, none⟩)] 73)) (.cells C 40)) (.cells #[.string ⟨#[]⟩] 9)) (.cells #[endedFn wr.heap.size (wr.heap.size + 1 + 1)] 93)
  have hs := h.own.below.size
  refine ⟨h.up hb, ?_, ?_, ?_, ?_, fun e => ?_, by omega⟩
  · unfold Boxed
    rw [push_at, if_neg (by simp <;> omega), push_at, if_neg (by simp <;> omega), push_at, if_neg (by simp <;> omega), push_at, if_pos rfl]
  · unfold Boxed
    rw [push_at, if_neg (by simp), push_at, if_pos (by simp)]
    rfl
  · unfold Boxed
    rw [push_at, if_pos (by simp)]
    rfl
  · rw [push_at, if_neg (by simp), push_at, if_neg (by simp), push_at, if_pos (by simp)]
  · have := (h.own.own.lt _ e).2
    omega

set_option maxHeartbeats 8000000 in
theorem putConf_any (w0 : World) (L long : Nat) (A1 A2 A3 : Option Addr) (n1 c1 n2 c2 n c : Nat) (t bs f : Txs) (ds : List Txs) (style : Int) (wb : Bool) (v : Value) (xs : Txs) (wi : World) (hwb : wb = decide (style ≠ 1)) (hlong : long ≤ 4096) (hns : (f :: ds).length ≤ 16) (hsz : ∀ d ∈ bs :: f :: ds, d.length ≤ 10000 ∧ ∀ s ∈ d, s.length ≤ 1000000) (hx : xs.length ≤ 20000000) (hS : Sh w0 L wi long v xs) (hP : PcR w0 w0.heap.size ((A1, n1, c1), (A2, n2, c2), (A3, n, c)) (true, t, bs, f :: ds)) :
    Calls Tryz.prog 52 #[.pointer (some ⟨L, 0, none⟩), .agg #[.bool true, .slice A1 n1 c1, .slice A2 n2 c2, .slice A3 n c], .bool wb] wi fun e w' => e = .returned (.tuple #[]) ∧ ∃ v', Sh w0 L w' long v' (xs ++ confM style long bs (f :: ds)) := by
  obtain ⟨-, hP2, hnc, hcm, rows, hA⟩ := hP
  dsimp only at hP2 hnc hcm hA
  have hT := conf_split style long bs f ds
  have hTl := conf_len (style := style) (long := long) (bs := bs) (ds := f :: ds) fun d hd => (hsz d hd).1
  obtain ⟨T, hTT⟩ : ∃ T, confM style long bs (f :: ds) = T := ⟨_, rfl⟩
  rw [hTT] at hT hTl ⊢
  have hl := hA.len
  have hn1 : 0 < n := by rw [← hl]; simp
  have hn16 : n ≤ 16 := by omega
  have hTl2 : Hid ((xs ++ T).length ≤ 20200000) := Lib.hid (by rw [List.length_append]; omega)
  obtain ⟨b, o, Af, nf, cf, f', rfl, hb, ht, hr, hcell, hncf, hcmf, hstf⟩ := hA.at_ (k := 0) hn1
  have hff : f' = f := by simp at ht; exact ht.symm
  subst hff
  have hCf := Cf.start (C := #[.bool true, .slice A1 n1 c1, .slice A2 n2 c2, .slice (some ⟨b, o, none⟩) n c]) hS
  obtain ⟨W4, hW4⟩ : ∃ W4, W4 = ((((wi.alloc (.cells #[.pointer (some ⟨L, 0, none⟩)] 73)).alloc (.cells #[.bool true, .slice A1 n1 c1, .slice A2 n2 c2, .slice (some ⟨b, o, none⟩) n c] 40)).alloc (.cells #[.string ⟨#[]⟩] 9)).alloc (.cells #[endedFn wi.heap.size (wi.heap.size + 1 + 1)] 93)) := ⟨_, rfl⟩
  rw [← hW4] at hCf
  unfold endedFn at hW4
  have hW4h := Lib.hid hW4
  have hsf := hsz f' (List.mem_cons_of_mem _ (List.mem_cons_self ..))
  have hsb := hsz bs (List.mem_cons_self ..)
  obtain ⟨Q, hQ⟩ : ∃ Q : Nat × Array Value, (wi.heap.size + 1, #[.bool true, .slice A1 n1 c1, .slice A2 n2 c2, .slice (some ⟨b, o, none⟩) n c]) = Q := ⟨_, rfl⟩
  have hpc : Hid (∀ (W : World) (vv : Value) (yy : Txs) (ee : Tx), Cf w0 L wi.heap.size (wi.heap.size + 1 + 1) (wi.heap.size + 1 + 1 + 1) Q W long vv yy ee → W.cell? ⟨wi.heap.size + 1, 2, none⟩ = some (.slice A2 n2 c2) ∧ W.cell? ⟨wi.heap.size + 1, 3, none⟩ = some (.slice (some ⟨b, o, none⟩) n c) ∧ W.cell? ⟨b, o, none⟩ = some (.slice Af nf cf)) := Lib.hid (fun W vv yy ee h => by
    rw [← hQ] at h
    exact ⟨(cells_of h.pc 2).trans rfl, (cells_of h.pc 3).trans rfl, (h.sh.own.below.cell (p := ⟨b, o, none⟩) hb).trans hcell⟩)
  rw [hQ] at hCf
  have hCfh := Lib.hid hCf
  have hPart : Hid (∀ (sg : UInt8) (name : Tx) (A : Option Addr) (k q : Nat) (d ah : Txs) (vv : Value) (yy : Txs) (W : World), name.length ≤ 100 → (d.length ≤ 10000 ∧ ∀ s ∈ d, s.length ≤ 1000000) → yy.length ≤ 20200000 → TxR w0 w0.heap.size (A, k, q) d → Cf w0 L wi.heap.size (wi.heap.size + 1 + 1) (wi.heap.size + 1 + 1 + 1) Q W long vv yy (exT ah) →
      Calls Tryz.prog 81 #[.string (str [sg]), .string (str name), .slice A k q, .pointer (some ⟨wi.heap.size, 0, none⟩), .pointer (some ⟨wi.heap.size + 1 + 1, 0, none⟩), .pointer (some ⟨wi.heap.size + 1 + 1 + 1, 0, none⟩)] W fun e w' => e = .returned (.tuple #[]) ∧ CfOut w0 L wi.heap.size (wi.heap.size + 1 + 1) (wi.heap.size + 1 + 1 + 1) Q w' long (yy ++ [markT sg long ah (32 :: name)] ++ closed d) (exT d)) :=
    Lib.hid (fun sg name A k q d ah vv yy W h1 h2 h3 h4 h5 => putPart_any w0 L wi.heap.size (wi.heap.size + 1 + 1) (wi.heap.size + 1 + 1 + 1) long Q sg name A k q vv yy d (exT ah) W hlong h1 (by unfold exT; split <;> simp) h5 h4 (by omega) h2.2 (by omega))
  have hTf : TxR w0 w0.heap.size (Af, nf, cf) f' := ⟨hncf, hcmf, hstf⟩
  obtain ⟨M1, hM1⟩ : ∃ M, markT 60 long [] [32, 49] = M := ⟨_, rfl⟩
  obtain ⟨M2, hM2⟩ : ∃ M, markT 124 long f' [32, 98, 97, 115, 101] = M := ⟨_, rfl⟩
  have hP1 : Hid (Calls Tryz.prog 81 #[.string ⟨#[60]⟩, .string ⟨#[49]⟩, .slice Af nf cf, .pointer (some ⟨wi.heap.size, 0, none⟩), .pointer (some ⟨wi.heap.size + 1 + 1, 0, none⟩), .pointer (some ⟨wi.heap.size + 1 + 1 + 1, 0, none⟩)] W4 fun e w' => e = .returned (.tuple #[]) ∧ CfOut w0 L wi.heap.size (wi.heap.size + 1 + 1) (wi.heap.size + 1 + 1 + 1) Q w' long (xs ++ [M1] ++ closed f') (exT f')) := Lib.hid (by
    rw [← hM1]
    exact hPart.out 60 [49] Af nf cf f' [] v xs W4 (by decide) hsf (by omega) hTf hCf)
  have hlen5 : (xs ++ [M1] ++ closed f').length ≤ 20200000 := by rw [List.length_append, List.length_append, closed_len]; simp; omega
  have hP2' : Hid (∀ (vv : Value) (W : World), Cf w0 L wi.heap.size (wi.heap.size + 1 + 1) (wi.heap.size + 1 + 1 + 1) Q W long vv (xs ++ [M1] ++ closed f') (exT f') → Calls Tryz.prog 81 #[.string ⟨#[124]⟩, .string ⟨#[98, 97, 115, 101]⟩, .slice A2 n2 c2, .pointer (some ⟨wi.heap.size, 0, none⟩), .pointer (some ⟨wi.heap.size + 1 + 1, 0, none⟩), .pointer (some ⟨wi.heap.size + 1 + 1 + 1, 0, none⟩)] W fun e w' => e = .returned (.tuple #[]) ∧ CfOut w0 L wi.heap.size (wi.heap.size + 1 + 1) (wi.heap.size + 1 + 1 + 1) Q w' long (xs ++ [M1] ++ closed f' ++ [M2] ++ closed bs) (exT bs)) := Lib.hid (fun vv W h => by
    rw [← hM2]
    exact hPart.out 124 [98, 97, 115, 101] A2 n2 c2 bs f' vv _ W (by decide) hsb hlen5 hP2 h)
  have hMk : Hid (∀ (ah : Txs) (W : World), Calls Tryz.prog 82 #[.agg #[.int .i64 (long : Int)], .string ⟨#[62]⟩, .string (str (exT ah))] W fun e w' => e = .returned (.string (str (markT 62 long ah []))) ∧ Below W.heap.size W w') := Lib.hid (fun ah W => by
    have h := lMark_any 62 long (str (exT ah)) W hlong (by rw [str_size]; unfold exT; split <;> simp)
    have e : str (List.replicate long 62) ++ str (exT ah) ++ str [10] = str (markT 62 long ah []) := by
      rw [strs_app, strs_app]
      unfold markT exT
      simp
    rw [e] at h
    exact h)
  obtain ⟨A', m, q, hsl, hmq, hqm, hmn, hR⟩ := rows_from (k := 1) hA hnc hcm (by omega)
  have hsl' : ∀ W : World, (Instr.slice 38 (.slice (some ⟨b, o, none⟩) n c) (some (.int .i64 1)) none none).run Tryz.prog W = .ok (.slice A' m q) W := hsl
  have hRh : Hid (RowsT w0 w0.heap.size A' m (rows.drop 1) ds) := Lib.hid hR
  rw [hM1, hM2] at hT
  have hTh := Lib.hid hT
  have hszh := Lib.hid hsz
  have hm16 : m ≤ 16 := by omega
  have hdl : Hid (ds.length = m) := Lib.hid hRh.out.len
  obtain ⟨x2, x3, x4⟩ := hpc.out W4 v xs [] hCf
  have hwbh := Lib.hid hwb
  clear hwb
  have i3 : (0 : Int) < (n : Int) := by omega
  clear hCf hW4 hTl hT hM1 hM2 hsf hsb hTf hstf hcell hr ht hb hl hA hP2 hsz hns hTT hx hsl hR hlen5 hnc hcm hncf hcmf hQ hS
  go_enter Tryz.func52, Tryz.ntmps52
  go_upto_region 4 with fail
  rw [← hW4h.out]
  go_upto_region 5 with (go_at_call 81; refine hP1.out.mono ?_; rintro e w5 ⟨rfl, v5, hC5⟩; have hC5h := Lib.hid hC5; obtain ⟨y2, y3, -⟩ := hpc.out w5 v5 _ _ hC5; clear hC5 x2 x3 x4)
  by_cases h1 : style = 1
  case' pos =>
    have hb0 : wb = false := by rw [hwbh.out, h1]; rfl
    subst hb0
    have hTc : Hid (xs ++ T = (xs ++ [M1] ++ closed f') ++ sidesM long f' 2 ds) := Lib.hid (by have := hTh.out; rw [if_pos h1] at this; rw [this]; simp)
    clear hwbh
    go_upto_region 7 with fail
    obtain ⟨ah0, hah0⟩ : ∃ ah0, f' = ah0 := ⟨_, rfl⟩
    obtain ⟨Y, hY⟩ : ∃ Y, xs ++ [M1] ++ closed f' = Y := ⟨_, rfl⟩
    obtain ⟨vz, hvz⟩ : ∃ vz, v5 = vz := ⟨_, rfl⟩
    obtain ⟨wz, hwz⟩ : ∃ wz, w5 = wz := ⟨_, rfl⟩
    have hCz := hC5h
    rw [hY] at hTc hCz
    rw [hah0] at hTc hCz
    rw [hvz] at hCz
    rw [hwz] at hCz ⊢
    have u3 : wz.cell? ⟨wi.heap.size + 1, 3, none⟩ = some (.slice (some ⟨b, o, none⟩) n c) := (by rw [← hwz]; exact y3)
    clear hC5h hah0 hY hvz hwz y2 y3 h1
  case' neg =>
    have hb1 : wb = true := by rw [hwbh.out]; simpa using h1
    subst hb1
    have hTc : Hid (xs ++ T = (xs ++ [M1] ++ closed f' ++ [M2] ++ closed bs) ++ sidesM long bs 2 ds) := Lib.hid (by have := hTh.out; rw [if_neg h1] at this; rw [this]; simp)
    clear hwbh
    go_upto_region 7 with (go_at_call 81; refine (hP2'.out v5 w5 hC5h.out).mono ?_; rintro e w6 ⟨rfl, v6, hC6⟩; have hC6h := Lib.hid hC6; obtain ⟨z2, z3, -⟩ := hpc.out w6 v6 _ _ hC6; clear hC6 y2 y3)
    obtain ⟨ah0, hah0⟩ : ∃ ah0, bs = ah0 := ⟨_, rfl⟩
    obtain ⟨Y, hY⟩ : ∃ Y, xs ++ [M1] ++ closed f' ++ [M2] ++ closed bs = Y := ⟨_, rfl⟩
    obtain ⟨vz, hvz⟩ : ∃ vz, v6 = vz := ⟨_, rfl⟩
    obtain ⟨wz, hwz⟩ : ∃ wz, w6 = wz := ⟨_, rfl⟩
    have hCz := hC6h
    rw [hY] at hTc hCz
    rw [hah0] at hTc hCz
    rw [hvz] at hCz
    rw [hwz] at hCz ⊢
    have u3 : wz.cell? ⟨wi.heap.size + 1, 3, none⟩ = some (.slice (some ⟨b, o, none⟩) n c) := (by rw [← hwz]; exact z3)
    clear hC5h hC6h hah0 hY hvz hwz z2 z3 h1
  all_goals
    have i4 : (1 : Int) ≤ (n : Int) := by omega
    go_wp2
    go_loopw [9, 10, 28] (fun _ _ s28 wr => ∃ (i : Nat) (vv : Value) (yy ah : Txs), i ≤ m ∧ s28 = .int .i64 i ∧ Hid (Cf w0 L wi.heap.size (wi.heap.size + 1 + 1) (wi.heap.size + 1 + 1 + 1) Q wr long vv yy (exT ah)) ∧ Hid (yy ++ sidesM long ah (i + 2) (ds.drop i) = xs ++ T)) (fun _ _ s28 _ => m - (intOf s28).toNat)
    case atStart => exact ⟨0, vz, Y, ah0, Nat.zero_le _, rfl, hCz, Lib.hid hTc.out.symm⟩
    case round =>
      obtain ⟨i, vv, yy, ah, him, rfl, hCi, hyy⟩ := hrel
      obtain ⟨wo, rfl⟩ : ∃ wo : World, wo = wr := ⟨_, rfl⟩
      have hylen : Hid (yy.length ≤ 20200000) := Lib.hid (by have h1 := congrArg List.length hyy.out; have h2 := hTl2.out; rw [List.length_append] at h1; omega)
      by_cases hlt : i < m
      · obtain ⟨bk, ok, Ak, nk, ck, d, hbok, hbk, htk, hrk, hcellk, hnck, hcmk, hstk⟩ := hRh.out.at_ (k := i) hlt
        subst hbok
        have i1 : (0 : Int) ≤ (i : Int) := by omega
        have i2 : (i : Int) < (m : Int) := by omega
        have hwr2 : IntKind.i64.wrap ((i : Int) + 2) = ((i + 2 : Nat) : Int) := by rw [IntWalk.i64_in _ (by omega)]; omega
        have hrow : wo.cell? ⟨bk, ok + i, none⟩ = some (.slice Ak nk ck) := (hCi.out.sh.own.below.cell (p := ⟨bk, ok + i, none⟩) hbk).trans hcellk
        have hTk : TxR w0 w0.heap.size (Ak, nk, ck) d := ⟨hnck, hcmk, hstk⟩
        have hsd := hszh.out d (List.mem_cons_of_mem _ (List.mem_cons_of_mem _ (List.mem_of_getElem? htk)))
        obtain ⟨NM, hNM⟩ : ∃ NM, str (numT (i + 2)) = NM := ⟨_, rfl⟩
        have hIt : Hid (∀ W, Calls Tryz.prog 83 #[.int .i64 ((i + 2 : Nat) : Int)] W fun e w' => e = .returned (.string NM) ∧ w' = W) := Lib.hid (fun W => by
          have h := Tryz.strconv_Itoa_small (i + 2) (by omega) W
          rw [digits_num _ (by omega)] at h
          rw [← hNM]
          exact h)
        have hPk : Hid (Calls Tryz.prog 81 #[.string ⟨#[61]⟩, .string NM, .slice Ak nk ck, .pointer (some ⟨wi.heap.size, 0, none⟩), .pointer (some ⟨wi.heap.size + 1 + 1, 0, none⟩), .pointer (some ⟨wi.heap.size + 1 + 1 + 1, 0, none⟩)] wo fun e w' => e = .returned (.tuple #[]) ∧ CfOut w0 L wi.heap.size (wi.heap.size + 1 + 1) (wi.heap.size + 1 + 1 + 1) Q w' long (yy ++ [markT 61 long ah (32 :: numT (i + 2))] ++ closed d) (exT d)) := Lib.hid (by
          rw [← hNM]
          exact hPart.out 61 (numT (i + 2)) Ak nk ck d ah vv yy wo (by unfold numT; split <;> simp) hsd hylen.out hTk hCi.out)
        have hnx : Hid ((yy ++ [markT 61 long ah (32 :: numT (i + 2))] ++ closed d) ++ sidesM long d (i + 1 + 2) (ds.drop (i + 1)) = xs ++ T) := Lib.hid (by
          rw [← hyy.out, drop_at htk]
          simp [sidesM])
        clear hNM hTk hsd hbk htk hrk hcellk hnck hcmk hstk
        go_wp2_with (first
          | (go_at_call 83; refine (hIt.out _).mono ?_; rintro e w7 ⟨rfl, hww⟩; have hws := hww.symm; clear hww; subst hws)
          | (go_at_call 81; refine hPk.out.mono ?_; rintro e w8 ⟨rfl, v8, hC8⟩; have hC8h := Lib.hid hC8; clear hC8))
        go_roundw
        case rel => exact ⟨i + 1, v8, _, d, by omega, by go_num, hC8h, hnx⟩
        case measure => simp [intOf]; omega
      · obtain rfl : i = m := by omega
        have hTe : Hid (yy ++ [markT 62 long ah []] = xs ++ T) := Lib.hid (by have := hyy.out; rw [List.drop_eq_nil_of_le (by rw [hdl.out]; exact Nat.le_refl _)] at this; exact this)
        obtain ⟨M0, hM0⟩ : ∃ M0, markT 62 long ah [] = M0 := ⟨_, rfl⟩
        obtain ⟨E, hE⟩ : ∃ E, str (exT ah) = E := ⟨_, rfl⟩
        have hMk0 : Hid (∀ W, Below wo.heap.size wo W → Calls Tryz.prog 82 #[.agg #[.int .i64 (long : Int)], .string ⟨#[62]⟩, .string E] W fun e w' => e = .returned (.string (str M0)) ∧ Below wo.heap.size wo w') := Lib.hid (fun W hW => by
          have h := hMk.out ah W
          rw [hE, hM0] at h
          exact h.mono fun e w' h => ⟨h.1, hW.trans (h.2.mono hW.size)⟩)
        have hPut : Hid (∀ W, Below wo.heap.size wo W → Calls Tryz.prog 53 #[.pointer (some ⟨L, 0, none⟩), .slice (some ⟨W.heap.size, 0, none⟩) 1 1] (W.alloc (.cells #[.string (str M0)] 9)) fun e w' => e = .returned (.tuple #[]) ∧ CfOut w0 L wi.heap.size (wi.heap.size + 1 + 1) (wi.heap.size + 1 + 1 + 1) Q w' long (yy ++ [M0]) (exT ah)) := Lib.hid (fun W hW => by
          have hb := below_alloc hW (.cells #[.string (str M0)] 9)
          have hC1 := hCi.out.up hb
          have hR : TxR (W.alloc (.cells #[.string (str M0)] 9)) (W.alloc (.cells #[.string (str M0)] 9)).heap.size (some ⟨W.heap.size, 0, none⟩, 1, 1) [M0] := txr_of (one_a W _) rfl rfl (by decide)
          exact (shPut_any w0 L long (some ⟨W.heap.size, 0, none⟩) 1 1 _ vv yy [M0] _ hC1.sh hR.2.2 (by have := hylen.out; omega)).mono fun e w' h => ⟨h.1, hC1.put h.2⟩)
        rw [hM0] at hTe
        have b0 := hCi.out.bs.cell
        have b1 := hCi.out.sh.long_at
        have b2 := hCi.out.be.cell
        rw [hE] at b2
        have hS2 : Hid (∀ (v1 : Value) (zz : Txs) (W : World), Cf w0 L wi.heap.size (wi.heap.size + 1 + 1) (wi.heap.size + 1 + 1 + 1) Q W long v1 zz (exT ah) → W.cell? ⟨wi.heap.size, 0, none⟩ = some (.pointer (some ⟨L, 0, none⟩)) ∧ W.cell? ⟨L, 0, none⟩ = some (.int .i64 (long : Int)) ∧ W.cell? ⟨wi.heap.size + 1 + 1, 0, none⟩ = some (.string E)) := Lib.hid (fun v1 zz W h => by
          have h2 := h.be.cell
          rw [hE] at h2
          exact ⟨h.bs.cell, h.sh.long_at, h2⟩)
        have hS : Hid (∀ W, Below wo.heap.size wo W → W.cell? ⟨wi.heap.size, 0, none⟩ = some (.pointer (some ⟨L, 0, none⟩)) ∧ W.cell? ⟨L, 0, none⟩ = some (.int .i64 (long : Int)) ∧ W.cell? ⟨wi.heap.size + 1 + 1, 0, none⟩ = some (.string E)) := Lib.hid (fun W hW => hS2.out _ _ W (hCi.out.up hW))
        have hrefl := Below.refl wo.heap.size wo
        clear hE hM0 u3 hsl'
        go_wp2
        go_region_held3 (fun wx : World => wx.cell? ⟨wi.heap.size, 0, none⟩ = some (.pointer (some ⟨L, 0, none⟩)) ∧ wx.cell? ⟨L, 0, none⟩ = some (.int .i64 (long : Int)) ∧ wx.cell? ⟨wi.heap.size + 1 + 1, 0, none⟩ = some (.string E))
          ((first | exact hst | (refine hS.out _ ?_; repeat (first | assumption | refine below_drew ?_ | refine below_alloc ?_ _))))
          ((first
            | (go_at_call 82; refine (hMk0.out _ ?_).mono ?_; (repeat (first | assumption | refine below_drew ?_ | refine below_alloc ?_ _)); rintro e w5 ⟨rfl, hb5⟩)
            | (go_at_call 53; refine (hPut.out _ ?_).mono ?_; (repeat (first | assumption | refine below_drew ?_ | refine below_alloc ?_ _)); rintro e w6 ⟨rfl, v6, hC6⟩; have hst := hS2.out v6 _ w6 hC6; have hC6h := Lib.hid hC6; clear hC6)))
        clear hst
        go_wp2
        go_end0
        exact ⟨rfl, v6, by rw [← hTe.out]; exact hC6h.out.sh⟩
end Go.Proofs.YtcpopnhnihbofaaGreatDoor
/- Proved here: contracts of slices.IndexFunc and slices.ContainsFunc over lists of texts, for whatever function is handed in that tells of each list a thing of its own. -/
namespace Go.Proofs.YtcpopnhnihbofaaGreatDoor
open Go.RowKit
set_option linter.unusedVariables false
set_option maxRecDepth 100000

/-- What a function tells of each list, in whatever world that has drawn more. -/
def AskF (g2 : Nat) (lb : Array Value) (p : Txs → Bool) (rows : List Slc) (lists : List Txs) (w : World) : Prop :=
  ∀ (q k : Nat) (A1 : Option Addr) (n1 c1 : Nat) (ss : Txs), rows[k]? = some (A1, n1, c1) → lists[k]? = some ss → Calls Tryz.prog g2 (#[.slice A1 n1 c1] ++ lb) (w.drewN q) fun e w' => e = .returned (.bool (p ss)) ∧ ∃ z, w' = (w.drewN q).drewN z

set_option maxHeartbeats 1000000 in
theorem indexF_any (g2 : Nat) (lb : Array Value) (p : Txs → Bool) (A : Option Addr) (n c B : Nat) (rows : List Slc) (lists : List Txs) (w : World) (hn : n ≤ maxLen) (hA : RowsT w B A n rows lists)
    (hent : ∀ args w, (callFunc g2 args).run Tryz.prog w = .ok (.enter g2 args) w) (hX : AskF g2 lb p rows lists w) :
    Calls Tryz.prog 77 #[.slice A n c, .func (.func g2) #[] lb] w fun e w' => (∃ z : Int, e = .returned (.int .i64 z) ∧ decide (0 ≤ z) = lists.any p) ∧ ∃ k, w' = w.drewN k := by
  have hl := hA.len
  have hAh := Lib.hid hA
  have hlh := Lib.hid hl
  have hXh := Lib.hid hX
  unfold maxLen at hn
  clear hA hl hX
  go_enter Tryz.func77, Tryz.ntmps77
  go_wp2
  go_loopw [5, 8] (fun _ i wr => ∃ k : Nat, k ≤ n ∧ i = .int .i64 k ∧ Hid ((lists.take k).any p = false) ∧ ∃ q, wr = w.drewN q) (fun _ i _ => n - (intOf i).toNat)
  case atStart => exact ⟨0, Nat.zero_le _, rfl, Lib.hid (by simp), 0, rfl⟩
  case round =>
    obtain ⟨k, hk, rfl, hno, q, rfl⟩ := hrel
    by_cases hlt : k < n
    · obtain ⟨b, o, A1, n1, c1, ss, rfl, hb, hss, hrr, hc, hnc, hcm, hS⟩ := hAh.out.at_ (k := k) hlt
      have hi1 : (0 : Int) ≤ (k : Int) := by omega
      have hi2 : (k : Int) < (n : Int) := by omega
      have hC := hXh.out q k A1 n1 c1 ss hrr hss
      have hssh := Lib.hid hss
      have hc' : (w.drewN q).cell? ⟨b, o + k, none⟩ = some (.slice A1 n1 c1) := hc
      obtain ⟨r, hr⟩ : ∃ r, p ss = r := ⟨_, rfl⟩
      rw [hr] at hC
      have hCh := Lib.hid hC
      have hrh := Lib.hid hr
      clear hS hss hrr hC hr
      cases r
      · have hno3 := Lib.hid (show (lists.take (k + 1)).any p = false by rw [take_at hssh.out, List.any_append, hno.out]; simp [hrh.out])
        go_wp2_with (refine hCh.out.mono ?_; rintro e w1 ⟨rfl, q1, rfl⟩)
        go_roundw
        case rel => exact ⟨k + 1, by omega, by go_num, hno3, q + q1, rfl⟩
        case measure => simp [intOf]; omega
      · have hyes := Lib.hid (show lists.any p = true from List.any_eq_true.2 ⟨ss, List.mem_of_getElem? hssh.out, hrh.out⟩)
        go_wp2_with (refine hCh.out.mono ?_; rintro e w1 ⟨rfl, q1, rfl⟩)
        go_ret
        exact ⟨⟨_, rfl, by rw [hyes.out]; simp⟩, q + q1, rfl⟩
    · obtain rfl : k = n := by omega
      have hno2 : Hid (lists.any p = false) := Lib.hid (by have := hno.out; rwa [List.take_of_length_le (by rw [hlh.out]; exact Nat.le_refl _)] at this)
      go_wp2
      go_ret
      exact ⟨⟨_, rfl, by rw [hno2.out]; rfl⟩, q, rfl⟩

set_option maxHeartbeats 800000 in
theorem containsF_any (g2 : Nat) (lb : Array Value) (p : Txs → Bool) (A : Option Addr) (n c B : Nat) (rows : List Slc) (lists : List Txs) (w : World) (hn : n ≤ maxLen) (hA : RowsT w B A n rows lists)
    (hent : ∀ args w, (callFunc g2 args).run Tryz.prog w = .ok (.enter g2 args) w) (hX : AskF g2 lb p rows lists w) :
    Calls Tryz.prog 47 #[.slice A n c, .func (.func g2) #[] lb] w fun e w' => e = .returned (.bool (lists.any p)) ∧ ∃ k, w' = w.drewN k := by
  have hI := Lib.hid (indexF_any g2 lb p A n c B rows lists w hn hA hent hX)
  obtain ⟨r, hr⟩ : ∃ r, lists.any p = r := ⟨_, rfl⟩
  rw [hr] at hI ⊢
  clear hA hr hn hX hent
  go_enter Tryz.func47, Tryz.ntmps47
  go_wp2_with (go_at_call 77; refine hI.out.mono ?_; rintro e w1 ⟨⟨z, rfl, hz⟩, q, rfl⟩; have hzh := Lib.hid hz; clear hz)
  go_ret
  exact ⟨ret_bool hzh.out, q, rfl⟩
end Go.Proofs.YtcpopnhnihbofaaGreatDoor
