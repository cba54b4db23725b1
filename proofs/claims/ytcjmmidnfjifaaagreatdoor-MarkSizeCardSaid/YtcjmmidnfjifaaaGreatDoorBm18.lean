/- Proved here: texts joined: MkConf. -/
import Derived.Test.YtcjmmidnfjifaaaGreatDoorBm13
import Derived.Test.YtcjmmidnfjifaaaGreatDoorBm17
/- Proved here: the contract of the document's own answer of layer 12: conflict. -/
namespace Go.Proofs.YtcjmmidnfjifaaaGreatDoor
open Go.RowKit
set_option linter.unusedVariables false
set_option maxRecDepth 100000

theorem TxO.call {w wr w1 : World} {v : Value} {xs : Txs} (h : TxO w wr v xs) (hb : Below wr.heap.size wr w1) : TxO w w1 v xs :=
  ⟨ownsRow_kept h.own fun k e => hb.block k (h.own.lt k e).2, h.below.trans (hb.mono h.below.size)⟩
theorem own_lower {w : World} {b1 b2 n : Nat} {e : TypeId} {size : Nat} {v : Value} {xs : List Value} (h : w.ownsRow b1 e size v n xs) (hb : b2 ≤ b1) : w.ownsRow b2 e size v n xs := by
  refine ⟨h.1, ?_⟩
  rcases h.2 with h | ⟨g, cap, cur, e1, h2, r⟩
  · exact .inl h
  · exact .inr ⟨g, cap, cur, e1, Nat.le_trans hb h2, r⟩
theorem TxO.lit (w : World) (s : Tx) : TxO w (w.alloc (.cells #[.string (str s)] 9)) (.slice (some ⟨w.heap.size, 0, none⟩) 1 1) [s] :=
  ⟨World.ownsRow_lit w #[.string (str s)] 1 (Nat.le_refl _) (by decide) rfl, below_alloc (Below.refl _ _) _⟩
theorem sides_len : ∀ (ds : List Txs) (long : Nat) (ahead : Txs) (n : Nat), (sidesM long ahead n ds).length = ds.flatten.length + ds.length + 1
  | [], _, _, _ => rfl
  | d :: ds, long, ahead, n => by
    unfold sidesM
    rw [List.length_cons, List.length_append, closed_len, sides_len ds, List.flatten_cons, List.length_append, List.length_cons]; omega
theorem flatM_len {ds : List Txs} (h : ∀ d ∈ ds, d.length ≤ 10000) : ds.flatten.length ≤ ds.length * 10000 := by
  induction ds with
  | nil => simp
  | cons d ds ih =>
    have := ih fun e he => h e (List.mem_cons_of_mem _ he)
    have := h d (List.mem_cons_self ..)
    rw [List.flatten_cons, List.length_append, List.length_cons]
    omega
theorem conf_len {style : Int} {long : Nat} {bs : Txs} {ds : List Txs} (h : ∀ d ∈ bs :: ds, d.length ≤ 10000) : (confM style long bs ds).length ≤ (ds.length + 2) * 10001 := by
  cases ds with
  | nil => simp [confM]
  | cons f ds =>
    have h1 := flatM_len (ds := ds) fun d hd => h d (List.mem_cons_of_mem _ (List.mem_cons_of_mem _ hd))
    have h2 := h bs (List.mem_cons_self ..)
    have h3 := h f (by simp)
    unfold confM
    rw [List.length_cons, List.length_append, closed_len]
    split
    · rw [sides_len, List.length_cons]; omega
    · rw [List.length_cons, List.length_append, closed_len, sides_len, List.length_cons]; omega
theorem conf_split (style : Int) (long : Nat) (bs f : Txs) (ds : List Txs) : confM style long bs (f :: ds) = if style = 1 then ([markT 60 long [] [32, 49]] ++ closed f) ++ sidesM long f 2 ds else (([markT 60 long [] [32, 49]] ++ closed f) ++ [markT 124 long f [32, 98, 97, 115, 101]] ++ closed bs) ++ sidesM long bs 2 ds := by
  by_cases h : style = 1
  · rw [if_pos h]; unfold confM; simp [h]
  · rw [if_neg h]; unfold confM; simp [h]

set_option maxHeartbeats 16000000 in
theorem rConf_any (v : PcV) (t bs f : Txs) (ds : List Txs) (style : Int) (long : Nat) (w : World) (hst : inR64 style) (hlong : long ≤ 4096) (hns : (f :: ds).length ≤ 16) (hsz : ∀ d ∈ bs :: f :: ds, d.length ≤ 10000 ∧ ∀ s ∈ d, s.length ≤ 1000000) (hP : PcR w w.heap.size v (true, t, bs, f :: ds)) :
    Calls Tryz.prog 33 #[.agg #[.bool true, .slice v.1.1 v.1.2.1 v.1.2.2, .slice v.2.1.1 v.2.1.2.1 v.2.1.2.2, .slice v.2.2.1 v.2.2.2.1 v.2.2.2.2], .int .i64 style, .int .i64 (long : Int)] w fun e w' => OwnT w w' e (confM style long bs (f :: ds)) := by
  obtain ⟨⟨A1, n1, c1⟩, ⟨A2, n2, c2⟩, ⟨A3, n, c⟩⟩ := v
  obtain ⟨-, hP2, hnc, hcm, rows, hA⟩ := hP
  dsimp only at hP2 hnc hcm hA ⊢
  have hT := conf_split style long bs f ds
  have hTl := conf_len (style := style) (long := long) (bs := bs) (ds := f :: ds) fun d hd => (hsz d hd).1
  obtain ⟨T, hTT⟩ : ∃ T, confM style long bs (f :: ds) = T := ⟨_, rfl⟩
  rw [hTT] at hT hTl ⊢
  obtain ⟨xs, hxs⟩ : ∃ xs, xs = f :: ds := ⟨_, rfl⟩
  have hds : ds = xs.drop 1 := by rw [hxs]; rfl
  rw [← hxs] at hA hsz hns hTl
  have hl := hA.len
  have hn1 : 0 < n := by rw [← hl, hxs]; simp
  have hn16 : n ≤ 16 := by omega
  have hTl2 : Hid (T.length ≤ 200000) := Lib.hid (by omega)
  have hf0 : xs[0]? = some f := by rw [hxs]; rfl
  rw [hds] at hT
  clear hTT hds hxs hTl hns ds
  obtain ⟨b, o, Af, nf, cf, f', rfl, hb, ht, hr, hcell, hncf, hcmf, hstf⟩ := hA.at_ (k := 0) hn1
  have hff : f' = f := by rw [hf0] at ht; injection ht with e; exact e.symm
  subst hff
  obtain ⟨W0, hW0⟩ : ∃ W0, W0 = w.alloc (.cells #[.bool true, .slice A1 n1 c1, .slice A2 n2 c2, .slice (some ⟨b, o, none⟩) n c] 36) := ⟨_, rfl⟩
  have k0 : W0.heap[w.heap.size]? = some (pcObj true ((A1, n1, c1), (A2, n2, c2), (some ⟨b, o, none⟩, n, c))) := by rw [hW0]; exact one_a w _
  have hb0 : Below w.heap.size w W0 := by rw [hW0]; exact below_alloc (Below.refl _ _) _
  have hlt0 : Hid (w.heap.size < W0.heap.size) := Lib.hid (Array.getElem?_eq_some_iff.1 k0).1
  have hcells : Hid (∀ W, Below W0.heap.size W0 W → W.cell? ⟨w.heap.size, 2, none⟩ = some (.slice A2 n2 c2) ∧ W.cell? ⟨w.heap.size, 3, none⟩ = some (.slice (some ⟨b, o, none⟩) n c) ∧ W.cell? ⟨b, o, none⟩ = some (.slice Af nf cf) ∧ Below w.heap.size w W) := Lib.hid (fun W hW => by
    have e := (hW.block _ hlt0.out).trans k0
    have hbw := hb0.trans (hW.mono hb0.size)
    exact ⟨by rw [cells_of e]; rfl, by rw [cells_of e]; rfl, (hbw.cell (p := ⟨b, o, none⟩) hb).trans hcell, hbw⟩)
  have hTf : Hid (TxR w w.heap.size (Af, nf, cf) f') := Lib.hid ⟨hncf, hcmf, hstf⟩
  have hfm : f' ∈ xs := List.mem_of_getElem? hf0
  have hsf := hsz f' (List.mem_cons_of_mem _ hfm)
  have hsb := hsz bs (List.mem_cons_self ..)
  have hfl : f'.length = nf := hstf.len
  have hbl : bs.length = n2 := hP2.2.2.len
  have hcall : Hid (∀ (ss : Txs) (r : Slc) (W : World), TxR w w.heap.size r ss → (ss.length ≤ 10000 ∧ ∀ s ∈ ss, s.length ≤ 1000000) → Below w.heap.size w W → Calls Tryz.prog 55 #[.slice r.1 r.2.1 r.2.2] W fun e w' => OwnT W w' e (closed ss)) := Lib.hid (fun ss r W h1 h2 h3 => rEnded_any r.1 r.2.1 r.2.2 W.heap.size ss W (by have := h1.2.2.len; omega) h2.2 (Nat.le_refl _) (h1.up h3).2.2)
  have hmk : Hid (∀ (sg : UInt8) (ss : Txs) (r : Slc) (lab : Tx) (W : World), TxR w w.heap.size r ss → (ss.length ≤ 10000 ∧ ∀ s ∈ ss, s.length ≤ 1000000) → lab.length ≤ 1000 → Below w.heap.size w W → Calls Tryz.prog 54 #[.string (str [sg]), .int .i64 (long : Int), .slice r.1 r.2.1 r.2.2, .string (str lab)] W fun e w' => e = .returned (.string (str (markT sg long ss lab))) ∧ w' = W) := Lib.hid (fun sg ss r lab W h1 h2 h3 h4 => rMark_any sg long r.1 r.2.1 r.2.2 W.heap.size ss lab W hlong (by have := h1.2.2.len; unfold maxLen; omega) (fun s hs => by have := h2.2 s hs; unfold maxLen; omega) h3 (h1.up h4).2.2)
  have hE1 : Hid (∀ W, Below w.heap.size w W → Calls Tryz.prog 55 #[.slice Af nf cf] W fun e w' => OwnT W w' e (closed f')) := Lib.hid (fun W hW => hcall.out f' (Af, nf, cf) W hTf.out hsf hW)
  have hE2 : Hid (∀ W, Below w.heap.size w W → Calls Tryz.prog 55 #[.slice A2 n2 c2] W fun e w' => OwnT W w' e (closed bs)) := Lib.hid (fun W hW => hcall.out bs (A2, n2, c2) W hP2 hsb hW)
  obtain ⟨M1, hM1⟩ : ∃ M, markT 60 long [] [32, 49] = M := ⟨_, rfl⟩
  obtain ⟨M2, hM2⟩ : ∃ M, markT 124 long f' [32, 98, 97, 115, 101] = M := ⟨_, rfl⟩
  have hK1 : Hid (∀ W, Below w.heap.size w W → Calls Tryz.prog 54 #[.string ⟨#[60]⟩, .int .i64 (long : Int), .slice none 0 0, .string ⟨#[32, 49]⟩] W fun e w' => e = .returned (.string (str M1)) ∧ w' = W) := Lib.hid (fun W hW => by rw [← hM1]; exact hmk.out 60 [] (none, 0, 0) [32, 49] W (TxR.nil _ _) ⟨by simp, by simp⟩ (by decide) hW)
  have hK2 : Hid (∀ W, Below w.heap.size w W → Calls Tryz.prog 54 #[.string ⟨#[124]⟩, .int .i64 (long : Int), .slice Af nf cf, .string ⟨#[32, 98, 97, 115, 101]⟩] W fun e w' => e = .returned (.string (str M2)) ∧ w' = W) := Lib.hid (fun W hW => by rw [← hM2]; exact hmk.out 124 f' (Af, nf, cf) [32, 98, 97, 115, 101] W hTf.out hsf (by decide) hW)
  rw [hM1, hM2] at hT
  have hAh := Lib.hid hA
  have hP2h := Lib.hid hP2
  have hlh := Lib.hid hl
  have hW0h := Lib.hid hW0
  have hszh := Lib.hid hsz
  have hsfh := Lib.hid hsf
  have hsbh := Lib.hid hsb
  have hTh := Lib.hid hT
  have hcl1 : Hid ((closed f').length ≤ 10000) := Lib.hid (by rw [closed_len]; exact hsf.1)
  have hcl2 : Hid ((closed bs).length ≤ 10000) := Lib.hid (by rw [closed_len]; exact hsb.1)
  have i3 : (0 : Int) < (n : Int) := by omega
  obtain ⟨i0, hi, hzz⟩ := Option.map_eq_some_iff.1 infoStr
  simp only [Prod.mk.injEq] at hzz
  obtain ⟨hz0, hz1, hz2⟩ := hzz
  have hbb : b < w.heap.size := hb
  have hOM : Hid (TxO W0 (W0.alloc (.cells #[.string (str M1)] 9)) (.slice (some ⟨W0.heap.size, 0, none⟩) 1 1) [M1]) := Lib.hid (TxO.lit W0 M1)
  obtain ⟨W1, hW1⟩ : ∃ W1, W1 = W0.alloc (.cells #[.string (str M1)] 9) := ⟨_, rfl⟩
  have hW1h := Lib.hid hW1
  rw [← hW1] at hOM
  have hB1 := Lib.hid ((hcells.out W1 hOM.out.below).2.2.2)
  obtain ⟨x2, x3, y0, hB0w⟩ := hcells.out W1 hOM.out.below
  have hb0h := Lib.hid hb0
  clear hP2 hA hl hf0 ht hr hcell hncf hcmf hstf hb hfm hsf hsb hfl hbl hM1 hM2 hT hsz hB0w k0 hW0 hW1 hb0 hnc hcm
  go_enter Tryz.func33, Tryz.ntmps33
  go_upto_region 1 with fail
  rw [← hW0h.out]
  go_upto_region 2 with (go_at_call 54; refine (hK1.out _ hb0h.out).mono ?_; rintro e w1 ⟨rfl, hww⟩; have hws := hww.symm; clear hww; subst hws)
  rw [← hW1h.out]
  go_upto_region 3 with (first
    | (go_at_call 55; refine (hE1.out _ hB1.out).mono ?_; rintro e w2 ⟨u2, rfl, hu2⟩; have hO2 := Lib.hid (hOM.out.call hu2.below); obtain ⟨A5, c5, hv5, l1, l2, hr5⟩ := own_slice hu2.own; subst hv5; have hu2l := Lib.hid hcl1.out; have hr5h := Lib.hid hr5; clear hu2 l1 l2 hr5)
    | (at_builtin; refine wpList_append_reads _ rfl _ _ 25 rfl W0.heap.size 9 i0 (.string ByteArray.empty) 16 Tryz.underlying25 hi hz0 hz1 hz2 rfl _ 1 _ rfl hO2.out.own w2.heap.size A5 _ c5 _ rfl hr5h.out (strs_one _) (by have := hcl1.out; unfold maxLen; omega) (by have := hcl1.out; omega) hO2.out.below.size ?_; intro v3 w3 hown3 hg3; have hO3 := Lib.hid (hO2.out.put (ys := closed f') rfl hown3 hg3); clear hown3 hg3 hr5h hO2 hu2l x2 x3 y0; obtain ⟨x2, x3, y0, hB3⟩ := hcells.out w3 hO3.out.below; have hB3h := Lib.hid hB3; clear hB3))
  by_cases h1 : style = 1
  · subst h1
    have hTc : Hid (T = ([M1] ++ closed f') ++ sidesM long f' 2 (xs.drop 1)) := Lib.hid (by have := hTh.out; rwa [if_pos rfl] at this)
    go_wp2
    go_loopw [7, 8, 9] (fun s7 s8 s9 wr => ∃ (i : Nat) (v : Value) (Aa : Option Addr) (na ca : Nat) (ys ah : Txs), 1 ≤ i ∧ i ≤ n ∧ s9 = .int .i64 i ∧ v = s7 ∧ s8 = .slice Aa na ca ∧ Hid (TxO W0 wr v ys) ∧ Hid (TxR w w.heap.size (Aa, na, ca) ah ∧ ah.length ≤ 10000 ∧ ∀ s ∈ ah, s.length ≤ 1000000) ∧ Hid (ys ++ sidesM long ah (i + 1) (xs.drop i) = T)) (fun _ _ s9 _ => n - (intOf s9).toNat)
    case atStart => exact ⟨1, _, _, _, _, _, f', Nat.le_refl _, hn1, rfl, rfl, rfl, hO3, Lib.hid ⟨hTf.out, hsfh.out⟩, Lib.hid hTc.out.symm⟩
    case round =>
      obtain ⟨i, v, Aa, na, ca, ys, ah, hi1, hi2, rfl, rfl, rfl, hO, hAa, hy⟩ := hrel
      obtain ⟨wo, rfl⟩ : ∃ wo : World, wo = wr := ⟨_, rfl⟩
      obtain ⟨-, z3, -, hBw⟩ := hcells.out wo hO.out.below
      have hBwh := Lib.hid hBw
      clear hBw
      have hyl : Hid (ys.length ≤ 200000) := Lib.hid (by have := congrArg List.length hy.out; rw [List.length_append] at this; have := hTl2.out; omega)
      by_cases hlt : i < n
      · obtain ⟨bk, ok, Ak, nk, ck, d, hbok, hbk, htk, hrk, hcellk, hnck, hcmk, hstk⟩ := hAh.out.at_ (k := i) hlt
        cases hbok
        have i1 : (0 : Int) ≤ (i : Int) := by omega
        have i2 : (i : Int) < (n : Int) := by omega
        have hwr1 : IntKind.i64.wrap ((i : Int) + 1) = ((i + 1 : Nat) : Int) := by rw [IntWalk.i64_in _ (by omega)]; omega
        have hrow : Hid (∀ W, Below W0.heap.size W0 W → W.cell? ⟨b, o + i, none⟩ = some (.slice Ak nk ck)) := Lib.hid (fun W hW => ((hb0h.out.trans (hW.mono hb0h.out.size)).cell (p := ⟨b, o + i, none⟩) hbk).trans hcellk)
        have hTk : Hid (TxR w w.heap.size (Ak, nk, ck) d) := Lib.hid ⟨hnck, hcmk, hstk⟩
        have hsd := Lib.hid (hszh.out d (List.mem_cons_of_mem _ (List.mem_of_getElem? htk)))
        have hcld : Hid ((closed d).length ≤ 10000) := Lib.hid (by rw [closed_len]; exact hsd.out.1)
        obtain ⟨L, hL⟩ : ∃ L, str (numT (i + 1)) = L := ⟨_, rfl⟩
        have hLz : L.size ≤ 2 := by rw [← hL, str_size]; unfold numT; split <;> simp
        have hLs : ¬ 9223372036854775807 < 1 + L.size := by omega
        have hNu : Hid (∀ W, Calls Tryz.prog 56 #[.int .i64 ((i + 1 : Nat) : Int)] W fun e w' => e = .returned (.string L) ∧ Below W.heap.size W w') := Lib.hid (fun W => by rw [← hL]; exact rNumber_any (i + 1) W (by omega) (by omega))
        obtain ⟨M, hM⟩ : ∃ M, markT 61 long ah (32 :: numT (i + 1)) = M := ⟨_, rfl⟩
        have hLL : (⟨#[32]⟩ : ByteArray) ++ L = str (32 :: numT (i + 1)) := by rw [← hL]; exact strs_app [32] _
        have hMk : Hid (∀ W, Below w.heap.size w W → Calls Tryz.prog 54 #[.string ⟨#[61]⟩, .int .i64 (long : Int), .slice Aa na ca, .string ((⟨#[32]⟩ : ByteArray) ++ L)] W fun e w' => e = .returned (.string (str M)) ∧ w' = W) := Lib.hid (fun W hW => by rw [hLL, ← hM]; exact hmk.out 61 ah (Aa, na, ca) (32 :: numT (i + 1)) W hAa.out.1 hAa.out.2 (by unfold numT; split <;> simp) hW)
        have hEd : Hid (∀ W, Below w.heap.size w W → Calls Tryz.prog 55 #[.slice Ak nk ck] W fun e w' => OwnT W w' e (closed d)) := Lib.hid (fun W hW => hcall.out d (Ak, nk, ck) W hTk.out hsd.out hW)
        have hnx : Hid ((ys ++ [M]) ++ closed d ++ sidesM long d (i + 1 + 1) (xs.drop (i + 1)) = T) := Lib.hid (by
          rw [← hy.out, drop_at htk, ← hM]
          simp [sidesM])
        clear hL hLz hM hLL hbk htk hrk hcellk hnck hcmk hstk
        go_wp2_with (first
          | (go_at_call 56; refine (hNu.out _).mono ?_; rintro e w1 ⟨rfl, hb1⟩; have hO1 := Lib.hid (hO.out.call hb1); have hBw1 := Lib.hid (hBwh.out.trans (hb1.mono hBwh.out.size)); clear hb1)
          | (go_at_call 54; refine (hMk.out _ hBw1.out).mono ?_; rintro e w2 ⟨rfl, hww⟩; have hws := hww.symm; clear hww; subst hws)
          | (at_builtin; refine wpList_append_own_at _ rfl (.tmp 46) (.tmp 54) 25 rfl W0.heap.size 9 i0 (.string ByteArray.empty) 1 16 Tryz.underlying25 hi hz0 hz1 hz2 rfl (by decide) v ys.length _ rfl (hO1.out.own.alloc _) ⟨w1.heap.size, 0, none⟩ 1 1 [.string (str M)] rfl rfl (cell_one_new _ _ _) (by simp [Value.oneCell']) (by have := hyl.out; unfold maxLen; omega) (by have := hyl.out; omega) (by have := hO1.out.below.size; simp; omega) ?_; intro v3 w3' hown3 hg3 hnil3 hloc3; have hO3b := Lib.hid (hO1.out.push hown3 hg3); clear hown3 hg3 hnil3 hloc3; obtain ⟨-, zz3, -, hBw3⟩ := hcells.out w3' hO3b.out.below; have hBw3h := Lib.hid hBw3; have zk := hrow.out w3' hO3b.out.below; clear hBw3)
          | (go_at_call 55; refine (hEd.out _ hBw3h.out).mono ?_; rintro e w4 ⟨u4, rfl, hu4⟩; have hO4 := Lib.hid (hO3b.out.call hu4.below); obtain ⟨A5, c5, hv5, l1, l2, hr5⟩ := own_slice hu4.own; subst hv5; have hr5h := Lib.hid hr5; clear hu4 l1 l2 hr5)
          | (at_builtin; refine wpList_append_reads _ rfl (.tmp 56) (.tmp 62) 25 rfl W0.heap.size 9 i0 (.string ByteArray.empty) 16 Tryz.underlying25 hi hz0 hz1 hz2 rfl v3 _ _ rfl hO4.out.own w4.heap.size A5 _ c5 _ rfl hr5h.out (strs_one _) (by have := hcld.out; have := hyl.out; rw [List.length_append, List.length_singleton]; unfold maxLen; omega) (by have := hcld.out; have := hyl.out; rw [List.length_append, List.length_singleton]; omega) hO4.out.below.size ?_; intro v5 w5 hown5 hg5; have hO5 := Lib.hid (hO4.out.put (ys := closed d) rfl hown5 hg5); clear hown5 hg5; obtain ⟨-, zz5, -, -⟩ := hcells.out w5 hO5.out.below; have zk5 := hrow.out w5 hO5.out.below))
        go_roundw
        case rel => exact ⟨i + 1, v5, _, _, _, _, d, by omega, by omega, by go_num, rfl, rfl, hO5, Lib.hid ⟨hTk.out, hsd.out⟩, hnx⟩
        case measure => simp [intOf]; omega
      · obtain rfl : i = n := by omega
        obtain ⟨M, hM⟩ : ∃ M, markT 62 long ah [] = M := ⟨_, rfl⟩
        have hMk : Hid (∀ W, Below w.heap.size w W → Calls Tryz.prog 54 #[.string ⟨#[62]⟩, .int .i64 (long : Int), .slice Aa na ca, .string ⟨#[]⟩] W fun e w' => e = .returned (.string (str M)) ∧ w' = W) := Lib.hid (fun W hW => by rw [← hM]; exact hmk.out 62 ah (Aa, na, ca) [] W hAa.out.1 hAa.out.2 (by decide) hW)
        have hfin : Hid (ys ++ [M] = T) := Lib.hid (by rw [← hy.out, List.drop_of_length_le (by rw [hlh.out]; exact Nat.le_refl _), ← hM]; rfl)
        clear hM
        go_wp2_with (first
          | (go_at_call 54; refine (hMk.out _ hBwh.out).mono ?_; rintro e w2 ⟨rfl, hww⟩; have hws := hww.symm; clear hww; subst hws)
          | (at_builtin; refine wpList_append_own_at _ rfl (.tmp 69) (.tmp 73) 25 rfl W0.heap.size 9 i0 (.string ByteArray.empty) 1 16 Tryz.underlying25 hi hz0 hz1 hz2 rfl (by decide) v ys.length _ rfl (hO.out.own.alloc _) ⟨wo.heap.size, 0, none⟩ 1 1 [.string (str M)] rfl rfl (cell_one_new _ _ _) (by simp [Value.oneCell']) (by have := hyl.out; unfold maxLen; omega) (by have := hyl.out; omega) (by have := hO.out.below.size; simp; omega) ?_; intro v3 w3' hown3 hg3 hnil3 hloc3; have hO3b := Lib.hid (hO.out.push hown3 hg3); clear hown3 hg3 hnil3 hloc3))
        go_ret
        rw [hfin.out] at hO3b
        exact ⟨_, rfl, own_lower hO3b.out.own hb0h.out.size, hb0h.out.trans (hO3b.out.below.mono hb0h.out.size)⟩
  · have hTc : Hid (T = (([M1] ++ closed f') ++ [M2] ++ closed bs) ++ sidesM long bs 2 (xs.drop 1)) := Lib.hid (by have := hTh.out; rwa [if_neg h1] at this)
    have h1b : (style == 1) = false := by rw [beq_eq_false_iff_ne]; exact h1
    unfold inR64 at hst
    go_wp2_with (first
      | (go_at_call 54; refine (hK2.out _ hB3h.out).mono ?_; rintro e w4 ⟨rfl, hww⟩; have hws := hww.symm; clear hww; subst hws)
      | (at_builtin; refine wpList_append_own_at _ rfl (.tmp 26) (.tmp 30) 25 rfl W0.heap.size 9 i0 (.string ByteArray.empty) 1 16 Tryz.underlying25 hi hz0 hz1 hz2 rfl (by decide) v3 _ _ rfl (hO3.out.own.alloc _) ⟨w3.heap.size, 0, none⟩ 1 1 [.string (str M2)] rfl rfl (cell_one_new _ _ _) (by simp [Value.oneCell']) (by have := hcl1.out; rw [List.length_append, List.length_singleton]; unfold maxLen; omega) (by have := hcl1.out; rw [List.length_append, List.length_singleton]; omega) (by have := hO3.out.below.size; simp; omega) ?_; intro v6 w6 hown6 hg6 hnil6 hloc6; have hO6 := Lib.hid (hO3.out.push hown6 hg6); clear hown6 hg6 hnil6 hloc6 x2 x3 y0; obtain ⟨x2, x3, y0, hB6⟩ := hcells.out w6 hO6.out.below; have hB6h := Lib.hid hB6; clear hB6)
      | (go_at_call 55; refine (hE2.out _ hB6h.out).mono ?_; rintro e w7 ⟨u7, rfl, hu7⟩; have hO7 := Lib.hid (hO6.out.call hu7.below); obtain ⟨A8, c8, hv8, l1, l2, hr8⟩ := own_slice hu7.own; subst hv8; have hr8h := Lib.hid hr8; clear hu7 l1 l2 hr8)
      | (at_builtin; refine wpList_append_reads _ rfl (.tmp 32) (.tmp 35) 25 rfl W0.heap.size 9 i0 (.string ByteArray.empty) 16 Tryz.underlying25 hi hz0 hz1 hz2 rfl v6 _ _ rfl hO7.out.own w7.heap.size A8 _ c8 _ rfl hr8h.out (strs_one _) (by have := hcl1.out; have := hcl2.out; rw [List.length_append, List.length_append, List.length_singleton, List.length_singleton]; unfold maxLen; omega) (by have := hcl1.out; have := hcl2.out; rw [List.length_append, List.length_append, List.length_singleton, List.length_singleton]; omega) hO7.out.below.size ?_; intro v8 w8 hown8 hg8; have hO8 := Lib.hid (hO7.out.put (ys := closed bs) rfl hown8 hg8); clear hown8 hg8 x2 x3 y0; obtain ⟨x2, x3, y0, hB8⟩ := hcells.out w8 hO8.out.below; clear hB8))
    go_loopw [7, 8, 9] (fun s7 s8 s9 wr => ∃ (i : Nat) (v : Value) (Aa : Option Addr) (na ca : Nat) (ys ah : Txs), 1 ≤ i ∧ i ≤ n ∧ s9 = .int .i64 i ∧ v = s7 ∧ s8 = .slice Aa na ca ∧ Hid (TxO W0 wr v ys) ∧ Hid (TxR w w.heap.size (Aa, na, ca) ah ∧ ah.length ≤ 10000 ∧ ∀ s ∈ ah, s.length ≤ 1000000) ∧ Hid (ys ++ sidesM long ah (i + 1) (xs.drop i) = T)) (fun _ _ s9 _ => n - (intOf s9).toNat)
    case atStart => exact ⟨1, _, _, _, _, _, bs, Nat.le_refl _, hn1, rfl, rfl, rfl, hO8, Lib.hid ⟨hP2h.out, hsbh.out⟩, Lib.hid hTc.out.symm⟩
    case round =>
      obtain ⟨i, v, Aa, na, ca, ys, ah, hi1, hi2, rfl, rfl, rfl, hO, hAa, hy⟩ := hrel
      obtain ⟨wo, rfl⟩ : ∃ wo : World, wo = wr := ⟨_, rfl⟩
      obtain ⟨-, z3, -, hBw⟩ := hcells.out wo hO.out.below
      have hBwh := Lib.hid hBw
      clear hBw
      have hyl : Hid (ys.length ≤ 200000) := Lib.hid (by have := congrArg List.length hy.out; rw [List.length_append] at this; have := hTl2.out; omega)
      by_cases hlt : i < n
      · obtain ⟨bk, ok, Ak, nk, ck, d, hbok, hbk, htk, hrk, hcellk, hnck, hcmk, hstk⟩ := hAh.out.at_ (k := i) hlt
        cases hbok
        have i1 : (0 : Int) ≤ (i : Int) := by omega
        have i2 : (i : Int) < (n : Int) := by omega
        have hwr1 : IntKind.i64.wrap ((i : Int) + 1) = ((i + 1 : Nat) : Int) := by rw [IntWalk.i64_in _ (by omega)]; omega
        have hrow : Hid (∀ W, Below W0.heap.size W0 W → W.cell? ⟨b, o + i, none⟩ = some (.slice Ak nk ck)) := Lib.hid (fun W hW => ((hb0h.out.trans (hW.mono hb0h.out.size)).cell (p := ⟨b, o + i, none⟩) hbk).trans hcellk)
        have hTk : Hid (TxR w w.heap.size (Ak, nk, ck) d) := Lib.hid ⟨hnck, hcmk, hstk⟩
        have hsd := Lib.hid (hszh.out d (List.mem_cons_of_mem _ (List.mem_of_getElem? htk)))
        have hcld : Hid ((closed d).length ≤ 10000) := Lib.hid (by rw [closed_len]; exact hsd.out.1)
        obtain ⟨L, hL⟩ : ∃ L, str (numT (i + 1)) = L := ⟨_, rfl⟩
        have hLz : L.size ≤ 2 := by rw [← hL, str_size]; unfold numT; split <;> simp
        have hLs : ¬ 9223372036854775807 < 1 + L.size := by omega
        have hNu : Hid (∀ W, Calls Tryz.prog 56 #[.int .i64 ((i + 1 : Nat) : Int)] W fun e w' => e = .returned (.string L) ∧ Below W.heap.size W w') := Lib.hid (fun W => by rw [← hL]; exact rNumber_any (i + 1) W (by omega) (by omega))
        obtain ⟨M, hM⟩ : ∃ M, markT 61 long ah (32 :: numT (i + 1)) = M := ⟨_, rfl⟩
        have hLL : (⟨#[32]⟩ : ByteArray) ++ L = str (32 :: numT (i + 1)) := by rw [← hL]; exact strs_app [32] _
        have hMk : Hid (∀ W, Below w.heap.size w W → Calls Tryz.prog 54 #[.string ⟨#[61]⟩, .int .i64 (long : Int), .slice Aa na ca, .string ((⟨#[32]⟩ : ByteArray) ++ L)] W fun e w' => e = .returned (.string (str M)) ∧ w' = W) := Lib.hid (fun W hW => by rw [hLL, ← hM]; exact hmk.out 61 ah (Aa, na, ca) (32 :: numT (i + 1)) W hAa.out.1 hAa.out.2 (by unfold numT; split <;> simp) hW)
        have hEd : Hid (∀ W, Below w.heap.size w W → Calls Tryz.prog 55 #[.slice Ak nk ck] W fun e w' => OwnT W w' e (closed d)) := Lib.hid (fun W hW => hcall.out d (Ak, nk, ck) W hTk.out hsd.out hW)
        have hnx : Hid ((ys ++ [M]) ++ closed d ++ sidesM long d (i + 1 + 1) (xs.drop (i + 1)) = T) := Lib.hid (by
          rw [← hy.out, drop_at htk, ← hM]
          simp [sidesM])
        clear hL hLz hM hLL hbk htk hrk hcellk hnck hcmk hstk
        go_wp2_with (first
          | (go_at_call 56; refine (hNu.out _).mono ?_; rintro e w1 ⟨rfl, hb1⟩; have hO1 := Lib.hid (hO.out.call hb1); have hBw1 := Lib.hid (hBwh.out.trans (hb1.mono hBwh.out.size)); clear hb1)
          | (go_at_call 54; refine (hMk.out _ hBw1.out).mono ?_; rintro e w2 ⟨rfl, hww⟩; have hws := hww.symm; clear hww; subst hws)
          | (at_builtin; refine wpList_append_own_at _ rfl (.tmp 46) (.tmp 54) 25 rfl W0.heap.size 9 i0 (.string ByteArray.empty) 1 16 Tryz.underlying25 hi hz0 hz1 hz2 rfl (by decide) v ys.length _ rfl (hO1.out.own.alloc _) ⟨w1.heap.size, 0, none⟩ 1 1 [.string (str M)] rfl rfl (cell_one_new _ _ _) (by simp [Value.oneCell']) (by have := hyl.out; unfold maxLen; omega) (by have := hyl.out; omega) (by have := hO1.out.below.size; simp; omega) ?_; intro v3 w3' hown3 hg3 hnil3 hloc3; have hO3b := Lib.hid (hO1.out.push hown3 hg3); clear hown3 hg3 hnil3 hloc3; obtain ⟨-, zz3, -, hBw3⟩ := hcells.out w3' hO3b.out.below; have hBw3h := Lib.hid hBw3; have zk := hrow.out w3' hO3b.out.below; clear hBw3)
          | (go_at_call 55; refine (hEd.out _ hBw3h.out).mono ?_; rintro e w4 ⟨u4, rfl, hu4⟩; have hO4 := Lib.hid (hO3b.out.call hu4.below); obtain ⟨A5, c5, hv5, l1, l2, hr5⟩ := own_slice hu4.own; subst hv5; have hr5h := Lib.hid hr5; clear hu4 l1 l2 hr5)
          | (at_builtin; refine wpList_append_reads _ rfl (.tmp 56) (.tmp 62) 25 rfl W0.heap.size 9 i0 (.string ByteArray.empty) 16 Tryz.underlying25 hi hz0 hz1 hz2 rfl v3 _ _ rfl hO4.out.own w4.heap.size A5 _ c5 _ rfl hr5h.out (strs_one _) (by have := hcld.out; have := hyl.out; rw [List.length_append, List.length_singleton]; unfold maxLen; omega) (by have := hcld.out; have := hyl.out; rw [List.length_append, List.length_singleton]; omega) hO4.out.below.size ?_; intro v5 w5 hown5 hg5; have hO5 := Lib.hid (hO4.out.put (ys := closed d) rfl hown5 hg5); clear hown5 hg5; obtain ⟨-, zz5, -, -⟩ := hcells.out w5 hO5.out.below; have zk5 := hrow.out w5 hO5.out.below))
        go_roundw
        case rel => exact ⟨i + 1, v5, _, _, _, _, d, by omega, by omega, by go_num, rfl, rfl, hO5, Lib.hid ⟨hTk.out, hsd.out⟩, hnx⟩
        case measure => simp [intOf]; omega
      · obtain rfl : i = n := by omega
        obtain ⟨M, hM⟩ : ∃ M, markT 62 long ah [] = M := ⟨_, rfl⟩
        have hMk : Hid (∀ W, Below w.heap.size w W → Calls Tryz.prog 54 #[.string ⟨#[62]⟩, .int .i64 (long : Int), .slice Aa na ca, .string ⟨#[]⟩] W fun e w' => e = .returned (.string (str M)) ∧ w' = W) := Lib.hid (fun W hW => by rw [← hM]; exact hmk.out 62 ah (Aa, na, ca) [] W hAa.out.1 hAa.out.2 (by decide) hW)
        have hfin : Hid (ys ++ [M] = T) := Lib.hid (by rw [← hy.out, List.drop_of_length_le (by rw [hlh.out]; exact Nat.le_refl _), ← hM]; rfl)
        clear hM
        go_wp2_with (first
          | (go_at_call 54; refine (hMk.out _ hBwh.out).mono ?_; rintro e w2 ⟨rfl, hww⟩; have hws := hww.symm; clear hww; subst hws)
          | (at_builtin; refine wpList_append_own_at _ rfl (.tmp 69) (.tmp 73) 25 rfl W0.heap.size 9 i0 (.string ByteArray.empty) 1 16 Tryz.underlying25 hi hz0 hz1 hz2 rfl (by decide) v ys.length _ rfl (hO.out.own.alloc _) ⟨wo.heap.size, 0, none⟩ 1 1 [.string (str M)] rfl rfl (cell_one_new _ _ _) (by simp [Value.oneCell']) (by have := hyl.out; unfold maxLen; omega) (by have := hyl.out; omega) (by have := hO.out.below.size; simp; omega) ?_; intro v3 w3' hown3 hg3 hnil3 hloc3; have hO3b := Lib.hid (hO.out.push hown3 hg3); clear hown3 hg3 hnil3 hloc3))
        go_ret
        rw [hfin.out] at hO3b
        exact ⟨_, rfl, own_lower hO3b.out.own hb0h.out.size, hb0h.out.trans (hO3b.out.below.mono hb0h.out.size)⟩
end Go.Proofs.YtcjmmidnfjifaaaGreatDoor
