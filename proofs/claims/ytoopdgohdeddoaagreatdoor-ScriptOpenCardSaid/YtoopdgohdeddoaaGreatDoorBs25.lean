/- Proved here: texts joined: ScrGo. -/
import Derived.Test.YtoopdgohdeddoaaGreatDoorBs24
/- Proved here: the contract of the document's own answer of layer 16: Script, where nothing forbids it. -/
namespace Go.Proofs.YtoopdgohdeddoaaGreatDoor
open Go.RowKit
set_option linter.unusedVariables false
set_option maxRecDepth 100000

theorem cells_two (W : World) (a b : Value) (t : TypeId) (j : Nat) (x : Value) (hx : ([a, b] : List Value)[j]? = some x) : (W.alloc (.cells #[a, b] t)).cell? ((⟨W.heap.size, 0, none⟩ : Addr).add j) = some x := by
  rw [show (⟨W.heap.size, 0, none⟩ : Addr).add j = ⟨W.heap.size, j, none⟩ from by unfold Addr.add; split <;> simp_all, cells_of (one_a W _)]
  simpa using hx
theorem two_of {l : List Sp} (h : l.length = 2) : ∃ a b, l = [a, b] := by
  match l, h with
  | [a, b], _ => exact ⟨a, b, rfl⟩
theorem small_cut {l : Txs} {f t : Int} (h : l.length ≤ 90 ∧ ∀ s ∈ l, s.length ≤ 1000) : (cutL l f t).length ≤ 90 ∧ ∀ s ∈ cutL l f t, s.length ≤ 1000 := ⟨Nat.le_trans (cutL_le _ _ _) h.1, fun s hs => h.2 s (cutL_mem hs)⟩
theorem small_of {l : Txs} (h : l.length ≤ 90 ∧ ∀ s ∈ l, s.length ≤ 1000) : smallD l ∧ (l.length ≤ 40000 ∧ ∀ s ∈ l, s.length ≤ 1000000) := ⟨⟨by omega, fun s hs => by have := h.2 s hs; omega⟩, by omega, fun s hs => by have := h.2 s hs; omega⟩

set_option maxHeartbeats 16000000 in
theorem rScript_good (c : UInt8) (A0 : Option Addr) (n0 c0 : Nat) (mine : Txs) (A1 : Option Addr) (n1 c1 : Nat) (older : Txs) (A2 : Option Addr) (n2 c2 : Nat) (yours : Txs) (fin : Bool) (w : World) (hsm : smallR older [mine, yours])
    (h0 : TxR w w.heap.size (A0, n0, c0) mine) (h1 : TxR w w.heap.size (A1, n1, c1) older) (h2 : TxR w w.heap.size (A2, n2, c2) yours) (he : errS c mine older yours = 0) :
    Calls Tryz.prog 12 #[.int .u8 (c.toNat : Int), .agg #[.slice A0 n0 c0, .slice A1 n1 c1, .slice A2 n2 c2], .bool fin] w fun e w' => ScrOut w w' e c mine older yours fin := by
  obtain ⟨W1, hW1⟩ : ∃ W1, W1 = w.alloc (.cells #[.slice A0 n0 c0, .slice A1 n1 c1, .slice A2 n2 c2] 23) := ⟨_, rfl⟩
  have hb1 : Below w.heap.size w W1 := by rw [hW1]; exact (Below.refl _ _).alloc (Nat.le_refl _) _
  have k1 : W1.heap[w.heap.size]? = some (.cells #[.slice A0 n0 c0, .slice A1 n1 c1, .slice A2 n2 c2] 23 (0, 0)) := by rw [hW1]; exact Go.Deep.blk_alloc_new w _
  have hKx := Lib.hid (rfKnown_any c W1)
  obtain ⟨hkn, hz, hom, hoo, hoy⟩ := errS_none he
  rw [hkn, hW1] at hKx
  obtain ⟨W2, hW2⟩ : ∃ W2, W2 = W1.alloc (.cells #[.slice A0 n0 c0, .slice A2 n2 c2] 22) := ⟨_, rfl⟩
  have hb2 : Below W1.heap.size W1 W2 := by rw [hW2]; exact (Below.refl _ _).alloc (Nat.le_refl _) _
  have k2 : W2.heap[W1.heap.size]? = some (.cells #[.slice A0 n0 c0, .slice A2 n2 c2] 22 (0, 0)) := by rw [hW2]; exact Go.Deep.blk_alloc_new W1 _
  have hbw2 := hb1.trans (hb2.mono hb1.size)
  have hRW := pair_rows (r1 := (A0, n0, c0)) (r2 := (A2, n2, c2)) hbw2 k2 h0 h2
  have hC := Lib.hid (rChunks_any A1 n1 c1 older (some ⟨W1.heap.size, 0, none⟩) 2 2 [(A0, n0, c0), (A2, n2, c2)] [mine, yours] W2 (Nat.le_refl _) (by decide) hsm (h1.up hbw2) hRW)
  have eg : W1.heap.size = w.heap.size + 1 := by rw [hW1]; simp
  rw [eg] at hC hRW
  have hzh := Lib.hid hz
  have hlt : w.heap.size < W1.heap.size := (Array.getElem?_eq_some_iff.1 k1).1
  have x0 : W2.cell? ⟨w.heap.size, 1, none⟩ = some (.slice A1 n1 c1) := by rw [cells_of ((hb2.block _ hlt).trans k1)]; rfl
  have hO := Lib.hid (fun (r : Slc) (d : Txs) (W : World) (hr : TxR w w.heap.size r d) (hd : d ∈ older :: [mine, yours]) (hb : Below w.heap.size w W) => rOpen_any r.1 r.2.1 r.2.2 W.heap.size d W (Nat.le_trans hr.1 hr.2.1) (fun s hs => Nat.le_trans ((hsm.2 d hd).2 s hs) (by decide)) (hr.up hb).2.2)
  have hOm := Lib.hid (fun W hb => hO.out (A0, n0, c0) mine W h0 (by simp) hb)
  have hOo := Lib.hid (fun W hb => hO.out (A1, n1, c1) older W h1 (by simp) hb)
  have hOy := Lib.hid (fun W hb => hO.out (A2, n2, c2) yours W h2 (by simp) hb)
  rw [hom] at hOm
  rw [hoo] at hOo
  rw [hoy] at hOy
  have hC3 : Hid (∀ x1, Below W2.heap.size W2 x1 → Below w.heap.size w x1 ∧ w.heap.size < x1.heap.size ∧ x1.cell? ⟨w.heap.size, 0, none⟩ = some (.slice A0 n0 c0) ∧ x1.cell? ⟨w.heap.size, 1, none⟩ = some (.slice A1 n1 c1) ∧ x1.cell? ⟨w.heap.size, 2, none⟩ = some (.slice A2 n2 c2)) := Lib.hid (fun x1 hb => by
    have hbb := hb2.trans (hb.mono hb2.size)
    have e1 := (hbb.block _ hlt).trans k1
    exact ⟨hbw2.trans (hb.mono hbw2.size), (Array.getElem?_eq_some_iff.1 e1).1, by rw [cells_of e1]; rfl, by rw [cells_of e1]; rfl, by rw [cells_of e1]; rfl⟩)
  have hT1 := Lib.hid (fun (W : World) (hb : Below w.heap.size w W) => h1.up hb)
  have hRWh := Lib.hid hRW
  have heh := Lib.hid he
  have hsmh := Lib.hid hsm
  obtain ⟨i0, hi, hzz⟩ := Option.map_eq_some_iff.1 infoStr
  simp only [Prod.mk.injEq] at hzz
  obtain ⟨hz0, hz1, hz2⟩ := hzz
  clear hkn h0 h1 h2 hsm he hz hb1 hb2 k1 k2 hbw2 hO hom hoo hoy hRW
  go_enter Tryz.func12, Tryz.ntmps12
  go_upto_region 4 with (go_at_call 23; refine hKx.out.mono ?_; rintro e w2 ⟨rfl, hww⟩; have hws := hww.symm; clear hww; subst hws)
  rw [← hW1, ← hW2]
  clear hW1 hW2 eg
  go_upto_region 9 with (first
    | (go_at_call 24; refine hC.out.mono ?_; rintro e wc ⟨er, A5, n5, c5, cs, rfl, q1, q2, q3, q4, q5⟩; have her : er = 0 := (q4.1.trans hzh.out); subst her; obtain ⟨hbx, hlx, y0, y1, y2⟩ := hC3.out wc q5; have hB3 := Lib.hid hbx; have hltc := Lib.hid hlx; have hR0 := Lib.hid (hRWh.out.up q5); have hcs := Lib.hid (And.intro q1 (And.intro q2 (And.intro q3 q4))); clear q1 q2 q3 q4 q5 hbx hlx)
    | (go_at_call 15; refine (hOm.out _ hB3.out).mono ?_; rintro e w4 ⟨rfl, hww⟩; subst hww; clear hOm)
    | (go_at_call 15; refine (hOo.out _ hB3.out).mono ?_; rintro e w4 ⟨rfl, hww⟩; subst hww; clear hOo)
    | (go_at_call 15; refine (hOy.out _ hB3.out).mono ?_; rintro e w4 ⟨rfl, hww⟩; subst hww; clear hOy))
  have x1h := Lib.hid y1
  obtain ⟨ms, hMs, hCut⟩ := hcs.out.2.2.2.2.2 rfl
  have hLd := Lib.hid (hMs.laid hCut)
  have hMC := Lib.hid (And.intro hMs hCut)
  have hn5 : cs.length = n5 := hcs.out.2.2.1.1
  have hnc : n5 ≤ 201 := by
    have h1 := cov_few hCut.1
    rw [if_neg (by simp)] at h1
    have h2 := (hsmh.out.2 older (List.mem_cons_self ..)).1
    omega
  have hn5h := Lib.hid hn5
  have hnch := Lib.hid hnc
  have hw5 : IntKind.i64.wrap ((n5 : Int) - 1) = (n5 : Int) - 1 := IntWalk.i64_in _ (by omega)
  have hstart := Lib.hid (TxO.none_ wc wc (Below.refl _ _))
  clear hMs hCut hC hn5 x0 y0 y1 y2 hKx hzh hC3 hRWh
  go_wp2
  go_loopw [11, 12, 13, 14, 15, 16, 17, 18] (fun s11 s12 _ _ _ _ _ _ wr => ∃ (k : Nat) (z : Int) (v : Value) (xs : Txs), k ≤ n5 ∧ s12 = .int .i64 z ∧ Hid (z = (k : Int) - 1) ∧ v = s11 ∧ Hid (TxO wc wr v xs) ∧ Hid (xs = (cs.drop k).reverse.flatMap (fun ck => cmdsD c (chunkC mine older yours ck))) ∧ Hid (xs.length ≤ (n5 - k) * 200)) (fun _ s12 _ _ _ _ _ _ _ => (intOf s12 + 1).toNat)
  case atStart => exact ⟨n5, _, _, [], Nat.le_refl _, rfl, Lib.hid rfl, rfl, hstart, Lib.hid (by rw [List.drop_of_length_le (by rw [hn5h.out]; exact Nat.le_refl _)]; rfl), Lib.hid (by simp)⟩
  case round =>
    obtain ⟨k, z, v, xs, hk, rfl, hzk, rfl, hO, hX, hL⟩ := hrel
    obtain ⟨wo, rfl⟩ : ∃ wo : World, wo = wr := ⟨_, rfl⟩
    have hbo := Lib.hid hO.out.below
    have hL2 : Hid (xs.length ≤ 40200) := Lib.hid (by have := hL.out; have := hnch.out; have : (n5 - k) * 200 ≤ 201 * 200 := Nat.mul_le_mul_right _ (by omega); omega)
    cases k with
    | zero =>
      obtain rfl : z = -1 := by have := hzk.out; omega
      have hXf : Hid (xs ++ tailS fin = scriptD c (cs.map (chunkC mine older yours)) fin) := Lib.hid (by rw [rev_map, hX.out]; rfl)
      have hfin : Hid (∀ (v' : Value) (V : World), TxO wc V v' (scriptD c (cs.map (chunkC mine older yours)) fin) → ScrOut w V (.returned (.tuple #[v', .int .i64 0])) c mine older yours fin) := Lib.hid fun v' V hv => by
        obtain ⟨A, c', rfl, r1, r2, r3⟩ := own_slice hv.own
        exact ⟨A, _, c', 0, _, rfl, ⟨r1, r2, r3⟩, ⟨heh.out.symm, fun h => absurd rfl h, fun _ => ⟨ms, cs, hMC.out.1, hMC.out.2, rfl⟩⟩, hB3.out.trans (hv.below.mono hB3.out.size)⟩
      cases fin
      · go_wp2
        go_ret2
        refine hfin.out _ _ ?_
        rw [← hXf.out]
        show TxO wc _ _ (xs ++ [])
        rw [List.append_nil]
        exact hO.out
      · go_wp2_with (at_builtin; refine wpList_append_own_at _ rfl (.tmp 136) (.tmp 137) 22 rfl wc.heap.size 9 i0 (.string ByteArray.empty) 1 16 Tryz.underlying22 hi hz0 hz1 hz2 rfl (by decide) _ _ _ rfl (hO.out.own.alloc _) ⟨_, 0, none⟩ 2 2 [.string ⟨#[119, 10]⟩, .string ⟨#[113, 10]⟩] rfl rfl (cells_two _ _ _ _) (by simp [Value.oneCell']) (by have := hL2.out; unfold maxLen; (try simp) <;> omega) (by have := hL2.out; (try simp) <;> omega) (by have := hO.out.below.size; simp <;> omega) ?_; intro v9 w9 hown hg1 hnil1 hloc1; have hO9 := Lib.hid (hO.out.pushes (ys := tailS true) rfl hown hg1); clear hown hg1 hnil1 hloc1)
        go_ret2
        refine hfin.out _ _ ?_
        rw [← hXf.out]
        exact hO9.out
    | succ i =>
      obtain rfl : z = (i : Int) := by have := hzk.out; omega
      have hlt2 : i < n5 := by omega
      obtain ⟨b, o, ck, A6, n6, c6, rfl, hb6, hck, y0, y1, y2, y3, hn6, hc6, hS⟩ := hcs.out.2.2.1.at_ (k := i) hlt2
      have hmem := List.mem_of_getElem? hck
      obtain ⟨st, ⟨f, t⟩, spans⟩ := ck
      have hsl : spans.length = 2 := (hLd.out.lies hmem).2.2.2
      obtain ⟨s0, s1, rfl⟩ := two_of hsl
      obtain ⟨sp, p1, p2, p3, p4, -⟩ := hLd.out.side hmem (s := 0) (d := mine) rfl
      obtain rfl : s0 = sp := by simpa using p1
      obtain ⟨l1, l2, l3⟩ := laid_parts hLd.out hmem
      obtain ⟨f0, t0⟩ := s0
      dsimp only at p2 p3 p4 y0 y1 y2 hS
      obtain ⟨f0, rfl⟩ := Int.eq_ofNat_of_zero_le p2
      obtain ⟨t0, rfl⟩ := Int.eq_ofNat_of_zero_le (Int.le_trans p2 p3)
      have hn62 : n6 = 2 := hS.len.symm
      subst hn62
      obtain ⟨b7, o7, s, rfl, hb7, hs7, z0, z1⟩ := hS.at_ (k := 0) (by omega)
      obtain rfl : ((f0 : Int), (t0 : Int)) = s := by simpa using hs7
      dsimp only at z0 z1
      rw [Nat.zero_mul, Nat.add_zero] at z0 z1
      have hmm := hsmh.out.2 mine (by simp)
      have hft : f0 ≤ 90 ∧ t0 ≤ 90 := by omega
      have hst : Hid (∀ W, Below wc.heap.size wc W → W.cell? ⟨b, o + i * 4, none⟩ = some (.bool st) ∧ W.cell? ⟨b, o + i * 4 + 3, none⟩ = some (.slice (some ⟨b7, o7, none⟩) 2 c6) ∧ W.cell? ⟨b7, o7, none⟩ = some (.int .i64 f0) ∧ W.cell? ⟨b7, o7 + 1, none⟩ = some (.int .i64 t0)) := Lib.hid (fun W hW => ⟨(hW.cell (p := ⟨b, o + i * 4, none⟩) hb6).trans y0, (hW.cell (p := ⟨b, o + i * 4 + 3, none⟩) hb6).trans y3, (hW.cell (p := ⟨b7, o7, none⟩) hb7).trans z0, (hW.cell (p := ⟨b7, o7 + 1, none⟩) hb7).trans z1⟩)
      have hPt := fun (W : World) (hW : Below wc.heap.size wc W) => rParts_any st f t [((f0 : Int), (t0 : Int)), s1] (some ⟨b7, o7, none⟩) 2 c6 A1 n1 c1 older (some ⟨w.heap.size + 1, 0, none⟩) 2 2 [(A0, n0, c0), (A2, n2, c2)] [mine, yours] W (by omega) (by decide) ((hS.keep (fun p hp => hW.cell hp)).more hW.size) (hT1.out W (hB3.out.trans (hW.mono hB3.out.size))) (hR0.out.up hW)
      rw [l1, l2, l3] at hPt
      have hPs : cutsP (st, (f, t), [((f0 : Int), (t0 : Int)), s1]) [mine, yours] = [cutS (st, (f, t), [((f0 : Int), (t0 : Int)), s1]) 0 mine, cutS (st, (f, t), [((f0 : Int), (t0 : Int)), s1]) 1 yours] := rfl
      rw [hPs] at hPt
      have hMs := small_cut (l := mine) (f := f0) (t := t0) hmm
      have hYs := small_cut (l := yours) (f := s1.1) (t := s1.2) (hsmh.out.2 yours (by simp))
      have hBs := small_cut (l := older) (f := f) (t := t) (hsmh.out.2 older (by simp))
      obtain ⟨d, hd⟩ : ∃ d, doesF c (kindF (cutS (st, (f, t), [((f0 : Int), (t0 : Int)), s1]) 0 mine) (cutB (st, (f, t), [((f0 : Int), (t0 : Int)), s1]) older) (cutS (st, (f, t), [((f0 : Int), (t0 : Int)), s1]) 1 yours)) = d := ⟨_, rfl⟩
      have hci := cmds_is (mine := mine) (older := older) (yours := yours) d hd
      rw [show ((f0 : Int), (t0 : Int)).1.toNat = f0 from by simp, show ((f0 : Int), (t0 : Int)).2.toNat = t0 from by simp] at hci
      have hdle : d ≤ 3 := by rw [← hd]; exact does_le
      have hXn : Hid ((cs.drop i).reverse.flatMap (fun ck => cmdsD c (chunkC mine older yours ck)) = xs ++ cmdsD c (chunkC mine older yours (st, (f, t), [((f0 : Int), (t0 : Int)), s1]))) := Lib.hid (by rw [hX.out]; exact rev_step hck)
      obtain ⟨M, hM⟩ : ∃ M, cutS (st, (f, t), [((f0 : Int), (t0 : Int)), s1]) 0 mine = M := ⟨_, rfl⟩
      obtain ⟨Y, hY⟩ : ∃ M, cutS (st, (f, t), [((f0 : Int), (t0 : Int)), s1]) 1 yours = M := ⟨_, rfl⟩
      obtain ⟨B, hB⟩ : ∃ M, cutB (st, (f, t), [((f0 : Int), (t0 : Int)), s1]) older = M := ⟨_, rfl⟩
      obtain ⟨Z, hZ⟩ : ∃ Z, cmdsD c (chunkC mine older yours (st, (f, t), [((f0 : Int), (t0 : Int)), s1])) = Z := ⟨_, rfl⟩
      change (cutS (st, (f, t), [((f0 : Int), (t0 : Int)), s1]) 0 mine).length ≤ 90 ∧ ∀ s ∈ (cutS (st, (f, t), [((f0 : Int), (t0 : Int)), s1]) 0 mine), s.length ≤ 1000 at hMs
      change (cutS (st, (f, t), [((f0 : Int), (t0 : Int)), s1]) 1 yours).length ≤ 90 ∧ ∀ s ∈ (cutS (st, (f, t), [((f0 : Int), (t0 : Int)), s1]) 1 yours), s.length ≤ 1000 at hYs
      change (cutB (st, (f, t), [((f0 : Int), (t0 : Int)), s1]) older).length ≤ 90 ∧ ∀ s ∈ (cutB (st, (f, t), [((f0 : Int), (t0 : Int)), s1]) older), s.length ≤ 1000 at hBs
      rw [hM] at hPt hMs hd
      rw [hY] at hPt hYs hci hd
      rw [hB] at hPt hBs hci hd
      rw [hZ] at hci hXn
      have hcl : Hid (Z.length ≤ 190) := Lib.hid (by have := cmds_ln c (chunkC mine older yours (st, (f, t), [((f0 : Int), (t0 : Int)), s1])); rw [hZ] at this; unfold chunkC at this; dsimp only at this; rw [hB, hY] at this; have := hYs.1; have := hBs.1; omega)
      have hPth := Lib.hid hPt
      have hKn : Hid (∀ (r0 r1 r2 : Slc) (W : World), TxR W W.heap.size r0 M → TxR W W.heap.size r1 B → TxR W W.heap.size r2 Y → Calls Tryz.prog 27 #[.slice r0.1 r0.2.1 r0.2.2, .slice r1.1 r1.2.1 r1.2.2, .slice r2.1 r2.2.1 r2.2.2] W fun e w' => e = .returned (.int .i64 (kindF M B Y : Nat)) ∧ Below W.heap.size W w') := Lib.hid (fun r0 r1 r2 W a1 a2 a3 => rfKind_any r0.1 r0.2.1 r0.2.2 M r1.1 r1.2.1 r1.2.2 B r2.1 r2.2.1 r2.2.2 Y W a1 a2 a3)
      have hDs : Hid (∀ W, Calls Tryz.prog 26 #[.int .u8 (c.toNat : Int), .int .i64 (kindF M B Y : Nat)] W fun e w' => e = .returned (.int .i64 (d : Nat)) ∧ w' = W) := Lib.hid (fun W => by have := rfDoes_any c (kindF M B Y : Nat) W (by have := kind_le (mine := M) (older := B) (yours := Y); unfold inR64; omega); rwa [hd] at this)
      obtain ⟨K, hKK⟩ : ∃ K, kindF M B Y = K := ⟨_, rfl⟩
      rw [hKK] at hKn hDs
      have hTk : Hid (∀ (r : Slc) (W : World), TxR W W.heap.size r Y → Calls Tryz.prog 28 #[.int .i64 ((f0 + 1 : Nat) : Int), .int .i64 (t0 : Int), .slice r.1 r.2.1 r.2.2] W fun e w' => OwnT W w' e (takeD f0 t0 Y)) := Lib.hid (fun r W h => rTake_any f0 t0 r.1 r.2.1 r.2.2 Y W (small_of hYs).1 (by omega) (by omega) h)
      have hBr : Hid (∀ (bb : Bool) (r1 r2 : Slc) (W : World), TxR W W.heap.size r1 B → TxR W W.heap.size r2 Y → Calls Tryz.prog 29 #[.int .i64 ((f0 + 1 : Nat) : Int), .int .i64 (t0 : Int), .slice r1.1 r1.2.1 r1.2.2, .slice r2.1 r2.2.1 r2.2.2, .bool bb] W fun e w' => OwnT W w' e (bracketD f0 t0 bb B Y)) := Lib.hid (fun bb r1 r2 W a1 a2 => rBracket_any f0 t0 r1.1 r1.2.1 r1.2.2 B r2.1 r2.2.1 r2.2.2 Y bb W (small_of hBs).2 (small_of hYs).2 (by omega) (by omega) a1 a2)
      have hw1 : IntKind.i64.wrap ((f0 : Int) + 1) = ((f0 + 1 : Nat) : Int) := by rw [IntWalk.i64_in _ (by omega)]; omega
      have hw2 : IntKind.i64.wrap ((i : Int) - 1) = (i : Int) - 1 := IntWalk.i64_in _ (by omega)
      have hi1 : (0 : Int) ≤ (i : Int) := by omega
      have hi2 : (i : Int) < (n5 : Int) := by omega
      have hbo2 := hbo.out
      have x1 := (hbo2.cell (p := ⟨w.heap.size, 1, none⟩) hltc.out).trans x1h.out
      have yy1 := (hbo2.cell (p := ⟨b, o + i * 4 + 1, none⟩) hb6).trans y1
      have yy2 := (hbo2.cell (p := ⟨b, o + i * 4 + 2, none⟩) hb6).trans y2
      clear y0 y1 y2 y3 z0 z1
      obtain ⟨y0, y3, z0, z1⟩ := hst.out wo hbo2
      have hLn : Hid (xs.length + Z.length ≤ (n5 - i) * 200) := Lib.hid (by have := hL.out; have := hcl.out; omega)
      clear hPt hd hM hY hB hZ hKK hMs hYs hBs hPs hS hck hmem hsl p1 p2 p3 p4 l1 l2 l3 hmm hs7 hbo2 hLd hMC
      have hwl : w.heap.size < wo.heap.size := Nat.lt_of_lt_of_le hltc.out hbo.out.size
      have hbl : b < wo.heap.size := Nat.lt_of_lt_of_le hb6 hbo.out.size
      have hOd := Lib.hid (hO.out.call (below_drewN (Below.refl _ _) 1))
      have hbd := Lib.hid (below_drewN hbo.out 1)
      go_upto_region 13 with fail
      go_region_held3 (fun wx : World => wx.cell? ⟨w.heap.size, 1, none⟩ = some (.slice A1 n1 c1) ∧ wx.cell? ⟨b, o + i * 4, none⟩ = some (.bool st) ∧ wx.cell? ⟨b, o + i * 4 + 1, none⟩ = some (.int .i64 f) ∧ wx.cell? ⟨b, o + i * 4 + 2, none⟩ = some (.int .i64 t) ∧ wx.cell? ⟨b, o + i * 4 + 3, none⟩ = some (.slice (some ⟨b7, o7, none⟩) 2 c6))
        (first
          | exact ⟨x1, y0, yy1, yy2, y3⟩
          | exact ⟨(hb2.cell (p := ⟨w.heap.size, 1, none⟩) hwl).trans x1, (hb2.cell (p := ⟨b, o + i * 4, none⟩) hbl).trans y0, (hb2.cell (p := ⟨b, o + i * 4 + 1, none⟩) hbl).trans yy1, (hb2.cell (p := ⟨b, o + i * 4 + 2, none⟩) hbl).trans yy2, (hb2.cell (p := ⟨b, o + i * 4 + 3, none⟩) hbl).trans y3⟩)
        ((go_at_call 25; refine (hPth.out _ (by first | exact hbo.out | exact hbd.out)).mono ?_; rintro e w2 ⟨A8, n8, c8, A9, n9, c9, rows9, rfl, hTb, r1, r2, hR9, hb2⟩; have hO2 : Hid (TxO wc w2 v xs) := Lib.hid (by first | exact hO.out.call hb2 | exact hOd.out.call hb2); have hTbh := Lib.hid hTb; have hR9h := Lib.hid hR9; clear hTb hR9))
      have e9 : n9 = 2 := hR9h.out.len.symm
      subst e9
      obtain ⟨b9, o9, A10, n10, c10, dM, rfl, hb9, hdM, hrM, u0, v1, v2, v3⟩ := hR9h.out.at_ (k := 0) (by omega)
      obtain ⟨b9', o9', A11, n11, c11, dY, hA9, hb9', hdY, hrY, u1, v4, v5, v6⟩ := hR9h.out.at_ (k := 1) (by omega)
      cases hA9
      obtain rfl : M = dM := by simpa using hdM
      obtain rfl : Y = dY := by simpa using hdY
      have hTM : Hid (TxR w2 w2.heap.size (A10, n10, c10) M) := Lib.hid ⟨v1, v2, v3⟩
      have hTY : Hid (TxR w2 w2.heap.size (A11, n11, c11) Y) := Lib.hid ⟨v4, v5, v6⟩
      rw [Nat.add_zero] at u0
      have hu1 : Hid (∀ W, Below w2.heap.size w2 W → W.cell? ⟨b9, o9 + 1, none⟩ = some (.slice A11 n11 c11)) := Lib.hid (fun W hW => (hW.cell (p := ⟨b9, o9 + 1, none⟩) hb9).trans u1)
      have hKw := Lib.hid (fun (W : World) (hW : Below w2.heap.size w2 W) => hKn.out (A10, n10, c10) (A8, n8, c8) (A11, n11, c11) W (hTM.out.up hW) (hTbh.out.up hW) (hTY.out.up hW))
      have hbr := Lib.hid (Below.refl w2.heap.size w2)
      have hbs := Lib.hid (below_drewN (Below.refl w2.heap.size w2) 1)
      have hb9l : b9 < w2.heap.size := hb9
      clear hdM hdY v1 v2 v3 v4 v5 v6 hrM hrY hb9 hb9'
      go_upto_region 14 with fail
      go_region_held3 (fun wx : World => wx.cell? ⟨b9, o9, none⟩ = some (.slice A10 n10 c10) ∧ wx.cell? ⟨b9, o9 + 1, none⟩ = some (.slice A11 n11 c11))
        (first
          | exact ⟨u0, u1⟩
          | exact ⟨(hb4.cell (p := ⟨b9, o9, none⟩) hb9l).trans u0, (hb4.cell (p := ⟨b9, o9 + 1, none⟩) hb9l).trans u1⟩)
        (first
          | (go_at_call 27; refine (hKw.out _ (by first | exact hbr.out | exact hbs.out)).mono ?_; rintro e w4 ⟨rfl, hb4⟩; have hB4 : Hid (Below w2.heap.size w2 w4) := Lib.hid (by first | exact hb4 | exact hbs.out.trans hb4))
          | (go_at_call 26; refine (hDs.out _).mono ?_; rintro e w5 ⟨rfl, hww⟩; have hws := hww.symm; clear hww; subst hws))
      have hO4 := Lib.hid (hO2.out.call hB4.out)
      clear y0 y3 z0 z1 x1 yy1 yy2 u0 u1
      obtain ⟨y0, y3, z0, z1⟩ := hst.out w4 hO4.out.below
      have u1 := hu1.out w4 hB4.out
      have hTB4 := Lib.hid (hTbh.out.up hB4.out)
      have hTY4 := Lib.hid (hTY.out.up hB4.out)
      rcases (by cases st <;> simp <;> omega : st = true ∨ (st = false ∧ d = 0) ∨ (st = false ∧ d = 1) ∨ (st = false ∧ d = 2) ∨ (st = false ∧ d = 3)) with rfl | ⟨rfl, rfl⟩ | ⟨rfl, rfl⟩ | ⟨rfl, rfl⟩ | ⟨rfl, rfl⟩
      · have hZq := Lib.hid (hci.1 rfl)
        clear hci hcl
        go_wp2
        go_roundw
        case rel => exact ⟨i, (i : Int) - 1, v, xs, by omega, by go_num, Lib.hid rfl, rfl, hO4, Lib.hid (by rw [hXn.out, hZq.out, List.append_nil]), Lib.hid (by have := hLn.out; omega)⟩
        case measure => simp [intOf]
      · have hZq := Lib.hid (hci.2.1 rfl rfl)
        clear hci hcl
        go_wp2
        go_roundw
        case rel => exact ⟨i, (i : Int) - 1, v, xs, by omega, by go_num, Lib.hid rfl, rfl, hO4, Lib.hid (by rw [hXn.out, hZq.out, List.append_nil]), Lib.hid (by have := hLn.out; omega)⟩
        case measure => simp [intOf]
      · have hTl : Hid ((takeD f0 t0 Y).length ≤ 190) := Lib.hid (by have := hcl.out; rwa [hci.2.2.1 rfl rfl] at this)
        have hZq := Lib.hid (hci.2.2.1 rfl rfl)
        clear hci hcl
        go_wp2_with (first
          | (go_at_call 28; refine (hTk.out (A11, n11, c11) w4 hTY4.out).mono ?_; rintro e w6 ⟨u6, rfl, hu6⟩; have hO6 := Lib.hid (hO4.out.call hu6.below); obtain ⟨A12, c12, hv12, l1, l2, hr12⟩ := own_slice hu6.own; subst hv12; have hr12h := Lib.hid hr12; clear hu6 l1 l2 hr12)
          | (at_builtin; refine wpList_append_reads _ rfl (.tmp 106) (.tmp 112) 22 rfl wc.heap.size 9 i0 (.string ByteArray.empty) 16 Tryz.underlying22 hi hz0 hz1 hz2 rfl _ _ _ rfl hO6.out.own _ A12 _ c12 _ rfl hr12h.out (strs_one _) (by have := hL2.out; have := hTl.out; unfold maxLen; omega) (by have := hL2.out; have := hTl.out; omega) hO6.out.below.size ?_; intro v7 w7 hown hg1; have hO7 := Lib.hid (hO6.out.put (ys := takeD f0 t0 Y) rfl hown hg1); clear hown hg1 y0; obtain ⟨y0, -⟩ := hst.out w7 hO7.out.below))
        go_roundw
        case rel => exact ⟨i, (i : Int) - 1, v7, _, by omega, by go_num, Lib.hid rfl, rfl, hO7, Lib.hid (by rw [hXn.out, hZq.out]), Lib.hid (by have := hLn.out; rw [hZq.out] at this; rw [List.length_append]; exact this)⟩
        case measure => simp [intOf]
      · have hTl : Hid ((bracketD f0 t0 false B Y).length ≤ 190) := Lib.hid (by have := hcl.out; rwa [hci.2.2.2.1 rfl rfl] at this)
        have hZq := Lib.hid (hci.2.2.2.1 rfl rfl)
        clear hci hcl
        go_wp2_with (first
          | (go_at_call 29; refine (hBr.out false (A8, n8, c8) (A11, n11, c11) w4 hTB4.out hTY4.out).mono ?_; rintro e w6 ⟨u6, rfl, hu6⟩; have hO6 := Lib.hid (hO4.out.call hu6.below); obtain ⟨A12, c12, hv12, l1, l2, hr12⟩ := own_slice hu6.own; subst hv12; have hr12h := Lib.hid hr12; clear hu6 l1 l2 hr12)
          | (at_builtin; refine wpList_append_reads _ rfl (.tmp 124) (.tmp 133) 22 rfl wc.heap.size 9 i0 (.string ByteArray.empty) 16 Tryz.underlying22 hi hz0 hz1 hz2 rfl _ _ _ rfl hO6.out.own _ A12 _ c12 _ rfl hr12h.out (strs_one _) (by have := hL2.out; have := hTl.out; unfold maxLen; omega) (by have := hL2.out; have := hTl.out; omega) hO6.out.below.size ?_; intro v7 w7 hown hg1; have hO7 := Lib.hid (hO6.out.put (ys := bracketD f0 t0 false B Y) rfl hown hg1); clear hown hg1 y0; obtain ⟨y0, -⟩ := hst.out w7 hO7.out.below))
        go_roundw
        case rel => exact ⟨i, (i : Int) - 1, v7, _, by omega, by go_num, Lib.hid rfl, rfl, hO7, Lib.hid (by rw [hXn.out, hZq.out]), Lib.hid (by have := hLn.out; rw [hZq.out] at this; rw [List.length_append]; exact this)⟩
        case measure => simp [intOf]
      · have hTl : Hid ((bracketD f0 t0 true B Y).length ≤ 190) := Lib.hid (by have := hcl.out; rwa [hci.2.2.2.2 rfl rfl] at this)
        have hZq := Lib.hid (hci.2.2.2.2 rfl rfl)
        clear hci hcl
        go_wp2_with (first
          | (go_at_call 29; refine (hBr.out true (A8, n8, c8) (A11, n11, c11) w4 hTB4.out hTY4.out).mono ?_; rintro e w6 ⟨u6, rfl, hu6⟩; have hO6 := Lib.hid (hO4.out.call hu6.below); obtain ⟨A12, c12, hv12, l1, l2, hr12⟩ := own_slice hu6.own; subst hv12; have hr12h := Lib.hid hr12; clear hu6 l1 l2 hr12)
          | (at_builtin; refine wpList_append_reads _ rfl (.tmp 124) (.tmp 133) 22 rfl wc.heap.size 9 i0 (.string ByteArray.empty) 16 Tryz.underlying22 hi hz0 hz1 hz2 rfl _ _ _ rfl hO6.out.own _ A12 _ c12 _ rfl hr12h.out (strs_one _) (by have := hL2.out; have := hTl.out; unfold maxLen; omega) (by have := hL2.out; have := hTl.out; omega) hO6.out.below.size ?_; intro v7 w7 hown hg1; have hO7 := Lib.hid (hO6.out.put (ys := bracketD f0 t0 true B Y) rfl hown hg1); clear hown hg1 y0; obtain ⟨y0, -⟩ := hst.out w7 hO7.out.below))
        go_roundw
        case rel => exact ⟨i, (i : Int) - 1, v7, _, by omega, by go_num, Lib.hid rfl, rfl, hO7, Lib.hid (by rw [hXn.out, hZq.out]), Lib.hid (by have := hLn.out; rw [hZq.out] at this; rw [List.length_append]; exact this)⟩
        case measure => simp [intOf]
theorem rScript_any (c : UInt8) (A0 : Option Addr) (n0 c0 : Nat) (mine : Txs) (A1 : Option Addr) (n1 c1 : Nat) (older : Txs) (A2 : Option Addr) (n2 c2 : Nat) (yours : Txs) (fin : Bool) (w : World) (hsm : smallR older [mine, yours])
    (h0 : TxR w w.heap.size (A0, n0, c0) mine) (h1 : TxR w w.heap.size (A1, n1, c1) older) (h2 : TxR w w.heap.size (A2, n2, c2) yours) :
    Calls Tryz.prog 12 #[.int .u8 (c.toNat : Int), .agg #[.slice A0 n0 c0, .slice A1 n1 c1, .slice A2 n2 c2], .bool fin] w fun e w' => ScrOut w w' e c mine older yours fin := by
  by_cases he : errS c mine older yours = 0
  · exact rScript_good c A0 n0 c0 mine A1 n1 c1 older A2 n2 c2 yours fin w hsm h0 h1 h2 he
  · exact rScript_bad c A0 n0 c0 mine A1 n1 c1 older A2 n2 c2 yours fin w hsm h0 h1 h2 he
end Go.Proofs.YtoopdgohdeddoaaGreatDoor
