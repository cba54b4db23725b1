/- Proved here: texts joined: ZlTrm, ConZeal. -/
import Derived.Test.YtcpopnhnihbofaaGreatDoorBe15
import Derived.Test.YtcpopnhnihbofaaGreatDoorBe17
import Derived.Test.YtcpopnhnihbofaaGreatDoorBe31
import Derived.Test.YtcpopnhnihbofaaGreatDoorBe39
import Derived.Deep.RegionHeld3
/- Proved here: the contract of the landed package zeal's trimmed: a conflict between texts. -/
namespace Go.Proofs.YtcpopnhnihbofaaGreatDoor
open Go.RowKit
set_option linter.unusedVariables false
set_option maxRecDepth 100000

/-- How far the sides that are left have been laid. -/
structure LeftIn (w W1 wr : World) (n G k a b : Nat) (ds : List Txs) (rs : List Slc) : Prop where
  row : wr.rowIs G 25 n (rowF rs)
  far : G = W1.heap.size
  len : rs.length = k
  below : Below W1.heap.size W1 wr
  each : ∀ (i : Nat) (r : Slc) (d : Txs), rs[i]? = some r → ds[i]? = some d → TxR w w.heap.size r (leftD a b d)
section
variable {w W1 wr w1 : World} {n G k a b : Nat} {ds : List Txs} {rs : List Slc}
theorem LeftIn.start : LeftIn w W1 (W1.alloc (.cells (madeCells #[.slice none 0 0] n) 25)) n W1.heap.size 0 a b ds [] :=
  ⟨(World.rowIs_made W1 _ _ _).congr fun i _ => rfl, rfl, rfl, below_alloc (Below.refl _ _) _, fun i r d h => by simp at h⟩
theorem LeftIn.put {A : Option Addr} {m c : Nat} {d : Txs} (h : LeftIn w W1 wr n G k a b ds rs) (hd : ds[k]? = some d) (hT : TxR w w.heap.size (A, m, c) (leftD a b d)) : LeftIn w W1 (wr.setCell ⟨G, k, none⟩ (.slice A m c)) n G (k + 1) a b ds (rs ++ [(A, m, c)]) := by
  have hb1 : But (fun j => j = G) wr (wr.setCell ⟨G, k, none⟩ (.slice A m c)) := But.setCell (F := fun j => j = G) wr (p := ⟨G, k, none⟩) rfl _
  have hlen := h.len
  refine ⟨rowF_set (r := (A, m, c)) h.row h.len, h.far, by simp [h.len], h.below.trans (hb1.below h.below.size (by rintro q rfl; exact Nat.le_of_eq h.far.symm)), fun i r l' h1 h2 => ?_⟩
  rcases Nat.lt_or_ge i rs.length with hi | hi
  · rw [List.getElem?_append_left hi] at h1
    exact h.each i r l' h1 h2
  · rw [List.getElem?_append_right hi] at h1
    have hik : i = k := by
      have := (List.getElem?_eq_some_iff.1 h1).1
      simp at this
      omega
    subst hik
    simp [hlen] at h1
    rw [hd] at h2
    injection h2 with h2
    subst h1
    subst h2
    exact hT
theorem LeftIn.done (h : LeftIn w W1 wr n G n a b ds rs) (hds : ds.length = n) (hn : n ≤ maxLen) (hb0 : Below w.heap.size w W1) (hb : Below wr.heap.size wr w1) : SlcR w1 w1.heap.size (some ⟨G, 0, none⟩, n, n) (ds.map (leftD a b)) := by
  have hbw : Below w.heap.size w wr := hb0.trans (h.below.mono hb0.size)
  refine ⟨Nat.le_refl _, hn, rs, ?_, by rw [List.length_map, hds]; exact h.len, fun k r ss e1 e2 => ?_⟩
  · refine reads_of_row (h.row.of_block (hb.block G h.row.lt)) _ (by rw [List.length_map]; exact h.len) fun i u hu => ?_
    rw [List.getElem?_map] at hu
    unfold rowF
    rw [List.getD_eq_getElem?_getD]
    cases h : rs[i]? with
    | none => rw [h] at hu; cases hu
    | some r => rw [h] at hu; simpa using hu
  · rw [List.getElem?_map] at e2
    cases hd : ds[k]? with
    | none => rw [hd] at e2; cases e2
    | some d =>
      rw [hd] at e2
      injection e2 with e2
      subst e2
      exact (h.each k r d e1 hd).up (hbw.trans (hb.mono hbw.size))
end

set_option maxHeartbeats 8000000 in
theorem trimmed_any (v : PcV) (t bs f : Txs) (ds : List Txs) (w : World) (hsm : smallP (true, t, bs, f :: ds)) (hP : PcR w w.heap.size v (true, t, bs, f :: ds)) (hne : ¬ ∀ d ∈ f :: ds, d = f) :
    Calls Tryz.prog 79 #[.agg #[.bool true, .slice v.1.1 v.1.2.1 v.1.2.2, .slice v.2.1.1 v.2.1.2.1 v.2.1.2.2, .slice v.2.2.1 v.2.2.2.1 v.2.2.2.2]] w fun e w' => PcsOut w w' e (trimL bs f (f :: ds)) := by
  obtain ⟨⟨A1, n1, c1⟩, ⟨A2, n2, c2⟩, ⟨A3, n, c⟩⟩ := v
  obtain ⟨hP1, hP2, hnc, hcm, rows, hA⟩ := hP
  dsimp only at hP1 hP2 hnc hcm hA ⊢
  obtain ⟨xs, hxs⟩ : ∃ xs, xs = f :: ds := ⟨_, rfl⟩
  rw [← hxs] at hA hsm hne ⊢
  have hl := hA.len
  have hn1 : 0 < n := by rw [← hl, hxs]; simp
  have hf0 : xs[0]? = some f := by rw [hxs]; rfl
  have hfm : Hid (f ∈ xs) := Lib.hid (List.mem_of_getElem? hf0)
  obtain ⟨hs1, hs2, hs3, -⟩ := hsm
  dsimp only at hs1 hs2 hs3
  have hn1000 : n ≤ 1000 := by omega
  obtain ⟨b, o, Af, nf, cf, f', rfl, hb, ht, hr, hcell, hncf, hcmf, hst⟩ := hA.at_ (k := 0) hn1
  have hff : f' = f := by rw [hf0] at ht; injection ht with e; exact e.symm
  subst hff
  have hnf : f'.length = nf := hst.len
  obtain ⟨W0, hW0⟩ : ∃ W0, W0 = w.alloc (.cells #[.bool true, .slice A1 n1 c1, .slice A2 n2 c2, .slice (some ⟨b, o, none⟩) n c] 40) := ⟨_, rfl⟩
  have k0 : W0.heap[w.heap.size]? = some (pcObj true ((A1, n1, c1), (A2, n2, c2), (some ⟨b, o, none⟩, n, c))) := by rw [hW0]; exact one_a w _
  have hb0 : Below w.heap.size w W0 := by rw [hW0]; exact below_alloc (Below.refl _ _) _
  have hlt0 : Hid (w.heap.size < W0.heap.size) := Lib.hid (Array.getElem?_eq_some_iff.1 k0).1
  have hbo : b < w.heap.size := hb
  have hcells : Hid (∀ W, Below W0.heap.size W0 W → W.cell? ⟨w.heap.size, 2, none⟩ = some (.slice A2 n2 c2) ∧ W.cell? ⟨w.heap.size, 3, none⟩ = some (.slice (some ⟨b, o, none⟩) n c) ∧ W.cell? ⟨b, o, none⟩ = some (.slice Af nf cf) ∧ Below w.heap.size w W) := Lib.hid (fun W hW => by
    have e := (hW.block _ hlt0.out).trans k0
    have hbw := hb0.trans (hW.mono hb0.size)
    exact ⟨by rw [cells_of e]; rfl, by rw [cells_of e]; rfl, (hbw.cell (p := ⟨b, o, none⟩) hbo).trans hcell, hbw⟩)
  have hTf : Hid (TxR w w.heap.size (Af, nf, cf) f') := Lib.hid ⟨hncf, hcmf, hst⟩
  have hlen : Hid (∀ (k : Nat) (A1 : Option Addr) (n1 c1 : Nat) (d : Txs), rows[k]? = some (A1, n1, c1) → xs[k]? = some d → d.length = n1 ∧ n1 ≤ 10000 ∧ Strs w w.heap.size A1 n1 d) := Lib.hid (fun k A1 n1 c1 d h1 h2 => by
    have h3 := (hA.2.2 k _ _ h1 h2).2.2
    have h4 := h3.len
    have h5 := hs3 d (List.mem_of_getElem? h2)
    dsimp only at h3 h4
    exact ⟨h4, by omega, h3⟩)
  have hSh : Hid (∀ W, Below w.heap.size w W → Calls Tryz.prog 99 #[.slice (some ⟨b, o, none⟩) n c] W fun e w' => (∃ m : Nat, e = .returned (.int .i64 m) ∧ MinL xs m) ∧ w' = W) := Lib.hid (fun W hW => shortest_any _ n c W.heap.size rows xs W hn1000 hn1 (hA.up hW))
  have hm4 : Hid (∀ m, MinL xs m → m ≤ 10000) := Lib.hid (fun m hm => by have := hm.1 f' hfm.out; have := hs3 f' hfm.out; omega)
  have hBeg : Hid (∀ (m : Nat) (W : World), MinL xs m → Below w.heap.size w W → Calls Tryz.prog 100 #[.int .i64 (m : Int), .func (.func 97) #[] #[], .slice (some ⟨b, o, none⟩) n c] W fun e w' => (∃ r : Nat, e = .returned (.int .i64 r) ∧ AlikeN begAt f' xs m r) ∧ Below W.heap.size W w') := Lib.hid (fun m W hm hW =>
    alike_any 97 begAt _ n c m rows xs f' W hn1000 (by have := hm4.out m hm; omega) (hA.up hW) hf0 (enters_of Tryz.func97 (by kernel_rfl) rfl) (fun W2 hW2 q k i A1 n1 c1 d hi h1 h2 => by
      obtain ⟨e1, e2, e3⟩ := hlen.out k A1 n1 c1 d h1 h2
      have e4 := hm.1 d (List.mem_of_getElem? h2)
      exact fromBegin_any A1 n1 c1 (W2.drewN q).heap.size i d (W2.drewN q) (by omega) (by omega) (e3.up (below_drewN (hW.trans (hW2.mono hW.size)) q))))
  have hEnd : Hid (∀ (m k : Nat) (W : World), MinL xs m → k ≤ m → Below w.heap.size w W → Calls Tryz.prog 100 #[.int .i64 (k : Int), .func (.func 98) #[] #[], .slice (some ⟨b, o, none⟩) n c] W fun e w' => (∃ r : Nat, e = .returned (.int .i64 r) ∧ AlikeN endAt f' xs k r) ∧ Below W.heap.size W w') := Lib.hid (fun m k W hm hk hW =>
    alike_any 98 endAt _ n c k rows xs f' W hn1000 (by have := hm4.out m hm; omega) (hA.up hW) hf0 (enters_of Tryz.func98 (by kernel_rfl) rfl) (fun W2 hW2 q k2 i A1 n1 c1 d hi h1 h2 => by
      obtain ⟨e1, e2, e3⟩ := hlen.out k2 A1 n1 c1 d h1 h2
      have e4 := hm.1 d (List.mem_of_getElem? h2)
      exact fromEnd_any A1 n1 c1 (W2.drewN q).heap.size i d (W2.drewN q) (by omega) (by omega) (e3.up (below_drewN (hW.trans (hW2.mono hW.size)) q))))
  have hAh := Lib.hid hA
  have hP2h := Lib.hid hP2
  have hlh := Lib.hid hl
  have hW0h := Lib.hid hW0
  have hf0h := Lib.hid hf0
  have hnfh := Lib.hid hnf
  have hneh := Lib.hid hne
  have hb0h := Lib.hid hb0
  have i3 : (0 : Int) < (n : Int) := by omega
  have hmk := make_rows n (by omega)
  have tok1 := trivial
  obtain ⟨x2, x3, y0, -⟩ := hcells.out W0 (Below.refl _ _)
  clear hP1 hP2 hA hl hf0 hs1 hs2 hs3 ht hr hcell hncf hcmf hst hnf hb0 k0 hW0 hne hxs
  go_enter Tryz.func79, Tryz.ntmps79
  go_upto_region 3 with fail
  rw [← hW0h.out]
  go_wp2_with (first
    | (go_at_call 99; refine (hSh.out _ hb0h.out).mono ?_; rintro e w1 ⟨⟨m, rfl, hm⟩, rfl⟩; have hmh := Lib.hid hm; have hm4l := hm4.out m hm; clear hm)
    | (go_at_call 100; have _t := tok1; refine (hBeg.out m _ hmh.out hb0h.out).mono ?_; rintro e w1 ⟨⟨a, rfl, ha⟩, hb1⟩; have hah := Lib.hid ha; have ham := ha.1; obtain ⟨ma, hma⟩ : ∃ ma, m - a = ma := ⟨_, rfl⟩; have hmi : (m : Int) - (a : Int) = (ma : Int) := (by omega); have hmw : IntKind.i64.wrap (ma : Int) = (ma : Int) := IntWalk.i64_in _ (by omega); have hmah := Lib.hid hma; have hB1 := Lib.hid hb1; obtain ⟨z2, z3, z0, -⟩ := hcells.out w1 hb1; clear tok1 ha hma hb1)
    | (go_at_call 100; refine (hEnd.out m ma _ hmh.out (by have := hmah.out; omega) (hcells.out _ hB1.out).2.2.2).mono ?_; rintro e w2 ⟨⟨bb, rfl, hbb⟩, hb2⟩; have hbh := Lib.hid hbb; have hbm := hbb.1; have hB2 := Lib.hid (hB1.out.trans (hb2.mono hB1.out.size)); obtain ⟨v2, v3, v0, hbw2⟩ := hcells.out w2 hB2.out; have hbw2h := Lib.hid hbw2; have hlt2 : w.heap.size < w2.heap.size := Nat.lt_of_lt_of_le hlt0.out hB2.out.size; clear hbb hb2 hbw2))
  have htr := Lib.hid (trimL_is (base := bs) hfm.out hmh.out hah.out (by rw [hmah.out]; exact hbh.out) hneh.out)
  have hwi := Lib.hid (alike_within hmh.out hah.out (by rw [hmah.out]; exact hbh.out))
  have hst := Lib.hid (LeftIn.start (w := w) (W1 := w2) (n := n) (a := a) (b := bb) (ds := xs))
  obtain ⟨G, hG⟩ : ∃ G, w2.heap.size = G := ⟨_, rfl⟩
  rw [hG] at hst ⊢
  have hGh := Lib.hid hG
  clear hG x2 x3 y0 z2 z3 z0 v2 v3 v0 hSh hBeg hEnd hmk
  go_loopw [9, 10, 34] (fun _ _ s34 wr => ∃ (k : Nat) (rs : List Slc), k ≤ n ∧ s34 = .int .i64 k ∧ Hid (LeftIn w w2 wr n G k a bb xs rs)) (fun _ _ s34 _ => n - (intOf s34).toNat)
  case atStart => exact ⟨0, [], Nat.zero_le _, rfl, hst⟩
  case round =>
    obtain ⟨k, rs, hkn, rfl, hL⟩ := hrel
    obtain ⟨wo, rfl⟩ : ∃ wo : World, wo = wr := ⟨_, rfl⟩
    clear hst
    have hbwo : Below w.heap.size w wo := hbw2h.out.trans (hL.out.below.mono hbw2h.out.size)
    by_cases hlt : k < n
    · obtain ⟨b1, o1, A4, n4, c4, d, e1, hb1, hd, hrow, hc, hnc4, hcm4, hSt⟩ := (hAh.out.below hbwo).at_ (k := k) hlt
      injection e1 with e1
      injection e1 with e11 e12
      subst e11
      subst e12
      have i1 : (0 : Int) ≤ (k : Int) := by omega
      have i2 : (k : Int) < (n : Int) := by omega
      obtain ⟨hdl, hd10, -⟩ := hlen.out k A4 n4 c4 d hrow hd
      have hab := hwi.out d (List.mem_of_getElem? hd)
      obtain ⟨r4, hr4⟩ : ∃ r4, n4 - bb = r4 := ⟨_, rfl⟩
      have g4 : (n4 : Int) - (bb : Int) = (r4 : Int) := by omega
      have w4 : IntKind.i64.wrap (r4 : Int) = (r4 : Int) := IntWalk.i64_in _ (by omega)
      obtain ⟨A5, m5, q5, hs5, hT5, -, -⟩ := slice_txs (f := (a : Int)) (t := (r4 : Int)) (hAh.out.2.2 k _ _ hrow hd) (by omega) (by omega) (by omega)
      have hcut : cutL d (a : Int) (r4 : Int) = leftD a bb d := by
        unfold cutL leftD
        rw [Int.toNat_natCast, List.length_drop]
        congr 1
        omega
      rw [hcut] at hT5
      have hnx := Lib.hid (hL.out.put hd hT5)
      have z1 := hL.out.row.cell hlt
      have z2 := hL.out.row.frozen k
      have ia : (0 : Int) ≤ (a : Int) := by omega
      have ib : (a : Int) ≤ (r4 : Int) := by omega
      clear hd hrow hSt hnc4 hcm4 hT5 hcut hr4 hbwo
      go_wp2
      go_roundw
      case rel => exact ⟨k + 1, _, by omega, by go_num, hnx⟩
      case measure => simp [intOf]; omega
    · obtain rfl : k = n := by omega
      have hbL := hB2.out.trans (hL.out.below.mono hB2.out.size)
      obtain ⟨x2, x3, y0, -⟩ := hcells.out wo hbL
      have haf := hwi.out f' hfm.out
      have hnfe := hnfh.out
      obtain ⟨rb, hrb⟩ : ∃ rb : Nat, nf - bb = rb := ⟨_, rfl⟩
      have gb : (nf : Int) - (bb : Int) = (rb : Int) := by omega
      have wb : IntKind.i64.wrap (rb : Int) = (rb : Int) := IntWalk.i64_in _ (by have := hTf.out.1; have := hTf.out.2.1; unfold maxLen at this; dsimp only at *; omega)
      obtain ⟨A11, m11, q11, hs11, hT11, hm11⟩ := slice_to (k := a) hTf.out (by omega)
      obtain ⟨A12, m12, q12, hs12, hT12, hm12⟩ := slice_from (k := rb) hTf.out (by omega)
      have hrbe : rb = f'.length - bb := by omega
      rw [hrbe] at hT12
      have hfin : Hid (∀ W, Below wo.heap.size wo W → W.heap[wo.heap.size]? = some (.cells #[.bool false, .slice A11 m11 q11, .slice none 0 0, .slice none 0 0, .bool true, .slice none 0 0, .slice A2 n2 c2, .slice (some ⟨G, 0, none⟩) k k, .bool false, .slice A12 m12 q12, .slice none 0 0, .slice none 0 0] 40 (0, 0)) → PcsOut w W (.returned (.slice (some ⟨wo.heap.size, 0, none⟩) 3 3)) (trimL bs f' xs)) := Lib.hid (fun W hW hg => by
        rw [htr.out]
        have hbW := hbwo.trans (hW.mono hbwo.size)
        refine ⟨_, 3, 3, _, rfl, Nat.le_refl _, by unfold maxLen; omega, pcs_of (qs := [(((A11, m11, q11), (none, 0, 0), (none, 0, 0)), tPc (f'.take a)), (((none, 0, 0), (A2, n2, c2), (some ⟨G, 0, none⟩, k, k)), cPc bs (xs.map (leftD a bb))), (((A12, m12, q12), (none, 0, 0), (none, 0, 0)), tPc (f'.drop (f'.length - bb)))]) hg rfl rfl fun q hq => ?_, hbW⟩
        simp only [List.mem_cons, List.not_mem_nil, or_false] at hq
        rcases hq with rfl | rfl | rfl
        · exact PcR.text (hT11.up hbW)
        · exact PcR.conf (hP2h.out.up hbW) (hL.out.done hlh.out (by unfold maxLen; omega) hbw2h.out hW)
        · exact PcR.text (hT12.up hbW))
      have hS : Hid (∀ W, Below wo.heap.size wo W → W.cell? ⟨w.heap.size, 2, none⟩ = some (.slice A2 n2 c2)) := Lib.hid (fun W hW => (hcells.out W (hbL.trans (hW.mono hbL.size))).1)
      have hrefl := Below.refl wo.heap.size wo
      clear hT11 hT12 hm11 hm12 hrb hrbe haf hnfe hbL hbwo
      go_wp2
      go_region_held3 (fun wx : World => wx.cell? ⟨w.heap.size, 2, none⟩ = some (.slice A2 n2 c2))
        ((first | exact x2 | (refine hS.out _ ?_; repeat (first | assumption | refine below_drew ?_ | refine below_alloc ?_ _))))
        ((fail))
      go_wp2_with fail
      go_ret
      exact hfin.out _ (below_alloc (below_drew hrefl) _) (Go.Deep.blk_alloc_new _ _)
end Go.Proofs.YtcpopnhnihbofaaGreatDoor
/- What the statements ask of package zeal. -/
namespace Go.Proofs.YtcpopnhnihbofaaGreatDoor
open Go.RowKit
set_option linter.unusedVariables false

/-- The contract of zeal.Trim. -/
def ZealTrimOk : Prop := ∀ (lo : Nat) (v : PcV) (p : Pc) (w : World), lo ≤ w.heap.size → smallP p → PcR w lo v p →
    Calls Tryz.prog 50 #[.agg #[.bool p.1, .slice v.1.1 v.1.2.1 v.1.2.2, .slice v.2.1.1 v.2.1.2.1 v.2.1.2.2, .slice v.2.2.1 v.2.2.2.1 v.2.2.2.2]] w fun e w' => PcsLo lo w w' e (trimD p)
/-- The contract of zeal.Zeal. -/
def ZealZealOk : Prop := ∀ (lo : Nat) (A : Option Addr) (n c : Nat) (vs : List PcV) (ps : List Pc) (w : World), n ≤ c → c ≤ maxLen → lo ≤ w.heap.size → smallZ ps → Pcs w lo A n vs ps →
    Calls Tryz.prog 24 #[.slice A n c] w fun e w' => PcsLo lo w w' e (zealD ps)
end Go.Proofs.YtcpopnhnihbofaaGreatDoor
