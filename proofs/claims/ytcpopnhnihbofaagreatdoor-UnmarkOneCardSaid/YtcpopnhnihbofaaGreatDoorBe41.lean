/- Proved here: texts joined: ZlGo, ConSzR, SzFt. -/
import Derived.Test.YtcpopnhnihbofaaGreatDoorBe16
import Derived.Test.YtcpopnhnihbofaaGreatDoorBe19
import Derived.Test.YtcpopnhnihbofaaGreatDoorBe21
import Derived.Test.YtcpopnhnihbofaaGreatDoorBe29
import Derived.Test.YtcpopnhnihbofaaGreatDoorBe30
import Derived.Test.YtcpopnhnihbofaaGreatDoorBe37
import Derived.Test.YtcpopnhnihbofaaGreatDoorBe40
/- Proved here: the contracts of the landed package zeal's Trim and Zeal. -/
namespace Go.Proofs.YtcpopnhnihbofaaGreatDoor
open Go.RowKit
set_option linter.unusedVariables false
set_option maxRecDepth 100000

theorem smallN_trimL {t bs f : Txs} {ds : List Txs} (h : smallP (true, t, bs, ds)) : smallN (trimL bs f ds) := by
  obtain ⟨-, h1, h2, h3⟩ := h
  dsimp only at h1 h2 h3
  unfold trimL
  dsimp only
  intro p hp
  split at hp
  · rw [List.mem_singleton.1 hp]; exact smallN_text _
  · simp only [List.mem_cons, List.not_mem_nil, or_false] at hp
    rcases hp with rfl | rfl | rfl
    · exact smallN_text _
    · refine ⟨by simp only [cPc, List.length_map]; exact h1, fun d hd => ?_⟩
      simp only [cPc] at hd
      rcases List.mem_cons.1 hd with rfl | hd
      · omega
      · obtain ⟨e, he, rfl⟩ := List.mem_map.1 hd
        have := h2 e he
        unfold leftD
        rw [List.length_take, List.length_drop]
        omega
    · exact smallN_text _
theorem smallN_trimD {p : Pc} (h : smallP p) : smallN (trimD p) := by
  obtain ⟨cf, t, bs, ss⟩ := p
  have one : smallN (normal [(cf, t, bs, ss)]) := smallN_normal (smallN_of fun p hp => by rw [List.mem_singleton.1 hp]; exact h)
  cases cf with
  | false => exact one
  | true =>
    cases ss with
    | nil => exact one
    | cons f ds => exact smallN_normal (smallN_trimL h)
theorem smallN_flat {ps : List Pc} (h : ∀ p ∈ ps, smallP p) : smallN (ps.flatMap trimD) := fun p hp => by
  obtain ⟨q, hq, hp⟩ := List.mem_flatMap.1 hp
  exact smallN_trimD (h q hq) p hp

set_option maxHeartbeats 2000000 in
/-- A piece that stays. -/
theorem trim_stay (lo : Nat) (v : PcV) (p : Pc) (w : World) (hlo : lo ≤ w.heap.size) (hsm : smallP p) (hP : PcR w lo v p) (h : p.1 = false ∨ p.2.2.2 = []) :
    Calls Tryz.prog 50 #[.agg #[.bool p.1, .slice v.1.1 v.1.2.1 v.1.2.2, .slice v.2.1.1 v.2.1.2.1 v.2.1.2.2, .slice v.2.2.1 v.2.2.2.1 v.2.2.2.2]] w fun e w' => PcsLo lo w w' e (trimD p) := by
  have hd : trimD p = normal [p] := by
    rcases h with h | h
    · exact trimD_text h
    · exact trimD_bare h
  rw [hd]
  obtain ⟨cf, t, bs, ss⟩ := p
  obtain ⟨⟨A1, n1, c1⟩, ⟨A2, n2, c2⟩, ⟨A3, n3, c3⟩⟩ := v
  have hn3 : ss.length = n3 := by obtain ⟨_, _, _, h4⟩ := hP.2.2; exact h4.len
  have hs1 : t.length ≤ 5000 := hsm.1
  have hN : Hid (∀ W : World, Below w.heap.size w W → W.heap[w.heap.size + 1]? = some (pcObj cf ((A1, n1, c1), (A2, n2, c2), (A3, n3, c3))) → Calls Tryz.prog 44 #[.slice (some ⟨w.heap.size + 1, 0, none⟩) 1 1] W fun e w' => PcsLo lo w w' e (normal [(cf, t, bs, ss)])) := Lib.hid (fun W hW hg => by
    refine (normal_new _ 1 1 _ [(cf, t, bs, ss)] W (by omega) (by unfold maxLen; omega) (by omega) (by simp [sumT]; omega) (smallN_of fun p hp => by rw [List.mem_singleton.1 hp]; exact hsm) (pcs_one (p := (cf, t, bs, ss)) hg ((hP.more hlo).up hW))).mono ?_
    rintro e w' ⟨A, n, c, vs, h1, h2, h3, h4, h5⟩
    exact ⟨A, n, c, vs, h1, h2, h3, fun w2 hb => h4 w2 (hb.more fun k hk => Nat.lt_of_lt_of_le hk.2 hW.size), hW.trans (h5.mono hW.size)⟩)
  obtain ⟨hB2, hk2⟩ : Below w.heap.size w ((w.alloc (pcObj cf ((A1, n1, c1), (A2, n2, c2), (A3, n3, c3)))).alloc (pcObj cf ((A1, n1, c1), (A2, n2, c2), (A3, n3, c3)))) ∧ ((w.alloc (pcObj cf ((A1, n1, c1), (A2, n2, c2), (A3, n3, c3)))).alloc (pcObj cf ((A1, n1, c1), (A2, n2, c2), (A3, n3, c3)))).heap[w.heap.size + 1]? = some (pcObj cf ((A1, n1, c1), (A2, n2, c2), (A3, n3, c3))) := ⟨below_alloc (below_alloc (Below.refl _ _) _) _, (two_a w _ _).2⟩
  have hh := Lib.hid (And.intro hB2 hk2)
  dsimp only at h ⊢
  clear hP hsm hd hs1 hB2 hk2 hlo
  cases cf
  · clear h
    go_enter Tryz.func50, Tryz.ntmps50
    go_wp2_with (go_at_call 44; refine (hN.out _ hh.out.1 hh.out.2).mono ?_; rintro e w1 ⟨A5, n5, c5, vs5, rfl, q1, q2, q3, q4⟩; have hq := Lib.hid (And.intro q1 (And.intro q2 (And.intro q3 q4))); clear q1 q2 q3 q4)
    go_ret
    exact ⟨A5, n5, c5, vs5, rfl, hq.out⟩
  · have hs : n3 = 0 := by
      rcases h with h | h
      · cases h
      · rw [h] at hn3; exact hn3.symm
    subst hs
    clear h hn3
    go_enter Tryz.func50, Tryz.ntmps50
    go_wp2_with (go_at_call 44; refine (hN.out _ hh.out.1 hh.out.2).mono ?_; rintro e w1 ⟨A5, n5, c5, vs5, rfl, q1, q2, q3, q4⟩; have hq := Lib.hid (And.intro q1 (And.intro q2 (And.intro q3 q4))); clear q1 q2 q3 q4)
    go_ret
    exact ⟨A5, n5, c5, vs5, rfl, hq.out⟩

set_option maxHeartbeats 4000000 in
theorem trim_conf (lo : Nat) (v : PcV) (t bs f : Txs) (ds : List Txs) (w : World) (hlo : lo ≤ w.heap.size) (hsm : smallP (true, t, bs, f :: ds)) (hP : PcR w lo v (true, t, bs, f :: ds)) :
    Calls Tryz.prog 50 #[.agg #[.bool true, .slice v.1.1 v.1.2.1 v.1.2.2, .slice v.2.1.1 v.2.1.2.1 v.2.1.2.2, .slice v.2.2.1 v.2.2.2.1 v.2.2.2.2]] w fun e w' => PcsLo lo w w' e (normal (trimL bs f (f :: ds))) := by
  obtain ⟨⟨A1, n1, c1⟩, ⟨A2, n2, c2⟩, ⟨A3, n, c⟩⟩ := v
  have hPu := hP.more hlo
  obtain ⟨hP1, hP2, hnc, hcm, rows, hA⟩ := hPu
  dsimp only at hP1 hP2 hnc hcm hA ⊢
  have hl := hA.len
  have hn1 : 0 < n := by rw [← hl]; simp
  have hn1000 : n ≤ 1000 := by have := hsm.2.1; dsimp only at this; omega
  obtain ⟨b, o, Af, nf, cf, f', rfl, hb, ht, hr, hcell, hncf, hcmf, hst⟩ := hA.at_ (k := 0) hn1
  have hff : f' = f := by simpa using ht.symm
  subst hff
  have hnf : f'.length = nf := hst.len
  obtain ⟨W0, hW0⟩ : ∃ W0, W0 = w.alloc (.cells #[.bool true, .slice A1 n1 c1, .slice A2 n2 c2, .slice (some ⟨b, o, none⟩) n c] 40) := ⟨_, rfl⟩
  have k0 : W0.heap[w.heap.size]? = some (pcObj true ((A1, n1, c1), (A2, n2, c2), (some ⟨b, o, none⟩, n, c))) := by rw [hW0]; exact one_a w _
  have hb0 : Below w.heap.size w W0 := by rw [hW0]; exact below_alloc (Below.refl _ _) _
  have hlt0 : Hid (w.heap.size < W0.heap.size) := Lib.hid (Array.getElem?_eq_some_iff.1 k0).1
  have hbo : b < w.heap.size := hb
  have hcells : Hid (∀ W, Below W0.heap.size W0 W → (W.cell? ⟨w.heap.size, 0, none⟩ = some (.bool true) ∧ W.cell? ⟨w.heap.size, 1, none⟩ = some (.slice A1 n1 c1) ∧ W.cell? ⟨w.heap.size, 2, none⟩ = some (.slice A2 n2 c2) ∧ W.cell? ⟨w.heap.size, 3, none⟩ = some (.slice (some ⟨b, o, none⟩) n c)) ∧ W.cell? ⟨b, o, none⟩ = some (.slice Af nf cf) ∧ Below w.heap.size w W) := Lib.hid (fun W hW => by
    have e := (hW.block _ hlt0.out).trans k0
    have hbw := hb0.trans (hW.mono hb0.size)
    exact ⟨⟨by rw [cells_of e]; rfl, by rw [cells_of e]; rfl, by rw [cells_of e]; rfl, by rw [cells_of e]; rfl⟩, (hbw.cell (p := ⟨b, o, none⟩) hbo).trans hcell, hbw⟩)
  have hTf : Hid (TxR w w.heap.size (Af, nf, cf) f') := Lib.hid ⟨hncf, hcmf, hst⟩
  have hfl : f'.length ≤ 5000 := hsm.2.2.1 f' (List.mem_cons_self ..)
  have hsum : sumT (trimL bs f' (f' :: ds)) ≤ 1000000 := by have := (trimL_sum (f := f') (base := bs) (ds := f' :: ds)).1; omega
  have hNor : Hid (∀ (A : Option Addr) (n c : Nat) (vs : List PcV) (W : World), n ≤ c → c ≤ maxLen → Below w.heap.size w W → Pcs W W.heap.size A n vs (trimL bs f' (f' :: ds)) → Calls Tryz.prog 44 #[.slice A n c] W fun e w' => PcsLo lo w w' e (normal (trimL bs f' (f' :: ds)))) := Lib.hid (fun A n c vs W h1 h2 hW h3 => by
    refine (normal_new A n c vs _ W h1 h2 (by have := h3.len; have := (trimL_sum (f := f') (base := bs) (ds := f' :: ds)).2; omega) hsum (smallN_trimL hsm) h3).mono ?_
    rintro e w' ⟨A, n, c, vs, h1, h2, h3, h4, h5⟩
    exact ⟨A, n, c, vs, h1, h2, h3, fun w2 hb => h4 w2 (hb.more fun k hk => Nat.lt_of_lt_of_le hk.2 hW.size), hW.trans (h5.mono hW.size)⟩)
  have hAll := Lib.hid (allSame_any (some ⟨b, o, none⟩) n c rows (f' :: ds) f' W0 hn1000 (hA.up hb0) rfl)
  have hTrm : Hid (∀ W, Below w.heap.size w W → (¬ ∀ d ∈ f' :: ds, d = f') → Calls Tryz.prog 79 #[.agg #[.bool true, .slice A1 n1 c1, .slice A2 n2 c2, .slice (some ⟨b, o, none⟩) n c]] W fun e w' => PcsOut W w' e (trimL bs f' (f' :: ds))) := Lib.hid (fun W hW hne => trimmed_any ((A1, n1, c1), (A2, n2, c2), (some ⟨b, o, none⟩, n, c)) t bs f' ds W hsm ((hP.more hlo).up hW) hne)
  have hW0h := Lib.hid hW0
  have i3 : (0 : Int) < (n : Int) := by omega
  have i4 : ((n : Int) == 0) = false := by simp; omega
  obtain ⟨⟨x0, x1, x2, x3⟩, y0, -⟩ := hcells.out W0 (Below.refl _ _)
  clear hP hP1 hP2 hA hl ht hr hcell hncf hcmf hst hnf hb0 k0 hW0 hsum hlo
  go_enter Tryz.func50, Tryz.ntmps50
  go_upto_region 2 with fail
  rw [← hW0h.out]
  go_upto_region 4 with fail
  go_upto_if 19 with (go_at_call 78; refine hAll.out.mono ?_; rintro e w1 ⟨⟨r, rfl, hr⟩, hb1⟩; have hrh := Lib.hid hr; have hB1 := Lib.hid hb1; obtain ⟨⟨z0, z1, z2, z3⟩, u0, hbw1⟩ := hcells.out w1 hb1; have hbw1h := Lib.hid hbw1; clear hr hb1 hbw1)
  cases r
  · have hne : ¬ ∀ d ∈ f' :: ds, d = f' := fun h => by have := hrh.out.2 h; cases this
    have hT := Lib.hid (hTrm.out w1 hbw1h.out hne)
    clear hne
    go_wp2_with (first
      | (go_at_call 79; refine hT.out.mono ?_; rintro e w2 ⟨A5, n5, c5, vs5, rfl, q1, q2, q3, q4⟩; have hq5 := Lib.hid (And.intro (And.intro q1 q2) (And.intro q3 (hbw1h.out.trans (q4.mono hbw1h.out.size)))); clear q1 q2 q3 q4)
      | (go_at_call 44; refine (hNor.out _ _ _ _ _ hq5.out.1.1 hq5.out.1.2 hq5.out.2.2 hq5.out.2.1).mono ?_; rintro e w3 ⟨A9, n9, c9, vs9, rfl, hq9⟩; have hq9h := Lib.hid hq9; clear hq9))
    go_ret
    exact ⟨A9, n9, c9, vs9, rfl, hq9h.out⟩
  · have hL : trimL bs f' (f' :: ds) = [tPc f'] := trimL_same (List.mem_cons_self ..) (hrh.out.1 rfl)
    have hNs : Hid (∀ W, Below w1.heap.size w1 W → W.heap[w1.heap.size]? = some (pcObj false ((Af, nf, cf), (none, 0, 0), (none, 0, 0))) → Calls Tryz.prog 44 #[.slice (some ⟨w1.heap.size, 0, none⟩) 1 1] W fun e w' => PcsLo lo w w' e (normal (trimL bs f' (f' :: ds)))) := Lib.hid (fun W hW hg => by
      have hbW := hbw1h.out.trans (hW.mono hbw1h.out.size)
      refine hNor.out _ 1 1 [((Af, nf, cf), (none, 0, 0), (none, 0, 0))] W (Nat.le_refl _) (by unfold maxLen; omega) hbW ?_
      rw [hL]
      exact pcs_one (p := tPc f') hg (PcR.text (hTf.out.up hbW)))
    clear hL
    go_wp2_with (go_at_call 44; refine (hNs.out _ (below_alloc (Below.refl _ _) _) (Go.Deep.blk_alloc_new _ _)).mono ?_; rintro e w3 ⟨A9, n9, c9, vs9, rfl, hq9⟩; have hq9h := Lib.hid hq9; clear hq9)
    go_ret
    exact ⟨A9, n9, c9, vs9, rfl, hq9h.out⟩

theorem trim_ok : ZealTrimOk := by
  intro lo v p w hlo hsm hP
  obtain ⟨cf, t, bs, ss⟩ := p
  cases cf with
  | false => exact trim_stay lo v _ w hlo hsm hP (.inl rfl)
  | true =>
    cases ss with
    | nil => exact trim_stay lo v _ w hlo hsm hP (.inr rfl)
    | cons f ds => exact trim_conf lo v t bs f ds w hlo hsm hP

set_option maxHeartbeats 8000000 in
theorem zeal_ok : ZealZealOk := by
  intro lo A n c vs ps w hnc hcm hlo hsm hA
  have hl := hA.len
  have hn100 : n ≤ 100 := by rw [← hl]; exact hsm.1
  obtain ⟨j0, hj, hyy⟩ := Option.map_eq_some_iff.1 infoPc
  simp only [Prod.mk.injEq] at hyy
  obtain ⟨hy0, hy1, hy2⟩ := hyy
  have hAh := Lib.hid hA
  have hlh := Lib.hid hl
  have hloh := Lib.hid hlo
  have hsmh := Lib.hid hsm
  clear hA hl hlo hsm
  go_enter Tryz.func24, Tryz.ntmps24
  go_wp2
  go_loopw [3, 5, 8] (fun s3 _ s4 wr => ∃ (i : Nat) (v : Value) (qs : List (PcV × Pc)), i ≤ n ∧ s4 = .int .i64 i ∧ v = s3 ∧ Hid (wr.ownsRow w.heap.size 40 4 v qs.length (pcCs qs)) ∧ Hid (RowF (FLo lo w) wr v qs) ∧ Hid (qs.map (fun q => q.2) = (ps.take i).flatMap trimD) ∧ Hid (Below w.heap.size w wr)) (fun _ _ s4 _ => n - (intOf s4).toNat)
  case atStart => exact ⟨0, _, [], Nat.zero_le _, rfl, rfl, Lib.hid (World.ownsRow_nil _ _ _ _), Lib.hid (RowF.start _ _ _), Lib.hid rfl, Lib.hid (Below.refl _ _)⟩
  case round =>
    obtain ⟨i, v, qs, hi, rfl, rfl, hO, hR, hQ, hB⟩ := hrel
    obtain ⟨wo, rfl⟩ : ∃ wo : World, wo = wr := ⟨_, rfl⟩
    have hql : Hid (qs.length ≤ i * 3) := Lib.hid (by
      have h1 := congrArg List.length hQ.out
      rw [List.length_map] at h1
      have h2 := (flat_sum (ps := ps.take i) fun p hp => hsmh.out.2 p (List.mem_of_mem_take hp)).2
      have h3 : (ps.take i).length ≤ i := List.length_take_le _ _
      omega)
    by_cases hlt : i < n
    · have hAo : Pcs wo lo A n vs ps := hAh.out.keep fun q hq => hB.out.cell (by have := hloh.out; omega)
      obtain ⟨b, o, cf, At, nt, ct, Ab, nb, cb, As, ns, cs, t, bs, ss, rfl, hb, hv, hp, k1, k2, k3, k4, j1, j2, j3⟩ := hAo.at_ (k := i) hlt
      have i1 : (0 : Int) ≤ (i : Int) := by omega
      have i2 : (i : Int) < (n : Int) := by omega
      have hlo2 : lo ≤ wo.heap.size := Nat.le_trans hloh.out hB.out.size
      obtain ⟨Wp, hWp⟩ : ∃ Wp, Wp = wo.alloc (.cells #[.bool cf, .slice At nt ct, .slice Ab nb cb, .slice As ns cs] 40) := ⟨_, rfl⟩
      have hbp : Below wo.heap.size wo Wp := by rw [hWp]; exact below_alloc (Below.refl _ _) _
      have hTr := Lib.hid (trim_ok lo ((At, nt, ct), (Ab, nb, cb), (As, ns, cs)) (cf, t, bs, ss) Wp (Nat.le_trans hlo2 hbp.size) (hsmh.out.2 _ (List.mem_of_getElem? hp)) (PcR.keep ⟨j1, j2, j3⟩ fun q hq => hbp.cell (Nat.lt_of_lt_of_le hq hlo2)))
      have hbph := Lib.hid hbp
      have hown := hO.out
      have hsz := hB.out.size
      have hstep := Lib.hid (show (ps.take (i + 1)).flatMap trimD = (ps.take i).flatMap trimD ++ trimD (cf, t, bs, ss) by rw [take_at hp, List.flatMap_append]; simp)
      have htl := Lib.hid (trimD_sum (hsmh.out.2 _ (List.mem_of_getElem? hp))).2
      obtain ⟨T, hT⟩ : ∃ T, trimD (cf, t, bs, ss) = T := ⟨_, rfl⟩
      rw [hT] at hTr hstep htl
      clear hv hp j1 j2 j3 hT hAo hbp
      subst hWp
      go_wp2_with (first
        | (go_at_call 50; refine hTr.out.mono ?_; rintro e w5 ⟨A5, n5, c5, vs5, rfl, q1, q2, q3, q4⟩; have hq5 := hbph.out.trans (q4.mono hbph.out.size); have h5 := Lib.hid (And.intro (And.intro q1 q2) (And.intro q3 hq5)); have hP5 := q3 w5 (But.refl _ _); have hown5 := ownsRow_kept hown (w' := w5) (fun k e => hq5.block k (hown.lt k e).2); have hsz5 : w.heap.size ≤ w5.heap.size := Nat.le_trans hsz hq5.size; have hmax : Hid (qs.length + n5 ≤ maxLen ∧ (qs.length + n5) * 80 ≤ 140737488355328) := Lib.hid (by have h6 := hP5.len; have h7 := htl.out; have h8 := hql.out; unfold maxLen; omega); clear q1 q2 q3 q4 hq5)
        | (at_builtin; refine wpList_append_pcs _ rfl _ _ 22 rfl w.heap.size 40 j0 (.agg #[.bool false, .slice none 0 0, .slice none 0 0, .slice none 0 0]) Tryz.underlying22 hj hy0 hy1 hy2 rfl v qs.length _ rfl hown5 w5.heap.size A5 n5 c5 vs5 T rfl hP5 hmax.out.1 hmax.out.2 hsz5 ?_; intro v' w6 hown6 hg6 hloc6))
      have hz := zip_snd hP5
      have hO6 : Hid (w6.ownsRow w.heap.size 40 4 v' (qs ++ vs5.zip T).length (pcCs (qs ++ vs5.zip T))) := Lib.hid (by rw [List.length_append, hz.2, pcCs_app]; exact hown6)
      have hR6 : Hid (RowF (FLo lo w) w6 v' (qs ++ vs5.zip T)) := Lib.hid ((hR.out.up h5.out.2.2).puts (fun w3 h3 q hq => zip_in (h5.out.2.1 w3 (h3.more fun k e => by
        rcases e with e | e
        · unfold FLo at e; have := hbph.out.size; exact ⟨e.1, by omega⟩
        · have := hown.lt k e; have := hloh.out; have := hbph.out.size; exact ⟨by omega, by omega⟩)) q hq) hg6 hloc6)
      have hQ6 : Hid ((qs ++ vs5.zip T).map (fun q => q.2) = (ps.take (i + 1)).flatMap trimD) := Lib.hid (by rw [List.map_append, hz.1, hQ.out, hstep.out])
      have hB6 : Hid (Below w.heap.size w w6) := Lib.hid ((hB.out.trans (h5.out.2.2.mono hsz)).grown hg6 hsz5 (fun g e => (hown5.lt g e).1))
      clear hz hown6 hg6 hloc6 hown5 hP5
      go_roundw
      case rel => exact ⟨i + 1, v', _, by omega, by go_num, rfl, hO6, hR6, hQ6, hB6⟩
      case measure => simp [intOf]; omega
    · obtain rfl : i = n := by omega
      have hQf := hQ.out
      rw [List.take_of_length_le (by rw [hlh.out]; exact Nat.le_refl _)] at hQf
      obtain ⟨A2, c2, hv2, q1, q2, hP2⟩ := pcs_reads (w := w) hO.out fun q hq => hR.out wo (But.refl _ _) q hq
      have hsum := (flat_sum (ps := ps) hsmh.out.2).1
      have hNm := normal_new A2 qs.length c2 (qs.map fun q => q.1) (qs.map fun q => q.2) wo (by assumption) (by assumption) (by have := hql.out; omega) (by rw [hQf]; have := hsmh.out.1; omega) (by rw [hQf]; exact smallN_flat hsmh.out.2) hP2
      rw [hQf] at hNm
      have hNh := Lib.hid hNm
      subst hv2
      clear hNm hP2 hQf hsum q1 q2
      go_wp2_with (go_at_call 44; refine hNh.out.mono ?_; rintro e w7 ⟨A9, n9, c9, vs9, rfl, h1, h2, h3, h4⟩; have h9 := Lib.hid (And.intro h1 (And.intro h2 (And.intro h3 h4))); clear h1 h2 h3 h4)
      go_ret
      exact ⟨A9, n9, c9, vs9, rfl, h9.out.1, h9.out.2.1, fun w2 h2 => h9.out.2.2.1 w2 (h2.more fun k e => Nat.lt_of_lt_of_le e.2 hB.out.size), hB.out.trans (h9.out.2.2.2.mono hB.out.size)⟩
end Go.Proofs.YtcpopnhnihbofaaGreatDoor
/- What the statements ask of package size, its Auto apart; few texts are small ones. -/
namespace Go.Proofs.YtcpopnhnihbofaaGreatDoor
open Go.RowKit
set_option linter.unusedVariables false
set_option maxRecDepth 100000

/-- The contract of size.Fits. -/
def SizeFitsOk : Prop := ∀ (z : Int) (A : Option Addr) (n c : Nat) (rows : List Slc) (files : List (List Tx)) (w : World), -9223372036854775808 ≤ z → z ≤ 9223372036854775807 → n ≤ c → c ≤ maxLen → smallF files → RowsT w w.heap.size A n rows files →
    Calls Tryz.prog 25 #[.int .i64 z, .slice A n c] w fun e w' => e = .returned (.bool (fitsB z files)) ∧ Below w.heap.size w w'

theorem few_smallF {files : List (List Tx)} (h : fewT [] files = true) : smallF files := by
  obtain ⟨-, h1, h2⟩ := fewT_parts h
  refine ⟨by omega, fun f hf => ⟨by have := h2 f hf; omega, fun t ht => ?_⟩⟩
  unfold fewT at h
  rw [Bool.and_eq_true] at h
  have h3 := h.2
  rw [List.take_of_length_le (by omega), List.all_eq_true] at h3
  have h4 := h3 f hf
  unfold fewB at h4
  rw [Bool.and_eq_true, decide_eq_true_eq, List.take_of_length_le (by have := h2 f hf; omega), List.all_eq_true] at h4
  have := h4.2 t ht
  simp at this
  omega
end Go.Proofs.YtcpopnhnihbofaaGreatDoor
/- Proved here: contracts of the landed package size's longest, Auto and Fits. -/
namespace Go.Proofs.YtcpopnhnihbofaaGreatDoor
open Go.RowKit
set_option linter.unusedVariables false
set_option maxRecDepth 100000

/-- The greatest run of all texts. -/
def runM (n : Nat) (l : List Tx) : Nat := l.foldl (fun n t => max n (runN t)) n
theorem runM_append (n : Nat) (a b : List Tx) : runM n (a ++ b) = runM (runM n a) b := by unfold runM; rw [List.foldl_append]
theorem runM_auto : ∀ (l : List Tx) (n m : Nat), m = max 7 (n + 1) → maxR m l = max 7 (runM n l + 1)
  | [], n, m, h => h
  | t :: l, n, m, h => by
    show maxR (max m (runN t + 1)) l = max 7 (runM (max n (runN t)) l + 1)
    exact runM_auto l _ _ (by omega)
theorem runM_all : ∀ (l : List Tx) (n : Nat) (z : Int), ((runM n l : Nat) : Int) < z ↔ (n : Int) < z ∧ ∀ t ∈ l, (runN t : Int) < z
  | [], n, z => by simp [runM]
  | t :: l, n, z => by
    show ((runM (max n (runN t)) l : Nat) : Int) < z ↔ _
    rw [runM_all l, List.forall_mem_cons]
    constructor
    · rintro ⟨h1, h2⟩; exact ⟨by omega, by omega, h2⟩
    · rintro ⟨h1, h2, h3⟩; exact ⟨by omega, h3⟩
theorem runM_up {l : List Tx} {n m : Nat} (h : ∀ t ∈ l, t.length ≤ m) (hn : n ≤ m) : runM n l ≤ m := by
  have := (runM_all l n ((m : Int) + 1)).2 ⟨by omega, fun t ht => by have := h t ht; have := run_le t; omega⟩
  omega

set_option maxHeartbeats 1000000 in
theorem longest_any (A : Option Addr) (n c : Nat) (rows : List Slc) (files : List Txs) (w : World) (hn : n ≤ maxLen) (hsm : smallF files) (hA : RowsT w w.heap.size A n rows files) :
    Calls Tryz.prog 51 #[.slice A n c] w fun e w' => e = .returned (.int .i64 (runM 0 files.flatten)) ∧ Below w.heap.size w w' := by
  have hl := hA.len
  have hAh := Lib.hid hA
  have hlh := Lib.hid hl
  have hsmh := Lib.hid hsm
  have hn1 : n ≤ 1000000 := by have := hsm.1; omega
  clear hA hl hsm hn
  go_enter Tryz.func51, Tryz.ntmps51
  go_wp2
  go_loopw [3, 5, 7, 10, 16] (fun s3 _ _ s10 _ wr => ∃ i m : Nat, i ≤ n ∧ s10 = .int .i64 i ∧ s3 = .int .i64 m ∧ Hid (m = runM 0 (files.take i).flatten) ∧ Hid (Below w.heap.size w wr)) (fun _ _ _ s10 _ _ => n - (intOf s10).toNat)
  case atStart => exact ⟨0, 0, Nat.zero_le _, rfl, rfl, Lib.hid rfl, Lib.hid (Below.refl _ _)⟩
  case round =>
    obtain ⟨i, m, hi, rfl, rfl, hm, hB⟩ := hrel
    obtain ⟨wo, rfl⟩ : ∃ wo : World, wo = wr := ⟨_, rfl⟩
    by_cases hlt : i < n
    · obtain ⟨b, o, A1, n1, c1, f, rfl, hb, hf, hr, hc, hnc, hcm, hst⟩ := (hAh.out.up hB.out).at_ (k := i) hlt
      have i1 : (0 : Int) ≤ (i : Int) := by omega
      have i2 : (i : Int) < (n : Int) := by omega
      have hfl : f.length = n1 := hst.len
      have hfh := Lib.hid hf
      have hsth := Lib.hid hst
      have hn1m : n1 ≤ 9223372036854775807 := by unfold maxLen at hcm; omega
      have hflh := Lib.hid hfl
      clear hf hr hst hfl hnc hcm
      go_wp2
      go_loopw [3, 7, 16] (fun s3 _ s16 wr => ∃ j m : Nat, j ≤ n1 ∧ s16 = .int .i64 j ∧ s3 = .int .i64 m ∧ Hid (m = runM 0 ((files.take i).flatten ++ f.take j)) ∧ Hid (Below wo.heap.size wo wr)) (fun _ _ s16 _ => n1 - (intOf s16).toNat)
      case atStart => exact ⟨0, m, Nat.zero_le _, rfl, rfl, Lib.hid (by rw [hm.out]; simp), Lib.hid (Below.refl _ _)⟩
      case round =>
        obtain ⟨j, m2, hj, rfl, rfl, hm2, hB2⟩ := hrel
        obtain ⟨wp, rfl⟩ : ∃ wp : World, wp = wr := ⟨_, rfl⟩
        by_cases hlt2 : j < n1
        · obtain ⟨b2, o2, t, rfl, hb2, ht, hct⟩ := (Strs.below hsth.out hB2.out).at_ (k := j) hlt2
          have i3 : (0 : Int) ≤ (j : Int) := by omega
          have i4 : (j : Int) < (n1 : Int) := by omega
          have htl : t.length ≤ 1000000 := (hsmh.out.2 f (List.mem_of_getElem? hfh.out)).2 t (List.mem_of_getElem? ht)
          have hR := run_ok t wp htl
          obtain ⟨r, hr⟩ : ∃ r, runN t = r := ⟨_, rfl⟩
          rw [hr] at hR
          have hRh := Lib.hid hR
          obtain ⟨m3, hm3⟩ : ∃ m3, max m2 r = m3 := ⟨_, rfl⟩
          have hnx := Lib.hid (show m3 = runM 0 ((files.take i).flatten ++ f.take (j + 1)) from by
            rw [take_at ht, ← List.append_assoc, runM_append, ← hm2.out]
            show m3 = max m2 (runN t)
            rw [hr, hm3])
          have hmx : (if m2 < r then (r : Int) else (m2 : Int)) = (m3 : Int) := by split <;> omega
          clear hR hr ht htl hm3
          go_wp2_with (go_at_call 56; refine hRh.out.mono ?_; rintro e w1 ⟨rfl, hb1⟩; have hB3 := Lib.hid (hB2.out.trans (hb1.mono hB2.out.size)); clear hb1)
          go_roundw
          case rel => exact ⟨j + 1, m3, by omega, by go_num, by first | rfl | (rw [← hmx]; congr 1; split <;> omega), hnx, hB3⟩
          case measure => simp [intOf]; omega
        · obtain rfl : j = n1 := by omega
          have hend := Lib.hid (show m2 = runM 0 (files.take (i + 1)).flatten from by
            rw [flatF_take hfh.out, hm2.out, List.take_of_length_le (l := f) (by rw [hflh.out]; exact Nat.le_refl _)])
          have hBn := Lib.hid (hB.out.trans (hB2.out.mono hB.out.size))
          go_wp2
          go_roundw
          case rel => exact ⟨i + 1, m2, by omega, by go_num, rfl, hend, hBn⟩
          case measure => simp [intOf]; omega
    · obtain rfl : i = n := by omega
      have hend := Lib.hid (show m = runM 0 files.flatten from by
        rw [hm.out, List.take_of_length_le (l := files) (by rw [hlh.out]; exact Nat.le_refl _)])
      go_wp2
      go_ret
      exact ⟨ret_int (by rw [hend.out]), hB.out⟩

theorem flat_small {files : List Txs} (h : smallF files) : ∀ t ∈ files.flatten, t.length ≤ 1000000 := fun t ht => by
  obtain ⟨f, hf, htf⟩ := List.mem_flatten.1 ht
  exact (h.2 f hf).2 t htf
set_option maxHeartbeats 1000000 in
theorem fits_ok : SizeFitsOk := by
  intro z A n c rows files w h1 h2 hnc hcm hsm hA
  have hL := longest_any A n c rows files w (Nat.le_trans hnc hcm) hsm hA
  have hf : ∀ m, runM 0 files.flatten = m → fitsB z files = decide ((m : Int) < z) := fun m hm => by
    rw [Bool.eq_iff_iff, fits_iff, decide_eq_true_eq, ← hm, runM_all]
    constructor
    · rintro ⟨h1, h2⟩; exact ⟨by omega, h2⟩
    · rintro ⟨h1, h2⟩; exact ⟨by omega, h2⟩
  obtain ⟨m, hm⟩ : ∃ m, runM 0 files.flatten = m := ⟨_, rfl⟩
  rw [hf m hm]
  rw [hm] at hL
  have hLh := Lib.hid hL
  clear hL hA hsm hm hf
  go_enter Tryz.func25, Tryz.ntmps25
  go_wp2_with (go_at_call 51; refine hLh.out.mono ?_; rintro e w1 ⟨rfl, hb1⟩; have hB1 := Lib.hid hb1; clear hb1)
  go_ret
  exact ⟨ret_bool (by simp), hB1.out⟩
end Go.Proofs.YtcpopnhnihbofaaGreatDoor
