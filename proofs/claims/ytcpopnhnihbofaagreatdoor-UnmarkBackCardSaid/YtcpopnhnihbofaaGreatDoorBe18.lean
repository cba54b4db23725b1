/- Proved here: texts joined: ZlConf. -/
import Derived.Test.YtcpopnhnihbofaaGreatDoorBe15
/- Proved here: the contract of the document's own answer of layer 10: Trim, of a conflict with sides. -/
namespace Go.Proofs.YtcpopnhnihbofaaGreatDoor
open Go.RowKit
set_option linter.unusedVariables false
set_option maxRecDepth 100000

theorem drop_all {α β : Type} {g : α → β} {xs : List α} {n : Nat} (h : xs.length = n) : (xs.take n).map g = xs.map g := by rw [List.take_of_length_le (by omega)]

set_option maxHeartbeats 16000000 in
theorem rTrim_conf (lo : Nat) (v : PcV) (t bs f : Txs) (ds : List Txs) (w : World) (hlo : lo ≤ w.heap.size) (hsm : smallP (true, t, bs, f :: ds)) (hP : PcR w lo v (true, t, bs, f :: ds)) :
    Calls Tryz.prog 32 #[.agg #[.bool true, .slice v.1.1 v.1.2.1 v.1.2.2, .slice v.2.1.1 v.2.1.2.1 v.2.1.2.2, .slice v.2.2.1 v.2.2.2.1 v.2.2.2.2]] w fun e w' => PcsLo lo w w' e (normal (trimL bs f (f :: ds))) := by
  obtain ⟨⟨A1, n1, c1⟩, ⟨A2, n2, c2⟩, ⟨A3, n, c⟩⟩ := v
  obtain ⟨hP1, hP2, hnc, hcm, rows, hAl⟩ := hP
  dsimp only at hP1 hP2 hnc hcm hAl ⊢
  have hloh := Lib.hid hlo
  obtain ⟨xs, hxs⟩ : ∃ xs, xs = f :: ds := ⟨_, rfl⟩
  rw [← hxs] at hAl hsm ⊢
  have hA := hAl.more hlo
  have hAlh := Lib.hid hAl
  clear hAl hlo
  have hl := hA.len
  have hn1 : 0 < n := by rw [← hl, hxs]; simp
  have hf0 : xs[0]? = some f := by rw [hxs]; rfl
  have hfm : Hid (f ∈ xs) := Lib.hid (List.mem_of_getElem? hf0)
  obtain ⟨hs1, hs2, hs3, -⟩ := hsm
  dsimp only at hs1 hs2 hs3
  have hn1000 : n ≤ 1000 := by omega
  have hfl : f.length ≤ 5000 := hs3 f hfm.out
  obtain ⟨b, o, Af, nf, cf, f', rfl, hb, ht, hr, hcell, hncf, hcmf, hst⟩ := hA.at_ (k := 0) hn1
  have hff : f' = f := by rw [hf0] at ht; injection ht with e; exact e.symm
  subst hff
  have hnf : f'.length = nf := hst.len
  obtain ⟨W0, hW0⟩ : ∃ W0, W0 = w.alloc (.cells #[.bool true, .slice A1 n1 c1, .slice A2 n2 c2, .slice (some ⟨b, o, none⟩) n c] 40) := ⟨_, rfl⟩
  have k0 : W0.heap[w.heap.size]? = some (pcObj true ((A1, n1, c1), (A2, n2, c2), (some ⟨b, o, none⟩, n, c))) := by rw [hW0]; exact one_a w _
  have hb0 : Below w.heap.size w W0 := by rw [hW0]; exact below_alloc (Below.refl _ _) _
  have hlt0 : Hid (w.heap.size < W0.heap.size) := Lib.hid (Array.getElem?_eq_some_iff.1 k0).1
  have hbo : b < w.heap.size := hb
  -- what the walk's block and the sides hold, in whatever world behind
  have hcells : Hid (∀ W, Below W0.heap.size W0 W → W.cell? ⟨w.heap.size, 0, none⟩ = some (.bool true) ∧ W.cell? ⟨w.heap.size, 2, none⟩ = some (.slice A2 n2 c2) ∧ W.cell? ⟨w.heap.size, 3, none⟩ = some (.slice (some ⟨b, o, none⟩) n c) ∧ W.cell? ⟨b, o, none⟩ = some (.slice Af nf cf) ∧ Below w.heap.size w W ∧ w.heap.size < W.heap.size) := Lib.hid (fun W hW => by
    have e := (hW.block _ hlt0.out).trans k0
    have hbw := hb0.trans (hW.mono hb0.size)
    exact ⟨by rw [cells_of e]; rfl, by rw [cells_of e]; rfl, by rw [cells_of e]; rfl, (hbw.cell (p := ⟨b, o, none⟩) hbo).trans hcell, hbw, Nat.lt_of_lt_of_le hlt0.out hW.size⟩)
  have hTf : Hid (TxR w w.heap.size (Af, nf, cf) f') := Lib.hid ⟨hncf, hcmf, hst⟩
  have hAh := Lib.hid hA
  have hP2h := Lib.hid hP2
  have hlh := Lib.hid hl
  have hW0h := Lib.hid hW0
  have hf0h := Lib.hid hf0
  have hs3h := Lib.hid hs3
  have hnfh := Lib.hid hnf
  have hnfl : nf ≤ 10000 := by omega
  have i3 : (0 : Int) < (n : Int) := by omega
  obtain ⟨i0, hi, hzz⟩ := Option.map_eq_some_iff.1 infoTxs
  simp only [Prod.mk.injEq] at hzz
  obtain ⟨hz0, hz1, hz2⟩ := hzz
  have hn0 : ((n : Int) == 0) = false := by simp; omega
  obtain ⟨x0, x2, x3, y0, -, -⟩ := hcells.out W0 (Below.refl _ _)
  have hBeg : Hid (∀ (a : Nat) (W : World), a + 1 ≤ nf → Below w.heap.size w W → Calls Tryz.prog 62 #[.slice (some ⟨b, o, none⟩) n c, .int .i64 ((a + 1 : Nat) : Int)] W fun e w' => e = .returned (.bool (begB f' xs (a + 1))) ∧ ∃ q, w' = W.drewN q) := Lib.hid (fun a W ha hW => rBegins_any _ n c W.heap.size rows xs f' (a + 1) W hn1000 (by omega) hf0 (by omega) (hA.up hW))
  clear hP1 hP2 hA hl hf0 hs1 hs2 hs3 hfl ht hr hcell hncf hcmf hst hnf hb0 k0 hW0
  go_enter Tryz.func32, Tryz.ntmps32
  go_upto_region 1 with fail
  rw [← hW0h.out]
  go_wp2
  go_loopw [4] (fun s4 wr => ∃ a : Nat, a ≤ nf ∧ s4 = .int .i64 a ∧ Hid (begB f' xs a = true) ∧ Hid (∃ q, wr = W0.drewN q)) (fun s4 _ => nf - (intOf s4).toNat)
  case atStart => exact ⟨0, Nat.zero_le _, rfl, Lib.hid begB_zero, Lib.hid ⟨0, rfl⟩⟩
  case round =>
    obtain ⟨a, ha, rfl, hq, hw⟩ := hrel
    obtain ⟨wo, rfl⟩ : ∃ wo : World, wo = wr := ⟨_, rfl⟩
    clear x0 x2 x3 y0
    have hbo1 : Hid (Below W0.heap.size W0 wo) := Lib.hid (by obtain ⟨q, rfl⟩ := hw.out; exact below_drewN (Below.refl _ _) q)
    obtain ⟨x0, x2, x3, y0, hbw, hlw⟩ := hcells.out wo hbo1.out
    have hbwh := Lib.hid hbw
    by_cases hgo : a < nf ∧ begB f' xs (a + 1) = true
    · have hli : (a : Int) < (nf : Int) := by omega
      have hwr : IntKind.i64.wrap ((a : Int) + 1) = ((a + 1 : Nat) : Int) := by rw [IntWalk.i64_in _ (by omega)]; omega
      have hC := hBeg.out a wo (by omega) hbw
      rw [hgo.2] at hC
      have hCh := Lib.hid hC
      have hgoh := Lib.hid hgo.2
      clear hC hgo
      go_wp2_with (go_at_call 62; refine hCh.out.mono ?_; rintro e w5 ⟨rfl, q5, hw5⟩; have hw5h := Lib.hid hw5; clear hw5)
      go_roundw
      case rel => exact ⟨a + 1, by omega, by go_num, hgoh, Lib.hid (by obtain ⟨q, e⟩ := hw.out; rw [hw5h.out, e]; exact ⟨_, World.drewN_drewN _ _ _⟩)⟩
      case measure => simp [intOf]; omega
    · have hN : Hid (begN f' xs = a) := Lib.hid (begN_is hfm.out hq.out (by
        cases hb : begB f' xs (a + 1) with
        | false => rfl
        | true =>
          have := (begB_iff.1 hb f' hfm.out).1
          exact absurd ⟨by have := hnfh.out; omega, hb⟩ hgo))
      have hlea : Hid (∀ d ∈ xs, a ≤ d.length) := Lib.hid fun d hd => (begB_iff.1 hq.out d hd).1
      rcases Nat.lt_or_ge a nf with hlt | hge
      case' inl =>
        have hli : (a : Int) < (nf : Int) := by omega
        have hwr : IntKind.i64.wrap ((a : Int) + 1) = ((a + 1 : Nat) : Int) := by rw [IntWalk.i64_in _ (by omega)]; omega
        have hC := hBeg.out a wo (by omega) hbw
        rw [show begB f' xs (a + 1) = false by cases hb : begB f' xs (a + 1); rfl; exact absurd ⟨hlt, hb⟩ hgo] at hC
        have hCh := Lib.hid hC
        clear hC hgo hbw
        go_upto_region 7 with (go_at_call 62; refine hCh.out.mono ?_; rintro e w5 ⟨rfl, q5, hw5⟩; have hB5 : Hid (Below W0.heap.size W0 w5) := Lib.hid (by rw [hw5]; exact below_drewN hbo1.out q5); clear hw5)
        clear hCh hli hwr hlt
      case' inr =>
        have hli : ¬ (a : Int) < (nf : Int) := by omega
        clear hgo hbw
        go_upto_region 7 with fail
        clear hli hge
        obtain ⟨w5, rfl⟩ : ∃ w5 : World, w5 = wo := ⟨_, rfl⟩
        have hB5 := hbo1
      all_goals
        clear hw hbo1 hbwh hlw x0 x2 x3 y0 hq hBeg
        obtain ⟨x0, x2, x3, y0, -, -⟩ := hcells.out w5 hB5.out
        go_wp2
        go_loopw [5, 6, 7] (fun s5 s6 s7 wr => ∃ (j : Nat) (v : Value) (rs : List Slc) (em : Bool), j ≤ n ∧ s7 = .int .i64 j ∧ s6 = .bool em ∧ Hid (((xs.take j).all fun d => decide (d.length = a)) = em) ∧ v = s5 ∧ Hid (rs.length = j) ∧ Hid (ZRow w lo W0.heap.size wr v rs ((xs.take j).map fun d => d.drop a)) ∧ Hid (Below W0.heap.size W0 wr)) (fun _ _ s7 _ => n - (intOf s7).toNat)
        case atStart => exact ⟨0, _, [], true, Nat.zero_le _, rfl, rfl, Lib.hid rfl, rfl, Lib.hid rfl, Lib.hid (ZRow.start _ _ _ _), hB5⟩
        case round =>
          obtain ⟨j, v, rs, em, hj, rfl, rfl, hem, rfl, hrl, hZ, hB⟩ := hrel
          obtain ⟨wo, rfl⟩ : ∃ wo : World, wo = wr := ⟨_, rfl⟩
          clear x0 x2 x3 y0 hB5
          obtain ⟨x0, x2, x3, y0, hbw, hlw⟩ := hcells.out wo hB.out
          have hbwh := Lib.hid hbw
          by_cases hlt2 : j < n
          · obtain ⟨b4, o4, A4, n4, c4, d, e4, hb4, ht4, hr4, hcell4, hnc4, hcm4, hst4⟩ := (hAh.out.up hbw).at_ (k := j) hlt2
            injection e4 with e4
            injection e4 with e41 e42
            subst e41
            subst e42
            have i1 : (0 : Int) ≤ (j : Int) := by omega
            have i2 : (j : Int) < (n : Int) := by omega
            have hdl : d.length = n4 := hst4.len
            have hla : a ≤ n4 := by have := hlea.out d (List.mem_of_getElem? ht4); omega
            obtain ⟨A5, m5, q5, hs5, hT5, hm5⟩ := slice_from (k := a) (hAlh.out.2.2 j _ _ hr4 ht4) hla
            have hown : wo.ownsRow W0.heap.size 25 1 v j (rs.map slcV) := by have := hZ.out.1; rw [hrl.out] at this; exact this
            have hsz := hB.out.size
            have hbol : b < wo.heap.size := by omega
            have hmax : Hid (j + 1 ≤ maxLen ∧ (j + 1) * 24 ≤ 140737488355328) := Lib.hid ⟨by unfold maxLen; omega, by omega⟩
            have hput := Lib.hid (fun v' w6 h => hZ.out.put (v' := v') (w2 := w6) (r := (A5, m5, q5)) (d := d.drop a) h hT5)
            have hT5h := Lib.hid hT5
            obtain ⟨g, hg⟩ : ∃ g, ((n4 : Int) == (a : Int)) = g := ⟨_, rfl⟩
            have hgd : Hid (decide (d.length = a) = g) := Lib.hid (by rw [← hg, hdl]; by_cases h : n4 = a <;> simp [h]; omega)
            have hall := Lib.hid (show ((xs.take (j + 1)).all fun d => decide (d.length = a)) = (em && g) by rw [take_at ht4, List.all_append, hem.out]; simp [hgd.out])
            have hmap := Lib.hid (show (xs.take (j + 1)).map (fun d => d.drop a) = (xs.take j).map (fun d => d.drop a) ++ [d.drop a] by rw [take_at ht4, List.map_append]; rfl)
            clear ht4 hr4 hst4 hnc4 hcm4 hT5 hdl hla hm5 hbw y0
            cases em
            all_goals
              go_wp2_with (at_builtin; refine wpList_append_own_at _ rfl _ _ 38 rfl W0.heap.size 25 i0 (.slice none 0 0) 1 24 Tryz.underlying38 hi hz0 hz1 hz2 rfl (by decide) v j _ rfl (hown.alloc _) ⟨wo.heap.size, 0, none⟩ 1 1 [.slice A5 m5 q5] rfl rfl (cell_one_new _ _ _) (by simp [Value.oneCell']) hmax.out.1 hmax.out.2 (by simp; omega) ?_; intro v' w6 hown6 hg6 hnil6 hloc6; have hB6 : Below W0.heap.size W0 w6 := (hB.out.alloc hsz _).grown hg6 (by simp; omega) (fun g e => (hown.lt g e).1); obtain ⟨-, -, z3, -, hbw6, -⟩ := hcells.out w6 hB6; have zj := (((hAh.out.up hbw6).at_ (k := j) hlt2)); have hB6h := Lib.hid hB6; have zc : w6.cell? ⟨b, o + j, none⟩ = some (.slice A4 n4 c4) := ((hbw6.cell (p := ⟨b, o + j, none⟩) hbo).trans ((hbwh.out.cell (p := ⟨b, o + j, none⟩) hbo).symm.trans hcell4)); have hf6 := Lib.hid (hput.out v' w6 (by rw [hrl.out]; exact hown6)); clear hnil6 hloc6 hg6 hown6 zj hB6 hbw6)
              go_roundw
              case rel => exact ⟨j + 1, v', rs ++ [(A5, m5, q5)], _, by omega, by go_num, rfl, Lib.hid (by rw [hall.out]; rfl), rfl, Lib.hid (by rw [List.length_append, hrl.out]; rfl), Lib.hid (by rw [hmap.out]; exact hf6.out), hB6h⟩
              case measure => simp [intOf]; omega
          · obtain rfl : j = n := by omega
            have hlen : xs.length = j := hlh.out
            have hZf : ZRow w lo W0.heap.size wo v rs (xs.map fun d => d.drop a) := by have := hZ.out; rw [List.take_of_length_le (by omega)] at this; exact this
            have hemf := hem.out
            rw [List.take_of_length_le (by omega)] at hemf
            obtain ⟨A5, c5, hv, l1, l2, hR5⟩ := hZf.rows hloh.out hbw
            rw [hrl.out] at hv l1 hR5
            subst hv
            have hbl := hB.out
            cases em
            · have htr : Hid (∀ bb, tailN (f'.drop a) (xs.map fun d => d.drop a) = bb → trimL bs f' xs = [tPc (f'.take a), cPc bs (xs.map (leftD a bb)), tPc (f'.drop (f'.length - bb))]) := Lib.hid (fun bb hbb => by
                unfold trimL
                dsimp only
                rw [hN.out, if_neg (by rw [hemf]; simp), hbb])
              have hmlen : (xs.map fun d => d.drop a)[0]? = some (f'.drop a) := by rw [List.getElem?_map, hf0h.out]; rfl
              obtain ⟨b6, o6, A7, n7, c7, d7, rfl, hb6, ht7, hr7, hcell7, hnc7, hcm7, hst7⟩ := hR5.at_ (k := 0) hn1
              have hd7 : d7 = f'.drop a := by rw [hmlen] at ht7; injection ht7 with e; exact e.symm
              subst hd7
              have hn7 : (f'.drop a).length = n7 := hst7.len
              have hn7l : n7 + a = nf := by have := hnfh.out; rw [List.length_drop] at hn7; omega
              have hy6 : wo.cell? ⟨b6, o6, none⟩ = some (.slice A7 n7 c7) := hcell7
              have hcell6 : Hid (∀ W, Below wo.heap.size wo W → W.cell? ⟨b6, o6, none⟩ = some (.slice A7 n7 c7)) := Lib.hid (fun W hW => (hW.cell (p := ⟨b6, o6, none⟩) hb6).trans hy6)
              have hgm : Hid (f'.drop a ∈ xs.map fun d => d.drop a) := Lib.hid (List.mem_of_getElem? hmlen)
              have hEnd : Hid (∀ (bb : Nat) (W : World), bb + 1 ≤ n7 → Below wo.heap.size wo W → Calls Tryz.prog 63 #[.slice (some ⟨b6, o6, none⟩) j c5, .int .i64 ((bb + 1 : Nat) : Int)] W fun e w' => e = .returned (.bool (tailB (f'.drop a) (xs.map fun d => d.drop a) (bb + 1))) ∧ ∃ q, w' = W.drewN q) := Lib.hid (fun bb W hbb hW => rEnds_any _ j c5 W.heap.size rs _ (f'.drop a) (bb + 1) W (by omega) (by omega) hmlen (by omega) (hR5.up hW))
              have hR5h := Lib.hid hR5
              have hZfh := Lib.hid hZf
              have hBh := Lib.hid hbl
              have hl12 := Lib.hid (And.intro l1 l2)
              have hnll := Lib.hid hn7l
              have hn7h := Lib.hid hn7
              have hn710 : n7 ≤ 10000 := by omega
              clear hZ hem hemf hZf hmlen hR5 ht7 hr7 hcell7 hnc7 hcm7 hst7 hn7 hb6 hbl l1 l2 hn7l y0 hbw
              obtain ⟨wB, hwB⟩ : ∃ wB : World, wB = wo := ⟨_, rfl⟩
              go_wp2
              go_loopw [8] (fun s8 wr => ∃ bb : Nat, bb ≤ n7 ∧ s8 = .int .i64 bb ∧ Hid (tailB (f'.drop a) (xs.map fun d => d.drop a) bb = true) ∧ Hid (∃ q, wr = wo.drewN q)) (fun s8 _ => n7 - (intOf s8).toNat)
              case atStart => exact ⟨0, Nat.zero_le _, rfl, Lib.hid tailB_zero, Lib.hid ⟨0, rfl⟩⟩
              case round =>
                obtain ⟨bb, hbb, rfl, hq, hw⟩ := hrel
                obtain ⟨wp, rfl⟩ : ∃ wp : World, wp = wr := ⟨_, rfl⟩
                have hbp : Hid (Below wo.heap.size wo wp) := Lib.hid (by obtain ⟨q, rfl⟩ := hw.out; exact below_drewN (Below.refl _ _) q)
                clear hy6
                have hy6 := hcell6.out wp hbp.out
                by_cases hgo : bb < n7 ∧ tailB (f'.drop a) (xs.map fun d => d.drop a) (bb + 1) = true
                · have hli : (bb : Int) < (n7 : Int) := by omega
                  have hwr : IntKind.i64.wrap ((bb : Int) + 1) = ((bb + 1 : Nat) : Int) := by rw [IntWalk.i64_in _ (by omega)]; omega
                  have hC := hEnd.out bb wp (by omega) hbp.out
                  rw [hgo.2] at hC
                  have hCh := Lib.hid hC
                  have hgoh := Lib.hid hgo.2
                  clear hC hgo
                  go_wp2_with (go_at_call 63; refine hCh.out.mono ?_; rintro e w5 ⟨rfl, q5, hw5⟩; have hw5h := Lib.hid hw5; clear hw5)
                  go_roundw
                  case rel => exact ⟨bb + 1, by omega, by go_num, hgoh, Lib.hid (by obtain ⟨q, e⟩ := hw.out; rw [hw5h.out, e]; exact ⟨_, World.drewN_drewN _ _ _⟩)⟩
                  case measure => simp [intOf]; omega
                · have hTb : Hid (tailN (f'.drop a) (xs.map fun d => d.drop a) = bb) := Lib.hid (tailN_is hgm.out hq.out (by
                    cases hb : tailB (f'.drop a) (xs.map fun d => d.drop a) (bb + 1) with
                    | false => rfl
                    | true =>
                      have := (tailB_iff.1 hb _ hgm.out).1
                      exact absurd ⟨by have := hn7h.out; omega, hb⟩ hgo))
                  have hleb : Hid (∀ d ∈ xs, bb + a ≤ d.length) := Lib.hid fun d hd => by
                    have h1 := (tailB_iff.1 hq.out (d.drop a) (List.mem_map.2 ⟨d, hd, rfl⟩)).1
                    have h2 := hlea.out d hd
                    rw [List.length_drop] at h1
                    omega
                  rcases Nat.lt_or_ge bb n7 with hlt | hge
                  case' inl =>
                    have hli : (bb : Int) < (n7 : Int) := by omega
                    have hwr : IntKind.i64.wrap ((bb : Int) + 1) = ((bb + 1 : Nat) : Int) := by rw [IntWalk.i64_in _ (by omega)]; omega
                    have hC := hEnd.out bb wp (by omega) hbp.out
                    rw [show tailB (f'.drop a) (xs.map fun d => d.drop a) (bb + 1) = false by cases hb : tailB (f'.drop a) (xs.map fun d => d.drop a) (bb + 1); rfl; exact absurd ⟨hlt, hb⟩ hgo] at hC
                    have hCh := Lib.hid hC
                    clear hC hgo
                    go_upto_region 19 with (go_at_call 63; refine hCh.out.mono ?_; rintro e w8 ⟨rfl, q5, hw5⟩; have hB8 : Hid (Below wo.heap.size wo w8) := Lib.hid (by rw [hw5]; exact below_drewN hbp.out q5); clear hw5)
                    clear hCh hli hwr hlt
                  case' inr =>
                    have hli : ¬ (bb : Int) < (n7 : Int) := by omega
                    clear hgo
                    go_upto_region 19 with fail
                    clear hli hge
                    obtain ⟨w8, rfl⟩ : ∃ w8 : World, w8 = wp := ⟨_, rfl⟩
                    have hB8 := hbp
                  all_goals
                    clear hw hbp hq hEnd hy6 hcell6 hgm
                    have hRw := Lib.hid (hR5h.out.up hB8.out)
                    have hbw8 := Lib.hid (hbwh.out.trans (hB8.out.mono hbwh.out.size))
                    have hB08 := Lib.hid (hBh.out.trans (hB8.out.mono hBh.out.size))
                    go_wp2
                    go_loopw [9, 10] (fun s9 s10 wr => ∃ (i : Nat) (v : Value) (ls : List Slc), i ≤ j ∧ s10 = .int .i64 i ∧ v = s9 ∧ Hid (ls.length = i) ∧ Hid (ZRow w lo w8.heap.size wr v ls ((xs.take i).map (leftD a bb))) ∧ Hid (Below w8.heap.size w8 wr)) (fun _ s10 _ => j - (intOf s10).toNat)
                    case atStart => exact ⟨0, _, [], Nat.zero_le _, rfl, rfl, Lib.hid rfl, Lib.hid (ZRow.start _ _ _ _), Lib.hid (Below.refl _ _)⟩
                    case round =>
                      obtain ⟨i, v, ls, hi2, rfl, rfl, hll, hY, hB9⟩ := hrel
                      obtain ⟨wz, rfl⟩ : ∃ wz : World, wz = wr := ⟨_, rfl⟩
                      have hbwz := Lib.hid (hbw8.out.trans (hB9.out.mono hbw8.out.size))
                      have hB0z := Lib.hid (hB08.out.trans (hB9.out.mono hB08.out.size))
                      by_cases hlt3 : i < j
                      · obtain ⟨b8, o8, A8, n8, c8, d8, e8, hb8, ht8, hr8, hcell8, hnc8, hcm8, hst8⟩ := (hRw.out.up hB9.out).at_ (k := i) hlt3
                        injection e8 with e8
                        injection e8 with e81 e82
                        subst e81
                        subst e82
                        have i5 : (0 : Int) ≤ (i : Int) := by omega
                        have i6 : (i : Int) < (j : Int) := by omega
                        have hdn : d8.length = n8 := hst8.len
                        have hT8 := hZfh.out.2.2 i _ _ hr8 ht8
                        obtain ⟨d, hd, hde⟩ : ∃ d, xs[i]? = some d ∧ d.drop a = d8 := by
                          rw [List.getElem?_map] at ht8
                          cases hx : xs[i]? with
                          | none => rw [hx] at ht8; cases ht8
                          | some d => rw [hx] at ht8; simp at ht8; exact ⟨d, rfl, ht8⟩
                        have hle8 : bb ≤ n8 := by
                          have h1 := hleb.out d (List.mem_of_getElem? hd)
                          have h2 : d8.length = d.length - a := by rw [← hde, List.length_drop]
                          omega
                        have hn8m : n8 ≤ maxLen := Nat.le_trans hnc8 hcm8
                        unfold maxLen at hn8m
                        obtain ⟨r8, hr8e⟩ : ∃ r8 : Nat, n8 - bb = r8 := ⟨_, rfl⟩
                        have g8 : (n8 : Int) - (bb : Int) = (r8 : Int) := by omega
                        have w8e : IntKind.i64.wrap (r8 : Int) = (r8 : Int) := IntWalk.i64_in _ (by omega)
                        obtain ⟨A9, m9, q9, hs9, hT9, hm9⟩ := slice_to (k := r8) hT8 (by omega)
                        have hleft : d8.take r8 = leftD a bb d := by unfold leftD; rw [hde, hdn, hr8e]
                        rw [hleft] at hT9
                        have hown : wz.ownsRow w8.heap.size 25 1 v i (ls.map slcV) := by have := hY.out.1; rw [hll.out] at this; exact this
                        have hsz := hB9.out.size
                        have hbz : b6 < w8.heap.size := by
                          obtain ⟨b9, o9, _, _, _, _, e9, hb9, _⟩ := hRw.out.at_ (k := i) hlt3
                          injection e9 with e9
                          injection e9 with e91 e92
                          rw [e91]; exact hb9
                        have hmax : Hid (i + 1 ≤ maxLen ∧ (i + 1) * 24 ≤ 140737488355328) := Lib.hid ⟨by unfold maxLen; omega, by omega⟩
                        have hput := Lib.hid (fun v' w6 h => hY.out.put (v' := v') (w2 := w6) (r := (A9, m9, q9)) (d := leftD a bb d) h hT9)
                        have hmap := Lib.hid (show (xs.take (i + 1)).map (leftD a bb) = (xs.take i).map (leftD a bb) ++ [leftD a bb d] by rw [take_at hd, List.map_append]; rfl)
                        have hal : Hid ((wz.alloc (.cells #[.slice A9 m9 q9] 25)).drew.cell? ⟨b6, o6 + i, none⟩ = some (.slice A8 n8 c8)) := Lib.hid ((World.cell?_alloc_lt _ _ ⟨b6, o6 + i, none⟩ (by show b6 < _; omega)).trans hcell8)
                        have hgr : Hid (∀ w2 : World, (wz.alloc (.cells #[.slice A9 m9 q9] 25)).drew.grownBy w2 v.ownBlock → w2.cell? ⟨b6, o6 + i, none⟩ = some (.slice A8 n8 c8)) := Lib.hid (fun w2 hg => by
                          refine (World.cell?_of_block (w := (wz.alloc (.cells #[.slice A9 m9 q9] 25)).drew) (hg.block b6 (by show b6 < (wz.alloc _).heap.size; simp; omega) (fun e => ?_))).trans hal.out
                          have := (hown.lt b6 e.symm).1
                          omega)
                        clear ht8 hr8 hst8 hnc8 hcm8 hT8 hT9 hdn hle8 hm9 hd hde hleft hr8e hn8m hbz
                        go_wp2
                        go_region_held3 (fun wx : World => wx.cell? ⟨b6, o6 + i, none⟩ = some (.slice A8 n8 c8))
                          (first
                            | exact hcell8
                            | exact hal.out
                            | exact hgr.out _ hg9)
                          ((refine appendO_step rfl (.tmp 93) (.tmp 106) 38 rfl w8.heap.size 25 i0 (.slice none 0 0) 1 24 Tryz.underlying38 hi hz0 hz1 hz2 rfl (by decide) v i _ (by simp [Act.eval]) (hown.alloc _) ⟨wz.heap.size, 0, none⟩ 1 1 [.slice A9 m9 q9] (by simp [Act.eval]) rfl (cell_one_new _ _ _) (by simp [Value.oneCell']) hmax.out.1 hmax.out.2 (by simp; omega) ?_; intro v' w9 hown9 hg9 hloc9))
                        have hB10 : Hid (Below w8.heap.size w8 w9) := Lib.hid ((show Below w8.heap.size w8 (wz.alloc (.cells #[.slice A9 m9 q9] 25)).drew from below_drew (below_alloc hB9.out _)).grown hg9 (by simp; omega) (fun g e => (hown.lt g e).1))
                        have hf9 := Lib.hid (hput.out v' w9 (by rw [hll.out]; exact hown9))
                        clear hown9 hg9 hloc9 hcell8 hal hgr
                        go_wp2_with fail
                        go_roundw
                        case rel => exact ⟨i + 1, v', ls ++ [(A9, m9, q9)], by omega, by go_num, rfl, Lib.hid (by rw [List.length_append, hll.out]; rfl), Lib.hid (by rw [hmap.out]; exact hf9.out), hB10⟩
                        case measure => simp [intOf]; omega
                      · obtain rfl : i = j := by omega
                        have hYf : ZRow w lo w8.heap.size wz v ls (xs.map (leftD a bb)) := by have := hY.out; rw [List.take_of_length_le (by rw [hlh.out]; exact Nat.le_refl _)] at this; exact this
                        obtain ⟨A10, c10, hv, p1, p2, hR10⟩ := hYf.rows hloh.out hbwz.out
                        rw [hll.out] at hv p1 hR10
                        subst hv
                        have hYfh := Lib.hid hYf
                        have hw8h := Lib.hid hbw8.out.size
                        obtain ⟨-, x2, -, -, -, -⟩ := hcells.out wz hB0z.out
                        have haf : a + bb ≤ nf := by have h1 := hleb.out f' hfm.out; have h2 := hnfh.out; omega
                        obtain ⟨rb, hrb⟩ : ∃ rb : Nat, nf - bb = rb := ⟨_, rfl⟩
                        have gb : (nf : Int) - (bb : Int) = (rb : Int) := by omega
                        have wb : IntKind.i64.wrap (rb : Int) = (rb : Int) := IntWalk.i64_in _ (by omega)
                        obtain ⟨A11, m11, q11, hs11, hT11, hm11⟩ := slice_to (k := a) hTf.out (by omega)
                        obtain ⟨A12, m12, q12, hs12, hT12, hm12⟩ := slice_from (k := rb) hTf.out (by omega)
                        have hrbe : rb = f'.length - bb := by have := hnfh.out; omega
                        rw [hrbe] at hT12
                        have hNr : Hid (∀ W, Below wz.heap.size wz W → W.heap[wz.heap.size]? = some (.cells #[.bool false, .slice A11 m11 q11, .slice none 0 0, .slice none 0 0, .bool true, .slice none 0 0, .slice A2 n2 c2, .slice A10 i c10, .bool false, .slice A12 m12 q12, .slice none 0 0, .slice none 0 0] 40 (0, 0)) → Calls Tryz.prog 33 #[.slice (some ⟨wz.heap.size, 0, none⟩) 3 3] W fun e w' => PcsLo lo w w' e (normal (trimL bs f' xs)) ∧ Below wz.heap.size wz w') := Lib.hid (fun W hW hg => by
                          rw [htr.out bb hTb.out]
                          have hbW := hbwz.out.trans (hW.mono hbwz.out.size)
                          have hPs := pcs_of (qs := [(((A11, m11, q11), (none, 0, 0), (none, 0, 0)), tPc (f'.take a)), (((none, 0, 0), (A2, n2, c2), (A10, i, c10)), cPc bs (xs.map (leftD a bb))), (((A12, m12, q12), (none, 0, 0), (none, 0, 0)), tPc (f'.drop (f'.length - bb)))]) hg rfl rfl fun q hq => by
                            simp only [List.mem_cons, List.not_mem_nil, or_false] at hq
                            rcases hq with rfl | rfl | rfl
                            · exact PcR.text (hT11.up hbW)
                            · exact PcR.conf ((hP2h.out.more hloh.out).up hbW) ⟨p1, p2, ls, hR10.up hW⟩
                            · exact PcR.text (hT12.up hbW)
                          refine (rNormalF_any (FLo lo w) _ 3 3 _ _ W (by omega) ?_ hPs (fun k hk => Nat.lt_of_lt_of_le hk.2 hbW.size) (fun w2 hb k v p a b hp => ?_)).mono ?_
                          · have := hnfh.out
                            simp [sumT, tPc, cPc]
                            omega
                          · match k, a, b with
                            | 0, a, b => simp at b; rw [← b] at hp; cases hp
                            | 1, a, b =>
                              simp at a b
                              subst a
                              subst b
                              exact PcR.conf (hP2h.out.loF hloh.out hbW hb) (hYfh.out.rowsF rfl hloh.out hw8h.out hbwz.out ((But.of_below (F := FLo lo w) hW fun k hk _ => hk).trans hb fun k e => .inl e))
                            | 2, a, b => simp at b; rw [← b] at hp; cases hp
                            | k + 3, a, b => simp at a
                          · rintro e w' ⟨A, n, c, vs, h1, h2, h3, h4, h5⟩
                            exact ⟨⟨A, n, c, vs, h1, h2, h3, h4, hbW.trans (h5.mono hbW.size)⟩, hW.trans (h5.mono hW.size)⟩)
                        have hS : Hid (∀ W, Below wz.heap.size wz W → W.cell? ⟨w.heap.size, 2, none⟩ = some (.slice A2 n2 c2)) := Lib.hid (fun W hW => (hcells.out W (hB0z.out.trans (hW.mono hB0z.out.size))).2.1)
                        have hrefl := Below.refl wz.heap.size wz
                        clear hYf hR10 hY hT11 hT12 hm11 hm12 hrb hrbe haf p1 p2
                        go_wp2
                        go_region_held3 (fun wx : World => wx.cell? ⟨w.heap.size, 2, none⟩ = some (.slice A2 n2 c2))
                          ((first | exact x2 | (refine hS.out _ ?_; repeat (first | assumption | refine below_drew ?_ | refine below_alloc ?_ _))))
                          ((go_at_call 33; refine (hNr.out _ ?_ ?_).mono ?_; (repeat (first | assumption | refine below_drew ?_ | refine below_alloc ?_ _)); exact Go.Deep.blk_alloc_new _ _; rintro e w7 ⟨⟨A9, n9, c9, vs9, rfl, hq9⟩, hb7⟩))
                        go_wp2_with fail
                        go_ret
                        exact ⟨A9, n9, c9, vs9, rfl, hq9⟩
            · have htr : Hid (trimL bs f' xs = [tPc f']) := Lib.hid (by
                unfold trimL
                dsimp only
                rw [hN.out, if_pos hemf])
              have hNr : Hid (∀ W, Below wo.heap.size wo W → W.heap[wo.heap.size]? = some (pcObj false ((Af, nf, cf), (none, 0, 0), (none, 0, 0))) → Calls Tryz.prog 33 #[.slice (some ⟨wo.heap.size, 0, none⟩) 1 1] W fun e w' => PcsLo lo w w' e (normal (trimL bs f' xs))) := Lib.hid (fun W hW hg => by
                rw [htr.out]
                have hbW := hbwh.out.trans (hW.mono hbwh.out.size)
                refine (rNormalF_any (FLo lo w) _ 1 1 _ [tPc f'] W (by omega) (by have := hnfh.out; simp [sumT, tPc]; omega) (pcs_one (p := tPc f') hg (PcR.text (hTf.out.up hbW))) (fun k hk => Nat.lt_of_lt_of_le hk.2 hbW.size) (fun w2 hb j v p a b hp => ?_)).mono ?_
                · match j, a, b with
                  | 0, a, b => simp at b; rw [← b] at hp; cases hp
                  | j + 1, a, b => simp at a
                · rintro e w' ⟨A, n, c, vs, h1, h2, h3, h4, h5⟩
                  exact ⟨A, n, c, vs, h1, h2, h3, h4, hbW.trans (h5.mono hbW.size)⟩)
              clear hZ hem hemf hZf l1 l2 hR5 hbl y0
              go_wp2_with (go_at_call 33; refine (hNr.out _ ((Below.refl _ _).alloc (Nat.le_refl _) _) (Go.Deep.blk_alloc_new _ _)).mono ?_; rintro e w7 ⟨A9, n9, c9, vs9, rfl, hq9⟩; have hq9h := Lib.hid hq9; clear hq9)
              go_ret
              exact ⟨A9, n9, c9, vs9, rfl, hq9h.out⟩

/-- The document's own Trim. -/
theorem rTrim_any (lo : Nat) (v : PcV) (p : Pc) (w : World) (hlo : lo ≤ w.heap.size) (hsm : smallP p) (hP : PcR w lo v p) :
    Calls Tryz.prog 32 #[.agg #[.bool p.1, .slice v.1.1 v.1.2.1 v.1.2.2, .slice v.2.1.1 v.2.1.2.1 v.2.1.2.2, .slice v.2.2.1 v.2.2.2.1 v.2.2.2.2]] w fun e w' => PcsLo lo w w' e (trimD p) := by
  obtain ⟨cf, t, bs, ss⟩ := p
  cases cf with
  | false => exact rTrim_stay lo v _ w hlo hsm hP (.inl rfl)
  | true =>
    cases ss with
    | nil => exact rTrim_stay lo v _ w hlo hsm hP (.inr rfl)
    | cons f ds => exact rTrim_conf lo v t bs f ds w hlo hsm hP
end Go.Proofs.YtcpopnhnihbofaaGreatDoor
