/- Proved here: texts joined: AlnGo. -/
import Derived.Test.YtoopdgohdeddoaaGreatDoorBs17
import Derived.Deep.DeepCutAuto
import Derived.Deep.LoopGhost
/- Proved here: the contract of the document's own answer of layer 5: Align (where there may be such chunks). -/
namespace Go.Proofs.YtoopdgohdeddoaaGreatDoor
open Go.RowKit
set_option linter.unusedVariables false

theorem snoc_of {α : Type} {l : List α} (h : l ≠ []) : ∃ l0 x, l = l0 ++ [x] := ⟨l.dropLast, l.getLast h, (List.dropLast_concat_getLast h).symm⟩
theorem cks_snoc {qs0 : List (CkV × Ck)} {q0 : CkV × Ck} {cs : List Ck} {c : Ck} (h : cksOf (qs0 ++ [q0]) = cs ++ [c]) : cksOf qs0 = cs ∧ q0.2 = c := by
  unfold cksOf at h ⊢
  rw [List.map_append] at h
  obtain ⟨a, b⟩ := List.append_inj' h rfl
  exact ⟨a, by simpa using b⟩

set_option maxRecDepth 100000 in
set_option maxHeartbeats 16000000 in
theorem rAlign_any (m : Nat) (A0 : Option Addr) (c0 : Nat) (sizes : List Int) (A : Option Addr) (n c : Nat) (rows : List (Option Addr × Nat × Nat)) (ms : List (List Int)) (w : World) (hm : m ≤ 1000000) (hn : 1 ≤ n) (hn2 : n ≤ 16) (hz : ∀ z ∈ sizes, 0 ≤ z ∧ z ≤ 1000000) (hms : MsR m ms)
    (hmay : ∀ (i : Nat) (l : List Int) (z : Int), ms[i]? = some l → sizes[i]? = some z → may l z = true) (his : ∀ (k : Nat) (l : List Int) (z : Int), ms[k]? = some l → sizes[k]? = some z → IsMatch m l z) (hA0 : Nums w w.heap.size A0 n sizes) (hA : RowsN w w.heap.size A n rows ms) :
    Calls Tryz.prog 50 #[.int .i64 m, .slice A0 n c0, .slice A n c] w fun e w' => ∃ cs, CksOut w w' e cs ∧ IsCut m sizes ms cs := by
  have hl := hA.len
  have hl0 := hA0.len
  have hml : ms.length = sizes.length := by omega
  have hMay := Lib.hid (rMay5_any m A0 c0 sizes A n c w.heap.size rows ms w hm hn hn2 (fun z h => (hz z h).2) (fun l h => (hms l h).1) hmay hA0 hA)
  have hA0h := Lib.hid hA0
  have hAh := Lib.hid hA
  have hmsh := Lib.hid hms
  have hish := Lib.hid his
  have hzh := Lib.hid hz
  obtain ⟨j0, hj, hyy⟩ := Option.map_eq_some_iff.1 infoCk
  simp only [Prod.mk.injEq] at hyy
  obtain ⟨hy0, hy1, hy2⟩ := hyy
  clear hA hA0 hms his hz hmay
  go_enter Tryz.func50, Tryz.ntmps50
  go_wp2_with (go_at_call 85; refine hMay.out.mono ?_; rintro e w1 ⟨rfl, z1, rfl⟩; have hst := Lib.hid (AlnIn.start w n z1))
  go_loopg [8, 10, 11, 12] m (fun gk s8 s10 _ _ wr => ∃ (k : Nat) (v : Value) (qs : List (CkV × Ck)), k ≤ m ∧ gk = m - k ∧ s10 = .int .i64 k ∧ v = s8 ∧ Hid (AlnIn w wr n v qs) ∧ Hid (RefIn m sizes ms k (cksOf qs)) ∧ Hid (qs.length ≤ 2 * k))
  case atStart => exact ⟨0, _, [], Nat.zero_le _, by omega, rfl, rfl, hst, Lib.hid (RefIn.start m sizes ms), Lib.hid (by simp)⟩
  case round =>
    obtain ⟨k, v, qs, hkm, hgk, rfl, rfl, hI, hR, hQ⟩ := hrel
    obtain ⟨wo, rfl⟩ : ∃ wo : World, wo = wr := ⟨_, rfl⟩
    clear hst hMay
    obtain ⟨st, f, t, Al, n0, cl, ss, hlq, c0', c1', c2', c3', z0', z1', z2', z3', hsz, hSp, hb1, hb2, hn0, hfr, ht⟩ := hI.out.cells
    by_cases hlt : k < m
    · have i1 : (k : Int) < (m : Int) := by omega
      have hSt : Hid (Calls Tryz.prog 86 #[.slice A n c, .int .i64 k] wo fun e w' => e = .returned (.bool (allP ms k)) ∧ wo = w') := Lib.hid ((rStable_any A n c w.heap.size m k rows ms wo (by omega) hlt hmsh.out (hAh.out.below hI.out.below)).mono fun e w' h => ⟨h.1, h.2.symm⟩)
      obtain ⟨ap, hap⟩ : ∃ ap, allP ms k = ap := ⟨_, rfl⟩
      rw [hap] at hSt
      cases ap
      · have hR2 := Lib.hid (hR.out.miss hap)
        clear hap hSp hfr ht hlq hn0 c0' c1' c2' c3' z0' z1' z2' z3' hb1 hb2
        go_upto_region 7 with (go_at_call 86; refine hSt.out.mono ?_; rintro e w1 ⟨rfl, rfl⟩)
        go_wp2
        go_roundg (m - (k + 1))
        case measure => omega
        case rel =>
          refine ⟨k + 1, _, qs, by omega, rfl, ?_, rfl, hI, hR2, ?_⟩
          · go_num
          · exact Lib.hid (by have := hQ.out; omega)
      · have hPl : Hid (∀ (more : Int) (W : World), 0 ≤ more ∧ more ≤ 1 → Below wo.heap.size wo W → Calls Tryz.prog 88 #[.slice A n c, .int .i64 k, .int .i64 more] W fun e w' => ∃ A' c', e = .returned (.slice A' n c') ∧ Nums w' w'.heap.size A' n (ms.map fun l => pl l k + more) ∧ Below W.heap.size W w' ∧ Below wo.heap.size wo w') := Lib.hid (fun more W hmo hW => by
          refine (rPlaces_any A n c w.heap.size m k more rows ms W (by omega) hlt hmo hmsh.out (Nat.le_trans hI.out.below.size hW.size) ((hAh.out.below hI.out.below).below (hW.mono hI.out.below.size))).mono ?_
          rintro e w' ⟨A', c', h1, h2, h3, h4, h5⟩
          exact ⟨A', c', h1, h4, h5, hW.trans (h5.mono hW.size)⟩)
        have hCk : Hid (∀ (b : Int) (A' : Option Addr) (c' : Nat) (fs : List Int) (W : World), Below wo.heap.size wo W → Nums W W.heap.size A' n fs → Calls Tryz.prog 87 #[.agg #[.bool st, .int .i64 f, .int .i64 t, .slice Al n0 cl], .int .i64 b, .slice A' n c'] W fun e w' => ChunkOut W w' e (ckOf false (endB (cksOf qs)) b (endA n (cksOf qs)) fs)) := Lib.hid (fun b A' c' fs W hW hN => by
          have := rChunk_any st f t Al n0 cl ss b A' n c' fs W (by omega) hn0 ((hSp.keep (w' := W) fun p hp => hW.cell hp).more hW.size) hN
          refine this.mono fun e w' h => ?_
          have e1 : ((false, (t, b), List.zip (froms n0 n ss) fs) : Ck) = ckOf false (endB (cksOf qs)) b (endA n (cksOf qs)) fs := by unfold ckOf; rw [hfr, ← ht]
          rw [← e1]
          exact h)
        have hwoB : Below wo.heap.size wo wo := Below.refl _ _
        have hlqh := Lib.hid hlq
        clear hSp hfr hlq hn0 hb1 hb2 ht
        have haph := Lib.hid hap
        obtain ⟨gap, hgap⟩ : ∃ gap, ckOf false (endB (cksOf qs)) k (endA n (cksOf qs)) (plAll ms k) = gap := ⟨_, rfl⟩
        have hCk1 : Hid (∀ (A' : Option Addr) (c' : Nat) (W : World), Below wo.heap.size wo W → Nums W W.heap.size A' n (ms.map fun l => pl l k + 0) → Calls Tryz.prog 87 #[.agg #[.bool st, .int .i64 f, .int .i64 t, .slice Al n0 cl], .int .i64 k, .slice A' n c'] W fun e w' => ChunkOut W w' e gap) := Lib.hid (fun A' c' W hW hN => by
          rw [← hgap]
          exact hCk.out k A' c' (plAll ms k) W hW (by have e : (ms.map fun l => pl l k + 0) = plAll ms k := List.map_congr_left fun l _ => Int.add_zero _; rw [e] at hN; exact hN))
        have hgaph := Lib.hid hgap
        clear hgap hap
        go_upto_region 9 with (go_at_call 86; refine hSt.out.mono ?_; rintro e w1 ⟨rfl, rfl⟩)
        go_cut [11] (fun s11 wx => ∃ g r, s11 = .pointer (some ⟨g, 0, none⟩) ∧ Hid (NewCk wo wx g r gap))
        case first =>
          go_region_with (first
            | (go_at_call 88; refine (hPl.out _ _ ?_ ?_).mono ?_; omega; (first | with_reducible exact hwoB | with_reducible exact below_drew hwoB | with_reducible exact below_alloc hwoB _ | with_reducible exact below_drew (below_alloc hwoB _)); rintro e w7 ⟨A', c', rfl, hN7, hb7, hB7⟩; have y0 := (hB7.cell (p := ⟨w.heap.size, 0, none⟩) hsz).trans c0'; have y1 := (hB7.cell (p := ⟨w.heap.size, 1, none⟩) hsz).trans c1'; have y2 := (hB7.cell (p := ⟨w.heap.size, 2, none⟩) hsz).trans c2'; have y3 := (hB7.cell (p := ⟨w.heap.size, 3, none⟩) hsz).trans c3'; have hs7 : w.heap.size < w7.heap.size := Nat.lt_of_lt_of_le hsz hB7.size; (first | (have k7 : w7.heap[wo.heap.size]? = some (.cells #[.bool false, .int .i64 0, .int .i64 0, .slice none 0 0] 51 (0, 0)) := (hb7.block _ (by simp)).trans (one_a wo _)) | (have k7 := trivial)))
            | (go_at_call 87; refine (hCk1.out _ _ _ (by first | with_reducible exact hB7 | with_reducible exact below_drew hB7 | with_reducible exact below_alloc hB7 _ | with_reducible exact below_drew (below_alloc hB7 _)) (by first | with_reducible exact hN7 | exact (Nums.below hN7 (below_alloc (Below.refl _ _) _)).more (by simp))).mono ?_; rintro e w8 ⟨A8, n8, c8, rfl, h81, h82, h83, h84, h85⟩; (first | (have k8 : w8.heap[w7.heap.size]? = some (.cells #[.bool false, .int .i64 0, .int .i64 0, .slice none 0 0] 51 (0, 0)) := (h85.block _ (by simp)).trans (one_a w7 _); obtain ⟨e0, e1, e2, e3, z0, z1, z2, z3⟩ := piece_at k8) | (have k8 : w8.heap[wo.heap.size]? = some (.cells #[.bool false, .int .i64 0, .int .i64 0, .slice none 0 0] 51 (0, 0)) := (h85.block _ (Array.getElem?_eq_some_iff.1 k7).1).trans k7; obtain ⟨e0, e1, e2, e3, z0, z1, z2, z3⟩ := piece_at k8) | (have k8 := trivial))))
          all_goals
            go_wp2_with fail
            go_meet
            first
              | with_reducible exact ⟨_, _, rfl, Lib.hid (NewCk.late hB7 h81 h82 h83 h84 h85)⟩
              | with_reducible exact ⟨_, _, rfl, Lib.hid (NewCk.early (below_alloc hB7 _) hB7.size (by simp) h81 h82 h83 h84 h85 k8)⟩
              | with_reducible exact ⟨_, _, rfl, Lib.hid (NewCk.early hB7 (Nat.le_refl _) (Array.getElem?_eq_some_iff.1 k7).1 h81 h82 h83 h84 h85 k8)⟩
        case rest =>
          obtain ⟨g, r, rfl, hNG⟩ := hcut
          clear hCk1 hPl hCk c0' c1' c2' c3' z0' z1' z2' z3' hwoB
          have hI2 := Lib.hid (hI.out.up hNG.out.2.2.2)
          obtain ⟨e0, e1, e2, e3, z0, z1, z2, z3⟩ := hNG.out.cells
          have hmid := Lib.hid (ref_mid hish.out hml hR.out hlt haph.out)
          have hE : Hid (Calls Tryz.prog 89 #[.agg #[.bool gap.1, .int .i64 gap.2.1.1, .int .i64 gap.2.1.2, .slice r.1 r.2.1 r.2.2]] wc fun e w' => e = .returned (.bool (emptyB gap)) ∧ Below wc.heap.size wc w') := Lib.hid (by
            obtain ⟨q1, q2, q3⟩ := hNG.out.2.2.1 wc (But.refl _ _)
            exact Empty_any gap.1 gap.2.1.1 gap.2.1.2 gap.2.2 r.1 r.2.1 r.2.2 wc.heap.size wc (Nat.le_trans q1 q2) (Nat.le_refl _) q3)
          have hgw : gap.2.2.length = n := by
            rw [← hgaph.out]
            show (List.zip (endA n (cksOf qs)) (plAll ms k)).length = n
            rw [List.length_zip, plAll_len, hl]
            have : (endA n (cksOf qs)).length = n := by
              unfold endA
              cases hg : (cksOf qs).getLast? with
              | none => simp
              | some c =>
                dsimp only
                unfold ends
                rw [List.length_map]
                have hm := List.mem_of_getLast? hg
                unfold cksOf at hm
                obtain ⟨q, hq, rfl⟩ := List.mem_map.1 hm
                exact hI.out.wid q hq
            omega
          have hgwh := Lib.hid hgw
          obtain ⟨eb, heb⟩ : ∃ eb, emptyB gap = eb := ⟨_, rfl⟩
          rw [heb] at hE
          have hebh := Lib.hid heb
          clear heb hgw
          go_upto_if 36 with (go_at_call 89; refine hE.out.mono ?_; rintro e wE ⟨rfl, hbE⟩; have hbEh := Lib.hid hbE; obtain ⟨e0, e1, e2, e3, z0, z1, z2, z3⟩ := (hNG.out.up hbE).cells; clear hbE)
          go_cut [8] (fun s8 wx => ∃ v1 qs1, v1 = s8 ∧ Hid (AlnIn w wx n v1 qs1) ∧ Hid (cksOf qs1 = putC (cksOf qs) gap) ∧ Hid (qs1.length ≤ qs.length + 1))
          case first =>
            have hI3 := Lib.hid (hI2.out.up hbEh.out)
            cases eb
            · have hown := hI3.out.cks.own
              have hszB := hI3.out.cks.size
              have hput : Hid (∀ (w2 : World) (v' : Value), w2.ownsRow (w.heap.size + 1) 51 4 v' (qs.length + 1) (cqCs qs ++ cqC (r, gap)) → (wE.alloc (ckObj (r, gap))).grownBy w2 v.ownBlock → (v'.ownBlock = v.ownBlock ∨ v'.ownBlock = some (wE.alloc (ckObj (r, gap))).heap.size) →
                  w2.heap[w.heap.size]? = some (.cells #[.bool st, .int .i64 f, .int .i64 t, .slice Al n0 cl] 51 (0, 0)) ∧ (w2.cell? ⟨g, 0, none⟩ = some (.bool gap.1) ∧ w2.cell? ⟨g, 1, none⟩ = some (.int .i64 gap.2.1.1) ∧ w2.cell? ⟨g, 2, none⟩ = some (.int .i64 gap.2.1.2) ∧ w2.cell? ⟨g, 3, none⟩ = some (.slice r.1 r.2.1 r.2.2)) ∧
                  AlnIn w ((((w2.setCell ⟨w.heap.size, 0, none⟩ (.bool gap.1)).setCell ⟨w.heap.size, 1, none⟩ (.int .i64 gap.2.1.1)).setCell ⟨w.heap.size, 2, none⟩ (.int .i64 gap.2.1.2)).setCell ⟨w.heap.size, 3, none⟩ (.slice r.1 r.2.1 r.2.2)) n v' (qs ++ [(r, gap)])) := Lib.hid (fun w2 v' q2 q3 q4 => by
                obtain ⟨p1, p2⟩ := hI3.out.put (q := (r, gap)) hI3.out.cks (fun q h => h) hgwh.out (hNG.out.row hbEh.out (fun k e => (hI.out.cks.own.lt k e).2) hsz) q2 q3 q4
                rw [hlqh.out] at p1
                have hNE := hNG.out.up hbEh.out
                have hge := hNE.2.1
                have hgl := (Array.getElem?_eq_some_iff.1 hNE.1).1
                have hgb : w2.heap[g]? = _ := ((q3.block g (by simp; omega) (fun e => by have := (hI.out.cks.own.lt g e.symm).2; omega)).trans (Below.heap_alloc wE _ g hgl)).trans hNE.1
                exact ⟨p1, ⟨(cells_of hgb 0).trans rfl, (cells_of hgb 1).trans rfl, (cells_of hgb 2).trans rfl, (cells_of hgb 3).trans rfl⟩, p2⟩)
              have hmax : Hid (qs.length + 1 ≤ maxLen ∧ (qs.length + 1) * 48 ≤ 140737488355328) := Lib.hid (by have := hQ.out; unfold maxLen; omega)
              go_wp2_with (at_builtin; refine wpList_append_own_at _ rfl _ _ 41 rfl (w.heap.size + 1) 51 j0 (.agg #[.bool false, .int .i64 0, .int .i64 0, .slice none 0 0]) 4 48 Tryz.underlying41 hj hy0 hy1 hy2 rfl (by decide) v qs.length _ rfl (hown.alloc _) ⟨wE.heap.size, 0, none⟩ 1 1 (cqC (r, gap)) rfl rfl (cell_new_cq wE (r, gap)) (cqC_one _) hmax.out.1 hmax.out.2 (by simp; omega) ?_; intro v' w2 hown2 hg2 hnil2 hloc2; clear hnil2; obtain ⟨p1, ⟨f0, f1, f2, f3⟩, p2⟩ := hput.out w2 v' hown2 hg2 hloc2; obtain ⟨d0, d1, d2, d3, y0, y1, y2, y3⟩ := piece_at p1; have p2h := Lib.hid p2; clear p1 p2 hown2 hg2 hloc2)
              go_meet
              case rel => exact ⟨_, _, rfl, p2h, Lib.hid (by rw [putC, if_neg (by rw [hebh.out]; simp)]; simp [cksOf]), Lib.hid (by simp)⟩
            · go_wp2
              go_meet
              case rel => exact ⟨_, _, rfl, hI3, Lib.hid (by rw [putC, if_pos hebh.out]), Lib.hid (by omega)⟩
          case rest =>
            obtain ⟨v1, qs1, rfl, hI4, hP4, hQ4⟩ := hcut
            obtain ⟨wd, rfl⟩ : ∃ wd : World, wd = wc := ⟨_, rfl⟩
            clear hE hI2 hNG e0 e1 e2 e3 z0 z1 z2 z3 hbEh hlqh hSt hsz
            have hm4 := hmid.out
            rw [hl0, hgaph.out, ← hP4.out] at hm4
            have hm4h := Lib.hid hm4
            clear hm4 hmid
            obtain ⟨st4, f4, t4, Al4, n4, cl4, ss4, hlq4, c0', c1', c2', c3', -, -, -, -, hsz, hSp, hb1, hb2, hn4, hfr, ht⟩ := hI4.out.cells
            obtain ⟨one0, hone0⟩ : ∃ one0, ckOf false k ((k : Int) + 1) (plAll ms k) (plUp ms k) = one0 := ⟨_, rfl⟩
            have hone0h := Lib.hid hone0
            have hPl : Hid (∀ (W : World), Below wd.heap.size wd W → Calls Tryz.prog 88 #[.slice A n c, .int .i64 k, .int .i64 1] W fun e w' => ∃ A' c', e = .returned (.slice A' n c') ∧ Nums w' w'.heap.size A' n (plUp ms k) ∧ Below W.heap.size W w' ∧ Below wd.heap.size wd w') := Lib.hid (fun W hW => by
              refine (rPlaces_any A n c w.heap.size m k 1 rows ms W (by omega) hlt (by omega) hmsh.out (Nat.le_trans hI4.out.below.size hW.size) ((hAh.out.below hI4.out.below).below (hW.mono hI4.out.below.size))).mono ?_
              rintro e w' ⟨A', c', h1, h2, h3, h4, h5⟩
              exact ⟨A', c', h1, h4, h5, hW.trans (h5.mono hW.size)⟩)
            have hCk1 : Hid (∀ (A' : Option Addr) (c' : Nat) (W : World), Below wd.heap.size wd W → Nums W W.heap.size A' n (plUp ms k) → Calls Tryz.prog 87 #[.agg #[.bool st4, .int .i64 f4, .int .i64 t4, .slice Al4 n4 cl4], .int .i64 ((k : Int) + 1), .slice A' n c'] W fun e w' => ChunkOut W w' e one0) := Lib.hid (fun A' c' W hW hN => by
              have := rChunk_any st4 f4 t4 Al4 n4 cl4 ss4 ((k : Int) + 1) A' n c' (plUp ms k) W (by omega) hn4 ((hSp.keep (w' := W) fun p hp => hW.cell hp).more hW.size) hN
              refine this.mono fun e w' h => ?_
              have e1 : ((false, (t4, (k : Int) + 1), List.zip (froms n4 n ss4) (plUp ms k)) : Ck) = one0 := by rw [← hone0h.out, hfr, ht, hm4h.out.1, hm4h.out.2.1]; rfl
              rw [← e1]
              exact h)
            have how : one0.2.2.length = n := by
              rw [← hone0]
              show (List.zip (plAll ms k) (plUp ms k)).length = n
              rw [List.length_zip, plAll_len, plUp_len, hl, Nat.min_self]
            have howh := Lib.hid how
            have hwoB : Below wd.heap.size wd wd := Below.refl _ _
            have hwk : IntKind.i64.wrap ((k : Int) + 1) = (k : Int) + 1 := IntWalk.i64_in _ (by omega)
            clear hSp hfr hn4 hb1 hb2 ht hlq4 hone0 how
            go_upto_region 13 with fail
            go_cut [12] (fun s12 wx => ∃ g r, s12 = .pointer (some ⟨g, 0, none⟩) ∧ Hid (NewCk wd wx g r one0))
            case first =>
              go_region_with (first
                | (go_at_call 88; refine (hPl.out _ ?_).mono ?_; (first | with_reducible exact hwoB | with_reducible exact below_drew hwoB | with_reducible exact below_alloc hwoB _ | with_reducible exact below_drew (below_alloc hwoB _)); rintro e w7 ⟨A', c', rfl, hN7, hb7, hB7⟩; have y0 := (hB7.cell (p := ⟨w.heap.size, 0, none⟩) hsz).trans c0'; have y1 := (hB7.cell (p := ⟨w.heap.size, 1, none⟩) hsz).trans c1'; have y2 := (hB7.cell (p := ⟨w.heap.size, 2, none⟩) hsz).trans c2'; have y3 := (hB7.cell (p := ⟨w.heap.size, 3, none⟩) hsz).trans c3'; have hs7 : w.heap.size < w7.heap.size := Nat.lt_of_lt_of_le hsz hB7.size; (first | (have k7 : w7.heap[wd.heap.size]? = some (.cells #[.bool false, .int .i64 0, .int .i64 0, .slice none 0 0] 51 (0, 0)) := (hb7.block _ (by simp)).trans (one_a wd _)) | (have k7 := trivial)))
                | (go_at_call 87; refine (hCk1.out _ _ _ (by first | with_reducible exact hB7 | with_reducible exact below_drew hB7 | with_reducible exact below_alloc hB7 _ | with_reducible exact below_drew (below_alloc hB7 _)) (by first | with_reducible exact hN7 | exact (Nums.below hN7 (below_alloc (Below.refl _ _) _)).more (by simp))).mono ?_; rintro e w8 ⟨A8, n8, c8, rfl, h81, h82, h83, h84, h85⟩; (first | (have k8 : w8.heap[w7.heap.size]? = some (.cells #[.bool false, .int .i64 0, .int .i64 0, .slice none 0 0] 51 (0, 0)) := (h85.block _ (by simp)).trans (one_a w7 _); obtain ⟨e0, e1, e2, e3, z0, z1, z2, z3⟩ := piece_at k8) | (have k8 : w8.heap[wd.heap.size]? = some (.cells #[.bool false, .int .i64 0, .int .i64 0, .slice none 0 0] 51 (0, 0)) := (h85.block _ (Array.getElem?_eq_some_iff.1 k7).1).trans k7; obtain ⟨e0, e1, e2, e3, z0, z1, z2, z3⟩ := piece_at k8) | (have k8 := trivial))))
              all_goals
                go_wp2_with fail
                go_meet
                first
                  | with_reducible exact ⟨_, _, rfl, Lib.hid (NewCk.late hB7 h81 h82 h83 h84 h85)⟩
                  | with_reducible exact ⟨_, _, rfl, Lib.hid (NewCk.early (below_alloc hB7 _) hB7.size (by simp) h81 h82 h83 h84 h85 k8)⟩
                  | with_reducible exact ⟨_, _, rfl, Lib.hid (NewCk.early hB7 (Nat.le_refl _) (Array.getElem?_eq_some_iff.1 k7).1 h81 h82 h83 h84 h85 k8)⟩
            case rest =>
              obtain ⟨g4, r4, rfl, hN4⟩ := hcut
              obtain ⟨we, rfl⟩ : ∃ we : World, we = wc := ⟨_, rfl⟩
              clear hCk1 hPl c0' c1' c2' c3' hwoB hsz
              obtain ⟨e0, -, -, -, z0, -, -, -⟩ := hN4.out.cells
              obtain ⟨one, hone⟩ : ∃ one : Ck, (true, one0.2) = one := ⟨_, rfl⟩
              have hN5 : Hid (NewCk wd (we.setCell ⟨g4, 0, none⟩ (.bool true)) g4 r4 one) := Lib.hid (by rw [← hone]; exact hN4.out.flag true)
              have honeE : one = ckOf true k (k + 1 : Nat) (plAll ms k) (plUp ms k) := by rw [← hone, ← hone0h.out]; rfl
              have honeh := Lib.hid honeE
              have howw : Hid (one.2.2.length = n) := Lib.hid (by rw [← hone]; exact howh.out)
              have hTg : Hid (Calls Tryz.prog 90 #[.slice A n c, .int .i64 k] (we.setCell ⟨g4, 0, none⟩ (.bool true)) fun e w' => e = .returned (.bool (togB ms k)) ∧ ∃ q, w' = (we.setCell ⟨g4, 0, none⟩ (.bool true)).drewN q) := Lib.hid (rTogether_any A n c w.heap.size m k rows ms _ (by omega) hlt hm hmsh.out ((hAh.out.below hI4.out.below).below (hN5.out.2.2.2.mono hI4.out.below.size)))
              obtain ⟨tb, htb⟩ : ∃ tb, togB ms k = tb := ⟨_, rfl⟩
              rw [htb] at hTg
              have htbh := Lib.hid htb
              clear hone honeE htb
              cases tb
              · have hno : ¬ tog ms k := fun h => by have := (togB_iff ms k).2 h; rw [htbh.out] at this; cases this
                have hR5 := Lib.hid (hm4h.out.2.2.1 hno)
                clear hno
                have hmax : Hid (qs1.length + 1 ≤ maxLen ∧ (qs1.length + 1) * 48 ≤ 140737488355328) := Lib.hid (by have := hQ.out; have := hQ4.out; unfold maxLen; omega)
                have hbq : Hid (∀ q, Below (we.setCell ⟨g4, 0, none⟩ (.bool true)).heap.size (we.setCell ⟨g4, 0, none⟩ (.bool true)) ((we.setCell ⟨g4, 0, none⟩ (.bool true)).drewN q)) := Lib.hid (fun q => below_drewN (Below.refl _ _) q)
                go_upto_region 18 with (go_at_call 90; refine hTg.out.mono ?_; rintro e wt ⟨rfl, hq⟩; have hbt : Hid (Below (we.setCell ⟨g4, 0, none⟩ (.bool true)).heap.size (we.setCell ⟨g4, 0, none⟩ (.bool true)) wt) := Lib.hid (by obtain ⟨q, rfl⟩ := hq; exact hbq.out q); obtain ⟨x0, x1, x2, x3, -⟩ := (hN5.out.up hbt.out).cells; have hown := ((hI4.out.up hN5.out.2.2.2).up hbt.out).cks.own; have hszB := ((hI4.out.up hN5.out.2.2.2).up hbt.out).cks.size; clear hq e0 z0)
                go_wp2_with (at_builtin; refine wpList_append_own_at _ rfl _ _ 41 rfl (w.heap.size + 1) 51 j0 (.agg #[.bool false, .int .i64 0, .int .i64 0, .slice none 0 0]) 4 48 Tryz.underlying41 hj hy0 hy1 hy2 rfl (by decide) v1 qs1.length _ rfl (hown.alloc _) ⟨wt.heap.size, 0, none⟩ 1 1 (cqC (r4, one)) rfl rfl (cell_new_cq wt (r4, one)) (cqC_one _) hmax.out.1 hmax.out.2 (by simp; omega) ?_; intro v' w2 hown2 hg2 hnil2 hloc2; clear hnil2; obtain ⟨p1, ⟨f0, f1, f2, f3⟩, p2⟩ := aln_put hI4.out hN5.out hbt.out howw.out hown2 hg2 hloc2; obtain ⟨d0, d1, d2, d3, y0, y1, y2, y3⟩ := piece_at p1; have p2h := Lib.hid p2; clear p1 p2 hown2 hg2 hloc2)
                go_roundg (m - (k + 1))
                case measure => omega
                case rel =>
                  refine ⟨k + 1, _, _, by omega, rfl, ?_, rfl, p2h, ?_, ?_⟩
                  · go_num
                  · exact Lib.hid (by rw [show cksOf (qs1 ++ [(r4, one)]) = cksOf qs1 ++ [one] by simp [cksOf], honeh.out]; exact hR5.out)
                  · exact Lib.hid (by have := hQ.out; have := hQ4.out; simp; omega)
              · have htg : tog ms k := (togB_iff ms k).1 htbh.out
                obtain ⟨cs, cc, hsp, hR5⟩ := hm4h.out.2.2.2 htg
                have hne : qs1 ≠ [] := by rintro rfl; simp [cksOf] at hsp
                obtain ⟨qs0, q0, rfl⟩ := snoc_of hne
                obtain ⟨hcs0, hqc⟩ := cks_snoc hsp
                obtain ⟨m1, hm1⟩ : ∃ m1, qs0.length = m1 := ⟨_, rfl⟩
                have hown0 := hI4.out.cks.own
                rw [show (qs0 ++ [q0]).length = m1 + 1 by simp [hm1]] at hown0
                obtain ⟨g1, cap, hv⟩ := ownsRow_succ hown0
                obtain ⟨N, hN1⟩ : ∃ N, m1 + 1 = N := ⟨_, rfl⟩
                have hI6 : Hid (AlnIn w wd n (.slice (some ⟨g1, 0, none⟩) (m1 + 1) cap) (qs0 ++ [q0])) := Lib.hid (hv ▸ hI4.out)
                have hcap : m1 ≤ cap ∧ cap ≤ maxLen := by
                  rcases hown0.2 with ⟨h, _⟩ | ⟨g', cap', cur', h, _, _, h5, h6, _⟩
                  · rw [hv] at h; cases h
                  · rw [hv] at h; injection h with _ _ h; omega
                rw [hN1] at hv
                subst hv
                have hml1 : m1 ≤ 4000000 := by have h1 := hQ.out; have h2 := hQ4.out; simp at h2; omega
                have hcapm : (m1 : Int) ≤ (cap : Int) := by omega
                have e5 : (N : Int) - 1 = (m1 : Int) := by omega
                have e6 : IntKind.i64.wrap ((N : Int) - 1) = (m1 : Int) := by rw [e5]; exact IntWalk.i64_in _ (by omega)
                have e7 : IntKind.i64.wrap (m1 : Int) = (m1 : Int) := IntWalk.i64_in _ (by omega)
                have i7 : (0 : Int) ≤ (m1 : Int) := by omega
                have i8 : (m1 : Int) < (N : Int) := by omega
                have hsl : ∀ W : World, (Instr.slice 41 (.slice (some ⟨g1, 0, none⟩) N cap) none (some (.int .i64 (m1 : Int))) none).run Tryz.prog W = .ok (.slice (some ⟨g1, 0, none⟩) m1 cap) W := fun W => by
                  rw [run_slice_h (P := Tryz.prog) W 41 (some ⟨g1, 0, none⟩) N cap Tryz.underlying41 .i64 m1 (by omega) (by omega)]
                  go_simp
                have hbq : Hid (∀ q, Below (we.setCell ⟨g4, 0, none⟩ (.bool true)).heap.size (we.setCell ⟨g4, 0, none⟩ (.bool true)) ((we.setCell ⟨g4, 0, none⟩ (.bool true)).drewN q)) := Lib.hid (fun q => below_drewN (Below.refl _ _) q)
                have hmore := Lib.hid (And.intro hcs0 (And.intro hqc (And.intro hR5 (And.intro hm1 hN1))))
                clear htg hsp hR5 hne hcs0 hqc hown0 hcap hm1 hN1 hI4
                go_upto_region 16 with (go_at_call 90; refine hTg.out.mono ?_; rintro e wt ⟨rfl, hq⟩; have hbt : Hid (Below (we.setCell ⟨g4, 0, none⟩ (.bool true)).heap.size (we.setCell ⟨g4, 0, none⟩ (.bool true)) wt) := Lib.hid (by obtain ⟨q, rfl⟩ := hq; exact hbq.out q); clear hq e0 z0)
                have hN6 := Lib.hid (hN5.out.up hbt.out)
                have hI7 := Lib.hid ((hI6.out.up hN5.out.2.2.2).up hbt.out)
                obtain ⟨x0, x1, x2, x3, -⟩ := hN6.out.cells
                have hownT := hI7.out.cks.own
                rw [show (qs0 ++ [q0]).length = N by rw [List.length_append, List.length_singleton, hmore.out.2.2.2.1, hmore.out.2.2.2.2], hmore.out.2.2.2.2] at hownT
                obtain ⟨w0, w1', w2', w3⟩ := ck_last_cells hmore.out.2.2.2.1 hmore.out.2.2.2.2 hownT
                have hLo : Hid (∀ W, (W = wt ∨ W = wt.drew) → Calls Tryz.prog 91 #[.agg #[.bool q0.2.1, .int .i64 q0.2.2.1.1, .int .i64 q0.2.2.1.2, .slice q0.1.1 q0.1.2.1 q0.1.2.2], .agg #[.bool one.1, .int .i64 one.2.1.1, .int .i64 one.2.1.2, .slice r4.1 r4.2.1 r4.2.2]] W fun e w' => ChunkOut W w' e (longerC q0.2 one) ∧ Below wt.heap.size wt w') := Lib.hid (fun W hW => by
                  have hbW : Below wt.heap.size wt W := by rcases hW with rfl | rfl; exact Below.refl _ _; exact below_drew (Below.refl _ _)
                  obtain ⟨a1, a2, a3⟩ := (hI7.out.up hbW).cks.row W (But.refl _ _) q0 (by simp)
                  obtain ⟨b1, b2, b3⟩ := (hN6.out.up hbW).2.2.1 W (But.refl _ _)
                  have ha := hI7.out.wid q0 (by simp)
                  have e1 : q0.1.2.1 = n := by have := a3.len; omega
                  have e2 : r4.2.1 = n := by have := b3.len; have := howw.out; omega
                  rw [longer_eq]
                  have hR := rLonger_any q0.2.1 one.1 q0.2.2.1.1 q0.2.2.1.2 one.2.1.1 one.2.1.2 q0.1.1 r4.1 n q0.1.2.2 r4.2.2 q0.2.2.2 one.2.2 W (by omega) (by rw [← e1]; exact a3) (by rw [← e2]; exact b3)
                  rw [e1, e2]
                  exact hR.mono fun e w' h => ⟨h, by obtain ⟨_, _, _, _, _, _, _, _, h9⟩ := h; exact hbW.trans (h9.mono hbW.size)⟩)
                have hlw : Hid ((longerC q0.2 one).2.2.length = n) := Lib.hid (by
                  rw [longer_eq]
                  exact joinS_len (hI7.out.wid q0 (by simp)) howw.out)
                obtain ⟨lg, hlg⟩ : ∃ lg, longerC q0.2 one = lg := ⟨_, rfl⟩
                rw [hlg] at hLo hlw
                have hlgh := Lib.hid hlg
                clear hlg hownT
                go_cut [12] (fun s12 wx => ∃ r, s12 = .pointer (some ⟨g4, 0, none⟩) ∧ Hid (NewCk wd wx g4 r lg))
                case first =>
                  go_region_with ((go_at_call 91; refine (hLo.out _ (by first | exact .inl rfl | exact .inr rfl)).mono ?_; rintro e w8 ⟨⟨A8, n8, c8, rfl, h81, h82, h83, h84, h85⟩, hB8⟩; have k8 : w8.heap[g4]? = _ := ((hB8.block _ (Array.getElem?_eq_some_iff.1 hN6.out.1).1).trans hN6.out.1); obtain ⟨t0, t1, t2, t3, z0, z1, z2, z3⟩ := piece_at (show w8.heap[g4]? = some (.cells #[.bool one.1, .int .i64 one.2.1.1, .int .i64 one.2.1.2, .slice r4.1 r4.2.1 r4.2.2] 51 (0, 0)) from k8)))
                  all_goals
                    go_wp2_with fail
                    go_meet
                    first
                      | with_reducible exact ⟨_, rfl, Lib.hid (NewCk.early hN6.out.2.2.2 hN6.out.2.1 (Array.getElem?_eq_some_iff.1 hN6.out.1).1 h81 h82 h83 h84 h85 k8)⟩
                      | exact ⟨_, rfl, Lib.hid (NewCk.early (below_drew hN6.out.2.2.2) hN6.out.2.1 (Array.getElem?_eq_some_iff.1 hN6.out.1).1 h81 h82 h83 h84 h85 k8)⟩
                case rest =>
                  obtain ⟨r5, hs12, hN7⟩ := hcut
                  obtain rfl := hs12
                  obtain ⟨wf, rfl⟩ : ∃ wf : World, wf = wc := ⟨_, rfl⟩
                  clear x0 x1 x2 x3 w0 w1' w2' w3 hTg hLo
                  obtain ⟨x0, x1, x2, x3, -⟩ := hN7.out.cells
                  have hpop := Lib.hid (((hI6.out.up hN7.out.2.2.2).cks).pop hmore.out.2.2.2.1)
                  have hown := hpop.out.own
                  have hszB := hpop.out.size
                  have hmax : Hid (qs0.length + 1 ≤ maxLen ∧ (qs0.length + 1) * 48 ≤ 140737488355328) := Lib.hid (by have := hmore.out.2.2.2.1; unfold maxLen; omega)
                  go_wp2_with (at_builtin; refine wpList_append_own_at _ rfl _ _ 41 rfl (w.heap.size + 1) 51 j0 (.agg #[.bool false, .int .i64 0, .int .i64 0, .slice none 0 0]) 4 48 Tryz.underlying41 hj hy0 hy1 hy2 rfl (by decide) (.slice (some ⟨g1, 0, none⟩) m1 cap) qs0.length _ rfl (hown.alloc _) ⟨wf.heap.size, 0, none⟩ 1 1 (cqC (r5, lg)) rfl rfl (cell_new_cq wf (r5, lg)) (cqC_one _) hmax.out.1 hmax.out.2 (by simp; omega) ?_; intro v' w2 hown2 hg2 hnil2 hloc2; clear hnil2; obtain ⟨p1, ⟨f0, f1, f2, f3⟩, p2⟩ := aln_join hI6.out hmore.out.2.2.2.1 hN7.out hlw.out hown2 hg2 hloc2; obtain ⟨d0, d1, d2, d3, y0, y1, y2, y3⟩ := piece_at p1; have p2h := Lib.hid p2; clear p1 p2 hown2 hg2 hloc2)
                  go_roundg (m - (k + 1))
                  case measure => omega
                  case rel =>
                    refine ⟨k + 1, _, _, by omega, rfl, ?_, rfl, p2h, ?_, ?_⟩
                    · go_num
                    · refine Lib.hid ?_
                      rw [show cksOf (qs0 ++ [(r5, lg)]) = cksOf qs0 ++ [lg] by simp [cksOf], hmore.out.1, ← hlgh.out, hmore.out.2.1, honeh.out]
                      exact hmore.out.2.2.1
                    · exact Lib.hid (by have := hQ.out; have h2 := hQ4.out; simp at h2 ⊢; omega)
    · obtain rfl : k = m := by omega
      obtain ⟨en, hen⟩ : ∃ en, ckOf false (endB (cksOf qs)) k (endA n (cksOf qs)) sizes = en := ⟨_, rfl⟩
      have hfn := hR.out.finish hish.out hml (fun z h => (hzh.out z h).1)
      rw [hl0, hen] at hfn
      have hfnh := Lib.hid hfn
      have hwoB : Below wo.heap.size wo wo := Below.refl _ _
      have hCk : Hid (Calls Tryz.prog 87 #[.agg #[.bool st, .int .i64 f, .int .i64 t, .slice Al n0 cl], .int .i64 k, .slice A0 n c0] wo fun e w' => ChunkOut wo w' e en) := Lib.hid (by
        have := rChunk_any st f t Al n0 cl ss k A0 n c0 sizes wo (by omega) hn0 hSp ((Nums.below hA0h.out hI.out.below).more hI.out.below.size)
        refine this.mono fun e w' h => ?_
        have e1 : ((false, (t, (k : Int)), List.zip (froms n0 n ss) sizes) : Ck) = en := by rw [← hen, hfr, ht]; rfl
        rw [← e1]
        exact h)
      have hew : Hid (en.2.2.length = n) := Lib.hid (by
        rw [← hen]
        show (List.zip (endA n (cksOf qs)) sizes).length = n
        rw [← hfr, List.length_zip, hl0]
        have : (froms n0 n ss).length = n := by
          unfold froms
          split
          · simp
          · rename_i h0
            have h1 := hSp.len
            rw [List.length_map]
            rcases hn0 with h | h <;> omega
        omega)
      obtain ⟨eb, heb⟩ : ∃ eb, emptyB en = eb := ⟨_, rfl⟩
      have hebh := Lib.hid heb
      have hmax : Hid (qs.length + 1 ≤ maxLen ∧ (qs.length + 1) * 48 ≤ 140737488355328) := Lib.hid (by have := hQ.out; unfold maxLen; omega)
      clear hSp hfr hn0 hb1 hb2 ht hlq hfn hen heb
      cases eb
      · go_wp2_with (first
          | (go_at_call 87; refine hCk.out.mono ?_; rintro e w8 ⟨A8, n8, c8, rfl, h81, h82, h83, h84, h85⟩; have hNL := Lib.hid (NewCk.late hwoB h81 h82 h83 h84 h85); have hE : Hid (Calls Tryz.prog 89 #[.agg #[.bool en.1, .int .i64 en.2.1.1, .int .i64 en.2.1.2, .slice A8 n8 c8]] (w8.alloc (.cells #[.bool en.1, .int .i64 en.2.1.1, .int .i64 en.2.1.2, .slice A8 n8 c8] 51)) fun e w' => e = .returned (.bool false) ∧ Below (w8.alloc (.cells #[.bool en.1, .int .i64 en.2.1.1, .int .i64 en.2.1.2, .slice A8 n8 c8] 51)).heap.size (w8.alloc (.cells #[.bool en.1, .int .i64 en.2.1.1, .int .i64 en.2.1.2, .slice A8 n8 c8] 51)) w') := Lib.hid (by obtain ⟨q1, q2, q3⟩ := hNL.out.2.2.1 _ (But.refl _ _); have h9 := Empty_any en.1 en.2.1.1 en.2.1.2 en.2.2 A8 n8 c8 _ _ (Nat.le_trans q1 q2) (Nat.le_refl _) q3; rw [show emptyB (en.1, (en.2.1.1, en.2.1.2), en.2.2) = false from hebh.out] at h9; exact h9); clear h83 h84 h85)
          | (go_at_call 89; refine hE.out.mono ?_; rintro e wE ⟨rfl, hbE⟩; have hbEh := Lib.hid hbE; obtain ⟨e0, e1, e2, e3, z0, z1, z2, z3⟩ := (hNL.out.up hbE).cells; have hown := ((hI.out.up hNL.out.2.2.2).up hbE).cks.own; have hszB := ((hI.out.up hNL.out.2.2.2).up hbE).cks.size; clear hbE)
          | (at_builtin; refine wpList_append_own_at _ rfl _ _ 41 rfl (w.heap.size + 1) 51 j0 (.agg #[.bool false, .int .i64 0, .int .i64 0, .slice none 0 0]) 4 48 Tryz.underlying41 hj hy0 hy1 hy2 rfl (by decide) v qs.length _ rfl (hown.alloc _) ⟨wE.heap.size, 0, none⟩ 1 1 (cqC ((A8, n8, c8), en)) rfl rfl (cell_new_cq wE ((A8, n8, c8), en)) (cqC_one _) hmax.out.1 hmax.out.2 (by simp; omega) ?_; intro v' w2 hown2 hg2 hnil2 hloc2; clear hnil2; obtain ⟨p1, -, p2⟩ := aln_put hI.out hNL.out hbEh.out hew.out hown2 hg2 hloc2; have hCO := Lib.hid (((hI.out.up hNL.out.2.2.2).up hbEh.out).cks.put (q := ((A8, n8, c8), en)) (hNL.out.row hbEh.out (fun k e => (hI.out.cks.own.lt k e).2) hsz) hown2 hg2 hloc2); have hBf := Lib.hid ((((hI.out.up hNL.out.2.2.2).up hbEh.out).below.alloc ((hI.out.up hNL.out.2.2.2).up hbEh.out).below.size _).grown hg2 (by have := ((hI.out.up hNL.out.2.2.2).up hbEh.out).below.size; simp; omega) fun j e => by have := (hI.out.cks.own.lt j e).1; omega); clear p1 p2 hown2 hg2 hloc2))
        obtain ⟨Af, cf, rfl, r1, r2, r3⟩ := hCO.out.reads
        go_ret2
        refine ⟨_, ⟨Af, _, cf, rfl, r1, r2, r3, hBf.out⟩, ?_⟩
        have e1 : cksOf (qs ++ [((A8, n8, c8), en)]) = putC (cksOf qs) en := by rw [putC, if_neg (by rw [hebh.out]; simp)]; simp [cksOf]
        rw [e1]
        exact hfnh.out
      · go_wp2_with (first
          | (go_at_call 87; refine hCk.out.mono ?_; rintro e w8 ⟨A8, n8, c8, rfl, h81, h82, h83, h84, h85⟩; have hNL := Lib.hid (NewCk.late hwoB h81 h82 h83 h84 h85); have hE : Hid (Calls Tryz.prog 89 #[.agg #[.bool en.1, .int .i64 en.2.1.1, .int .i64 en.2.1.2, .slice A8 n8 c8]] (w8.alloc (.cells #[.bool en.1, .int .i64 en.2.1.1, .int .i64 en.2.1.2, .slice A8 n8 c8] 51)) fun e w' => e = .returned (.bool true) ∧ Below (w8.alloc (.cells #[.bool en.1, .int .i64 en.2.1.1, .int .i64 en.2.1.2, .slice A8 n8 c8] 51)).heap.size (w8.alloc (.cells #[.bool en.1, .int .i64 en.2.1.1, .int .i64 en.2.1.2, .slice A8 n8 c8] 51)) w') := Lib.hid (by obtain ⟨q1, q2, q3⟩ := hNL.out.2.2.1 _ (But.refl _ _); have h9 := Empty_any en.1 en.2.1.1 en.2.1.2 en.2.2 A8 n8 c8 _ _ (Nat.le_trans q1 q2) (Nat.le_refl _) q3; rw [show emptyB (en.1, (en.2.1.1, en.2.1.2), en.2.2) = true from hebh.out] at h9; exact h9); clear h83 h84 h85)
          | (go_at_call 89; refine hE.out.mono ?_; rintro e wE ⟨rfl, hbE⟩; have hI9 := Lib.hid ((hI.out.up hNL.out.2.2.2).up hbE); clear hbE))
        obtain ⟨Af, cf, rfl, r1, r2, r3⟩ := hI9.out.cks.reads
        go_ret2
        refine ⟨_, ⟨Af, _, cf, rfl, r1, r2, r3, hI9.out.below⟩, ?_⟩
        have e1 : cksOf qs = putC (cksOf qs) en := by rw [putC, if_pos hebh.out]
        rw [e1]
        exact hfnh.out
end Go.Proofs.YtoopdgohdeddoaaGreatDoor
