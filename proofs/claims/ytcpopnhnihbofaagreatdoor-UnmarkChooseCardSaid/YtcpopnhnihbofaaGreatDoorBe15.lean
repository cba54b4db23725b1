/- Proved here: texts joined: Steps, PickNm, ZlTrim. -/
import Derived.Test.YtcpopnhnihbofaaGreatDoorBe01
import Derived.Test.YtcpopnhnihbofaaGreatDoorBe02
import Derived.Test.YtcpopnhnihbofaaGreatDoorBe14
import Derived.Deep.RegionLaw
import Derived.Maps.AppendAt
import Derived.OwnWalk
import Derived.Deep.DeepCutAuto
import Derived.Outline
import Derived.Deep.RegionHeld3
import Derived.RangeFuncBox
/- Proved here, without conditions on the program: append as a step of a region that draws its order; a part of what reads as a list. -/
namespace Go.Proofs.YtcpopnhnihbofaaGreatDoor
open Go.RowKit
set_option linter.unusedVariables false

/-- append onto a row of the call's own, as one step of a region that draws. -/
theorem appendO_step {P : Program} {ops : Array Oper} {o : Oper} {a : Act} {w : World} {K : Act → World → Prop} {Q : Exit → Act → World → Prop} {G : Prop}
    (hg : o.guard = none) (s x : Operand) (t : TypeId) (hop : o.op = Op.call { callee := Callee.builtin Builtin.append, args := #[s, x], argTypes := #[t, t] })
    (base : Nat) (e : TypeId) (i : TypeInfo) (z : Value) (size bytes : Nat) (h1 : P.underlying t = some (.slice e)) (h2 : P.info? e = some i) (h3 : i.zero = some z) (h4 : i.size = size) (h5 : i.bytes = bytes) (h6 : z.cells.size = size) (h7 : 0 < size)
    (v : Value) (n : Nat) (xs : List Value) (hs : a.eval s = v) (hown : w.ownsRow base e size v n xs)
    (ad : Addr) (m c : Nat) (news : List Value) (hx : a.eval x = .slice (some ad) m c) (hn : news.length = m * size) (hc : ∀ j u, news[j]? = some u → w.cell? (ad.add j) = some u) (h1c : ∀ u ∈ news, u.oneCell' = true)
    (b1 : n + m ≤ maxLen) (b2 : (n + m) * bytes ≤ 140737488355328) (hbase : base ≤ w.heap.size)
    (hK : ∀ v' w', w'.ownsRow base e size v' (n + m) (xs ++ news) → w.grownBy w' v.ownBlock → (v'.ownBlock = v.ownBlock ∨ v'.ownBlock = some w.heap.size) → K (a.put o.dst v') w') :
    if Region.wanted o (yielded ops a.tmps) = true then Oper.wp P o a w K Q else G := by
  have hw : Region.wanted o (yielded ops a.tmps) = true := by simp [Region.wanted, hg]
  rw [if_pos hw]
  obtain ⟨v', w', hrun, r1, r2, _, r4⟩ := run_append_own_at (P := P) w base t o.type e i z size bytes h1 h2 h3 h4 h5 h6 h7 v n xs hown ad m c news hn hc h1c b1 b2 hbase
  unfold Oper.wp
  simp [execOp, hop, resolve, invoke, builtin, hs, hx, hrun, Result.andThen]
  exact hK v' w' r1 r2 r4

theorem appendR_step {P : Program} {ops : Array Oper} {o : Oper} {a : Act} {w : World} {K : Act → World → Prop} {Q : Exit → Act → World → Prop} {E : Prop} (hg : o.guard = none) (s x : Operand) (t : TypeId)
    (ho : o.op = .call { callee := .builtin .append, args := #[s, x], argTypes := #[t, t] })
    (base : Nat) (e : TypeId) (i : TypeInfo) (z : Value) (bytes : Nat) (ht : P.underlying t = some (.slice e)) (hi : P.info? e = some i) (hz : i.zero = some z)
    (hsize : i.size = 1) (hby : i.bytes = bytes) (hzs : z.cells.size = 1)
    (v : Value) (n : Nat) (xs : List Value) (hs : a.eval s = v) (hown : w.ownsRow base e 1 v n xs)
    (B : Nat) (A : Option Addr) (m c : Nat) (news : List Value) (hx : a.eval x = .slice A m c) (hr : Reads w B A m news) (h1 : ∀ u ∈ news, u.oneCell' = true)
    (h63 : n + m ≤ maxLen) (hbytes : (n + m) * bytes ≤ 140737488355328) (hbase : base ≤ w.heap.size)
    (h : ∀ v' w', w'.ownsRow base e 1 v' (n + m) (xs ++ news) → w.grownBy w' v.ownBlock → K (a.put o.dst v') w') : if Region.wanted o (yielded ops a.tmps) = true then Oper.wp P o a w K Q else E := by
  rw [if_pos (by simp [Region.wanted, hg])]
  exact wp_append_reads w s x t ho base e i z bytes ht hi hz hsize hby hzs v n xs hs hown B A m c news hx hr h1 h63 hbytes hbase h

theorem Reads.part {w : World} {B n b o : Nat} {xs : List Value} (h : Reads w B (some ⟨b, o, none⟩) n xs) {a m : Nat} (ham : a + m ≤ n) : Reads w B (some ⟨b, o + a, none⟩) m ((xs.drop a).take m) := by
  have hl := h.1
  refine ⟨by simp; omega, fun hm => ?_⟩
  obtain ⟨b', o', e, hb, hc⟩ := h.2 (by omega)
  injection e with e
  injection e with e1 e2
  subst e1
  subst e2
  refine ⟨b, o + a, rfl, hb, fun j u hu => ?_⟩
  rw [Nat.add_assoc]
  refine hc (a + j) u ?_
  rw [← hu, List.getElem?_take]
  have hj : j < m := by
    have := (List.getElem?_eq_some_iff.1 hu).1
    simp at this; omega
  rw [if_pos hj, List.getElem?_drop]

end Go.Proofs.YtcpopnhnihbofaaGreatDoor
/- Proved here: the contract of the document's own answer of layer 7: Normal. -/
namespace Go.Proofs.YtcpopnhnihbofaaGreatDoor
open Go.RowKit
set_option linter.unusedVariables false

set_option maxRecDepth 100000 in
set_option maxHeartbeats 8000000 in
theorem rNormalF_any (F : Nat → Prop) (A : Option Addr) (n c : Nat) (vs : List PcV) (ps : List Pc) (w : World) (hn : n ≤ 100000) (hsum : sumT ps ≤ 1000000000) (hA : Pcs w w.heap.size A n vs ps) (hF : ∀ k, F k → k < w.heap.size)
    (hstF : ∀ w2, But F w w2 → ∀ (j : Nat) (v : PcV) (p : Pc), vs[j]? = some v → ps[j]? = some p → p.1 = true → PcR w2 w2.heap.size v p) :
    Calls Tryz.prog 33 #[.slice A n c] w fun e w' => ∃ A' n' c' vs', e = .returned (.slice A' n' c') ∧ n' ≤ c' ∧ c' ≤ maxLen ∧ (∀ w2, But F w' w2 → Pcs w2 w2.heap.size A' n' vs' (normal ps)) ∧ Below w.heap.size w w' := by
  have hl := hA.len
  obtain ⟨i0, hi, hzz⟩ := Option.map_eq_some_iff.1 infoStr
  simp only [Prod.mk.injEq] at hzz
  obtain ⟨hz0, hz1, hz2⟩ := hzz
  obtain ⟨j0, hj, hyy⟩ := Option.map_eq_some_iff.1 infoPc
  simp only [Prod.mk.injEq] at hyy
  obtain ⟨hy0, hy1, hy2⟩ := hyy
  have hAh := Lib.hid hA
  have hsumh := Lib.hid hsum
  have hst := Lib.hid (PcsO.start w)
  have hsr := Lib.hid (RowF.start F w (.slice none 0 0))
  have hFh := Lib.hid hF
  have hstFh := Lib.hid hstF
  clear hA hsum hF hstF
  go_enter Tryz.func33, Tryz.ntmps33
  go_wp2
  go_loopw [3, 4, 5] (fun s3 s4 _ wr => ∃ (i : Nat) (v : Value) (qs : List (PcV × Pc)), i ≤ n ∧ v = s3 ∧ s4 = .int .i64 i ∧ qs.length ≤ i ∧ Hid (PcsO w wr v qs) ∧ Hid (RowF F wr v qs) ∧ Hid ((qs.map fun q => q.2) ++ normal (ps.drop i) = normal ps)) (fun _ s4 _ _ => n - (intOf s4).toNat)
  case atStart => exact ⟨0, _, [], Nat.zero_le _, rfl, rfl, Nat.le_refl _, hst, hsr, Lib.hid rfl⟩
  case round =>
    obtain ⟨i, v, qs, hin, rfl, rfl, hql, hP, hR, hN⟩ := hrel
    obtain ⟨wo, rfl⟩ : ∃ wo : World, wo = wr := ⟨_, rfl⟩
    clear hst hsr
    by_cases hlt : i < n
    · obtain ⟨b, o, cf, At, nt, ct, Ab, nb, cb, As, ns, cs, t, bs, ss, rfl, hb, hv, hp, k1, k2, k3, k4, j1, j2, j3⟩ := (hAh.out.below hP.out.below).at_ (k := i) hlt
      have i1 : (0 : Int) ≤ (i : Int) := by omega
      have i2 : (i : Int) < (n : Int) := by omega
      have hown := hP.out.own
      have hsz := hP.out.below.size
      have hmax : Hid (qs.length + 1 ≤ maxLen ∧ (qs.length + 1) * 80 ≤ 140737488355328) := Lib.hid ⟨by unfold maxLen; omega, by omega⟩
      cases cf
      · have h00 : Hid (TxO wo wo (.slice none 0 0) []) := Lib.hid ⟨World.ownsRow_nil _ _ _ _, Below.refl _ _⟩
        have h01 : Hid (joinT [] (normal (ps.drop i)) = normal (ps.drop i)) := Lib.hid (joinT_nil _)
        have h02 : Hid (([] : Txs).length + sumT (ps.drop i) ≤ 1000000000) := Lib.hid (by have := sumT_drop ps i; have := hsumh.out; simp; omega)
        have hpi := Lib.hid hp
        clear hp hv j1 j2 j3 k2 k3 k4 hmax
        have hmax : Hid (qs.length + 1 ≤ maxLen ∧ (qs.length + 1) * 80 ≤ 140737488355328) := Lib.hid ⟨by unfold maxLen; omega, by omega⟩
        go_wp2
        go_loopw [4, 5] (fun s4 s5 wr => ∃ (j : Nat) (u : Value) (xs : Txs), i ≤ j ∧ j ≤ n ∧ s4 = .int .i64 j ∧ u = s5 ∧ Hid (TxO wo wr u xs) ∧ Hid (joinT xs (normal (ps.drop j)) = normal (ps.drop i)) ∧ Hid (xs.length + sumT (ps.drop j) ≤ 1000000000)) (fun s4 _ _ => n - (intOf s4).toNat)
        case atStart => exact ⟨i, _, [], Nat.le_refl _, by omega, rfl, rfl, h00, h01, h02⟩
        case round =>
          obtain ⟨j, u, xs, hij, hjn, rfl, rfl, hT, hJ, hS⟩ := hrel
          obtain ⟨wp, rfl⟩ : ∃ wp : World, wp = wr := ⟨_, rfl⟩
          clear h00 h01 h02
          have hbp : Hid (Below w.heap.size w wp) := Lib.hid (hP.out.below.trans (hT.out.below.mono hP.out.below.size))
          by_cases hjl : j < n
          · obtain ⟨b', o', cf, At, nt, ct, Ab, nb, cb, As, ns, cs, t, bs, ss, he, hb', hv, hp, k1', k2', k3', k4', ⟨j1, j2, j3⟩, -, -⟩ := (hAh.out.below hbp.out).at_ (k := j) hjl
            injection he with he
            injection he with he1 he2
            subst he1
            subst he2
            have i3 : (0 : Int) ≤ (j : Int) := by omega
            have i4 : (j : Int) < (n : Int) := by omega
            dsimp only at j1 j2 j3
            cases cf
            · have hnt := normal_text hp
              have hJn : Hid (joinT (xs ++ t) (normal (ps.drop (j + 1))) = normal (ps.drop i)) := Lib.hid (by rw [joinT_append, ← hnt]; exact hJ.out)
              have hlen := j3.len
              have hS2 : xs.length + (t.length + sumT (ps.drop (j + 1))) ≤ 1000000000 := by have := hS.out; rwa [drop_at hp, sumT_cons] at this
              have hSn : Hid ((xs ++ t).length + sumT (ps.drop (j + 1)) ≤ 1000000000) := Lib.hid (by rw [List.length_append]; omega)
              have hle : Hid (xs.length + nt ≤ maxLen ∧ (xs.length + nt) * 16 ≤ 140737488355328) := Lib.hid (by unfold maxLen; omega)
              have hown4 := hT.out.own
              have hbz : wo.heap.size ≤ wp.heap.size := hT.out.below.size
              have hlenh := Lib.hid hlen
              clear hnt hp hv hS2 k3' k4'
              go_wp2_with (at_builtin; refine wpList_append_reads _ rfl _ _ 25 rfl wo.heap.size 9 i0 (.string ByteArray.empty) 16 Tryz.underlying25 hi hz0 hz1 hz2 rfl u xs.length _ rfl hown4 w.heap.size At nt ct _ rfl j3 (strs_one _) hle.out.1 hle.out.2 hbz ?_; intro v' w2 hown2 hg2; have hfin := Lib.hid (hT.out.put hlenh.out hown2 hg2))
              go_roundw
              case rel => exact ⟨j + 1, v', _, by omega, by omega, by go_num, rfl, hfin, hJn, hSn⟩
              case measure => simp [intOf]; omega
            · have hne : i ≠ j := by
                rintro rfl
                rw [hpi.out] at hp
                injection hp with hp
                injection hp with hp1 hp2
                cases hp1
              have hstop : ps.length ≤ j ∨ ∃ p, ps[j]? = some p ∧ p.1 = true := .inr ⟨_, hp, rfl⟩
              clear hp hv j3 k2' k3' k4'
              obtain ⟨A2, c2, hu, hu1, hu2, hu3⟩ := own_slice hT.out.own
              subst hu
              have hJ2 := hJ.out
              rw [joinT_stop hstop] at hJ2
              have hPk := hP.out.up hT.out.below
              have hRk := Lib.hid (hR.out.up hT.out.below)
              by_cases hx : xs = []
              · subst hx
                have hJ3 : Hid ((qs.map fun q => q.2) ++ normal (ps.drop j) = normal ps) := Lib.hid (by rw [if_pos rfl] at hJ2; rw [hJ2]; exact hN.out)
                have hPkh := Lib.hid hPk
                clear hJ2 hPk hstop
                go_wp2
                go_roundw
                case rel => exact ⟨j, v, qs, by omega, rfl, rfl, by omega, hPkh, hRk, hJ3⟩
                case measure => simp [intOf]; omega
              · have hJ3 : Hid ((qs.map fun q => q.2) ++ [tPc xs] ++ normal (ps.drop j) = normal ps) := Lib.hid (by rw [if_neg hx] at hJ2; rw [List.append_assoc, List.singleton_append, hJ2]; exact hN.out)
                obtain ⟨N, hNN⟩ : ∃ N, xs.length = N := ⟨_, rfl⟩
                have hN0 : 0 < N := by rw [← hNN]; exact List.length_pos_iff.2 hx
                have hN1 : (0 : Int) < (N : Int) := by omega
                have hN2 : decide (0 < N) = true := decide_eq_true hN0
                have hPkh := Lib.hid hPk
                have hown2 := hPk.own
                have hsz2 := hPk.below.size
                rw [hNN] at hT ⊢
                have hfin : Hid (∀ (v' : Value) (w2 : World), w2.ownsRow w.heap.size 40 4 v' (qs.length + 1) (pcCs qs ++ pcC false ((A2, N, c2), (none, 0, 0), (none, 0, 0))) → (wp.alloc (.cells #[.bool false, .slice A2 N c2, .slice none 0 0, .slice none 0 0] 40)).grownBy w2 v.ownBlock → (v'.ownBlock = v.ownBlock ∨ v'.ownBlock = some (wp.alloc (.cells #[.bool false, .slice A2 N c2, .slice none 0 0, .slice none 0 0] 40)).heap.size) → PcsO w w2 v' (qs ++ [(((A2, N, c2), (none, 0, 0), (none, 0, 0)), tPc xs)]) ∧ RowF F w2 v' (qs ++ [(((A2, N, c2), (none, 0, 0), (none, 0, 0)), tPc xs)])) :=
                  Lib.hid (fun v' w2 h1 h2 h3 => ⟨hPkh.out.put (r := ((A2, N, c2), (none, 0, 0), (none, 0, 0))) (p := tPc xs) (fun w3 h => hT.out.text rfl hP.out h) h1 h2 h3, hRk.out.put (r := ((A2, N, c2), (none, 0, 0), (none, 0, 0))) (p := tPc xs) (fun w3 h => hT.out.textF rfl (fun k hk => Nat.lt_of_lt_of_le (hFh.out k hk) hP.out.below.size) (fun k hk => (hP.out.own.lt k hk).2) h) h2 h3⟩)
                clear hJ2 hPk hx hstop
                go_wp2_with (at_builtin; refine wpList_append_own_at _ rfl _ _ 22 rfl w.heap.size 40 j0 (.agg #[.bool false, .slice none 0 0, .slice none 0 0, .slice none 0 0]) 4 80 Tryz.underlying22 hj hy0 hy1 hy2 rfl (by decide) v qs.length _ rfl (hown2.alloc _) ⟨wp.heap.size, 0, none⟩ 1 1 (pcC false ((A2, N, c2), (none, 0, 0), (none, 0, 0))) rfl rfl (cell_new_pc _ _ _ _) (pcC_one _ _) hmax.out.1 hmax.out.2 (by simp; omega) ?_; intro v' w2 hown3 hg3 hnil3 hloc3; clear hnil3)
                go_roundw
                case rel => exact ⟨j, v', _, by omega, rfl, rfl, by simp; omega, Lib.hid (hfin.out v' w2 hown3 hg3 hloc3).1, Lib.hid (hfin.out v' w2 hown3 hg3 hloc3).2, Lib.hid (by simpa using hJ3.out)⟩
                case measure => simp [intOf]; omega
          · obtain rfl : j = n := by omega
            have hstop : ps.length ≤ j ∨ ∃ p, ps[j]? = some p ∧ p.1 = true := .inl (by omega)
            obtain ⟨A2, c2, hu, hu1, hu2, hu3⟩ := own_slice hT.out.own
            subst hu
            have hJ2 := hJ.out
            rw [joinT_stop hstop] at hJ2
            have hPk := hP.out.up hT.out.below
            have hRk := Lib.hid (hR.out.up hT.out.below)
            by_cases hx : xs = []
            · subst hx
              have hJ3 : Hid ((qs.map fun q => q.2) ++ normal (ps.drop j) = normal ps) := Lib.hid (by rw [if_pos rfl] at hJ2; rw [hJ2]; exact hN.out)
              have hPkh := Lib.hid hPk
              clear hJ2 hPk hstop
              go_wp2
              go_roundw
              case rel => exact ⟨j, v, qs, by omega, rfl, rfl, by omega, hPkh, hRk, hJ3⟩
              case measure => simp [intOf]; omega
            · have hJ3 : Hid ((qs.map fun q => q.2) ++ [tPc xs] ++ normal (ps.drop j) = normal ps) := Lib.hid (by rw [if_neg hx] at hJ2; rw [List.append_assoc, List.singleton_append, hJ2]; exact hN.out)
              obtain ⟨N, hNN⟩ : ∃ N, xs.length = N := ⟨_, rfl⟩
              have hN0 : 0 < N := by rw [← hNN]; exact List.length_pos_iff.2 hx
              have hN1 : (0 : Int) < (N : Int) := by omega
              have hN2 : decide (0 < N) = true := decide_eq_true hN0
              have hPkh := Lib.hid hPk
              have hown2 := hPk.own
              have hsz2 := hPk.below.size
              rw [hNN] at hT ⊢
              have hfin : Hid (∀ (v' : Value) (w2 : World), w2.ownsRow w.heap.size 40 4 v' (qs.length + 1) (pcCs qs ++ pcC false ((A2, N, c2), (none, 0, 0), (none, 0, 0))) → (wp.alloc (.cells #[.bool false, .slice A2 N c2, .slice none 0 0, .slice none 0 0] 40)).grownBy w2 v.ownBlock → (v'.ownBlock = v.ownBlock ∨ v'.ownBlock = some (wp.alloc (.cells #[.bool false, .slice A2 N c2, .slice none 0 0, .slice none 0 0] 40)).heap.size) → PcsO w w2 v' (qs ++ [(((A2, N, c2), (none, 0, 0), (none, 0, 0)), tPc xs)]) ∧ RowF F w2 v' (qs ++ [(((A2, N, c2), (none, 0, 0), (none, 0, 0)), tPc xs)])) :=
                Lib.hid (fun v' w2 h1 h2 h3 => ⟨hPkh.out.put (r := ((A2, N, c2), (none, 0, 0), (none, 0, 0))) (p := tPc xs) (fun w3 h => hT.out.text rfl hP.out h) h1 h2 h3, hRk.out.put (r := ((A2, N, c2), (none, 0, 0), (none, 0, 0))) (p := tPc xs) (fun w3 h => hT.out.textF rfl (fun k hk => Nat.lt_of_lt_of_le (hFh.out k hk) hP.out.below.size) (fun k hk => (hP.out.own.lt k hk).2) h) h2 h3⟩)
              clear hJ2 hPk hx hstop
              go_wp2_with (at_builtin; refine wpList_append_own_at _ rfl _ _ 22 rfl w.heap.size 40 j0 (.agg #[.bool false, .slice none 0 0, .slice none 0 0, .slice none 0 0]) 4 80 Tryz.underlying22 hj hy0 hy1 hy2 rfl (by decide) v qs.length _ rfl (hown2.alloc _) ⟨wp.heap.size, 0, none⟩ 1 1 (pcC false ((A2, N, c2), (none, 0, 0), (none, 0, 0))) rfl rfl (cell_new_pc _ _ _ _) (pcC_one _ _) hmax.out.1 hmax.out.2 (by simp; omega) ?_; intro v' w2 hown3 hg3 hnil3 hloc3; clear hnil3)
              go_roundw
              case rel => exact ⟨j, v', _, by omega, rfl, rfl, by simp; omega, Lib.hid (hfin.out v' w2 hown3 hg3 hloc3).1, Lib.hid (hfin.out v' w2 hown3 hg3 hloc3).2, Lib.hid (by simpa using hJ3.out)⟩
              case measure => simp [intOf]; omega
      · have hNs := normal_conf hp
        have hvh := Lib.hid hv
        have hph := Lib.hid hp
        have hN2 : Hid ((qs.map fun q => q.2) ++ [cPc bs ss] ++ normal (ps.drop (i + 1)) = normal ps) := Lib.hid (by rw [List.append_assoc, List.singleton_append, ← hNs]; exact hN.out)
        have hRp : Hid (PcR wo w.heap.size ((none, 0, 0), (Ab, nb, cb), (As, ns, cs)) (cPc bs ss)) := Lib.hid (PcR.conf j2 j3)
        have hfin : Hid (∀ (v' : Value) (w1 w2 : World), Below wo.heap.size wo w1 → w2.ownsRow w.heap.size 40 4 v' (qs.length + 1) (pcCs qs ++ pcC true ((none, 0, 0), (Ab, nb, cb), (As, ns, cs))) → (w1.alloc (.cells #[.bool true, .slice none 0 0, .slice Ab nb cb, .slice As ns cs] 40)).grownBy w2 v.ownBlock → (v'.ownBlock = v.ownBlock ∨ v'.ownBlock = some (w1.alloc (.cells #[.bool true, .slice none 0 0, .slice Ab nb cb, .slice As ns cs] 40)).heap.size) → PcsO w w2 v' (qs ++ [(((none, 0, 0), (Ab, nb, cb), (As, ns, cs)), cPc bs ss)]) ∧ RowF F w2 v' (qs ++ [(((none, 0, 0), (Ab, nb, cb), (As, ns, cs)), cPc bs ss)])) :=
          Lib.hid (fun v' w1 w2 hb1 h1 h2 h3 => ⟨(hP.out.up hb1).put (r := ((none, 0, 0), (Ab, nb, cb), (As, ns, cs))) (p := cPc bs ss) (fun w3 h => (hRp.out.keep (w' := w1) fun q hq => (hb1.cell (p := q) (by omega))).old (hP.out.up hb1) h) h1 h2 h3, (hR.out.up hb1).put (r := ((none, 0, 0), (Ab, nb, cb), (As, ns, cs))) (p := cPc bs ss) (fun w3 h => by
            have h5 := hstFh.out w3 ((But.of_below (hP.out.below.trans (hb1.mono hP.out.below.size)) fun k hk _ => hk).trans h fun k e => Or.elim e .inl fun e => .inr (hP.out.own.lt k e).1) i _ _ hvh.out hph.out rfl
            exact PcR.conf h5.2.1 h5.2.2) h2 h3⟩)
        have hal : Hid (∀ q : Addr, q.block < wo.heap.size → (wo.alloc (.cells #[.bool true, .slice none 0 0, .slice Ab nb cb, .slice As ns cs] 40)).drew.cell? q = wo.cell? q) := Lib.hid (fun q hq => World.cell?_alloc_lt _ _ q hq)
        have hgr : Hid (∀ w2 : World, (wo.alloc (.cells #[.bool true, .slice none 0 0, .slice Ab nb cb, .slice As ns cs] 40)).drew.grownBy w2 v.ownBlock → ∀ q : Addr, q.block < w.heap.size → w2.cell? q = wo.cell? q) := Lib.hid (fun w2 hg q hq => by
          refine (World.cell?_of_block (w := (wo.alloc (.cells #[.bool true, .slice none 0 0, .slice Ab nb cb, .slice As ns cs] 40)).drew) (hg.block q.block (by show q.block < (wo.alloc _).heap.size; simp; omega) (fun e => ?_))).trans (hal.out q (by omega))
          have := (hown.lt q.block e.symm).1
          omega)
        clear hNs hp hv j1 j2 j3
        go_wp2
        go_region_held3 (fun wx : World => wx.cell? ⟨b, o + i * 4 + 2, none⟩ = some (.slice Ab nb cb) ∧ wx.cell? ⟨b, o + i * 4 + 3, none⟩ = some (.slice As ns cs))
          (first
            | exact ⟨k3, k4⟩
            | exact ⟨(hal.out ⟨b, o + i * 4 + 2, none⟩ (by show b < _; omega)).trans k3, (hal.out ⟨b, o + i * 4 + 3, none⟩ (by show b < _; omega)).trans k4⟩
            | exact ⟨(hgr.out _ hg8 ⟨b, o + i * 4 + 2, none⟩ (by show b < _; omega)).trans k3, (hgr.out _ hg8 ⟨b, o + i * 4 + 3, none⟩ (by show b < _; omega)).trans k4⟩)
          ((refine appendO_step rfl (.tmp 15) (.tmp 27) 22 rfl w.heap.size 40 j0 (.agg #[.bool false, .slice none 0 0, .slice none 0 0, .slice none 0 0]) 4 80 Tryz.underlying22 hj hy0 hy1 hy2 rfl (by decide) v qs.length _ (by simp [Act.eval]) (hown.alloc _) ⟨wo.heap.size, 0, none⟩ 1 1 (pcC true ((none, 0, 0), (Ab, nb, cb), (As, ns, cs))) (by simp [Act.eval]) rfl (cell_new_pc _ _ _ _) (pcC_one _ _) hmax.out.1 hmax.out.2 (by simp; omega) ?_; intro v' w8 hown8 hg8 hloc8))
        go_wp2_with fail
        go_roundw
        case rel => exact ⟨i + 1, v', _, by omega, rfl, by go_num, by simp; omega, Lib.hid (hfin.out v' wo.drew w8 ⟨rfl, rfl, rfl, Nat.le_refl _, fun _ _ => rfl⟩ hown8 hg8 hloc8).1, Lib.hid (hfin.out v' wo.drew w8 ⟨rfl, rfl, rfl, Nat.le_refl _, fun _ _ => rfl⟩ hown8 hg8 hloc8).2, Lib.hid (by simpa using hN2.out)⟩
        case measure => simp [intOf]; omega
    · obtain rfl : i = n := by omega
      have ht : ps.drop i = [] := List.drop_eq_nil_iff.2 (by omega)
      have hN2 : (qs.map fun q => q.2) = normal ps := by have := hN.out; rw [ht] at this; simpa [normal] using this
      have hN3 := Lib.hid hN2
      clear hN2
      obtain ⟨A2, c2, hv2, q1, q2, -⟩ := hP.out.reads
      have hfin : Hid (∀ w2, But F wo w2 → Pcs w2 w2.heap.size A2 qs.length (qs.map fun q => q.1) (normal ps)) := Lib.hid (fun w2 hb => by
        have hown : w2.ownsRow w.heap.size 40 4 v qs.length (pcCs qs) := ownsRow_kept hP.out.own fun k e => hb.block k (hP.out.own.lt k e).2 (fun hf => by have h1 := hFh.out k hf; have h2 := (hP.out.own.lt k e).1; omega)
        obtain ⟨A', c', e, -, -, h5⟩ := pcs_reads (w := w) hown fun q hq => hR.out w2 (hb.more fun k e => .inl e) q hq
        rw [hv2] at e
        injection e with e1 e2 e3
        subst e1
        rw [← hN3.out]
        exact h5)
      have hb9 := Lib.hid hP.out.below
      subst hv2
      go_wp2
      go_ret
      exact ⟨A2, qs.length, c2, _, rfl, q1, q2, hfin.out, hb9.out⟩

theorem rNormal_any (A : Option Addr) (n c : Nat) (vs : List PcV) (ps : List Pc) (w : World) (hn : n ≤ 100000) (hsum : sumT ps ≤ 1000000000) (hA : Pcs w w.heap.size A n vs ps) :
    Calls Tryz.prog 33 #[.slice A n c] w fun e w' => PcsOut w w' e (normal ps) := by
  refine (rNormalF_any (fun _ => False) A n c vs ps w hn hsum hA (fun k h => h.elim) fun w2 hb j v p a b _ => ?_).mono ?_
  · exact (hA.2.2.2 j v p a b).up ⟨hb.os, hb.tape, hb.output, hb.size, fun k hk => hb.block k hk fun h => h⟩
  · rintro e w' ⟨A', n', c', vs', h1, h2, h3, h4, h5⟩
    exact ⟨A', n', c', vs', h1, h2, h3, h4 w' (But.refl _ _), h5⟩
end Go.Proofs.YtcpopnhnihbofaaGreatDoor
/- Proved here: the contract of the document's own answer of layer 10: Trim. -/
namespace Go.Proofs.YtcpopnhnihbofaaGreatDoor
open Go.RowKit
set_option linter.unusedVariables false
set_option maxRecDepth 100000

section
variable {w W w2 : World} {lo : Nat} {r : Slc} {v : PcV} {p : Pc} {ss : Txs}
/-- The blocks that a caller has made, and a call must not share. -/
def FLo (lo : Nat) (w : World) (k : Nat) : Prop := lo ≤ k ∧ k < w.heap.size
theorem cell_lo (hlo : lo ≤ w.heap.size) (hW : Below w.heap.size w W) (hb : But (FLo lo w) W w2) : (∀ q : Addr, q.block < lo → w2.cell? q = w.cell? q) ∧ lo ≤ w2.heap.size := by
  have h1 := hW.size
  have h2 := hb.size
  exact ⟨fun q hq => (World.cell?_of_block (hb.block q.block (by omega) (fun h => by unfold FLo at h; omega))).trans (hW.cell (by omega)), by omega⟩
theorem TxR.loF (h : TxR w lo r ss) (hlo : lo ≤ w.heap.size) (hW : Below w.heap.size w W) (hb : But (FLo lo w) W w2) : TxR w2 w2.heap.size r ss := (h.keep (cell_lo hlo hW hb).1).more (cell_lo hlo hW hb).2
theorem PcR.loF (h : PcR w lo v p) (hlo : lo ≤ w.heap.size) (hW : Below w.heap.size w W) (hb : But (FLo lo w) W w2) : PcR w2 w2.heap.size v p := (h.keep (cell_lo hlo hW hb).1).more (cell_lo hlo hW hb).2
end
/-- Texts that were there, by a row of the call's own. -/
def ZRow (w : World) (lo Bz : Nat) (wr : World) (v : Value) (rs : List Slc) (xs : List Txs) : Prop :=
  wr.ownsRow Bz 25 1 v rs.length (rs.map slcV) ∧ rs.length = xs.length ∧ ∀ (i : Nat) (r : Slc) (d : Txs), rs[i]? = some r → xs[i]? = some d → TxR w lo r d
section
variable {w wr w2 : World} {lo Bz : Nat} {v v' : Value} {rs : List Slc} {xs : List Txs} {r : Slc} {d : Txs}
theorem ZRow.start (w : World) (lo Bz : Nat) (wr : World) : ZRow w lo Bz wr (.slice none 0 0) [] [] := ⟨World.ownsRow_nil _ _ _ _, rfl, fun i r d h => by simp at h⟩
theorem ZRow.put (h : ZRow w lo Bz wr v rs xs) (hown : w2.ownsRow Bz 25 1 v' (rs.length + 1) (rs.map slcV ++ [slcV r])) (hT : TxR w lo r d) : ZRow w lo Bz w2 v' (rs ++ [r]) (xs ++ [d]) := by
  refine ⟨by rw [List.length_append, List.map_append]; exact hown, by simp [h.2.1], fun i r' d' a b => ?_⟩
  rcases Nat.lt_or_ge i rs.length with hi | hi
  · rw [List.getElem?_append_left hi] at a
    rw [List.getElem?_append_left (by rw [← h.2.1]; exact hi)] at b
    exact h.2.2 i r' d' a b
  · rw [List.getElem?_append_right hi] at a
    rw [List.getElem?_append_right (by rw [← h.2.1]; exact hi), ← h.2.1] at b
    match hq : i - rs.length with
    | 0 => rw [hq] at a b; simp at a b; subst a; subst b; exact hT
    | j + 1 => rw [hq] at a; simp at a
theorem ZRow.rows (h : ZRow w lo Bz wr v rs xs) (hlo : lo ≤ w.heap.size) (hb : Below w.heap.size w wr) : ∃ A c, v = .slice A rs.length c ∧ rs.length ≤ c ∧ c ≤ maxLen ∧ RowsT wr wr.heap.size A rs.length rs xs := by
  obtain ⟨A, c, e, h1, h2, h3⟩ := own_slice h.1
  exact ⟨A, c, e, h1, h2, h3, h.2.1, fun k r ss a b => ((h.2.2 k r ss a b).more hlo).up hb⟩
/-- The rows stand, whatever becomes of the blocks of FLo. -/
theorem ZRow.rowsF {A : Option Addr} {n c : Nat} (h : ZRow w lo Bz wr v rs xs) (hv : v = .slice A n c) (hlo : lo ≤ w.heap.size) (hB : w.heap.size ≤ Bz) (hb : Below w.heap.size w wr) (hF : But (FLo lo w) wr w2) : SlcR w2 w2.heap.size (A, n, c) xs := by
  have hown := ownsRow_kept h.1 (w' := w2) fun k e => hF.block k (h.1.lt k e).2 (fun hf => by unfold FLo at hf; have := (h.1.lt k e).1; omega)
  obtain ⟨A', c', e, h1, h2, h3⟩ := own_slice hown
  rw [hv] at e
  injection e with e1 e2 e3
  subst e1
  subst e2
  subst e3
  exact ⟨h1, h2, rs, h3, h.2.1, fun k r ss a b => (h.2.2 k r ss a b).loF hlo hb hF⟩
end

/-- A conflict's sides are neither many nor long. -/
def smallP (p : Pc) : Prop := p.2.1.length ≤ 5000 ∧ p.2.2.2.length ≤ 1000 ∧ (∀ d ∈ p.2.2.2, d.length ≤ 5000) ∧ p.2.2.1.length ≤ 10000

set_option maxHeartbeats 2000000 in
/-- A piece that stays: a text, or a conflict without sides. -/
theorem rTrim_stay (lo : Nat) (v : PcV) (p : Pc) (w : World) (hlo : lo ≤ w.heap.size) (hsm : smallP p) (hP : PcR w lo v p) (h : p.1 = false ∨ p.2.2.2 = []) :
    Calls Tryz.prog 32 #[.agg #[.bool p.1, .slice v.1.1 v.1.2.1 v.1.2.2, .slice v.2.1.1 v.2.1.2.1 v.2.1.2.2, .slice v.2.2.1 v.2.2.2.1 v.2.2.2.2]] w fun e w' => PcsLo lo w w' e (trimD p) := by
  have hd : trimD p = normal [p] := by
    rcases h with h | h
    · exact trimD_text h
    · exact trimD_bare h
  rw [hd]
  obtain ⟨cf, t, bs, ss⟩ := p
  obtain ⟨⟨A1, n1, c1⟩, ⟨A2, n2, c2⟩, ⟨A3, n3, c3⟩⟩ := v
  have hn3 : ss.length = n3 := by obtain ⟨_, _, _, h4⟩ := hP.2.2; exact h4.len
  have hs1 : t.length ≤ 5000 := hsm.1
  have hN : Hid (∀ W : World, Below w.heap.size w W → W.heap[w.heap.size + 1]? = some (pcObj cf ((A1, n1, c1), (A2, n2, c2), (A3, n3, c3))) → Calls Tryz.prog 33 #[.slice (some ⟨w.heap.size + 1, 0, none⟩) 1 1] W fun e w' => PcsLo lo w w' e (normal [(cf, t, bs, ss)])) := Lib.hid (fun W hW hg => by
    refine (rNormalF_any (FLo lo w) _ 1 1 _ [(cf, t, bs, ss)] W (by omega) (by simp [sumT]; omega) (pcs_one (p := (cf, t, bs, ss)) hg ((hP.more hlo).up hW)) (fun k hk => Nat.lt_of_lt_of_le hk.2 hW.size) (fun w2 hb j v p a b _ => ?_)).mono ?_
    · match j, a, b with
      | 0, a, b => simp at a b; subst a; subst b; exact hP.loF hlo hW hb
      | j + 1, a, b => simp at a
    · rintro e w' ⟨A, n, c, vs, h1, h2, h3, h4, h5⟩
      exact ⟨A, n, c, vs, h1, h2, h3, h4, hW.trans (h5.mono hW.size)⟩)
  obtain ⟨hB2, hk2⟩ : Below w.heap.size w ((w.alloc (pcObj cf ((A1, n1, c1), (A2, n2, c2), (A3, n3, c3)))).alloc (pcObj cf ((A1, n1, c1), (A2, n2, c2), (A3, n3, c3)))) ∧ ((w.alloc (pcObj cf ((A1, n1, c1), (A2, n2, c2), (A3, n3, c3)))).alloc (pcObj cf ((A1, n1, c1), (A2, n2, c2), (A3, n3, c3)))).heap[w.heap.size + 1]? = some (pcObj cf ((A1, n1, c1), (A2, n2, c2), (A3, n3, c3))) := ⟨below_alloc (below_alloc (Below.refl _ _) _) _, (two_a w _ _).2⟩
  have hh := Lib.hid (And.intro hB2 hk2)
  dsimp only at h ⊢
  clear hP hsm hd hs1 hB2 hk2 hlo
  cases cf
  · clear h
    go_enter Tryz.func32, Tryz.ntmps32
    go_wp2_with (go_at_call 33; refine (hN.out _ hh.out.1 hh.out.2).mono ?_; rintro e w1 ⟨A5, n5, c5, vs5, rfl, q1, q2, q3, q4⟩; have hq := Lib.hid (And.intro q1 (And.intro q2 (And.intro q3 q4))); clear q1 q2 q3 q4)
    go_ret
    exact ⟨A5, n5, c5, vs5, rfl, hq.out⟩
  · have hs : n3 = 0 := by
      rcases h with h | h
      · cases h
      · rw [h] at hn3; exact hn3.symm
    subst hs
    clear h hn3
    go_enter Tryz.func32, Tryz.ntmps32
    go_wp2_with (go_at_call 33; refine (hN.out _ hh.out.1 hh.out.2).mono ?_; rintro e w1 ⟨A5, n5, c5, vs5, rfl, q1, q2, q3, q4⟩; have hq := Lib.hid (And.intro q1 (And.intro q2 (And.intro q3 q4))); clear q1 q2 q3 q4)
    go_ret
    exact ⟨A5, n5, c5, vs5, rfl, hq.out⟩
end Go.Proofs.YtcpopnhnihbofaaGreatDoor
