/- Proved here: texts joined: PickCh, PickCl, FoldRef, ContAll, PickSm. -/
import Derived.Test.YtoephlkfejcadaaGreatBf08
import Derived.Test.YtoephlkfejcadaaGreatBf09
import Derived.Test.YtoephlkfejcadaaGreatBf16
import Derived.Test.YtoephlkfejcadaaGreatBf20
import Derived.Test.YtoephlkfejcadaaGreatBf24
import Derived.Test.YtoephlkfejcadaaGreatBf25
import Derived.Deep.DeepCutAuto
import Derived.Outline
import Derived.Test.YtoephlkfejcadaaGreatChecked
/- Proved here: the contract of the document's own answer of layer 7: Choose. -/
namespace Go.Proofs.YtoephlkfejcadaaGreat
open Go.RowKit
set_option linter.unusedVariables false

set_option maxRecDepth 100000 in
set_option maxHeartbeats 4000000 in
theorem rChoose_any (A : Option Addr) (n c : Nat) (vs : List PcV) (ps : List Pc) (z : Int) (w : World) (hn : n ≤ maxLen) (hz : inR64 z) (hsum : (choose ps z).length ≤ 1000000000) (hA : Pcs w w.heap.size A n vs ps) :
    Calls Tryz.prog 26 #[.slice A n c, .int .i64 z] w fun e w' => TxsOut w w' e (choose ps z) := by
  have hl := hA.len
  obtain ⟨i0, hi, hzz⟩ := Option.map_eq_some_iff.1 infoStr
  simp only [Prod.mk.injEq] at hzz
  obtain ⟨hz0, hz1, hz2⟩ := hzz
  have hAh := Lib.hid hA
  have hsumh := Lib.hid hsum
  have hzh := Lib.hid hz
  have hst : Hid (TxO w w (.slice none 0 0) (choose (ps.take 0) z)) := Lib.hid ⟨World.ownsRow_nil _ _ _ _, Below.refl _ _⟩
  unfold maxLen at hn
  clear hA hsum hz
  go_enter Tryz.func26, Tryz.ntmps26
  go_wp2
  go_loopw [5, 6, 7] (fun s5 s6 _ wr => ∃ (i : Nat) (v : Value), i ≤ n ∧ v = s5 ∧ s6 = .int .i64 i ∧ Hid (TxO w wr v (choose (ps.take i) z))) (fun _ s6 _ _ => n - (intOf s6).toNat)
  case atStart => exact ⟨0, _, Nat.zero_le _, rfl, rfl, hst⟩
  case round =>
    obtain ⟨i, v, hin, rfl, rfl, hT⟩ := hrel
    obtain ⟨wo, rfl⟩ : ∃ wo : World, wo = wr := ⟨_, rfl⟩
    clear hst
    by_cases hlt : i < n
    · obtain ⟨b, o, cf, At, nt, ct, Ab, nb, cb, As, ns, cs, t, bs, ss, rfl, hb, hv, hp, k1, k2, k3, k4, ⟨j1, j2, j3⟩, -, ⟨j4, j5, rr, j6⟩⟩ := (hAh.out.below hT.out.below).at_ (k := i) hlt
      have i1 : (0 : Int) ≤ (i : Int) := by omega
      have i2 : (i : Int) < (n : Int) := by omega
      have hsn := Lib.hid (choose_snoc z hp)
      have hpre1 := choose_pre ps z (i + 1)
      rw [choose_snoc z hp, List.length_append] at hpre1
      have hown := hT.out.own
      have hbe := hT.out.below
      obtain ⟨m, hm⟩ : ∃ m, (choose (ps.take i) z).length = m := ⟨_, rfl⟩
      dsimp only at j1 j2 j3 j4 j5 j6
      cases cf
      · have hlt2 := j3.len
        have hch : chosen z (false, t, bs, ss) = t := rfl
        rw [hch] at hpre1
        have hsn2 : Hid (choose (ps.take (i + 1)) z = choose (ps.take i) z ++ t) := hsn
        have hle : Hid ((choose (ps.take i) z).length + nt ≤ maxLen ∧ ((choose (ps.take i) z).length + nt) * 16 ≤ 140737488355328) := Lib.hid (by have := hsumh.out; unfold maxLen; omega)
        have hlth := Lib.hid hlt2
        clear hp hv hpre1 hch hsn hm
        go_wp2_with (at_builtin; refine wpList_append_reads _ rfl _ _ 22 rfl w.heap.size 9 i0 (.string ByteArray.empty) 16 Tryz.underlying22 hi hz0 hz1 hz2 rfl v (choose (ps.take i) z).length _ rfl hown w.heap.size At nt ct _ rfl j3 (strs_one _) hle.out.1 hle.out.2 hbe.size ?_; intro v' w2 hown2 hg2; have hfin := Lib.hid (hT.out.put hlth.out hown2 hg2); have hBw2 := hfin.out.below; have k1' : w2.cell? ⟨b, o + i * 4, none⟩ = some (.bool false) := (hBw2.cell (p := ⟨b, o + i * 4, none⟩) hb).trans ((hbe.cell (p := ⟨b, o + i * 4, none⟩) hb).symm.trans k1))
        go_loopw [5, 7] (fun s5 s7 wr => s5 = v' ∧ s7 = .int .i64 0 ∧ wr = w2) (fun _ _ _ => 0)
        case atStart => exact ⟨rfl, rfl, rfl⟩
        case round =>
          obtain ⟨rfl, rfl, rfl⟩ := hrel
          go_wp2
          go_roundw
          case rel => exact ⟨i + 1, _, by omega, rfl, by go_num, Lib.hid (by rw [hsn2.out]; exact hfin.out)⟩
          case measure => simp [intOf]; omega
      · have hpre : Hid (∀ k, (chosenTo z ss k).length ≤ (chosen z (true, t, bs, ss)).length) := Lib.hid (fun k => chosenTo_len z t bs ss k)
        have hssl := j6.len
        have hend : Hid (chosenTo z ss ns = chosen z (true, t, bs, ss)) := Lib.hid (by rw [← hssl]; exact chosenTo_end z t bs ss)
        have hpre1h := Lib.hid hpre1
        have h00 : Hid (TxO w wo v (choose (ps.take i) z ++ chosenTo z ss 0)) := Lib.hid (by
          have : chosenTo z ss 0 = [] := by unfold chosenTo; rw [if_neg (by omega)]
          rw [this, List.append_nil]; exact hT.out)
        have hRr : Hid (∀ W, Below w.heap.size w W → RowsT W w.heap.size As ns rr ss ∧ W.cell? ⟨b, o + i * 4, none⟩ = some (.bool true) ∧ W.cell? ⟨b, o + i * 4 + 3, none⟩ = some (.slice As ns cs)) := Lib.hid (fun W hW => by
          have key : ∀ q : Addr, q.block < w.heap.size → W.cell? q = wo.cell? q := fun q hq => (hW.cell hq).trans (hbe.cell hq).symm
          exact ⟨j6.keep key, (key ⟨b, o + i * 4, none⟩ hb).trans k1, (key ⟨b, o + i * 4 + 3, none⟩ hb).trans k4⟩)
        have hnb : ns ≤ 9223372036854775807 := by unfold maxLen at j5; omega
        clear hp hv hpre1 hm hown hbe j6 k2 k3 k4 hT
        go_wp2
        go_loopw [5, 7] (fun s5 s7 wr => ∃ (k : Nat) (v : Value), k ≤ ns ∧ v = s5 ∧ s7 = .int .i64 k ∧ Hid (TxO w wr v (choose (ps.take i) z ++ chosenTo z ss k))) (fun _ s7 _ => ns - (intOf s7).toNat)
        case atStart => exact ⟨0, _, Nat.zero_le _, rfl, rfl, h00⟩
        case round =>
          obtain ⟨k, v, hk, rfl, rfl, hT⟩ := hrel
          obtain ⟨wp, rfl⟩ : ∃ wp : World, wp = wr := ⟨_, rfl⟩
          clear h00
          obtain ⟨hRk, c1, c2⟩ := hRr.out wp hT.out.below
          by_cases hlt3 : k < ns
          · obtain ⟨b2, o2, A2, n2, c2', x, rfl, hb2, hx, -, hc2, hnc, hcm, hst2⟩ := hRk.at_ (k := k) hlt3
            have hstp := Lib.hid (chosenTo_step (n := z) hx)
            have hwr := wrap_pred (n := z) hzh.out hlt3 hnb
            have i3 : (0 : Int) ≤ (k : Int) := by omega
            have i4 : (k : Int) < (ns : Int) := by omega
            have hxl := Lib.hid hst2.len
            clear hx hRk
            by_cases hkz : (k : Int) = z - 1
            · have hd : ((k : Int) == wrap64 (z - 1)) = true := by rw [← IntWalk.i64_left, hwr]; simpa using hkz
              have hstq : Hid (chosenTo z ss (k + 1) = chosenTo z ss k ++ x) := Lib.hid (by rw [hstp.out, if_pos hkz])
              have hown := hT.out.own
              have hbz := hT.out.below.size
              have hle : Hid ((choose (ps.take i) z ++ chosenTo z ss k).length + n2 ≤ maxLen ∧ ((choose (ps.take i) z ++ chosenTo z ss k).length + n2) * 16 ≤ 140737488355328) := Lib.hid (by
                have h1 := hpre1h.out
                have h2 := hpre.out (k + 1)
                rw [hstq.out, List.length_append] at h2
                have h3 := hsumh.out
                have h4 := hxl.out
                rw [List.length_append]
                unfold maxLen
                omega)
              clear hwr hkz
              go_wp2_with (at_builtin; refine wpList_append_reads _ rfl _ _ 22 rfl w.heap.size 9 i0 (.string ByteArray.empty) 16 Tryz.underlying22 hi hz0 hz1 hz2 rfl v (choose (ps.take i) z ++ chosenTo z ss k).length _ rfl hown w.heap.size A2 n2 c2' _ rfl hst2 (strs_one _) hle.out.1 hle.out.2 hbz ?_; intro v' w2 hown2 hg2; have hfin := Lib.hid (hT.out.put hxl.out hown2 hg2))
              go_roundw
              case rel => exact ⟨k + 1, v', by omega, rfl, by go_num, Lib.hid (by rw [hstq.out, ← List.append_assoc]; exact hfin.out)⟩
              case measure => simp [intOf]; omega
            · have hd : ((k : Int) == wrap64 (z - 1)) = false := by rw [← IntWalk.i64_left, hwr]; simpa using hkz
              have hstq : Hid (chosenTo z ss (k + 1) = chosenTo z ss k) := Lib.hid (by rw [hstp.out, if_neg hkz])
              clear hwr hkz
              go_wp2
              go_roundw
              case rel => exact ⟨k + 1, v, by omega, rfl, by go_num, Lib.hid (by rw [hstq.out]; exact hT.out)⟩
              case measure => simp [intOf]; omega
          · obtain rfl : k = ns := by omega
            go_wp2
            go_roundw
            case rel => exact ⟨i + 1, v, by omega, rfl, by go_num, Lib.hid (by rw [hsn.out, ← hend.out]; exact hT.out)⟩
            case measure => simp [intOf]; omega
    · obtain rfl : i = n := by omega
      go_wp2
      go_ret
      have ht : ps.take i = ps := List.take_of_length_le (by omega)
      have := hT.out.out
      rw [ht] at this
      exact this
end Go.Proofs.YtoephlkfejcadaaGreat
/- Proved here: the contract of the document's own answer of layer 7: Clean. -/
namespace Go.Proofs.YtoephlkfejcadaaGreat
open Go.RowKit
set_option linter.unusedVariables false

theorem clean_no {ps : List Pc} {k : Nat} {p : Pc} (ht : ps[k]? = some p) (h : p.1 = true) : false = cleanB ps := by
  unfold cleanB
  rw [eq_comm, Bool.eq_false_iff, ne_eq, List.all_eq_true]
  intro ha
  have := ha p (List.mem_of_getElem? ht)
  rw [h] at this
  cases this
set_option maxHeartbeats 1000000 in
theorem rClean_any (A : Option Addr) (n c B : Nat) (vs : List PcV) (ps : List Pc) (w : World) (hn : n ≤ maxLen) (hA : Pcs w B A n vs ps) :
    Calls Tryz.prog 25 #[.slice A n c] w fun e w' => e = .returned (.bool (cleanB ps)) ∧ w' = w := by
  have hl := hA.len
  unfold maxLen at hn
  go_enter Tryz.func25, Tryz.ntmps25
  go_wp2
  go_loop [3] (fun i => ∃ k : Nat, k ≤ n ∧ i = .int .i64 k ∧ Hid (∀ (j : Nat) (p : Pc), j < k → ps[j]? = some p → p.1 = false)) (fun i => n - (intOf i).toNat)
  case atStart => exact ⟨0, Nat.zero_le _, rfl, Lib.hid fun j p h => absurd h (by omega)⟩
  case round =>
    obtain ⟨k, hk, rfl, hq⟩ := hrel
    by_cases hlt : k < n
    · obtain ⟨b, o, cf, At, nt, ct, Ab, nb, cb, As, ns, cs, t, bs, ss, rfl, hb, hv, hp, k1, k2, k3, k4, j1, j2, j3⟩ := hA.at_ (k := k) hlt
      have hph := Lib.hid hp
      clear hv hp j1 j2 j3 k2 k3 k4
      cases cf
      · go_wp2
        go_round
        case rel =>
          refine ⟨k + 1, by omega, by go_num, Lib.hid fun j p hj hp => ?_⟩
          rcases Nat.lt_or_ge j k with h | h
          · exact hq.out j p h hp
          · obtain rfl : j = k := by omega
            rw [hph.out] at hp
            injection hp with hp
            rw [← hp]
        case measure => simp [intOf]; omega
      · go_wp2
        go_ret
        exact ⟨ret_bool (clean_no hph.out rfl), rfl⟩
    · obtain rfl : k = n := by omega
      have hc : cleanB ps = true := by
        unfold cleanB
        rw [List.all_eq_true]
        intro p hp
        obtain ⟨j, hj⟩ := List.mem_iff_getElem?.1 hp
        rw [hq.out j p (by have := (List.getElem?_eq_some_iff.1 hj).1; omega) hj]
        rfl
      have hch := Lib.hid hc
      clear hc
      go_wp2
      go_ret
      exact ⟨ret_bool hch.out.symm, rfl⟩
end Go.Proofs.YtoephlkfejcadaaGreat
/- Proved here: the contract of the document's own answer of layer 9: Octopus. -/
namespace Go.Proofs.YtoephlkfejcadaaGreat
open Go.RowKit
set_option linter.unusedVariables false
set_option maxRecDepth 100000

theorem octs_bad {base : Txs} {sides : List Txs} {w : World} {z : Int} (hz : wrongN base sides = z) (h0 : z ≠ 0) {w' : World} (hb : Below w.heap.size w w') : OctOut w w' (.returned (.tuple #[.slice none 0 0, .int .i64 0, .int .i64 z])) base sides :=
  ⟨z, 0, none, 0, 0, [], [], rfl, Nat.le_refl _, Nat.zero_le _, Pcs.nil _ _ _, (by unfold OctsTo; rw [if_pos (by rw [hz]; exact h0)]; exact ⟨hz.symm, rfl, rfl⟩), hb⟩
theorem rTwo_call {A0 A1 A2 : Option Addr} {n0 c0 n1 c1 n2 c2 g : Nat} {base t s : Txs} {rest : List Txs} {wo W : World} (hf : FewG base t (s :: rest)) (h0 : TxR wo wo.heap.size (A0, n0, c0) base) (h1 : TxR wo wo.heap.size (A1, n1, c1) t) (h2 : TxR wo wo.heap.size (A2, n2, c2) s)
    (hb : Below wo.heap.size wo W) (hg : W.heap[g]? = some (.cells #[.slice A1 n1 c1, .slice A2 n2 c2] 22 (0, 0))) :
    Calls Tryz.prog 24 #[.slice A0 n0 c0, .slice (some ⟨g, 0, none⟩) 2 2, .agg #[.int .i64 0, .bool false]] W fun e w' => TwoOut W w' e base t s :=
  two_call (fun A0 n0 c0 base A n c rows sides w a b c' d e => rMerge_any A0 n0 c0 base A n c rows sides 0 false w a b (by unfold inR64; omega) c' d e) hf h0 h1 h2 hb hg

set_option maxHeartbeats 1000000 in
theorem rOcts_wrong (A0 : Option Addr) (n0 c0 : Nat) (base : Txs) (A : Option Addr) (n c : Nat) (rows : List Slc) (sides : List Txs) (w : World) (hnc : n ≤ c) (hcm : c ≤ maxLen) (hfew : fewM base sides = true) (hA0 : TxR w w.heap.size (A0, n0, c0) base) (hA : RowsT w w.heap.size A n rows sides) (hz : wrongN base sides ≠ 0) :
    Calls Tryz.prog 10 #[.slice A0 n0 c0, .slice A n c] w fun e w' => OctOut w w' e base sides := by
  have hC := Lib.hid (rChunks_any A0 n0 c0 base A n c rows sides w hnc hcm (fewM_R hfew) hA0 hA)
  obtain ⟨z, hz'⟩ : ∃ z, wrongN base sides = z := ⟨_, rfl⟩
  rw [hz'] at hz
  have hfin := Lib.hid (fun w' hb => octs_bad (w := w) (w' := w') hz' hz hb)
  have hz0 : (z != 0) = true := by simpa using hz
  have hzh := Lib.hid hz'
  clear hz hz' hA hA0 hfew
  go_enter Tryz.func10, Tryz.ntmps10
  go_wp2_with (go_at_call 23; refine hC.out.mono ?_; rintro e w1 ⟨er, A1, n1, c1, cs, rfl, q1, q2, q3, q4, q5⟩; have her : er = z := (q4.1.trans hzh.out); subst her; have hb1 := Lib.hid q5; clear q1 q2 q3 q4 q5)
  go_ret3
  exact hfin.out _ hb1.out

set_option maxHeartbeats 4000000 in
theorem rOcts_good (A0 : Option Addr) (n0 c0 : Nat) (base : Txs) (A : Option Addr) (n c : Nat) (rows : List Slc) (sides : List Txs) (w : World) (hnc : n ≤ c) (hcm : c ≤ maxLen) (hfew : fewM base sides = true) (hA0 : TxR w w.heap.size (A0, n0, c0) base) (hA : RowsT w w.heap.size A n rows sides) (hz : wrongN base sides = 0) :
    Calls Tryz.prog 10 #[.slice A0 n0 c0, .slice A n c] w fun e w' => OctOut w w' e base sides := by
  have hl := hA.len
  obtain ⟨v1, v2, -, -, -, -⟩ := wrong_none hz
  have hC := Lib.hid (rChunks_any A0 n0 c0 base A n c rows sides w hnc hcm (fewM_R hfew) hA0 hA)
  have hA0h := Lib.hid hA0
  have hAh := Lib.hid hA
  have hzh := Lib.hid hz
  have h1n : 1 ≤ n := by omega
  have h1i : (1 : Int) ≤ (n : Int) := by omega
  have hnm : n ≤ 16 := by omega
  obtain ⟨b, o, As, ns, cs, f0, rfl, hb, ht, hr, hc, hnc', hcm', hst⟩ := hA.at_ (k := 0) (by omega)
  have hdrop : sides = f0 :: sides.drop 1 := by
    have := drop_at ht
    simpa using this
  have hG0 : Hid (FewG base f0 (sides.drop 1)) := Lib.hid (by rw [hdrop] at hfew hz; exact FewG.start hfew hz)
  have hO0 : Hid (∀ er k qs, Folds base f0 (sides.drop 1) 1 er k qs → OctsTo base sides er k qs) := Lib.hid fun er k qs h => by
    unfold OctsTo
    rw [if_neg (by rw [hz]; simp)]
    exact ⟨f0, sides.drop 1, hdrop, h⟩
  have hT0 : Hid (TxR w w.heap.size (As, ns, cs) f0) := Lib.hid ⟨hnc', hcm', (by exact (hA.2.2 0 _ _ hr ht).2.2)⟩
  have hblt : b < w.heap.size := hb
  have hch := Lib.hid hc
  have hlh := Lib.hid hl
  clear hA hA0 hz hfew hst ht hr hdrop v1 v2 hnc' hcm' hl hb hc
  go_enter Tryz.func10, Tryz.ntmps10
  go_wp2_with (go_at_call 23; refine hC.out.mono ?_; rintro e w1 ⟨er, A1, n1, c1, cks, rfl, q1, q2, q3, q4, q5⟩; have her : er = 0 := (q4.1.trans hzh.out); subst her; have hb1 := Lib.hid q5; have hc := (q5.cell (p := ⟨b, o, none⟩) hblt).trans hch.out; clear q1 q2 q3 q4 q5)
  go_loopw [9, 10, 11, 12] (fun st si _ _ wr => ∃ (k : Nat) (At : Option Addr) (nt ct : Nat) (t : Txs), 1 ≤ k ∧ k ≤ n ∧ si = .int .i64 k ∧ st = .slice At nt ct ∧ Hid (TxR wr wr.heap.size (At, nt, ct) t) ∧ Hid (FewG base t (sides.drop k)) ∧ Hid (∀ er k' qs, Folds base t (sides.drop k) k er k' qs → OctsTo base sides er k' qs) ∧ Hid (Below w.heap.size w wr)) (fun _ si _ _ _ => n - (intOf si).toNat)
  case atStart => exact ⟨1, As, ns, cs, f0, Nat.le_refl _, h1n, rfl, rfl, Lib.hid (hT0.out.up hb1.out), hG0, hO0, hb1⟩
  case round =>
    obtain ⟨k, At, nt, ct, t, hk1, hk, rfl, rfl, hT, hG, hO, hB⟩ := hrel
    obtain ⟨wo, rfl⟩ : ∃ wo : World, wo = wr := ⟨_, rfl⟩
    clear hc
    by_cases hlt : k < n
    · obtain ⟨b2, o2, A', n', c', s, e2, hb2, ht, hr, hc, hnc', hcm', hst⟩ := (hAh.out.up hB.out).at_ (k := k) hlt
      injection e2 with e2
      injection e2 with e3 e4
      subst e3
      subst e4
      have i1 : (0 : Int) ≤ (k : Int) := by omega
      have i2 : (k : Int) < (n : Int) := by omega
      have hTs : TxR wo wo.heap.size (A', n', c') s := (hAh.out.up hB.out).2.2 k _ _ hr ht
      have hd := drop_at ht
      have hG2 := hG.out
      have hO2 := hO.out
      rw [hd] at hG2 hO2
      have hMg : Hid (∀ (W : World), Below wo.heap.size wo W → W.heap[wo.heap.size]? = some (.cells #[.slice At nt ct, .slice A' n' c'] 22 (0, 0)) → Calls Tryz.prog 24 #[.slice A0 n0 c0, .slice (some ⟨wo.heap.size, 0, none⟩) 2 2, .agg #[.int .i64 0, .bool false]] W fun e w' => ∃ A n c vs ps, e = .returned (.tuple #[.slice A n c, .int .i64 0]) ∧ (n ≤ c ∧ c ≤ maxLen ∧ n ≤ 10000 ∧ (∀ z, (choose ps z).length ≤ 1000000) ∧ Pcs w' w'.heap.size A n vs ps) ∧ MergesTo base [t, s] 0 false 0 ps ∧ Below w.heap.size w w') := Lib.hid (fun W hW hg => by
        refine (rTwo_call hG2 (hA0h.out.up hB.out) hT.out hTs hW hg).mono ?_
        rintro e w' ⟨A, n, c, vs, ps, h1, h2, h3, h4⟩
        exact ⟨A, n, c, vs, ps, h1, h2, h3, hB.out.trans ((hW.trans (h4.mono hW.size)).mono hB.out.size)⟩)
      have hstop : Hid (∀ ps, MergesTo base [t, s] 0 false 0 ps → cleanB ps = false → OctsTo base sides 0 k ps) := Lib.hid fun ps hm hcl => hO2 0 k ps (.stop hm hcl)
      have hgoes : Hid (∀ ps, MergesTo base [t, s] 0 false 0 ps → cleanB ps = true → FewG base (choose ps 0) (sides.drop (k + 1)) ∧ ∀ er k' qs, Folds base (choose ps 0) (sides.drop (k + 1)) ((k + 1 : Nat) : Int) er k' qs → OctsTo base sides er k' qs) := Lib.hid fun ps hm hcl =>
        ⟨((hG2.step hm).2 hcl).1, fun er k' qs h => hO2 er k' qs (.goes hm hcl (by exact_mod_cast h))⟩
      have hlt3 : b < wo.heap.size := hb2
      clear hG hO hG2 hO2 ht hr hd hst hTs hnc' hcm' hb2
      go_upto_region 11 with (go_at_call 24; refine (hMg.out _ ((Below.refl _ _).alloc (Nat.le_refl _) _) (Go.Deep.blk_alloc_new _ _)).mono ?_; rintro e w2 ⟨A5, n5, c5, vs5, ps5, rfl, r1, r2, r3⟩; have hq5 := Lib.hid r1; have hm5 := Lib.hid r2; have hB2 := Lib.hid r3; clear r1 r2 r3)
      obtain ⟨cl, hcl⟩ : ∃ cl, cleanB ps5 = cl := ⟨_, rfl⟩
      have hCl := rClean_any A5 n5 c5 w2.heap.size vs5 ps5 w2 (Nat.le_trans hq5.out.1 hq5.out.2.1) hq5.out.2.2.2.2
      rw [hcl] at hCl
      have hClh := Lib.hid hCl
      have hclh := Lib.hid hcl
      clear hCl hcl hc
      cases cl
      · have hfin : OctOut w w2 (.returned (.tuple #[.slice A5 n5 c5, .int .i64 (k : Int), .int .i64 0])) base sides := ⟨0, k, A5, n5, c5, vs5, ps5, rfl, hq5.out.1, hq5.out.2.1, hq5.out.2.2.2.2, hstop.out ps5 hm5.out hclh.out, hB2.out⟩
        have hfinh := Lib.hid hfin
        clear hfin
        go_wp2_with (go_at_call 25; refine hClh.out.mono ?_; rintro e w3 ⟨rfl, rfl⟩)
        go_ret3
        exact hfinh.out
      · have hCh := Lib.hid (rChoose_any A5 n5 c5 vs5 ps5 0 w2 (Nat.le_trans hq5.out.1 hq5.out.2.1) (by unfold inR64; omega) (Nat.le_trans (hq5.out.2.2.2.1 0) (by decide)) hq5.out.2.2.2.2)
        have hnx := Lib.hid (hgoes.out ps5 hm5.out hclh.out)
        go_wp2_with (first
          | (go_at_call 25; refine hClh.out.mono ?_; rintro e w3 ⟨rfl, rfl⟩)
          | (go_at_call 26; refine hCh.out.mono ?_; rintro e w4 ⟨A6, n6, c6, rfl, s1, s2⟩; have hT6 := Lib.hid s1; have hB4 := Lib.hid (hB2.out.trans (s2.mono hB2.out.size)); clear s1 s2))
        go_roundw
        case rel => exact ⟨k + 1, A6, n6, c6, _, by omega, by omega, by go_num, rfl, hT6, Lib.hid hnx.out.1, Lib.hid hnx.out.2, hB4⟩
        case measure => simp [intOf]; omega
    · obtain rfl : k = n := by omega
      have hd : sides.drop k = [] := List.drop_eq_nil_iff.2 (by rw [hlh.out]; exact Nat.le_refl _)
      have hG2 := hG.out
      have hO2 := hO.out
      rw [hd] at hG2 hO2
      have hN : Hid (∀ (W : World), Below wo.heap.size wo W → W.heap[wo.heap.size]? = some (pcObj false ((At, nt, ct), (none, 0, 0), (none, 0, 0))) → Calls Tryz.prog 27 #[.slice (some ⟨wo.heap.size, 0, none⟩) 1 1] W fun e w' => ∃ A n c, e = .returned (.slice A n c) ∧ OctOut w w' (.returned (.tuple #[.slice A n c, .int .i64 (k : Int), .int .i64 0])) base sides) := Lib.hid (fun W hW hg => by
        have hP : Pcs W W.heap.size (some ⟨wo.heap.size, 0, none⟩) 1 [((At, nt, ct), (none, 0, 0), (none, 0, 0))] [tPc t] := pcs_one (p := tPc t) hg (PcR.text (hT.out.up hW))
        refine (rNormal_any _ 1 1 _ [tPc t] W (by omega) (Nat.le_trans (text_len hG2).1 (by decide)) hP).mono ?_
        rintro e w' ⟨A, n, c, vs, rfl, h1, h2, h3, h4⟩
        exact ⟨A, n, c, rfl, 0, k, A, n, c, vs, _, rfl, h1, h2, h3, hO2 0 k _ (.done t k), hB.out.trans ((hW.trans (h4.mono hW.size)).mono hB.out.size)⟩)
      clear hG hO hG2 hO2 hd
      go_wp2_with (go_at_call 27; refine (hN.out _ ((Below.refl _ _).alloc (Nat.le_refl _) _) (Go.Deep.blk_alloc_new _ _)).mono ?_; rintro e w3 ⟨A9, n9, c9, rfl, s1⟩; have hs9 := Lib.hid s1; clear s1)
      go_ret3
      exact hs9.out

/-- The document's own Octopus, as its contract asks. -/
theorem rOcts_any (A0 : Option Addr) (n0 c0 : Nat) (base : Txs) (A : Option Addr) (n c : Nat) (rows : List Slc) (sides : List Txs) (w : World) (hnc : n ≤ c) (hcm : c ≤ maxLen) (hfew : fewM base sides = true) (hA0 : TxR w w.heap.size (A0, n0, c0) base) (hA : RowsT w w.heap.size A n rows sides) :
    Calls Tryz.prog 10 #[.slice A0 n0 c0, .slice A n c] w fun e w' => OctOut w w' e base sides := by
  by_cases hz : wrongN base sides = 0
  · exact rOcts_good A0 n0 c0 base A n c rows sides w hnc hcm hfew hA0 hA hz
  · exact rOcts_wrong A0 n0 c0 base A n c rows sides w hnc hcm hfew hA0 hA hz
end Go.Proofs.YtoephlkfejcadaaGreat
/- Proved here: the contract of the document's own answer of layer 6: All. -/
namespace Go.Proofs.YtoephlkfejcadaaGreat
open Go.RowKit
set_option linter.unusedVariables false

theorem all_no {xs ys : List Txs} {k : Nat} {x y : Txs} (hx : xs[k]? = some x) (hy : ys[k]? = some y) (h : x ≠ y) : false = decide (xs = ys) := by
  rw [eq_comm, decide_eq_false_iff_not]
  rintro rfl
  rw [hx] at hy
  injection hy with hy
  exact h hy
theorem all_yes {xs ys : List Txs} {k : Nat} {x y : Txs} (hq : xs.take k = ys.take k) (hx : xs[k]? = some x) (hy : ys[k]? = some y) (h : x = y) : xs.take (k + 1) = ys.take (k + 1) := by
  rw [take_at hx, take_at hy, hq, h]

set_option maxHeartbeats 800000 in
theorem cAll_any (A A' : Option Addr) (n n' c c' B B' : Nat) (rows rows' : List Slc) (xs ys : List Txs) (w : World) (hn : n ≤ maxLen) (hn' : n' ≤ maxLen) (hA : RowsT w B A n rows xs) (hA' : RowsT w B' A' n' rows' ys) :
    Calls Tryz.prog 28 #[.slice A n c, .slice A' n' c'] w fun e w' => e = .returned (.bool (decide (xs = ys))) ∧ ∃ q, w' = w.drewN q := by
  have hl := hA.len
  have hl' := hA'.len
  unfold maxLen at hn hn'
  by_cases hnn : n = n'
  · subst hnn
    go_enter Tryz.func28, Tryz.ntmps28
    go_wp2
    go_loopw [5] (fun i wr => ∃ k : Nat, k ≤ n ∧ i = .int .i64 k ∧ Hid (xs.take k = ys.take k) ∧ ∃ q, wr = w.drewN q) (fun i _ => n - (intOf i).toNat)
    case atStart => exact ⟨0, Nat.zero_le _, rfl, Lib.hid rfl, 0, rfl⟩
    case round =>
      obtain ⟨k, hk, rfl, hq, q, rfl⟩ := hrel
      by_cases hlt : k < n
      · obtain ⟨b, o, A1, n1, c1, x, rfl, hb, hx, -, hc0, hnc, hcm, hst⟩ := hA.at_ (k := k) hlt
        obtain ⟨b', o', A2, n2, c2, y, rfl, hb', hy, -, hc0', hnc', hcm', hst'⟩ := hA'.at_ (k := k) hlt
        have hi1 : (0 : Int) ≤ (k : Int) := by omega
        have hi2 : (k : Int) < (n : Int) := by omega
        obtain ⟨bb, hbb⟩ : ∃ bb, decide (x = y) = bb := ⟨_, rfl⟩
        have hS := fun W (h1 : Strs W B A1 n1 x) (h2 : Strs W B' A2 n2 y) => Same_any A1 A2 n1 n2 c1 c2 B B' x y W (by omega) (by omega) h1 h2
        rw [hbb] at hS
        have hS' := Lib.hid (fun j => hS ((w.drewN q).drewN j) ((hst.drewN q).drewN j) ((hst'.drewN q).drewN j))
        have hS'' := Lib.hid (fun j => hS (w.drewN j) (hst.drewN j) (hst'.drewN j))
        have hbbh := Lib.hid hbb
        have hxh := Lib.hid hx
        have hyh := Lib.hid hy
        clear hS hbb hst hst' hx hy
        obtain ⟨wo, hwo⟩ : ∃ wo : World, wo = w.drewN q := ⟨_, rfl⟩
        rw [← hwo] at hS' ⊢
        have e0 : wo.cell? ⟨b, o + k, none⟩ = some (.slice A1 n1 c1) := by rw [hwo]; exact hc0
        have e1 : wo.cell? ⟨b', o' + k, none⟩ = some (.slice A2 n2 c2) := by rw [hwo]; exact hc0'
        have hwoh := Lib.hid hwo
        clear hwo hS'' hc0 hc0'
        go_wp2
        go_quiet ((go_at_call 15; exact Calls.quiet_of (hS'.out _)))
        obtain ⟨z1, rfl⟩ : ∃ z1, z1 = nq := ⟨_, rfl⟩
        cases bb
        · have hne : x ≠ y := by simpa using hbbh.out
          have hneh := Lib.hid hne
          clear hne
          go_wp2
          go_ret
          exact ⟨ret_bool (all_no hxh.out hyh.out hneh.out), q + z1, by rw [hwoh.out, World.drewN_drewN]⟩
        · have he : x = y := by simpa using hbbh.out
          have heh := Lib.hid he
          clear he
          go_wp2
          go_roundw
          case rel => exact ⟨k + 1, by omega, by go_num, Lib.hid (all_yes hq.out hxh.out hyh.out heh.out), q + z1, by rw [hwoh.out, World.drewN_drewN]⟩
          case measure => simp [intOf]; omega
      · go_wp2
        go_ret
        exact ⟨ret_bool (by rw [eq_comm, decide_eq_true_iff]; have := hq.out; rwa [List.take_of_length_le (by omega), List.take_of_length_le (by omega)] at this), q, rfl⟩
  · have hne : (((n : Int) != (n' : Int))) = true := by simp; omega
    go_enter Tryz.func28, Tryz.ntmps28
    go_wp2
    go_ret
    exact ⟨ret_bool (by rw [eq_comm, decide_eq_false_iff_not]; rintro rfl; omega), 0, rfl⟩
end Go.Proofs.YtoephlkfejcadaaGreat
/- Proved here: the contract of the document's own answer of layer 7: Same. -/
namespace Go.Proofs.YtoephlkfejcadaaGreat
open Go.RowKit
set_option linter.unusedVariables false

theorem neq_bool (a b : Bool) (W : World) : (binOp .neq 4 (.bool a) (.bool b)).run Tryz.prog W = .ok (.bool (a != b)) W := by
  cases a <;> cases b <;> go_simp
theorem psame_no {xs ys : List Pc} {k : Nat} {x y : Pc} (hx : xs[k]? = some x) (hy : ys[k]? = some y) (h : x ≠ y) : false = decide (xs = ys) := by
  rw [eq_comm, decide_eq_false_iff_not]
  rintro rfl
  rw [hx] at hy
  injection hy with hy
  exact h hy
theorem psame_yes {xs ys : List Pc} {k : Nat} {x y : Pc} (hq : xs.take k = ys.take k) (hx : xs[k]? = some x) (hy : ys[k]? = some y) (h : x = y) : xs.take (k + 1) = ys.take (k + 1) := by
  rw [take_at hx, take_at hy, hq, h]

set_option maxRecDepth 100000 in
set_option maxHeartbeats 4000000 in
theorem pSame_any (A A' : Option Addr) (n n' c c' B B' : Nat) (vs vs' : List PcV) (xs ys : List Pc) (w : World) (hn : n ≤ maxLen) (hn' : n' ≤ maxLen) (hA : Pcs w B A n vs xs) (hA' : Pcs w B' A' n' vs' ys) :
    Calls Tryz.prog 11 #[.slice A n c, .slice A' n' c'] w fun e w' => e = .returned (.bool (decide (xs = ys))) ∧ ∃ q, w' = w.drewN q := by
  have hl := hA.len
  have hl' := hA'.len
  unfold maxLen at hn hn'
  by_cases hnn : n = n'
  rotate_left
  · have hne : (((n : Int) != (n' : Int))) = true := by simp; omega
    go_enter Tryz.func11, Tryz.ntmps11
    go_wp2
    go_ret
    exact ⟨ret_bool (by rw [eq_comm, decide_eq_false_iff_not]; rintro rfl; omega), 0, rfl⟩
  subst hnn
  have hAh := Lib.hid hA
  have hAh' := Lib.hid hA'
  clear hA hA'
  go_enter Tryz.func11, Tryz.ntmps11
  go_wp2
  go_loopw [5] (fun i wr => ∃ k : Nat, k ≤ n ∧ i = .int .i64 k ∧ Hid (xs.take k = ys.take k) ∧ Hid (∃ q, wr = w.drewN q)) (fun i _ => n - (intOf i).toNat)
  case atStart => exact ⟨0, Nat.zero_le _, rfl, Lib.hid rfl, Lib.hid ⟨0, rfl⟩⟩
  case round =>
    obtain ⟨k, hk, rfl, hq, hw⟩ := hrel
    obtain ⟨wo, rfl⟩ : ∃ wo : World, wo = wr := ⟨_, rfl⟩
    have hAo : Hid (Pcs wo B A n vs xs) := Lib.hid (by obtain ⟨q, rfl⟩ := hw.out; exact hAh.out.drewN q)
    have hAo' : Hid (Pcs wo B' A' n vs' ys) := Lib.hid (by obtain ⟨q, rfl⟩ := hw.out; exact hAh'.out.drewN q)
    have hdr : Hid (∀ j, ∃ q, wo.drewN j = w.drewN q) := Lib.hid (fun j => by obtain ⟨q, rfl⟩ := hw.out; exact ⟨_, World.drewN_drewN _ _ _⟩)
    by_cases hlt : k < n
    · obtain ⟨b, o, cf, At, nt, ct, Ab, nb, cb, As, ns, cs, t, bs, ss, rfl, hb, hv, hp, k1, k2, k3, k4, j1, j2, j3, j4, rr, j5⟩ := hAo.out.at_ (k := k) hlt
      obtain ⟨b', o', cf', At', nt', ct', Ab', nb', cb', As', ns', cs', t', bs', ss', rfl, hb', hv', hp', k1', k2', k3', k4', j1', j2', j3', j4', rr', j5'⟩ := hAo'.out.at_ (k := k) hlt
      have i1 : (0 : Int) ≤ (k : Int) := by omega
      have i2 : (k : Int) < (n : Int) := by omega
      obtain ⟨f0, hf0⟩ : ∃ f0, (cf != cf') = f0 := ⟨_, rfl⟩
      obtain ⟨f1, hf1⟩ : ∃ f1, decide (t = t') = f1 := ⟨_, rfl⟩
      obtain ⟨f2, hf2⟩ : ∃ f2, decide (bs = bs') = f2 := ⟨_, rfl⟩
      obtain ⟨f3, hf3⟩ : ∃ f3, decide (ss = ss') = f3 := ⟨_, rfl⟩
      have hF1 : Hid (∀ j, Calls Tryz.prog 15 #[.slice At nt ct, .slice At' nt' ct'] (wo.drewN j) fun e w' => e = .returned (.bool f1) ∧ ∃ q, w' = (wo.drewN j).drewN q) := Lib.hid (fun j => by
        rw [← hf1]; exact Same_any At At' nt nt' ct ct' B B' t t' _ (Nat.le_trans j1.1 j1.2.1) (Nat.le_trans j1'.1 j1'.2.1) (j1.2.2.drewN j) (j1'.2.2.drewN j))
      have hF2 : Hid (∀ j, Calls Tryz.prog 15 #[.slice Ab nb cb, .slice Ab' nb' cb'] (wo.drewN j) fun e w' => e = .returned (.bool f2) ∧ ∃ q, w' = (wo.drewN j).drewN q) := Lib.hid (fun j => by
        rw [← hf2]; exact Same_any Ab Ab' nb nb' cb cb' B B' bs bs' _ (Nat.le_trans j2.1 j2.2.1) (Nat.le_trans j2'.1 j2'.2.1) (j2.2.2.drewN j) (j2'.2.2.drewN j))
      have hF3 : Hid (∀ j, Calls Tryz.prog 28 #[.slice As ns cs, .slice As' ns' cs'] (wo.drewN j) fun e w' => e = .returned (.bool f3) ∧ ∃ q, w' = (wo.drewN j).drewN q) := Lib.hid (fun j => by
        rw [← hf3]; exact cAll_any As As' ns ns' cs cs' B B' rr rr' ss ss' _ (Nat.le_trans j3 j4) (Nat.le_trans j3' j4') (j5.drewN j) (j5'.drewN j))
      have heq : Hid ((f0 = false ∧ f1 = true ∧ f2 = true ∧ f3 = true) ↔ ((cf, t, bs, ss) : Pc) = (cf', t', bs', ss')) := Lib.hid (by
        rw [← hf0, ← hf1, ← hf2, ← hf3]
        simp [Prod.ext_iff])
      have hph := Lib.hid hp
      have hph' := Lib.hid hp'
      clear hv hp hv' hp' hf1 hf2 hf3 j1 j2 j5 j1' j2' j5'
      have hneq : ∀ W : World, (binOp .neq 4 (.bool cf) (.bool cf')).run Tryz.prog W = .ok (.bool f0) W := fun W => by rw [neq_bool, hf0]
      clear hf0
      cases f0
      · cases f1
        · have hno := Lib.hid (psame_no hph.out hph'.out (fun e => by have := heq.out.2 e; simp at this))
          go_wp2
          go_quiet ((first | (go_at_call 15; first | with_reducible exact Calls.quiet_of (hF1.out _) | with_reducible exact Calls.quiet_of (hF2.out _)) | (go_at_call 28; exact Calls.quiet_of (hF3.out _))))
          obtain ⟨z1, rfl⟩ : ∃ z1, z1 = nq := ⟨_, rfl⟩
          go_wp2
          go_ret
          exact ⟨ret_bool hno.out, hdr.out z1⟩
        · cases f2
          · have hno := Lib.hid (psame_no hph.out hph'.out (fun e => by have := heq.out.2 e; simp at this))
            go_wp2
            go_quiet ((first | (go_at_call 15; first | with_reducible exact Calls.quiet_of (hF1.out _) | with_reducible exact Calls.quiet_of (hF2.out _)) | (go_at_call 28; exact Calls.quiet_of (hF3.out _))))
            obtain ⟨z1, rfl⟩ : ∃ z1, z1 = nq := ⟨_, rfl⟩
            go_wp2
            go_ret
            exact ⟨ret_bool hno.out, hdr.out z1⟩
          · cases f3
            · have hno := Lib.hid (psame_no hph.out hph'.out (fun e => by have := heq.out.2 e; simp at this))
              go_wp2
              go_quiet ((first | (go_at_call 15; first | with_reducible exact Calls.quiet_of (hF1.out _) | with_reducible exact Calls.quiet_of (hF2.out _)) | (go_at_call 28; exact Calls.quiet_of (hF3.out _))))
              obtain ⟨z1, rfl⟩ : ∃ z1, z1 = nq := ⟨_, rfl⟩
              go_wp2
              go_ret
              exact ⟨ret_bool hno.out, hdr.out z1⟩
            · have hyes := Lib.hid (psame_yes hq.out hph.out hph'.out (heq.out.1 ⟨rfl, rfl, rfl, rfl⟩))
              go_wp2
              go_quiet ((first | (go_at_call 15; first | with_reducible exact Calls.quiet_of (hF1.out _) | with_reducible exact Calls.quiet_of (hF2.out _)) | (go_at_call 28; exact Calls.quiet_of (hF3.out _))))
              obtain ⟨z1, rfl⟩ : ∃ z1, z1 = nq := ⟨_, rfl⟩
              go_wp2
              go_roundw
              case rel => exact ⟨k + 1, by omega, by go_num, hyes, Lib.hid (hdr.out z1)⟩
              case measure => simp [intOf]; omega
      · have hno := Lib.hid (psame_no hph.out hph'.out (fun e => by have := heq.out.2 e; simp at this))
        go_wp2
        go_quiet (fail)
        obtain ⟨z1, rfl⟩ : ∃ z1, z1 = nq := ⟨_, rfl⟩
        go_wp2
        go_ret
        exact ⟨ret_bool hno.out, hdr.out z1⟩
    · go_wp2
      go_ret
      exact ⟨ret_bool (by rw [eq_comm, decide_eq_true_iff]; have := hq.out; rwa [List.take_of_length_le (by omega), List.take_of_length_le (by omega)] at this), hw.out⟩
end Go.Proofs.YtoephlkfejcadaaGreat
