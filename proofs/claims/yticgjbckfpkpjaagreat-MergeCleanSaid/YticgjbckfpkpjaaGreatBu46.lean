/- Proved here: texts joined: MgLawD. -/
import Derived.Test.YticgjbckfpkpjaaGreatBu41
import Derived.Test.YticgjbckfpkpjaaGreatBu42
import Derived.Test.YticgjbckfpkpjaaGreatBu45
/- Proved here: what the statement MergeClean says, by the contracts of package merge. -/
namespace Go.Proofs.YticgjbckfpkpjaaGreat
open Go.RowKit
set_option linter.unusedVariables false

theorem any_take {α : Type} {l : List α} {i : Nat} {x : α} (f : α → Bool) (h : l[i]? = some x) : (l.take (i + 1)).any f = ((l.take i).any f || f x) := by
  rw [take_at h, List.any_append]
  simp

section
variable (H : MergeOk)
include H

set_option maxRecDepth 100000 in
set_option maxHeartbeats 8000000 in
theorem MergeClean_walk (A0 : Option Addr) (n0 c0 : Nat) (base : Txs) (A : Option Addr) (n c : Nat) (rows : List Slc) (sides : List Txs) (y : Nat) (w : World) (h0 : TxR w w.heap.size (A0, n0, c0) base) (h1 : n ≤ c ∧ c ≤ maxLen ∧ RowsT w w.heap.size A n rows sides) (hy : y ≤ 255) :
    Calls Tryz.prog 5 #[.slice A0 n0 c0, .slice A n c, .int .u8 y] w fun e w' => e = .returned (.bool true) ∧ Below w.heap.size w w' := by
  have haw := Lib.hid (mAwake_any H w)
  have hl := h1.2.2.len
  obtain ⟨fm, hfm⟩ : ∃ fm, (fewM base sides && decide (wrongN base sides = 0)) = fm := ⟨_, rfl⟩
  have hF := Lib.hid (fun (W : World) (hb : Below w.heap.size w W) => mMay_any A0 n0 c0 base A n c W.heap.size rows sides W (Nat.le_trans h0.1 h0.2.1) (Nat.le_trans h1.1 h1.2.1) (h0.up hb).2.2 (h1.2.2.up hb))
  rw [hfm] at hF
  cases fm
  · clear h0 h1 hfm
    go_enter Tryz.func5, Tryz.ntmps5
    go_wp2_with (first
      | (go_at_call 10; refine haw.out.mono ?_; rintro e w1 ⟨rfl, hb1⟩; have hB1 := Lib.hid hb1; clear hb1)
      | (go_at_call 18; refine (hF.out _ hB1.out).mono ?_; rintro e w2 ⟨rfl, rfl⟩))
    go_ret
    exact ⟨rfl, hB1.out⟩
  obtain ⟨hfew, hwr⟩ := may_few hfm
  have hsM := fewM_M hfew
  have hsR := fewM_R hfew
  obtain ⟨u1, u2, u3, u4⟩ := fewM_small hfew
  obtain ⟨w1', -, w3, w4, -, -⟩ := wrong_none hwr
  obtain ⟨p, hp⟩ : ∃ p : Nat, y % n = p := ⟨_, rfl⟩
  have hpn : p < n := by rw [← hp]; exact Nat.mod_lt _ (by omega)
  have hpt : ((y : Int)).tmod (n : Int) = (p : Int) := by rw [← hp]; exact Int.ofNat_tmod y n ▸ rfl
  obtain ⟨N, hN⟩ : ∃ N : Nat, p + 1 = N := ⟨_, rfl⟩
  have hNi : (1 : Int) + (p : Int) = (N : Int) := by omega
  have hwN : IntKind.i64.wrap (N : Int) = (N : Int) := IntWalk.i64_in _ (by omega)
  have hwp : IntKind.i64.wrap (p : Int) = (p : Int) := IntWalk.i64_in _ (by omega)
  have hn0' : ((n : Int) == 0) = false := by simp; omega
  have hnz : ¬ (n : Int) = 0 := by omega
  have hMrg : Hid (∀ (fav : Int) (un : Bool) (W : World), 0 ≤ fav ∧ fav ≤ sides.length ∧ (fav = 0 ∨ un = false) → Below w.heap.size w W → Calls Tryz.prog 15 #[.slice A0 n0 c0, .slice A n c, .agg #[.int .i64 fav, .bool un]] W fun e w' => ∃ A1 n1 c1 vs ms cs, e = .returned (.tuple #[.slice A1 n1 c1, .int .i64 0]) ∧ (n1 ≤ c1 ∧ c1 ≤ maxLen ∧ n1 ≤ 10000 ∧ Pcs w' w'.heap.size A1 n1 vs (mergeD base sides fav un cs)) ∧ MsOf base sides ms ∧ Laid base sides ms cs ∧ Below W.heap.size W w' ∧ Below w.heap.size w w') := Lib.hid (fun fav un W hf hW => by
    refine (H.merge_ok A0 n0 c0 base A n c rows sides fav un W h1.1 h1.2.1 (by unfold inR64; omega) hsM (h0.up hW) (h1.2.2.up hW)).mono ?_
    rintro e w' ⟨er, A1, n1, c1, vs, ps, rfl, q1, q2, q3, q4, q5⟩
    obtain ⟨rfl, ms, cs, a, b, rfl⟩ := merge_of hwr hf q4
    exact ⟨A1, n1, c1, vs, ms, cs, rfl, ⟨q1, q2, by have h7 := q3.len; have h8 := (merge_len b hsR u2 fav un).1; omega, q3⟩, a, b, q5, hW.trans (q5.mono hW.size)⟩)
  have hCl : Hid (∀ (ps : List Pc) (A1 : Option Addr) (n1 c1 : Nat) (vs : List PcV) (W : World), (n1 ≤ c1 ∧ c1 ≤ maxLen ∧ n1 ≤ 10000 ∧ Pcs W W.heap.size A1 n1 vs ps) → Below w.heap.size w W → Calls Tryz.prog 21 #[.slice A1 n1 c1] W fun e w' => e = .returned (.bool (cleanB ps)) ∧ Below W.heap.size W w' ∧ Below w.heap.size w w') := Lib.hid (fun ps A1 n1 c1 vs W q hW => by
    refine (H.clean_ok A1 n1 c1 vs ps W q.1 q.2.1 q.2.2.1 q.2.2.2).mono ?_
    rintro e w' ⟨rfl, h⟩
    exact ⟨rfl, h, hW.trans (h.mono hW.size)⟩)
  have hRC : Hid (∀ (W : World), Below w.heap.size w W → Calls Tryz.prog 13 #[.slice A0 n0 c0, .slice A n c] W fun e w' => ∃ A4 n4 c4 ms cs, e = .returned (.tuple #[.slice A4 n4 c4, .int .i64 0]) ∧ n4 ≤ c4 ∧ c4 ≤ maxLen ∧ Cks w' w'.heap.size A4 n4 cs ∧ MsOf base sides ms ∧ Laid base sides ms cs ∧ Below w.heap.size w w') := Lib.hid (fun W hW => by
    refine (rChunks_any A0 n0 c0 base A n c rows sides W h1.1 h1.2.1 hsR (h0.up hW) (h1.2.2.up hW)).mono ?_
    rintro e w' ⟨er, A4, n4, c4, cs, rfl, q1, q2, q3, q4, q5⟩
    have he : er = 0 := q4.1.trans hwr
    subst he
    obtain ⟨ms, a, b⟩ := q4.2.2 rfl
    exact ⟨A4, n4, c4, ms, cs, rfl, q1, q2, q3, a, a.laid b, hW.trans (q5.mono hW.size)⟩)
  have hPt : Hid (∀ (W : World) (cs : List Ck) (ms : List (List Int)) (ck : Ck) (A1 : Option Addr) (n1 c1 : Nat), Below w.heap.size w W → Laid base sides ms cs → ck ∈ cs → n1 ≤ c1 → c1 ≤ maxLen → Spans W W.heap.size A1 n1 ck.2.2 → Calls Tryz.prog 19 #[.agg #[.bool ck.1, .int .i64 ck.2.1.1, .int .i64 ck.2.1.2, .slice A1 n1 c1], .slice A0 n0 c0, .slice A n c] W fun e w' => ∃ A5 n5 c5 A6 n6 c6 rs, e = .returned (.tuple #[.slice A5 n5 c5, .slice A6 n6 c6, .int .i64 0]) ∧ TxR w' w'.heap.size (A5, n5, c5) (cutB ck base) ∧ RowsT w' w'.heap.size A6 n6 rs (cutsP ck sides) ∧ n6 ≤ 100 ∧ Below W.heap.size W w' ∧ Below w.heap.size w w') := Lib.hid (fun W cs ms ck A1 n1 c1 hW hL hc q1 q2 q3 => by
    obtain ⟨e1, e2, e3⟩ := laid_parts hL hc
    refine (rParts_any ck.1 ck.2.1.1 ck.2.1.2 ck.2.2 A1 n1 c1 A0 n0 c0 base A n c rows sides W (by omega) (Nat.le_trans q1 q2) q3 (h0.up hW) (h1.2.2.up hW)).mono ?_
    rintro e w' ⟨A5, n5, c5, A6, n6, c6, rs, rfl, r1, r2, r3, r4, r5⟩
    rw [show partErr (ck.1, (ck.2.1.1, ck.2.1.2), ck.2.2) base sides = 0 from e1]
    rw [show partBase (ck.1, (ck.2.1.1, ck.2.1.2), ck.2.2) base sides = cutB ck base from e2] at r1
    rw [show partSides (ck.1, (ck.2.1.1, ck.2.1.2), ck.2.2) base sides = cutsP ck sides from e3] at r4
    exact ⟨A5, n5, c5, A6, n6, c6, rs, rfl, r1, r4, by have := r4.len; rw [cutsP_len hL hc] at this; omega, r5, hW.trans (r5.mono hW.size)⟩)
  have hKd : Hid (∀ (W : World) (A5 : Option Addr) (n5 c5 : Nat) (b : Txs) (A6 : Option Addr) (n6 c6 : Nat) (rs : List Slc) (ps : List Txs), TxR W W.heap.size (A5, n5, c5) b → RowsT W W.heap.size A6 n6 rs ps → n6 ≤ 100 → Calls Tryz.prog 20 #[.slice A5 n5 c5, .slice A6 n6 c6] W fun e w' => e = .returned (.int .i64 (kindN b ps)) ∧ Below W.heap.size W w') := Lib.hid (fun W A5 n5 c5 b A6 n6 c6 rs ps q1 q2 q3 => rKind_any A5 n5 c5 b A6 n6 c6 rs ps W (Nat.le_trans q1.1 q1.2.1) (by omega) q1.2.2 q2)
  have hside : Hid (1 ≤ (N : Int) ∧ (N : Int) ≤ sides.length) := Lib.hid (by omega)
  have hone : Hid (∀ (ms ms' : List (List Int)) (cs cs' : List Ck), MsOf base sides ms → Laid base sides ms cs → MsOf base sides ms' → Laid base sides ms' cs' → cs = cs') := Lib.hid (fun ms ms' cs cs' a b a' b' => cuts_same a b.cut a' b'.cut)
  have tok1 := trivial
  have tok2 := trivial
  have tok5 := trivial
  have tok6 := trivial
  clear h0 h1 hfm hfew hwr hsM hsR u1 u2 u3 u4 w1' w3 w4 hp hN
  go_enter Tryz.func5, Tryz.ntmps5
  go_wp2_with (first
    | (go_at_call 10; refine haw.out.mono ?_; rintro e x1 ⟨rfl, hb1⟩; have hB1 := Lib.hid hb1; clear hb1)
    | (go_at_call 18; refine (hF.out _ hB1.out).mono ?_; rintro e x2 ⟨rfl, rfl⟩)
    | (go_at_call 13; refine (hRC.out _ hB1.out).mono ?_; rintro e x3 ⟨A4, n4, c4, ms, cs, rfl, q1, q2, q3, q4, q5, q6⟩; have hC3 := Lib.hid q3; have hL := Lib.hid (And.intro q4 q5); have hB3 := Lib.hid q6; have hn4 := q3.len; have hn4b : n4 ≤ 9223372036854775807 := (by have q12 := Nat.le_trans q1 q2; unfold maxLen at q12; omega); clear q1 q2 q3 q4 q5 q6))
  have hn4h := Lib.hid hn4
  clear hn4
  go_loopw [10, 11, 12, 13, 14] (fun s10 s11 _ _ _ wr => ∃ (i : Nat) (bm : Bool), i ≤ n4 ∧ s11 = .int .i64 i ∧ s10 = .bool bm ∧ Hid (bm = (cs.take i).any fun ck => decide (1 < kindN (cutB ck base) (cutsP ck sides))) ∧ Hid (Below w.heap.size w wr) ∧ Hid (Cks wr wr.heap.size A4 n4 cs)) (fun _ s11 _ _ _ _ => n4 - (intOf s11).toNat)
  case atStart => exact ⟨0, false, Nat.zero_le _, rfl, rfl, Lib.hid (by simp), hB3, hC3⟩
  case round =>
    obtain ⟨i, bm, hin, rfl, rfl, hbm, hB, hCw⟩ := hrel
    obtain ⟨wo, rfl⟩ : ∃ wo : World, wo = wr := ⟨_, rfl⟩
    clear hC3 hB3
    by_cases hlt : i < n4
    · obtain ⟨b, o, ck, A1, n1, c1, rfl, hb, hck, k1, k2, k3, k4, k5, k6, k7⟩ := hCw.out.at_ (k := i) hlt
      have i1 : (0 : Int) ≤ (i : Int) := by omega
      have i2 : (i : Int) < (n4 : Int) := by omega
      have hP := Lib.hid (hPt.out wo cs ms ck A1 n1 c1 hB.out hL.out.2 (List.mem_of_getElem? hck) k5 k6 k7)
      obtain ⟨kd, hkd⟩ : ∃ kd, kindN (cutB ck base) (cutsP ck sides) = kd := ⟨_, rfl⟩
      obtain ⟨kb, hkb⟩ : ∃ kb, decide (1 < kd) = kb := ⟨_, rfl⟩
      have hst := any_take (fun ck => decide (1 < kindN (cutB ck base) (cutsP ck sides))) hck
      rw [← hbm.out, hkd, hkb] at hst
      have hsth := Lib.hid hst
      have hkdh := Lib.hid hkd
      have hkb2 : decide ((1 : Int) < (kd : Int)) = kb := by rw [← hkb]; exact decide_eq_decide.2 (by omega)
      clear hst hck k5 k6 k7 hkb hkd
      cases bm
      · go_wp2_with (first
          | (go_at_call 19; refine hP.out.mono ?_; rintro e x4 ⟨A5, n5, c5, A6, n6, c6, rs, rfl, r1, r2, r3, r4, r5⟩; have hK := Lib.hid (hKd.out x4 A5 n5 c5 _ A6 n6 c6 rs _ r1 r2 r3); rw [hkdh.out] at hK; have hB4 := Lib.hid r5; have hC4 := Lib.hid (hCw.out.up r4); clear r1 r2 r3 r4 r5)
          | (go_at_call 20; refine hK.out.mono ?_; rintro e x5 ⟨rfl, r6⟩; have hB5 := Lib.hid (hB4.out.trans (r6.mono hB4.out.size)); have hC5 := Lib.hid (hC4.out.up r6); clear r6))
        go_roundw
        case rel => exact ⟨i + 1, kb, by omega, by go_num, by first | rfl | rw [hkb2], Lib.hid (by rw [hsth.out]; simp), hB5, hC5⟩
        case measure => simp [intOf]; omega
      · go_wp2_with (first
          | (go_at_call 19; refine hP.out.mono ?_; rintro e x4 ⟨A5, n5, c5, A6, n6, c6, rs, rfl, r1, r2, r3, r4, r5⟩; have hB4 := Lib.hid r5; have hC4 := Lib.hid (hCw.out.up r4); clear r1 r2 r3 r4 r5))
        go_roundw
        case rel => exact ⟨i + 1, true, by omega, by go_num, rfl, Lib.hid (by rw [hsth.out]; simp), hB4, hC4⟩
        case measure => simp [intOf]; omega
    · obtain rfl : i = n4 := by omega
      have ht : cs.take i = cs := List.take_of_length_le (by rw [hn4h.out]; exact Nat.le_refl _)
      have hbm2 : Hid (cleanB (mergeD base sides 0 false cs) = !bm) := Lib.hid (by rw [clean_merge hL.out.2, hbm.out, ht])
      clear ht
      cases bm
      all_goals
        go_wp2_with (first
          | (go_at_call 15; have _t := tok1; refine (hMrg.out 0 false _ ⟨by omega, by omega, .inl rfl⟩ hB.out).mono ?_; rintro e x3 ⟨A1, n1, c1, vs1, ms1, cs1, rfl, q1, a1, b1, -, hb3⟩; have hcc := hone.out _ _ _ _ hL.out.1 hL.out.2 a1 b1; subst hcc; have hq1 := Lib.hid q1; have hB3 := Lib.hid hb3; clear tok1 q1 a1 b1 hb3)
          | (go_at_call 15; have _t := tok2; refine (hMrg.out N false _ ⟨by have := hside.out; omega, hside.out.2, .inr rfl⟩ hB3.out).mono ?_; rintro e x4 ⟨A2, n2, c2, vs2, ms2, cs2, rfl, q2, a2, b2, hb3, hb4⟩; have hcc := hone.out _ _ _ _ hL.out.1 hL.out.2 a2 b2; subst hcc; have hq2 := Lib.hid q2; have hP1 := Lib.hid (hq1.out.2.2.2.up hb3); have hB4 := Lib.hid hb4; clear tok2 q2 a2 b2 hb3 hb4)
          | (go_at_call 15; refine (hMrg.out 0 true _ ⟨by omega, by omega, .inl rfl⟩ hB4.out).mono ?_; rintro e x5 ⟨A3, n3, c3, vs3, ms3, cs3, rfl, q3, a3, b3, hb4, hb5⟩; have hcc := hone.out _ _ _ _ hL.out.1 hL.out.2 a3 b3; subst hcc; have hq3 := Lib.hid q3; have hP2 := Lib.hid (hP1.out.up hb4); have hQ2 := Lib.hid (hq2.out.2.2.2.up hb4); have hB5 := Lib.hid hb5; clear q3 a3 b3 hb4 hb5)
          | (go_at_call 21; have _t := tok5; refine (hCl.out _ _ _ _ _ _ ⟨hq1.out.1, hq1.out.2.1, hq1.out.2.2.1, hP2.out⟩ hB5.out).mono ?_; rintro e x6 ⟨rfl, r1, r2⟩; rw [hbm2.out]; have hQ3 := Lib.hid (hQ2.out.up r1); have hR3 := Lib.hid (hq3.out.2.2.2.up r1); have hB6 := Lib.hid r2; clear tok5 r1 r2)
          | (go_at_call 21; have _t := tok6; refine (hCl.out _ _ _ _ _ _ ⟨hq2.out.1, hq2.out.2.1, hq2.out.2.2.1, hQ3.out⟩ hB6.out).mono ?_; rintro e x7 ⟨rfl, r1, r2⟩; rw [clean_all hL.out.2 (.inl ⟨hside.out.1, hside.out.2, rfl⟩)]; have hR4 := Lib.hid (hR3.out.up r1); have hB7 := Lib.hid r2; clear tok6 r1 r2)
          | (go_at_call 21; refine (hCl.out _ _ _ _ _ _ ⟨hq3.out.1, hq3.out.2.1, hq3.out.2.2.1, hR4.out⟩ hB7.out).mono ?_; rintro e x8 ⟨rfl, r1, r2⟩; rw [clean_all hL.out.2 (.inr ⟨rfl, rfl⟩)]; have hB8 := Lib.hid r2; clear r1 r2))
        go_ret
        exact ⟨rfl, hB8.out⟩
end
end Go.Proofs.YticgjbckfpkpjaaGreat
