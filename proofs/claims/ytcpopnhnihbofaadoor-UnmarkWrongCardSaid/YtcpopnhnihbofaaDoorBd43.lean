/- Proved here: texts joined: UnLawF. -/
import Derived.Test.YtcpopnhnihbofaaDoorBd08
import Derived.Test.YtcpopnhnihbofaaDoorBd16
import Derived.Test.YtcpopnhnihbofaaDoorBd26
import Derived.Laws.OwnMore
/- Proved here: what the statement UnmarkWrong says, by the contract of package unmark. -/
namespace Go.Proofs.YtcpopnhnihbofaaDoor
open Go.RowKit
set_option linter.unusedVariables false
set_option maxRecDepth 100000

theorem few_partsF {l : Txs} {k : Nat} (h : fewB l k = true) : l.length ≤ k ∧ ∀ t ∈ l, t.length ≤ 100 := by
  unfold fewB at h
  rw [Bool.and_eq_true, decide_eq_true_eq] at h
  refine ⟨h.1, fun t ht => ?_⟩
  have h2 := h.2
  rw [List.take_of_length_le (by omega), List.all_eq_true] at h2
  simpa using h2 t ht

section
variable (H : UnmParseOk)
include H

set_option maxHeartbeats 8000000 in
theorem UnmarkWrong_walk (A : Option Addr) (n c : Nat) (l : Txs) (A' : Option Addr) (n' c' : Nat) (more : Txs) (y : Nat) (w : World) (h0 : TxR w w.heap.size (A, n, c) l) (h1 : TxR w w.heap.size (A', n', c') more) (hy : y ≤ 255) :
    Calls Tryd.prog 5 #[.slice A n c, .slice A' n' c', .int .u8 (y : Int)] w fun e w' => e = .returned (.bool true) ∧ Below w.heap.size w w' := by
  have haw := Lib.hid (unAwake_any H w)
  have hn : n ≤ maxLen := Nat.le_trans h0.1 h0.2.1
  have hn' : n' ≤ maxLen := Nat.le_trans h1.1 h1.2.1
  have hl0 : l.length = n := h0.2.2.len
  have hl1 : more.length = n' := h1.2.2.len
  obtain ⟨fm, hfm⟩ : ∃ fm, fewB l 40 = fm := ⟨_, rfl⟩
  obtain ⟨gm, hgm⟩ : ∃ gm, fewB more 10 = gm := ⟨_, rfl⟩
  have hF : Hid (∀ W, Below w.heap.size w W → Calls Tryd.prog 7 #[.slice A n c, .int .i64 40] W fun e w' => e = .returned (.bool fm) ∧ W = w') := Lib.hid (fun W hW => by
    have h := Few_any A n c 40 W.heap.size l W hn (by decide) (h0.up hW).2.2
    rw [hfm] at h
    exact h)
  have hG : Hid (∀ W, Below w.heap.size w W → Calls Tryd.prog 7 #[.slice A' n' c', .int .i64 10] W fun e w' => e = .returned (.bool gm) ∧ W = w') := Lib.hid (fun W hW => by
    have h := Few_any A' n' c' 10 W.heap.size more W hn' (by decide) (h1.up hW).2.2
    rw [hgm] at h
    exact h)
  cases fm
  · clear h0 h1 hfm hgm hn hn' hl0 hl1
    go_enter Tryd.func5, Tryd.ntmps5
    go_wp2_with (first
      | (go_at_call 6; refine haw.out.mono ?_; rintro e w1 ⟨rfl, hb1⟩; have hB1 := Lib.hid hb1; clear hb1)
      | (go_at_call 7; refine (hF.out _ hB1.out).mono ?_; rintro e w2 ⟨rfl, rfl⟩))
    go_ret
    exact ⟨rfl, hB1.out⟩
  have tok1 := trivial
  cases gm
  · clear h0 h1 hfm hgm hn hn' hl0 hl1
    go_enter Tryd.func5, Tryd.ntmps5
    go_wp2_with (first
      | (go_at_call 6; refine haw.out.mono ?_; rintro e w1 ⟨rfl, hb1⟩; have hB1 := Lib.hid hb1; clear hb1)
      | (go_at_call 7; have _t := tok1; refine (hF.out _ hB1.out).mono ?_; rintro e w2 ⟨rfl, hw2⟩; subst hw2; clear tok1)
      | (go_at_call 7; refine (hG.out _ hB1.out).mono ?_; rintro e w2 ⟨rfl, rfl⟩))
    go_ret
    exact ⟨rfl, hB1.out⟩
  obtain ⟨k1, k2⟩ := few_partsF hfm
  obtain ⟨k3, k4⟩ := few_partsF hgm
  obtain ⟨K, hK⟩ : ∃ K : Nat, 1 + y % 40 = K := ⟨_, rfl⟩
  obtain ⟨M, hM⟩ : ∃ M : Nat, y % 40 = M := ⟨_, rfl⟩
  have hMt : ((y : Int)).tmod 40 = (M : Int) := by rw [← hM]; exact Int.ofNat_tmod y 40 ▸ rfl
  have hNi : (1 : Int) + (M : Int) = (K : Int) := by omega
  have hwK : IntKind.i64.wrap (K : Int) = (K : Int) := IntWalk.i64_in _ (by omega)
  have hK1 : 1 ≤ K := by omega
  have hK40 : K ≤ 40 := by omega
  have hKr : inR64 (K : Int) := by unfold inR64; omega
  have hPa : Hid (∀ (A : Option Addr) (n c : Nat) (l : Txs) (x : List Pc × Int × Int × Int) (W : World), smallL l → parseM l (K : Int) = x → TxR W W.heap.size (A, n, c) l → Calls Tryd.prog 8 #[.slice A n c, .int .i64 (K : Int)] W fun e w' => ParseA W w' e x) := Lib.hid (fun A n c l x W hs hx hT => by rw [← hx]; exact H A n c l K W hKr hs hT)
  have hres : ∀ l : Txs, parseM l (K : Int) = resM (walkM K startM l 0) := fun l => parseM_res l K hK1 (by omega)
  have hsl : smallL l := ⟨by omega, fun t ht => by have := k2 t ht; omega⟩
  cases hwl : walkM K startM l 0 with
  | ok s =>
    have hx : parseM l (K : Int) = (flushM s.out s.cur, max s.style 1, 0, 0) := by rw [hres, hwl]; rfl
    have hP1 := Lib.hid (fun (W : World) (hb : Below w.heap.size w W) => hPa.out A n c l _ W hsl hx (h0.up hb))
    obtain ⟨ps, hps⟩ : ∃ ps, flushM s.out s.cur = ps := ⟨_, rfl⟩
    obtain ⟨st, hst⟩ : ∃ st, max s.style 1 = st := ⟨_, rfl⟩
    rw [hps, hst] at hP1
    clear h0 h1 hfm hgm hn hn' hl0 hl1 hx hps hst hwl hres hK hM hPa hsl k1 k2 k3 k4 hKr
    go_enter Tryd.func5, Tryd.ntmps5
    go_wp2_with (first
      | (go_at_call 6; refine haw.out.mono ?_; rintro e w1 ⟨rfl, hb1⟩; have hB1 := Lib.hid hb1; clear hb1)
      | (go_at_call 7; have _t := tok1; refine (hF.out _ hB1.out).mono ?_; rintro e w2 ⟨rfl, hw2⟩; subst hw2; clear tok1)
      | (go_at_call 7; refine (hG.out _ hB1.out).mono ?_; rintro e w2 ⟨rfl, hw2⟩; subst hw2)
      | (go_at_call 8; refine (hP1.out _ hB1.out).mono ?_; rintro e w3 ⟨A1, n1, c1, vs1, rfl, q1, q2, q3, q4⟩; have hB3 := Lib.hid (hB1.out.trans (q4.mono hB1.out.size)); clear q1 q2 q3 q4))
    go_ret
    exact ⟨rfl, hB3.out⟩
  | error m =>
    have hx : parseM l (K : Int) = ([], 0, (m : Int), 2) := by rw [hres, hwl]; rfl
    have hP1 := Lib.hid (fun (W : World) (hb : Below w.heap.size w W) => hPa.out A n c l _ W hsl hx (h0.up hb))
    by_cases hmn : m < n
    rotate_left
    · have hge : (n : Int) ≤ (m : Int) := by omega
      clear h0 h1 hfm hgm hn hn' hl0 hl1 hx hwl hres hK hM hPa hsl k1 k2 k3 k4 hKr
      go_enter Tryd.func5, Tryd.ntmps5
      go_wp2_with (first
        | (go_at_call 6; refine haw.out.mono ?_; rintro e w1 ⟨rfl, hb1⟩; have hB1 := Lib.hid hb1; clear hb1)
        | (go_at_call 7; have _t := tok1; refine (hF.out _ hB1.out).mono ?_; rintro e w2 ⟨rfl, hw2⟩; subst hw2; clear tok1)
        | (go_at_call 7; refine (hG.out _ hB1.out).mono ?_; rintro e w2 ⟨rfl, hw2⟩; subst hw2)
        | (go_at_call 8; refine (hP1.out _ hB1.out).mono ?_; rintro e w3 ⟨A1, n1, c1, vs1, rfl, q1, q2, q3, q4⟩; have hB3 := Lib.hid (hB1.out.trans (q4.mono hB1.out.size)); clear q1 q2 q3 q4))
      go_ret
      exact ⟨rfl, hB3.out⟩
    · obtain ⟨hm1, -⟩ := walk_bounds hwl
      obtain ⟨hm2, hm3⟩ := walk_more hwl (by omega) more
      have hx2 : parseM (l ++ more) (K : Int) = ([], 0, (m : Int), 2) := by rw [hres, hm2]; rfl
      obtain ⟨Q, hQ⟩ : ∃ Q, m - 1 = Q := ⟨_, rfl⟩
      rw [hQ] at hm3
      obtain ⟨ps, st, no, er, hx3, hor⟩ : ∃ (ps : List Pc) (st no er : Int), parseM (l.take Q) (K : Int) = (ps, st, no, er) ∧ (er = 0 ∨ er = 2 ∧ no = (m : Int)) := by
        rw [hres]
        rcases hm3 with ⟨s', h⟩ | h
        · rw [h]; exact ⟨_, _, _, _, rfl, .inl rfl⟩
        · rw [h]; exact ⟨_, _, _, _, rfl, .inr ⟨rfl, rfl⟩⟩
      have hge : ¬ (n : Int) ≤ (m : Int) := by omega
      have hQi : (m : Int) - 1 = (Q : Int) := by omega
      have hQw : IntKind.i64.wrap (Q : Int) = (Q : Int) := IntWalk.i64_in _ (by omega)
      obtain ⟨Ac, nc, cc, hcut, hTc, -⟩ := slice_to (k := Q) h0 (by omega)
      have hsc : smallL (l.take Q) := ⟨by rw [List.length_take]; omega, fun t ht => hsl.2 t (List.mem_of_mem_take ht)⟩
      have hsb : smallL (l ++ more) := ⟨by rw [List.length_append]; omega, fun t ht => by
        rcases List.mem_append.1 ht with ht | ht
        · exact hsl.2 t ht
        · have := k4 t ht; omega⟩
      have hP3 := Lib.hid (fun (W : World) (hb : Below w.heap.size w W) => hPa.out Ac nc cc (l.take Q) _ W hsc hx3 (hTc.up hb))
      have hP2 := Lib.hid (fun (A2 : Option Addr) (n2 c2 : Nat) (W : World) (hT : TxR W W.heap.size (A2, n2, c2) (l ++ more)) => hPa.out A2 n2 c2 (l ++ more) _ W hsb hx2 hT)
      have hA0 : Hid (∀ W, Below w.heap.size w W → Strs W W.heap.size A n l) := Lib.hid (fun W hb => (h0.up hb).2.2)
      have hA1 : Hid (∀ W, Below w.heap.size w W → Strs W W.heap.size A' n' more) := Lib.hid (fun W hb => (h1.up hb).2.2)
      have hmax : Hid (0 + n ≤ maxLen ∧ (0 + n) * 16 ≤ 140737488355328 ∧ 0 + n + n' ≤ maxLen ∧ (0 + n + n') * 16 ≤ 140737488355328) := Lib.hid (by unfold maxLen; omega)
      have hll : Hid ((l ++ more).length = 0 + n + n') := Lib.hid (by rw [List.length_append]; omega)
      obtain ⟨i0, hi, hzz⟩ := Option.map_eq_some_iff.1 infoStr
      simp only [Prod.mk.injEq] at hzz
      obtain ⟨hz0, hz1, hz2⟩ := hzz
      have e1 : ((m : Int) == (m : Int)) = true := by simp
      have tok2 := trivial
      have tok3 := trivial
      clear h0 h1 hfm hgm hn hn' hl0 hl1 hx hx2 hx3 hwl hres hK hM hPa hsl k1 k2 k3 k4 hKr hTc hsc hsb hm2 hm3 hQ hm1 hmn
      rcases hor with rfl | ⟨rfl, rfl⟩
      all_goals
        go_enter Tryd.func5, Tryd.ntmps5
        go_upto_region 8 with (first
          | (go_at_call 6; refine haw.out.mono ?_; rintro e w1 ⟨rfl, hb1⟩; have hB1 := Lib.hid hb1; clear hb1)
          | (go_at_call 7; have _t := tok1; refine (hF.out _ hB1.out).mono ?_; rintro e w2 ⟨rfl, hw2⟩; subst hw2; clear tok1)
          | (go_at_call 7; refine (hG.out _ hB1.out).mono ?_; rintro e w2 ⟨rfl, hw2⟩; subst hw2)
          | (go_at_call 8; refine (hP1.out _ hB1.out).mono ?_; rintro e w3 ⟨A1, n1, c1, vs1, rfl, q1, q2, q3, q4⟩; have hB3 := Lib.hid (hB1.out.trans (q4.mono hB1.out.size)); clear q1 q2 q3 q4))
        have hw0 := own_empty w3 w3.heap.size 9 (Nat.le_refl _)
        have hBe : Below w3.heap.size w3 (w3.alloc (.cells #[] 9)) := below_alloc (Below.refl _ _) _
        have hRe := Lib.hid (hA0.out _ (hB3.out.trans (hBe.mono hB3.out.size)))
        go_wp2_with (first
          | (at_builtin; have _t := tok2; refine wpList_append_reads _ rfl _ _ 22 rfl w3.heap.size 9 i0 (.string ByteArray.empty) 16 Tryd.underlying22 hi hz0 hz1 hz2 rfl _ 0 [] rfl hw0 _ A n c _ rfl hRe.out (strs_one _) hmax.out.1 hmax.out.2.1 hBe.size ?_; intro v4 w4 hown4 hg4; have hB4 := Lib.hid (hBe.grown hg4 hBe.size (fun j e => (hw0.lt j e).1)); have hRf := Lib.hid (hA1.out _ (hB3.out.trans (hB4.out.mono hB3.out.size))); have hs4 := hB4.out.size; clear tok2 hg4)
          | (at_builtin; have _t := tok3; refine wpList_append_reads _ rfl _ _ 22 rfl w3.heap.size 9 i0 (.string ByteArray.empty) 16 Tryd.underlying22 hi hz0 hz1 hz2 rfl v4 (0 + n) _ rfl hown4 _ A' n' c' _ rfl hRf.out (strs_one _) hmax.out.2.2.1 hmax.out.2.2.2 hs4 ?_; intro v5 w5 hown5 hg5; rw [Nat.zero_add] at hown5; have hB5 := Lib.hid (hB4.out.grown hg5 hs4 (fun j e => (hown4.lt j e).1)); obtain ⟨A5, c5, rfl, p1, p2, p3⟩ := own_slice hown5; have hT5 : Hid (TxR w5 w5.heap.size (A5, n + n', c5) (l ++ more)) := Lib.hid ⟨p1, p2, by unfold Strs; rw [List.map_append]; exact p3⟩; have hB5w := Lib.hid (hB3.out.trans (hB5.out.mono hB3.out.size)); clear tok3 hg5 hown5 hown4 p1 p2 p3)
          | (go_at_call 8; refine (hP2.out A5 _ c5 _ hT5.out).mono ?_; rintro e w6 ⟨A6, n6, c6, vs6, rfl, q1, q2, q3, q4⟩; have hB6 := Lib.hid (hB5w.out.trans (q4.mono hB5w.out.size)); clear q1 q2 q3 q4 hT5)
          | (go_at_call 8; refine (hP3.out _ hB6.out).mono ?_; rintro e w7 ⟨A7, n7, c7, vs7, rfl, q1, q2, q3, q4⟩; have hB7 := Lib.hid (hB6.out.trans (q4.mono hB6.out.size)); clear q1 q2 q3 q4))
        go_ret
        exact ⟨rfl, hB7.out⟩
end
end Go.Proofs.YtcpopnhnihbofaaDoor
