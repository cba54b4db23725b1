/- Proved here: texts joined: MkWrong, ContRef, PickCl, PickRef, PcFew, ZlFew. -/
import Derived.Test.YtcpopnhnihbofaaGreatDoorBe03
import Derived.Test.YtcpopnhnihbofaaGreatDoorBe16
import Derived.Test.YtcpopnhnihbofaaGreatDoorBe17
import Derived.Test.YtcpopnhnihbofaaGreatDoorBe19
import Derived.Test.YtcpopnhnihbofaaGreatDoorChecked
import Derived.Deep.DeepCutAuto
import Derived.Outline
/- Proved here: the contract of the document's own answer of layer 12: wrong. -/
namespace Go.Proofs.YtcpopnhnihbofaaGreatDoor
open Go.RowKit
set_option linter.unusedVariables false
set_option maxRecDepth 100000

def smallW (ps : List Pc) : Prop := smallK ps ∧ smallK (zealD ps)
theorem lists_mem_len {ps : List Pc} (h : ∀ p ∈ ps, smallP p) : ∀ d ∈ listsP ps, d.length ≤ 10000 := fun d hd => by
  obtain ⟨p, hp, hx⟩ := mem_lists.1 hd
  obtain ⟨h1, h2, h3, h4⟩ := h p hp
  rcases hx with rfl | rfl | hx
  · omega
  · exact h4
  · have := h3 d hx; omega
theorem smallK_F {ps : List Pc} (h : smallK ps) : smallF (listsP ps) := by
  refine ⟨?_, fun f hf => ⟨lists_mem_len h.1.2 f hf, h.2 f hf⟩⟩
  have := lists_count h.1.2
  have := h.1.1
  omega
def badP (p : Pc) : Bool := p.1 && (p.2.2.2.isEmpty || decide (16 < p.2.2.2.length))
theorem bad_is (p : Pc) {ns : Nat} (h : p.2.2.2.length = ns) : badP p = (p.1 && (((ns : Int) == 0) || decide (16 < ns))) := by
  unfold badP
  rw [h]
  congr 2
  cases hs : p.2.2.2 with
  | nil => rw [hs] at h; simp at h; subst h; rfl
  | cons d ds =>
    rw [hs] at h
    simp at h
    rw [eq_comm, List.isEmpty_cons, beq_eq_false_iff_ne]
    omega

set_option maxHeartbeats 8000000 in
theorem rWrong_any (A : Option Addr) (n c : Nat) (vs : List PcV) (ps : List Pc) (style long : Int) (w : World) (hnc : n ≤ c) (hcm : c ≤ maxLen) (hst : inR64 style) (hlg : inR64 long) (hsm : smallW ps) (hA : Pcs w w.heap.size A n vs ps) :
    Calls Tryz.prog 19 #[.slice A n c, .int .i64 style, .int .i64 long] w fun e w' => e = .returned (.int .i64 (wrongM ps style long)) ∧ Below w.heap.size w w' := by
  unfold inR64 at hst hlg
  have hl := hA.len
  have hb0 := Lib.hid (Below.refl w.heap.size w)
  by_cases h0 : style < 1 ∨ 3 < style ∨ long < 1 ∨ 4096 < long
  · have hw : Hid (wrongM ps style long = 1) := Lib.hid (by unfold wrongM; rw [if_pos h0])
    clear hA hsm
    by_cases a1 : style < 1
    · go_enter Tryz.func19, Tryz.ntmps19
      go_wp2
      go_ret
      exact ⟨ret_int (by rw [hw.out]), hb0.out⟩
    by_cases a2 : 3 < style
    · go_enter Tryz.func19, Tryz.ntmps19
      go_wp2
      go_ret
      exact ⟨ret_int (by rw [hw.out]), hb0.out⟩
    by_cases a3 : long < 1
    · go_enter Tryz.func19, Tryz.ntmps19
      go_wp2
      go_ret
      exact ⟨ret_int (by rw [hw.out]), hb0.out⟩
    have a4 : 4096 < long := by omega
    go_enter Tryz.func19, Tryz.ntmps19
    go_wp2
    go_ret
    exact ⟨ret_int (by rw [hw.out]), hb0.out⟩
  have s1 : 1 ≤ style := by omega
  have s2 : style ≤ 3 := by omega
  have s3 : 1 ≤ long := by omega
  have s4 : long ≤ 4096 := by omega
  have hAh := Lib.hid hA
  have hlh := Lib.hid hl
  have hsmh := Lib.hid hsm
  have hnm : n ≤ 9223372036854775807 := by have := Nat.le_trans hnc hcm; unfold maxLen at this; omega
  have hnmx := Lib.hid (Nat.le_trans hnc hcm)
  have hwr : Hid (wrongM ps style long = if ps.any badP = true then 1 else if (formB ps && (decide (style ≠ 3) || formB (zealD ps))) = false then 2 else if fitsB long (listsP ps) = false then 6 else 0) := Lib.hid (by unfold wrongM; rw [if_neg h0]; rfl)
  have hFo := Lib.hid (rForm_any A n c vs ps w hnmx.out hsm.1 hA)
  have hFz : Hid (∀ (A' : Option Addr) (n' c' : Nat) (vs' : List PcV) (W : World), n' ≤ maxLen → Pcs W W.heap.size A' n' vs' (zealD ps) → Calls Tryz.prog 38 #[.slice A' n' c'] W fun e w' => e = .returned (.bool (formB (zealD ps))) ∧ Below W.heap.size W w') := Lib.hid (fun A' n' c' vs' W h1 h2 => rForm_any A' n' c' vs' (zealD ps) W h1 hsm.2 h2)
  have hZe : Hid (∀ W, Below w.heap.size w W → Calls Tryz.prog 11 #[.slice A n c] W fun e w' => PcsLo W.heap.size W w' e (zealD ps)) := Lib.hid (fun W hW => rZeal_any W.heap.size A n c vs ps W (Nat.le_refl _) hsm.1.1 (hA.up hW))
  have hLi : Hid (∀ W, Below w.heap.size w W → Calls Tryz.prog 40 #[.slice A n c] W fun e w' => RowsOut W w' e (listsP ps)) := Lib.hid (fun W hW => rLists_any A n c vs ps W hnmx.out (by have := lists_count hsm.1.1.2; have := hsm.1.1.1; omega) (hA.up hW))
  have hFi : Hid (∀ (A' : Option Addr) (n' c' : Nat) (rr : List Slc) (W : World), n' ≤ maxLen → RowsT W W.heap.size A' n' rr (listsP ps) → Calls Tryz.prog 39 #[.int .i64 long, .slice A' n' c'] W fun e w' => e = .returned (.bool (fitsB long (listsP ps))) ∧ ∃ q, w' = W.drewN q) := Lib.hid (fun A' n' c' rr W h1 h2 => rFits_any long A' n' c' W.heap.size rr (listsP ps) W h1 (smallK_F hsm.1) h2)
  obtain ⟨fo, hfo⟩ : ∃ fo, formB ps = fo := ⟨_, rfl⟩
  obtain ⟨fz, hfz⟩ : ∃ fz, formB (zealD ps) = fz := ⟨_, rfl⟩
  obtain ⟨ft, hft⟩ : ∃ ft, fitsB long (listsP ps) = ft := ⟨_, rfl⟩
  rw [hfo] at hFo
  rw [hfz] at hFz
  rw [hft] at hFi
  rw [hfo, hfz, hft] at hwr
  clear hA hl hsm h0 hfo hfz hft
  go_enter Tryz.func19, Tryz.ntmps19
  go_wp2
  go_loop [7] (fun s7 => ∃ i : Nat, i ≤ n ∧ s7 = .int .i64 i ∧ Hid ((ps.take i).any badP = false)) (fun s7 => n - (intOf s7).toNat)
  case atStart => exact ⟨0, Nat.zero_le _, rfl, Lib.hid rfl⟩
  case round =>
    obtain ⟨i, hi, rfl, hq⟩ := hrel
    by_cases hlt : i < n
    · obtain ⟨b, o, cf, At, nt, ct, Ab, nb, cb, As, ns, cs, t, bs, ss, rfl, hb, hv, hp, k1, k2, k3, k4, j1, j2, ⟨j3, j4, rr, j5⟩⟩ := hAh.out.at_ (k := i) hlt
      have i1 : (0 : Int) ≤ (i : Int) := by omega
      have i2 : (i : Int) < (n : Int) := by omega
      have hns := j5.len
      dsimp only at hns j3 j4
      have hbad := bad_is (cf, t, bs, ss) hns
      have hph := Lib.hid hp
      have hnsm : ns ≤ 9223372036854775807 := by have := Nat.le_trans j3 j4; unfold maxLen at this; omega
      obtain ⟨bd, hbd⟩ : ∃ bd, badP (cf, t, bs, ss) = bd := ⟨_, rfl⟩
      have hstep := Lib.hid (show (ps.take (i + 1)).any badP = bd by rw [take_at hp, List.any_append, hq.out]; simp [hbd])
      have hyes : Hid (bd = true → ps.any badP = true) := Lib.hid (fun h => by rw [List.any_eq_true]; exact ⟨_, List.mem_of_getElem? hp, by rw [hbd, h]⟩)
      rw [hbd] at hbad
      dsimp only at hbad
      clear hv hp j1 j2 j3 j4 j5 k2 k3 hns hbd
      cases cf
      · have hb0' : bd = false := hbad
        subst hb0'
        clear hbad
        go_wp2
        go_round
        case rel => exact ⟨i + 1, by omega, by go_num, hstep⟩
        case measure => simp [intOf]; omega
      · by_cases hz : ns = 0
        · subst hz
          have hb1 : bd = true := hbad
          have hy := Lib.hid (hyes.out hb1)
          clear hbad hb1
          go_wp2
          go_ret
          exact ⟨ret_int (by rw [hwr.out, if_pos hy.out]), hb0.out⟩
        · have hnz : ((ns : Int) == 0) = false := by rw [beq_eq_false_iff_ne]; omega
          by_cases hg : 16 < ns
          · have hb1 : bd = true := by rw [hbad, hnz, decide_eq_true hg]; rfl
            have hgi : (16 : Int) < (ns : Int) := by omega
            have hy := Lib.hid (hyes.out hb1)
            clear hbad hb1
            go_wp2
            go_ret
            exact ⟨ret_int (by rw [hwr.out, if_pos hy.out]), hb0.out⟩
          · have hb1 : bd = false := by rw [hbad, hnz, decide_eq_false hg]; rfl
            have hgi : ¬ (16 : Int) < (ns : Int) := by omega
            subst hb1
            clear hbad
            go_wp2
            go_round
            case rel => exact ⟨i + 1, by omega, by go_num, hstep⟩
            case measure => simp [intOf]; omega
    · obtain rfl : i = n := by omega
      have hno : Hid (ps.any badP = false) := Lib.hid (by have := hq.out; rw [List.take_of_length_le (by rw [hlh.out]; exact Nat.le_refl _)] at this; exact this)
      have hwr2 : Hid (wrongM ps style long = if (fo && (decide (style ≠ 3) || fz)) = false then 2 else if ft = false then 6 else 0) := Lib.hid (by rw [hwr.out, if_neg (by rw [hno.out]; simp)])
      clear hwr hq
      cases fo
      · go_wp2_with (go_at_call 38; refine hFo.out.mono ?_; rintro e w1 ⟨rfl, hb1⟩; have hB1 := Lib.hid hb1; clear hb1)
        go_ret
        exact ⟨ret_int (by rw [hwr2.out]; simp), hB1.out⟩
      by_cases h3 : style = 3
      · subst h3
        have tok1 := trivial
        cases fz
        · go_wp2_with (first
            | (go_at_call 38; have _t := tok1; refine hFo.out.mono ?_; rintro e w1 ⟨rfl, hb1⟩; have hB1 := Lib.hid hb1; clear hb1 tok1)
            | (go_at_call 11; refine (hZe.out _ hB1.out).mono ?_; rintro e w2 ⟨A2, n2, c2, vs2, rfl, q1, q2, q3, q4⟩; have hp2 := Lib.hid (And.intro (Nat.le_trans q1 q2) (q3 w2 (But.refl _ _))); have hB2 := Lib.hid (hB1.out.trans (q4.mono hB1.out.size)); clear q1 q2 q3 q4)
            | (go_at_call 38; refine (hFz.out A2 n2 c2 vs2 _ hp2.out.1 hp2.out.2).mono ?_; rintro e w3 ⟨rfl, hb3⟩; have hB3 := Lib.hid (hB2.out.trans (hb3.mono hB2.out.size)); clear hb3))
          go_ret
          exact ⟨ret_int (by rw [hwr2.out]; simp), hB3.out⟩
        · cases ft
          all_goals
            go_wp2_with (first
              | (go_at_call 38; have _t := tok1; refine hFo.out.mono ?_; rintro e w1 ⟨rfl, hb1⟩; have hB1 := Lib.hid hb1; clear hb1 tok1)
              | (go_at_call 11; refine (hZe.out _ hB1.out).mono ?_; rintro e w2 ⟨A2, n2, c2, vs2, rfl, q1, q2, q3, q4⟩; have hp2 := Lib.hid (And.intro (Nat.le_trans q1 q2) (q3 w2 (But.refl _ _))); have hB2 := Lib.hid (hB1.out.trans (q4.mono hB1.out.size)); clear q1 q2 q3 q4)
              | (go_at_call 38; refine (hFz.out A2 n2 c2 vs2 _ hp2.out.1 hp2.out.2).mono ?_; rintro e w3 ⟨rfl, hb3⟩; have hB3 := Lib.hid (hB2.out.trans (hb3.mono hB2.out.size)); clear hb3)
              | (go_at_call 40; refine (hLi.out _ hB3.out).mono ?_; rintro e w4 ⟨A4, n4, c4, rr4, rfl, h1, h2, h3, h4⟩; have hR := Lib.hid (And.intro (Nat.le_trans h1 h2) h3); have hB4 := Lib.hid (hB3.out.trans (h4.mono hB3.out.size)); clear h1 h2 h3 h4)
              | (go_at_call 39; refine (hFi.out A4 n4 c4 rr4 _ hR.out.1 hR.out.2).mono ?_; rintro e w5 ⟨rfl, q5, rfl⟩))
            go_ret
            exact ⟨ret_int (by rw [hwr2.out]; simp), below_drewN hB4.out q5⟩
      · have h3b : (style == 3) = false := by rw [beq_eq_false_iff_ne]; exact h3
        cases ft
        all_goals
          go_wp2_with (first
            | (go_at_call 38; refine hFo.out.mono ?_; rintro e w1 ⟨rfl, hb1⟩; have hB1 := Lib.hid hb1; clear hb1)
            | (go_at_call 40; refine (hLi.out _ hB1.out).mono ?_; rintro e w4 ⟨A4, n4, c4, rr4, rfl, h1, h2, h3, h4⟩; have hR := Lib.hid (And.intro (Nat.le_trans h1 h2) h3); have hB4 := Lib.hid (hB1.out.trans (h4.mono hB1.out.size)); clear h1 h2 h3 h4)
            | (go_at_call 39; refine (hFi.out A4 n4 c4 rr4 _ hR.out.1 hR.out.2).mono ?_; rintro e w5 ⟨rfl, q5, rfl⟩))
          go_ret
          exact ⟨ret_int (by rw [hwr2.out]; simp [h3]), below_drewN hB4.out q5⟩
end Go.Proofs.YtcpopnhnihbofaaGreatDoor
/- Proved here: the contract of the document's own answer of layer 6: Few. -/
namespace Go.Proofs.YtcpopnhnihbofaaGreatDoor
open Go.RowKit
set_option linter.unusedVariables false

set_option maxHeartbeats 800000 in
theorem rFew_any (A0 : Option Addr) (n0 c0 B0 : Nat) (base : Txs) (A : Option Addr) (n c B : Nat) (rows : List Slc) (files : List Txs) (w : World) (hn0 : n0 ≤ maxLen) (hn : n ≤ maxLen) (hA0 : Strs w B0 A0 n0 base) (hA : RowsT w B A n rows files) :
    Calls Tryz.prog 37 #[.slice A0 n0 c0, .slice A n c] w fun e w' => e = .returned (.bool (fewT base files)) ∧ w' = w := by
  have hf := hA.few
  have hl := hA.len
  obtain ⟨fb, hfb⟩ : ∃ fb, fewB base 20 = fb := ⟨_, rfl⟩
  have hF := Few_any A0 n0 c0 20 B0 base w hn0 (by omega) hA0
  rw [hfb] at hF
  have hF' := Lib.hid hF
  have hfbh := Lib.hid hfb
  unfold maxLen at hn
  clear hF hfb hA0
  go_enter Tryz.func37, Tryz.ntmps37
  go_wp2
  go_loop [5] (fun i => ∃ k : Nat, k ≤ n ∧ k ≤ 7 ∧ i = .int .i64 k ∧ Hid ((files.take k).all (fun f => fewB f 20) = true)) (fun i => n - (intOf i).toNat)
  case atStart => exact ⟨0, Nat.zero_le _, Nat.zero_le _, rfl, Lib.hid rfl⟩
  case round =>
    obtain ⟨k, hk, hk7, rfl, hq⟩ := hrel
    by_cases hlt : k < n
    · by_cases hm : k < 7
      · obtain ⟨b, o, A', n', c', f, rfl, hb, ht, -, hc, hnc, hcm, hst⟩ := hA.at_ (k := k) hlt
        have hfl : n' ≤ maxLen := by omega
        obtain ⟨g, hg⟩ : ∃ g, fewB f 20 = g := ⟨_, rfl⟩
        have hC := Few_any A' n' c' 20 B f w hfl (by omega) hst
        rw [hg] at hC
        have hC' := Lib.hid hC
        have hg' := Lib.hid hg
        clear hC hg
        cases g
        · go_wp2_with (go_at_call 14; refine hC'.out.mono ?_; rintro e w' ⟨rfl, rfl⟩)
          go_ret
          exact ⟨ret_bool (fewT_no hm ht hg'.out), rfl⟩
        · go_wp2_with (go_at_call 14; refine hC'.out.mono ?_; rintro e w' ⟨rfl, rfl⟩)
          go_round
          case rel => exact ⟨k + 1, by omega, by omega, by go_num, Lib.hid (fewT_step hq.out ht hg'.out)⟩
          case measure => simp [intOf]; omega
      · have hend := Lib.hid (fewT_end (base := base) hl (.inr ⟨by omega, hlt⟩) hq.out)
        have h6 : decide ((n : Int) ≤ 6) = false := by simp; omega
        cases fb
        · go_wp2_with (go_at_call 14; refine hF'.out.mono ?_; rintro e w' ⟨rfl, rfl⟩)
          go_ret
          exact ⟨ret_bool (by rw [← hend.out, hfbh.out]; rfl), rfl⟩
        · go_wp2_with (go_at_call 14; refine hF'.out.mono ?_; rintro e w' ⟨rfl, rfl⟩)
          go_ret
          exact ⟨ret_bool (by rw [← hend.out, hfbh.out]; simp; try omega), rfl⟩
    · obtain rfl : k = n := by omega
      have hend := Lib.hid (fewT_end (base := base) hl (.inl rfl) hq.out)
      cases fb
      · go_wp2_with (go_at_call 14; refine hF'.out.mono ?_; rintro e w' ⟨rfl, rfl⟩)
        all_goals
          go_ret
          exact ⟨ret_bool (by rw [← hend.out, hfbh.out]; rfl), rfl⟩
      · go_wp2_with (go_at_call 14; refine hF'.out.mono ?_; rintro e w' ⟨rfl, rfl⟩)
        all_goals
          go_ret
          exact ⟨ret_bool (by rw [← hend.out, hfbh.out]; simp; try omega), rfl⟩
end Go.Proofs.YtcpopnhnihbofaaGreatDoor
/- Proved here: the contract of the document's own answer of layer 7: Clean. -/
namespace Go.Proofs.YtcpopnhnihbofaaGreatDoor
open Go.RowKit
set_option linter.unusedVariables false

theorem clean_no {ps : List Pc} {k : Nat} {p : Pc} (ht : ps[k]? = some p) (h : p.1 = true) : false = cleanB ps := by
  unfold cleanB
  rw [eq_comm, Bool.eq_false_iff, ne_eq, List.all_eq_true]
  intro ha
  have := ha p (List.mem_of_getElem? ht)
  rw [h] at this
  cases this
set_option maxHeartbeats 1000000 in
theorem rClean_any (A : Option Addr) (n c B : Nat) (vs : List PcV) (ps : List Pc) (w : World) (hn : n ≤ maxLen) (hA : Pcs w B A n vs ps) :
    Calls Tryz.prog 35 #[.slice A n c] w fun e w' => e = .returned (.bool (cleanB ps)) ∧ w' = w := by
  have hl := hA.len
  unfold maxLen at hn
  go_enter Tryz.func35, Tryz.ntmps35
  go_wp2
  go_loop [3] (fun i => ∃ k : Nat, k ≤ n ∧ i = .int .i64 k ∧ Hid (∀ (j : Nat) (p : Pc), j < k → ps[j]? = some p → p.1 = false)) (fun i => n - (intOf i).toNat)
  case atStart => exact ⟨0, Nat.zero_le _, rfl, Lib.hid fun j p h => absurd h (by omega)⟩
  case round =>
    obtain ⟨k, hk, rfl, hq⟩ := hrel
    by_cases hlt : k < n
    · obtain ⟨b, o, cf, At, nt, ct, Ab, nb, cb, As, ns, cs, t, bs, ss, rfl, hb, hv, hp, k1, k2, k3, k4, j1, j2, j3⟩ := hA.at_ (k := k) hlt
      have hph := Lib.hid hp
      clear hv hp j1 j2 j3 k2 k3 k4
      cases cf
      · go_wp2
        go_round
        case rel =>
          refine ⟨k + 1, by omega, by go_num, Lib.hid fun j p hj hp => ?_⟩
          rcases Nat.lt_or_ge j k with h | h
          · exact hq.out j p h hp
          · obtain rfl : j = k := by omega
            rw [hph.out] at hp
            injection hp with hp
            rw [← hp]
        case measure => simp [intOf]; omega
      · go_wp2
        go_ret
        exact ⟨ret_bool (clean_no hph.out rfl), rfl⟩
    · obtain rfl : k = n := by omega
      have hc : cleanB ps = true := by
        unfold cleanB
        rw [List.all_eq_true]
        intro p hp
        obtain ⟨j, hj⟩ := List.mem_iff_getElem?.1 hp
        rw [hq.out j p (by have := (List.getElem?_eq_some_iff.1 hj).1; omega) hj]
        rfl
      have hch := Lib.hid hc
      clear hc
      go_wp2
      go_ret
      exact ⟨ret_bool hch.out.symm, rfl⟩
end Go.Proofs.YtcpopnhnihbofaaGreatDoor
/- Proved here: contracts of the document's own answers of layer 7: Few, Clean, Same. -/
namespace Go.Proofs.YtcpopnhnihbofaaGreatDoor
open Go.RowKit
set_option linter.unusedVariables false

/-- Few texts in a piece; at most 12 such pieces. -/
def fewP1 (p : Pc) : Bool := fewB p.2.1 20 && fewT p.2.2.1 p.2.2.2
def fewP (ps : List Pc) : Bool := decide (ps.length ≤ 12) && (ps.take 13).all fewP1
theorem fewP_parts {ps : List Pc} (h : fewP ps = true) : ps.length ≤ 12 ∧ ∀ p ∈ ps, fewP1 p = true := by
  unfold fewP at h
  rw [Bool.and_eq_true, decide_eq_true_eq] at h
  refine ⟨h.1, fun p hp => ?_⟩
  have := h.2
  rw [List.take_of_length_le (by omega), List.all_eq_true] at this
  exact this p hp
theorem fewP_step {ps : List Pc} {k : Nat} {p : Pc} (hq : (ps.take k).all fewP1 = true) (ht : ps[k]? = some p) (h : fewP1 p = true) : (ps.take (k + 1)).all fewP1 = true := by
  rw [take_at ht, List.all_append, hq]
  simp [h]
theorem fewP_no {ps : List Pc} {k : Nat} {p : Pc} (hk : k < 13) (ht : ps[k]? = some p) (h : fewP1 p = false) : false = fewP ps := by
  unfold fewP
  have hm : p ∈ ps.take 13 := List.mem_of_getElem? (i := k) (by rw [List.getElem?_take]; rw [if_pos hk]; exact ht)
  rw [eq_comm, Bool.and_eq_false_iff]
  right
  rw [Bool.eq_false_iff, ne_eq, List.all_eq_true]
  intro ha
  rw [ha p hm] at h
  cases h
theorem fewP_end {ps : List Pc} {k n : Nat} (hl : ps.length = n) (h : k = n ∨ 13 ≤ k ∧ k < n) (hq : (ps.take k).all fewP1 = true) : decide (n ≤ 12) = fewP ps := by
  unfold fewP
  rw [hl]
  by_cases hm : n ≤ 12
  · have : k = n := by omega
    subst this
    rw [List.take_of_length_le (by omega)] at hq
    rw [List.take_of_length_le (by omega), hq]
    simp
  · simp [hm]

set_option maxRecDepth 100000 in
set_option maxHeartbeats 2000000 in
theorem pFew_any (A : Option Addr) (n c B : Nat) (vs : List PcV) (ps : List Pc) (w : World) (hn : n ≤ maxLen) (hA : Pcs w B A n vs ps) :
    Calls Tryz.prog 18 #[.slice A n c] w fun e w' => e = .returned (.bool (fewP ps)) ∧ ∃ q, w' = w.drewN q := by
  have hl := hA.len
  have hAh := Lib.hid hA
  unfold maxLen at hn
  clear hA
  go_enter Tryz.func18, Tryz.ntmps18
  go_wp2
  go_loopw [3] (fun i wr => ∃ k : Nat, k ≤ n ∧ k ≤ 13 ∧ i = .int .i64 k ∧ Hid ((ps.take k).all fewP1 = true) ∧ Hid (∃ q, wr = w.drewN q)) (fun i _ => n - (intOf i).toNat)
  case atStart => exact ⟨0, Nat.zero_le _, Nat.zero_le _, rfl, Lib.hid rfl, Lib.hid ⟨0, rfl⟩⟩
  case round =>
    obtain ⟨k, hk, hk13, rfl, hq, hw⟩ := hrel
    obtain ⟨wo, rfl⟩ : ∃ wo : World, wo = wr := ⟨_, rfl⟩
    have hAo : Hid (Pcs wo B A n vs ps) := Lib.hid (by obtain ⟨q, rfl⟩ := hw.out; exact hAh.out.drewN q)
    by_cases hlt : k < n
    · by_cases hm : k < 13
      · obtain ⟨b, o, cf, At, nt, ct, Ab, nb, cb, As, ns, cs, t, bs, ss, rfl, hb, hv, hp, k1, k2, k3, k4, j1, j2, j3, j4, rr, j5⟩ := hAo.out.at_ (k := k) hlt
        have i1 : (0 : Int) ≤ (k : Int) := by omega
        have i2 : (k : Int) < (n : Int) := by omega
        have i3 : (k : Int) < 13 := by omega
        obtain ⟨f1, hf1⟩ : ∃ f1, fewB t 20 = f1 := ⟨_, rfl⟩
        obtain ⟨f2, hf2⟩ : ∃ f2, fewT bs ss = f2 := ⟨_, rfl⟩
        have hF1 : Hid (∀ j, Calls Tryz.prog 14 #[.slice At nt ct, .int .i64 20] (wo.drewN j) fun e w' => e = .returned (.bool f1) ∧ ∃ q, w' = (wo.drewN j).drewN q) := Lib.hid (fun j => by
          rw [← hf1]
          exact (Few_any At nt ct 20 B t (wo.drewN j) (Nat.le_trans j1.1 j1.2.1) (by omega) (j1.2.2.drewN j)).mono fun e w' h => ⟨h.1, 0, h.2.symm⟩)
        have hF2 : Hid (∀ j, Calls Tryz.prog 37 #[.slice Ab nb cb, .slice As ns cs] (wo.drewN j) fun e w' => e = .returned (.bool f2) ∧ ∃ q, w' = (wo.drewN j).drewN q) := Lib.hid (fun j => by
          rw [← hf2]
          exact (rFew_any Ab nb cb B bs As ns cs B rr ss (wo.drewN j) (Nat.le_trans j2.1 j2.2.1) (Nat.le_trans j3 j4) (j2.2.2.drewN j) (j5.drewN j)).mono fun e w' h => ⟨h.1, 0, h.2⟩)
        have h1 : Hid (fewP1 (cf, t, bs, ss) = (f1 && f2)) := Lib.hid (by unfold fewP1; rw [← hf1, ← hf2])
        have hph := Lib.hid hp
        clear hv hp hf1 hf2 j1 j2 j5
        cases f1
        · go_wp2
          go_quiet ((first | (go_at_call 14; exact Calls.quiet_of (hF1.out _)) | (go_at_call 37; exact Calls.quiet_of (hF2.out _))))
          obtain ⟨z1, rfl⟩ : ∃ z1, z1 = nq := ⟨_, rfl⟩
          go_wp2
          go_ret
          exact ⟨ret_bool (fewP_no hm hph.out h1.out), by obtain ⟨q, rfl⟩ := hw.out; exact ⟨_, World.drewN_drewN _ _ _⟩⟩
        · cases f2
          · go_wp2
            go_quiet ((first | (go_at_call 14; exact Calls.quiet_of (hF1.out _)) | (go_at_call 37; exact Calls.quiet_of (hF2.out _))))
            obtain ⟨z1, rfl⟩ : ∃ z1, z1 = nq := ⟨_, rfl⟩
            go_wp2
            go_ret
            exact ⟨ret_bool (fewP_no hm hph.out h1.out), by obtain ⟨q, rfl⟩ := hw.out; exact ⟨_, World.drewN_drewN _ _ _⟩⟩
          · go_wp2
            go_quiet ((first | (go_at_call 14; exact Calls.quiet_of (hF1.out _)) | (go_at_call 37; exact Calls.quiet_of (hF2.out _))))
            obtain ⟨z1, rfl⟩ : ∃ z1, z1 = nq := ⟨_, rfl⟩
            go_wp2
            go_roundw
            case rel => exact ⟨k + 1, by omega, by omega, by go_num, Lib.hid (fewP_step hq.out hph.out h1.out), Lib.hid (by obtain ⟨q, rfl⟩ := hw.out; exact ⟨_, World.drewN_drewN _ _ _⟩)⟩
            case measure => simp [intOf]; omega
      · have hend := Lib.hid (fewP_end hl (.inr ⟨by omega, hlt⟩) hq.out)
        go_wp2
        go_ret
        exact ⟨ret_bool (by rw [← hend.out]; simp; try omega), hw.out⟩
    · obtain rfl : k = n := by omega
      have hend := Lib.hid (fewP_end hl (.inl rfl) hq.out)
      go_wp2
      all_goals
        go_ret
        exact ⟨ret_bool (by rw [← hend.out]; simp; try omega), hw.out⟩
end Go.Proofs.YtcpopnhnihbofaaGreatDoor
/- Proved here, without conditions on the program: of few texts in pieces: how many are chosen, how many there are. -/
namespace Go.Proofs.YtcpopnhnihbofaaGreatDoor
open Go.RowKit
set_option linter.unusedVariables false

/-- Pieces that came in. -/
def ArgPcs (w : World) (A : Option Addr) (n c : Nat) (vs : List PcV) (ps : List Pc) : Prop := n ≤ c ∧ c ≤ maxLen ∧ Pcs w w.heap.size A n vs ps

theorem fewP1_text {p : Pc} (h : fewP1 p = true) : p.2.1.length ≤ 20 := by
  unfold fewP1 at h
  rw [Bool.and_eq_true] at h
  exact fewB_len h.1
theorem fewP1_side {p : Pc} (h : fewP1 p = true) : ∀ s ∈ p.2.2.2, s.length ≤ 20 := by
  unfold fewP1 at h
  rw [Bool.and_eq_true] at h
  exact fun s hs => (fewT_parts h.2).2.2 s hs
theorem chosen_few {p : Pc} (z : Int) (h : fewP1 p = true) : (chosen z p).length ≤ 20 := by
  unfold chosen
  split
  · split
    · cases hs : p.2.2.2[(z - 1).toNat]? with
      | none => simp
      | some s => exact fewP1_side h s (List.mem_of_getElem? hs)
    · simp
  · exact fewP1_text h
theorem choose_few (z : Int) : ∀ {ps : List Pc}, (∀ p ∈ ps, fewP1 p = true) → (choose ps z).length ≤ ps.length * 20
  | [], _ => by simp [choose]
  | p :: ps, h => by
    have h1 := choose_few z (ps := ps) fun q hq => h q (List.mem_cons_of_mem _ hq)
    have h2 := chosen_few z (h p (List.mem_cons_self ..))
    unfold choose at h1 ⊢
    rw [List.flatMap_cons, List.length_append, List.length_cons]
    omega
theorem smallN_few {ps : List Pc} (h : ∀ p ∈ ps, fewP1 p = true) : smallN ps := by
  intro p hp
  have h1 := h p hp
  unfold fewP1 at h1
  rw [Bool.and_eq_true] at h1
  obtain ⟨a1, a2, a3⟩ := fewT_parts h1.2
  refine ⟨by omega, fun d hd => ?_⟩
  rcases List.mem_cons.1 hd with rfl | hd
  · omega
  · have := a3 d hd
    omega
theorem sumT_few : ∀ {ps : List Pc}, (∀ p ∈ ps, fewP1 p = true) → sumT ps ≤ ps.length * 20
  | [], _ => by simp [sumT]
  | p :: ps, h => by
    have h1 := sumT_few (ps := ps) fun q hq => h q (List.mem_cons_of_mem _ hq)
    have h2 := fewP1_text (h p (List.mem_cons_self ..))
    rw [sumT_cons, List.length_cons]
    omega
theorem joinT_len (t : Txs) : ∀ r : List Pc, (joinT t r).length ≤ r.length + 1
  | [] => by by_cases h : t = [] <;> simp [joinT, h]
  | (false, x, b, s) :: r => by simp [joinT]
  | (true, x, b, s) :: r => by by_cases h : t = [] <;> simp [joinT, h]
theorem normal_len : ∀ ps : List Pc, (normal ps).length ≤ ps.length
  | [] => by simp [normal]
  | (true, _, b, s) :: l => by simpa [normal] using normal_len l
  | (false, t, _, _) :: l => by
    have h1 := normal_len l
    have h2 := joinT_len t (normal l)
    rw [normal, List.length_cons]
    omega
end Go.Proofs.YtcpopnhnihbofaaGreatDoor
/- Proved here, without conditions: few pieces are neither many nor long. -/
namespace Go.Proofs.YtcpopnhnihbofaaGreatDoor
open Go.RowKit
set_option linter.unusedVariables false

/-- Few texts: neither many nor long. -/
theorem few_small {ps : List Pc} (h : fewP ps = true) : smallZ ps := by
  obtain ⟨h1, h2⟩ := fewP_parts h
  refine ⟨by omega, fun p hp => ?_⟩
  have h3 := h2 p hp
  have h4 := fewP1_text h3
  unfold fewP1 at h3
  rw [Bool.and_eq_true] at h3
  obtain ⟨a1, a2, a3⟩ := fewT_parts h3.2
  exact ⟨by omega, by omega, fun d hd => by have := a3 d hd; omega, by omega⟩
theorem zeal_len {ps : List Pc} (h : smallZ ps) : (zealD ps).length ≤ 300 := by
  have h1 := (flat_sum (ps := ps) h.2).2
  have h2 := len_normal (ps.flatMap trimD)
  have h3 := h.1
  unfold zealD
  omega
end Go.Proofs.YtcpopnhnihbofaaGreatDoor
