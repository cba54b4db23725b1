/- Proved here: texts joined: MkWrong. -/
import Derived.Test.YtcjmmidnfjifaaaGreatDoorBm22
import Derived.Test.YtcjmmidnfjifaaaGreatDoorBm24
/- Proved here: the contract of the document's own answer of layer 12: wrong. -/
namespace Go.Proofs.YtcjmmidnfjifaaaGreatDoor
open Go.RowKit
set_option linter.unusedVariables false
set_option maxRecDepth 100000

def smallW (ps : List Pc) : Prop := smallK ps ∧ smallK (zealD ps)
theorem lists_mem_len {ps : List Pc} (h : ∀ p ∈ ps, smallP p) : ∀ d ∈ listsP ps, d.length ≤ 10000 := fun d hd => by
  obtain ⟨p, hp, hx⟩ := mem_lists.1 hd
  obtain ⟨h1, h2, h3, h4⟩ := h p hp
  rcases hx with rfl | rfl | hx
  · omega
  · exact h4
  · have := h3 d hx; omega
theorem smallK_F {ps : List Pc} (h : smallK ps) : smallF (listsP ps) := by
  refine ⟨?_, fun f hf => ⟨lists_mem_len h.1.2 f hf, h.2 f hf⟩⟩
  have := lists_count h.1.2
  have := h.1.1
  omega
def badP (p : Pc) : Bool := p.1 && (p.2.2.2.isEmpty || decide (16 < p.2.2.2.length))
theorem bad_is (p : Pc) {ns : Nat} (h : p.2.2.2.length = ns) : badP p = (p.1 && (((ns : Int) == 0) || decide (16 < ns))) := by
  unfold badP
  rw [h]
  congr 2
  cases hs : p.2.2.2 with
  | nil => rw [hs] at h; simp at h; subst h; rfl
  | cons d ds =>
    rw [hs] at h
    simp at h
    rw [eq_comm, List.isEmpty_cons, beq_eq_false_iff_ne]
    omega

set_option maxHeartbeats 8000000 in
theorem rWrong_any (A : Option Addr) (n c : Nat) (vs : List PcV) (ps : List Pc) (style long : Int) (w : World) (hnc : n ≤ c) (hcm : c ≤ maxLen) (hst : inR64 style) (hlg : inR64 long) (hsm : smallW ps) (hA : Pcs w w.heap.size A n vs ps) :
    Calls Tryz.prog 32 #[.slice A n c, .int .i64 style, .int .i64 long] w fun e w' => e = .returned (.int .i64 (wrongM ps style long)) ∧ Below w.heap.size w w' := by
  unfold inR64 at hst hlg
  have hl := hA.len
  have hb0 := Lib.hid (Below.refl w.heap.size w)
  by_cases h0 : style < 1 ∨ 3 < style ∨ long < 1 ∨ 4096 < long
  · have hw : Hid (wrongM ps style long = 1) := Lib.hid (by unfold wrongM; rw [if_pos h0])
    clear hA hsm
    by_cases a1 : style < 1
    · go_enter Tryz.func32, Tryz.ntmps32
      go_wp2
      go_ret
      exact ⟨ret_int (by rw [hw.out]), hb0.out⟩
    by_cases a2 : 3 < style
    · go_enter Tryz.func32, Tryz.ntmps32
      go_wp2
      go_ret
      exact ⟨ret_int (by rw [hw.out]), hb0.out⟩
    by_cases a3 : long < 1
    · go_enter Tryz.func32, Tryz.ntmps32
      go_wp2
      go_ret
      exact ⟨ret_int (by rw [hw.out]), hb0.out⟩
    have a4 : 4096 < long := by omega
    go_enter Tryz.func32, Tryz.ntmps32
    go_wp2
    go_ret
    exact ⟨ret_int (by rw [hw.out]), hb0.out⟩
  have s1 : 1 ≤ style := by omega
  have s2 : style ≤ 3 := by omega
  have s3 : 1 ≤ long := by omega
  have s4 : long ≤ 4096 := by omega
  have hAh := Lib.hid hA
  have hlh := Lib.hid hl
  have hsmh := Lib.hid hsm
  have hnm : n ≤ 9223372036854775807 := by have := Nat.le_trans hnc hcm; unfold maxLen at this; omega
  have hnmx := Lib.hid (Nat.le_trans hnc hcm)
  have hwr : Hid (wrongM ps style long = if ps.any badP = true then 1 else if (formB ps && (decide (style ≠ 3) || formB (zealD ps))) = false then 2 else if fitsB long (listsP ps) = false then 6 else 0) := Lib.hid (by unfold wrongM; rw [if_neg h0]; rfl)
  have hFo := Lib.hid (rForm_any A n c vs ps w hnmx.out hsm.1 hA)
  have hFz : Hid (∀ (A' : Option Addr) (n' c' : Nat) (vs' : List PcV) (W : World), n' ≤ maxLen → Pcs W W.heap.size A' n' vs' (zealD ps) → Calls Tryz.prog 52 #[.slice A' n' c'] W fun e w' => e = .returned (.bool (formB (zealD ps))) ∧ Below W.heap.size W w') := Lib.hid (fun A' n' c' vs' W h1 h2 => rForm_any A' n' c' vs' (zealD ps) W h1 hsm.2 h2)
  have hZe : Hid (∀ W, Below w.heap.size w W → Calls Tryz.prog 14 #[.slice A n c] W fun e w' => PcsLo W.heap.size W w' e (zealD ps)) := Lib.hid (fun W hW => rZeal_any W.heap.size A n c vs ps W (Nat.le_refl _) hsm.1.1 (hA.up hW))
  have hLi : Hid (∀ W, Below w.heap.size w W → Calls Tryz.prog 17 #[.slice A n c] W fun e w' => RowsOut W w' e (listsP ps)) := Lib.hid (fun W hW => rLists_any A n c vs ps W hnmx.out (by have := lists_count hsm.1.1.2; have := hsm.1.1.1; omega) (hA.up hW))
  have hFi : Hid (∀ (A' : Option Addr) (n' c' : Nat) (rr : List Slc) (W : World), n' ≤ maxLen → RowsT W W.heap.size A' n' rr (listsP ps) → Calls Tryz.prog 53 #[.int .i64 long, .slice A' n' c'] W fun e w' => e = .returned (.bool (fitsB long (listsP ps))) ∧ ∃ q, w' = W.drewN q) := Lib.hid (fun A' n' c' rr W h1 h2 => rFits_any long A' n' c' W.heap.size rr (listsP ps) W h1 (smallK_F hsm.1) h2)
  obtain ⟨fo, hfo⟩ : ∃ fo, formB ps = fo := ⟨_, rfl⟩
  obtain ⟨fz, hfz⟩ : ∃ fz, formB (zealD ps) = fz := ⟨_, rfl⟩
  obtain ⟨ft, hft⟩ : ∃ ft, fitsB long (listsP ps) = ft := ⟨_, rfl⟩
  rw [hfo] at hFo
  rw [hfz] at hFz
  rw [hft] at hFi
  rw [hfo, hfz, hft] at hwr
  clear hA hl hsm h0 hfo hfz hft
  go_enter Tryz.func32, Tryz.ntmps32
  go_wp2
  go_loop [7] (fun s7 => ∃ i : Nat, i ≤ n ∧ s7 = .int .i64 i ∧ Hid ((ps.take i).any badP = false)) (fun s7 => n - (intOf s7).toNat)
  case atStart => exact ⟨0, Nat.zero_le _, rfl, Lib.hid rfl⟩
  case round =>
    obtain ⟨i, hi, rfl, hq⟩ := hrel
    by_cases hlt : i < n
    · obtain ⟨b, o, cf, At, nt, ct, Ab, nb, cb, As, ns, cs, t, bs, ss, rfl, hb, hv, hp, k1, k2, k3, k4, j1, j2, ⟨j3, j4, rr, j5⟩⟩ := hAh.out.at_ (k := i) hlt
      have i1 : (0 : Int) ≤ (i : Int) := by omega
      have i2 : (i : Int) < (n : Int) := by omega
      have hns := j5.len
      dsimp only at hns j3 j4
      have hbad := bad_is (cf, t, bs, ss) hns
      have hph := Lib.hid hp
      have hnsm : ns ≤ 9223372036854775807 := by have := Nat.le_trans j3 j4; unfold maxLen at this; omega
      obtain ⟨bd, hbd⟩ : ∃ bd, badP (cf, t, bs, ss) = bd := ⟨_, rfl⟩
      have hstep := Lib.hid (show (ps.take (i + 1)).any badP = bd by rw [take_at hp, List.any_append, hq.out]; simp [hbd])
      have hyes : Hid (bd = true → ps.any badP = true) := Lib.hid (fun h => by rw [List.any_eq_true]; exact ⟨_, List.mem_of_getElem? hp, by rw [hbd, h]⟩)
      rw [hbd] at hbad
      dsimp only at hbad
      clear hv hp j1 j2 j3 j4 j5 k2 k3 hns hbd
      cases cf
      · have hb0' : bd = false := hbad
        subst hb0'
        clear hbad
        go_wp2
        go_round
        case rel => exact ⟨i + 1, by omega, by go_num, hstep⟩
        case measure => simp [intOf]; omega
      · by_cases hz : ns = 0
        · subst hz
          have hb1 : bd = true := hbad
          have hy := Lib.hid (hyes.out hb1)
          clear hbad hb1
          go_wp2
          go_ret
          exact ⟨ret_int (by rw [hwr.out, if_pos hy.out]), hb0.out⟩
        · have hnz : ((ns : Int) == 0) = false := by rw [beq_eq_false_iff_ne]; omega
          by_cases hg : 16 < ns
          · have hb1 : bd = true := by rw [hbad, hnz, decide_eq_true hg]; rfl
            have hgi : (16 : Int) < (ns : Int) := by omega
            have hy := Lib.hid (hyes.out hb1)
            clear hbad hb1
            go_wp2
            go_ret
            exact ⟨ret_int (by rw [hwr.out, if_pos hy.out]), hb0.out⟩
          · have hb1 : bd = false := by rw [hbad, hnz, decide_eq_false hg]; rfl
            have hgi : ¬ (16 : Int) < (ns : Int) := by omega
            subst hb1
            clear hbad
            go_wp2
            go_round
            case rel => exact ⟨i + 1, by omega, by go_num, hstep⟩
            case measure => simp [intOf]; omega
    · obtain rfl : i = n := by omega
      have hno : Hid (ps.any badP = false) := Lib.hid (by have := hq.out; rw [List.take_of_length_le (by rw [hlh.out]; exact Nat.le_refl _)] at this; exact this)
      have hwr2 : Hid (wrongM ps style long = if (fo && (decide (style ≠ 3) || fz)) = false then 2 else if ft = false then 6 else 0) := Lib.hid (by rw [hwr.out, if_neg (by rw [hno.out]; simp)])
      clear hwr hq
      cases fo
      · go_wp2_with (go_at_call 52; refine hFo.out.mono ?_; rintro e w1 ⟨rfl, hb1⟩; have hB1 := Lib.hid hb1; clear hb1)
        go_ret
        exact ⟨ret_int (by rw [hwr2.out]; simp), hB1.out⟩
      by_cases h3 : style = 3
      · subst h3
        have tok1 := trivial
        cases fz
        · go_wp2_with (first
            | (go_at_call 52; have _t := tok1; refine hFo.out.mono ?_; rintro e w1 ⟨rfl, hb1⟩; have hB1 := Lib.hid hb1; clear hb1 tok1)
            | (go_at_call 14; refine (hZe.out _ hB1.out).mono ?_; rintro e w2 ⟨A2, n2, c2, vs2, rfl, q1, q2, q3, q4⟩; have hp2 := Lib.hid (And.intro (Nat.le_trans q1 q2) (q3 w2 (But.refl _ _))); have hB2 := Lib.hid (hB1.out.trans (q4.mono hB1.out.size)); clear q1 q2 q3 q4)
            | (go_at_call 52; refine (hFz.out A2 n2 c2 vs2 _ hp2.out.1 hp2.out.2).mono ?_; rintro e w3 ⟨rfl, hb3⟩; have hB3 := Lib.hid (hB2.out.trans (hb3.mono hB2.out.size)); clear hb3))
          go_ret
          exact ⟨ret_int (by rw [hwr2.out]; simp), hB3.out⟩
        · cases ft
          all_goals
            go_wp2_with (first
              | (go_at_call 52; have _t := tok1; refine hFo.out.mono ?_; rintro e w1 ⟨rfl, hb1⟩; have hB1 := Lib.hid hb1; clear hb1 tok1)
              | (go_at_call 14; refine (hZe.out _ hB1.out).mono ?_; rintro e w2 ⟨A2, n2, c2, vs2, rfl, q1, q2, q3, q4⟩; have hp2 := Lib.hid (And.intro (Nat.le_trans q1 q2) (q3 w2 (But.refl _ _))); have hB2 := Lib.hid (hB1.out.trans (q4.mono hB1.out.size)); clear q1 q2 q3 q4)
              | (go_at_call 52; refine (hFz.out A2 n2 c2 vs2 _ hp2.out.1 hp2.out.2).mono ?_; rintro e w3 ⟨rfl, hb3⟩; have hB3 := Lib.hid (hB2.out.trans (hb3.mono hB2.out.size)); clear hb3)
              | (go_at_call 17; refine (hLi.out _ hB3.out).mono ?_; rintro e w4 ⟨A4, n4, c4, rr4, rfl, h1, h2, h3, h4⟩; have hR := Lib.hid (And.intro (Nat.le_trans h1 h2) h3); have hB4 := Lib.hid (hB3.out.trans (h4.mono hB3.out.size)); clear h1 h2 h3 h4)
              | (go_at_call 53; refine (hFi.out A4 n4 c4 rr4 _ hR.out.1 hR.out.2).mono ?_; rintro e w5 ⟨rfl, q5, rfl⟩))
            go_ret
            exact ⟨ret_int (by rw [hwr2.out]; simp), below_drewN hB4.out q5⟩
      · have h3b : (style == 3) = false := by rw [beq_eq_false_iff_ne]; exact h3
        cases ft
        all_goals
          go_wp2_with (first
            | (go_at_call 52; refine hFo.out.mono ?_; rintro e w1 ⟨rfl, hb1⟩; have hB1 := Lib.hid hb1; clear hb1)
            | (go_at_call 17; refine (hLi.out _ hB1.out).mono ?_; rintro e w4 ⟨A4, n4, c4, rr4, rfl, h1, h2, h3, h4⟩; have hR := Lib.hid (And.intro (Nat.le_trans h1 h2) h3); have hB4 := Lib.hid (hB1.out.trans (h4.mono hB1.out.size)); clear h1 h2 h3 h4)
            | (go_at_call 53; refine (hFi.out A4 n4 c4 rr4 _ hR.out.1 hR.out.2).mono ?_; rintro e w5 ⟨rfl, q5, rfl⟩))
          go_ret
          exact ⟨ret_int (by rw [hwr2.out]; simp [h3]), below_drewN hB4.out q5⟩
end Go.Proofs.YtcjmmidnfjifaaaGreatDoor
