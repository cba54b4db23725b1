/- Proved here: texts joined: Mk. -/
import Derived.Test.YtcpopnhnihbofaaGreatDoorBe21
import Derived.Test.YtcpopnhnihbofaaGreatDoorBe34
import Derived.Test.YtcpopnhnihbofaaGreatDoorBe35
import Derived.Test.YtcpopnhnihbofaaGreatDoorBe38
import Derived.Test.YtcpopnhnihbofaaGreatDoorBe41
/- Proved here: the contract of the landed mark.Print. -/
namespace Go.Proofs.YtcpopnhnihbofaaGreatDoor
open Go.RowKit
set_option linter.unusedVariables false
set_option maxRecDepth 100000

set_option maxHeartbeats 2000000 in
theorem putPiece_any (w0 : World) (L long : Nat) (cf : Bool) (A1 A2 A3 : Option Addr) (n1 c1 n2 c2 n c : Nat) (t bs : Txs) (ss : List Txs) (style : Int) (wb : Bool) (v : Value) (xs : Txs) (wr : World) (hwb : wb = decide (style ≠ 1)) (hlong : long ≤ 4096) (hss : cf = true → ss ≠ [] ∧ ss.length ≤ 16) (hsz : ∀ d ∈ t :: bs :: ss, d.length ≤ 10000 ∧ ∀ s ∈ d, s.length ≤ 1000000) (hx : xs.length ≤ 20000000) (hS : Sh w0 L wr long v xs) (hP : PcR w0 w0.heap.size ((A1, n1, c1), (A2, n2, c2), (A3, n, c)) (cf, t, bs, ss)) :
    Calls Tryz.prog 27 #[.pointer (some ⟨L, 0, none⟩), .agg #[.bool cf, .slice A1 n1 c1, .slice A2 n2 c2, .slice A3 n c], .bool wb] wr fun e w' => e = .returned (.tuple #[]) ∧ ∃ v', Sh w0 L w' long v' (xs ++ pieceM style long (cf, t, bs, ss)) := by
  have hb0 := below_alloc (Below.refl wr.heap.size wr) (.cells #[.bool cf, .slice A1 n1 c1, .slice A2 n2 c2, .slice A3 n c] 40)
  have hS0 := hS.up hb0
  cases cf
  · have hp : Hid (pieceM style long (false, t, bs, ss) = t) := Lib.hid rfl
    obtain ⟨hT, -, -⟩ := hP
    have hPu := Lib.hid (shPut_any w0 L long A1 n1 c1 w0.heap.size v xs t _ hS0 (Strs.below hT.2.2 hS0.own.below) (by have h1 := hT.2.2.len; have h2 := (hsz t (List.mem_cons_self ..)).1; dsimp only at h1; omega))
    clear hS hS0 hb0 hsz hT hss hwb
    go_enter Tryz.func27, Tryz.ntmps27
    go_wp2_with (go_at_call 53; refine hPu.out.mono ?_; rintro e w1 ⟨rfl, v1, hv1, -, -⟩; have hvh := Lib.hid hv1; clear hv1)
    go_end0
    exact ⟨rfl, v1, by rw [hp.out]; exact hvh.out⟩
  · obtain ⟨h1, h2⟩ := hss rfl
    obtain ⟨f, ds, rfl⟩ : ∃ f ds, ss = f :: ds := by
      cases ss with
      | nil => exact absurd rfl h1
      | cons f ds => exact ⟨f, ds, rfl⟩
    have hp : Hid (pieceM style long (true, t, bs, f :: ds) = confM style long bs (f :: ds)) := Lib.hid rfl
    have hPu := Lib.hid (putConf_any w0 L long A1 A2 A3 n1 c1 n2 c2 n c t bs f ds style wb v xs _ hwb hlong h2 (fun d hd => hsz d (List.mem_cons_of_mem _ hd)) hx hS0 hP)
    clear hS hS0 hb0 hsz hss hwb hP h1 h2
    go_enter Tryz.func27, Tryz.ntmps27
    go_wp2_with (go_at_call 52; refine hPu.out.mono ?_; rintro e w1 ⟨rfl, v1, hv1⟩; have hvh := Lib.hid hv1; clear hv1)
    refine bodyPost_ret (results_none rfl _ _ _) rfl ?_
    exact ⟨rfl, v1, by rw [hp.out]; exact hvh.out⟩

theorem printA_none (w w' : World) (no : Int) (hb : Below w.heap.size w w') : PrintA w w' (.returned (.tuple #[.slice none 0 0, .int .i64 no])) [] no := ⟨none, 0, 0, rfl, TxR.nil _ _, hb⟩

set_option maxHeartbeats 16000000 in
theorem mk_ok : MarkPrintOk := by
  intro A n c vs ps style long w hnc hcm hst hlg hsm hA
  have hl := hA.len
  have hnmx := Nat.le_trans hnc hcm
  have hAk := Lib.hid (asked_any style long w)
  have hBd : Hid (∀ W, Below w.heap.size w W → Calls Tryz.prog 21 #[.slice A n c, .func (.func 22) #[] #[]] W fun e w' => e = .returned (.bool (ps.any badP)) ∧ Below w.heap.size w w') := Lib.hid (fun W hW => (anyBad_any A n c vs ps W hnmx (hA.up hW)).mono fun e w' h => ⟨h.1, hW.trans (h.2.mono hW.size)⟩)
  have hFo : Hid (∀ W, Below w.heap.size w W → Calls Tryz.prog 23 #[.slice A n c] W fun e w' => e = .returned (.bool (formB ps)) ∧ Below w.heap.size w w') := Lib.hid (fun W hW => (bePrinted_any A n c vs ps W hnc hcm hsm.1 (hA.up hW)).mono fun e w' h => ⟨h.1, hW.trans (h.2.mono hW.size)⟩)
  have hFz : Hid (∀ (A' : Option Addr) (n' c' : Nat) (vs' : List PcV) (W : World), n' ≤ c' → c' ≤ maxLen → Pcs W W.heap.size A' n' vs' (zealD ps) → Calls Tryz.prog 23 #[.slice A' n' c'] W fun e w' => e = .returned (.bool (formB (zealD ps))) ∧ Below W.heap.size W w') := Lib.hid (fun A' n' c' vs' W h0 h1 h2 => bePrinted_any A' n' c' vs' (zealD ps) W h0 h1 hsm.2 h2)
  have hZe : Hid (∀ W, Below w.heap.size w W → Calls Tryz.prog 24 #[.slice A n c] W fun e w' => PcsLo W.heap.size W w' e (zealD ps)) := Lib.hid (fun W hW => zeal_ok W.heap.size A n c vs ps W hnc hcm (Nat.le_refl _) hsm.1.1 (hA.up hW))
  have hLi : Hid (∀ W, Below w.heap.size w W → Calls Tryz.prog 26 #[.slice A n c] W fun e w' => RowsOut W w' e (listsP ps)) := Lib.hid (fun W hW => allLists_any A n c vs ps W hnmx (by have := lists_count hsm.1.1.2; have := hsm.1.1.1; omega) (hA.up hW))
  have hFi : Hid (∀ (A' : Option Addr) (n' c' : Nat) (rr : List Slc) (W : World), n' ≤ c' → c' ≤ maxLen → RowsT W W.heap.size A' n' rr (listsP ps) → Calls Tryz.prog 25 #[.int .i64 long, .slice A' n' c'] W fun e w' => e = .returned (.bool (fitsB long (listsP ps))) ∧ Below W.heap.size W w') := Lib.hid (fun A' n' c' rr W h0 h1 h2 => fits_ok long A' n' c' rr (listsP ps) W hlg.1 hlg.2 h0 h1 (smallK_F hsm.1) h2)
  have hwr : Hid (wrongM ps style long = if (decide (1 ≤ style) && decide (style ≤ 3) && decide (1 ≤ long) && decide (long ≤ 4096)) = false then 1 else if ps.any badP = true then 1 else if (formB ps && (decide (style ≠ 3) || formB (zealD ps))) = false then 2 else if fitsB long (listsP ps) = false then 6 else 0) := Lib.hid (by
    unfold wrongM
    by_cases h0 : style < 1 ∨ 3 < style ∨ long < 1 ∨ 4096 < long
    · rw [if_pos h0, if_pos]
      cases hd : (decide (1 ≤ style) && decide (style ≤ 3) && decide (1 ≤ long) && decide (long ≤ 4096)) with
      | false => rfl
      | true =>
        simp only [Bool.and_eq_true, decide_eq_true_eq] at hd
        omega
    · rw [if_neg h0, if_neg (show ¬ (decide (1 ≤ style) && decide (style ≤ 3) && decide (1 ≤ long) && decide (long ≤ 4096)) = false from by
        rw [decide_eq_true (by omega : 1 ≤ style), decide_eq_true (by omega : style ≤ 3), decide_eq_true (by omega : 1 ≤ long), decide_eq_true (by omega : long ≤ 4096)]
        simp)]
      rfl)
  have hpr : Hid (∀ no, wrongM ps style long = no → no ≠ 0 → ∀ w', Below w.heap.size w w' → PrintA w w' (.returned (.tuple #[.slice none 0 0, .int .i64 no])) (printM ps style long) (wrongM ps style long)) := Lib.hid (fun no h1 h2 w' hb => by
    have : printM ps style long = [] := by unfold printM; rw [if_neg (by rw [h1]; exact h2)]
    rw [this, h1]
    exact printA_none w w' no hb)
  have hyes := wrongM_none (l := ps) (style := style) (long := long)
  obtain ⟨ak, hak⟩ : ∃ ak, (decide (1 ≤ style) && decide (style ≤ 3) && decide (1 ≤ long) && decide (long ≤ 4096)) = ak := ⟨_, rfl⟩
  obtain ⟨bd, hbd⟩ : ∃ bd, ps.any badP = bd := ⟨_, rfl⟩
  obtain ⟨fo, hfo⟩ : ∃ fo, formB ps = fo := ⟨_, rfl⟩
  obtain ⟨fz, hfz⟩ : ∃ fz, formB (zealD ps) = fz := ⟨_, rfl⟩
  obtain ⟨ft, hft⟩ : ∃ ft, fitsB long (listsP ps) = ft := ⟨_, rfl⟩
  rw [hak] at hAk hwr
  rw [hbd] at hBd hwr
  rw [hfo] at hFo hwr
  rw [hfz] at hFz hwr
  rw [hft] at hFi hwr
  have hsmh := Lib.hid hsm
  have hyh := Lib.hid hyes
  have hAh := Lib.hid hA
  have hkn0 := Lib.hid (And.intro hnc hcm)
  clear hak hbd hfo hfz hft hyes hA hsm hl hnmx hlg hnc hcm
  cases ak
  · go_enter Tryz.func8, Tryz.ntmps8
    go_wp2_with (go_at_call 20; refine hAk.out.mono ?_; rintro e w1 ⟨rfl, hb1⟩; have hB1 := Lib.hid hb1; clear hb1)
    go_ret2
    exact hpr.out 1 (by rw [hwr.out]; rfl) (by decide) _ hB1.out
  cases bd
  rotate_left
  · go_enter Tryz.func8, Tryz.ntmps8
    go_wp2_with (first
      | (go_at_call 20; refine hAk.out.mono ?_; rintro e w1 ⟨rfl, hb1⟩; have hB1 := Lib.hid hb1; clear hb1)
      | (go_at_call 21; refine (hBd.out _ hB1.out).mono ?_; rintro e w2 ⟨rfl, hb2⟩; have hB2 := Lib.hid hb2; clear hb2))
    go_ret2
    exact hpr.out 1 (by rw [hwr.out]; rfl) (by decide) _ hB2.out
  cases fo
  · go_enter Tryz.func8, Tryz.ntmps8
    go_wp2_with (first
      | (go_at_call 20; refine hAk.out.mono ?_; rintro e w1 ⟨rfl, hb1⟩; have hB1 := Lib.hid hb1; clear hb1)
      | (go_at_call 21; refine (hBd.out _ hB1.out).mono ?_; rintro e w2 ⟨rfl, hb2⟩; have hB2 := Lib.hid hb2; clear hb2)
      | (go_at_call 23; refine (hFo.out _ hB2.out).mono ?_; rintro e w3 ⟨rfl, hb3⟩; have hB3 := Lib.hid hb3; clear hb3))
    go_ret2
    exact hpr.out 2 (by rw [hwr.out]; rfl) (by decide) _ hB3.out
  have hwr2 : Hid (wrongM ps style long = if (decide (style ≠ 3) || fz) = false then 2 else if ft = false then 6 else 0) := Lib.hid (by rw [hwr.out]; simp)
  have tok1 := trivial
  go_enter Tryz.func8, Tryz.ntmps8
  go_upto_region 5 with (first
    | (go_at_call 20; refine hAk.out.mono ?_; rintro e w1 ⟨rfl, hb1⟩; have hB1 := Lib.hid hb1; clear hb1)
    | (go_at_call 21; refine (hBd.out _ hB1.out).mono ?_; rintro e w2 ⟨rfl, hb2⟩; have hB2 := Lib.hid hb2; clear hb2)
    | (go_at_call 23; refine (hFo.out _ hB2.out).mono ?_; rintro e w3 ⟨rfl, hb3⟩; have hB3 := Lib.hid hb3; clear hb3))
  by_cases hz : style = 3 ∧ fz = false
  · obtain ⟨h3, rfl⟩ := hz
    have h3b : (style == 3) = true := by rw [beq_iff_eq]; exact h3
    have hw2 : Hid (wrongM ps style long = 2) := Lib.hid (by rw [hwr2.out, h3]; rfl)
    clear h3
    go_wp2_with (first
      | (go_at_call 24; refine (hZe.out _ hB3.out).mono ?_; rintro e w4 ⟨A2, n2, c2, vs2, rfl, q1, q2, q3, q4⟩; have hkn := Lib.hid (And.intro q1 q2); have hK4 := Lib.hid (q3 w4 (But.refl _ _)); have hB4 := Lib.hid (hB3.out.trans (q4.mono hB3.out.size)); clear q1 q2 q3 q4)
      | (go_at_call 23; refine (hFz.out A2 n2 c2 vs2 _ hkn.out.1 hkn.out.2 hK4.out).mono ?_; rintro e w5 ⟨rfl, hb5⟩; have hK5 := Lib.hid (hK4.out.up hb5); have hB5 := Lib.hid (hB4.out.trans (hb5.mono hB4.out.size)); clear hb5))
    go_ret2
    exact hpr.out 2 hw2.out (by decide) _ hB5.out
  have hwr3 : Hid (wrongM ps style long = if ft = false then 6 else 0) := Lib.hid (by
    rw [hwr2.out, if_neg]
    intro h
    rw [Bool.or_eq_false_iff] at h
    exact hz ⟨by simpa using h.1, h.2⟩)
  by_cases h3 : style = 3
  case' pos =>
    have hfz1 : fz = true := by
      cases fz with
      | true => rfl
      | false => exact absurd ⟨h3, rfl⟩ hz
    subst hfz1
    have h3b : (style == 3) = true := by rw [beq_iff_eq]; exact h3
    have h3h := Lib.hid h3
    obtain ⟨ks, hks0⟩ : ∃ ks, zealD ps = ks := ⟨_, rfl⟩
    have hks : Hid (smallK ks) := Lib.hid (by rw [← hks0]; exact hsmh.out.2)
    have hpm : Hid (wrongM ps style long = 0 → printM ps style long = linesM style long.toNat ks ∧ ∀ p ∈ ks, p.1 = true → p.2.2.2 ≠ [] ∧ p.2.2.2.length ≤ 16) := Lib.hid (fun h => ⟨by unfold printM; rw [if_pos h, if_pos h3, hks0], by
      rw [h3] at h
      rw [← hks0]
      exact (wrongM_none.1 (zeal_right h)).2.1⟩)
    rw [hks0] at hZe hFz
    clear h3 hz hks0
    cases ft
    · go_wp2_with (first
        | (go_at_call 24; refine (hZe.out _ hB3.out).mono ?_; rintro e w4 ⟨A2, n2, c2, vs2, rfl, q1, q2, q3, q4⟩; have hkn := Lib.hid (And.intro q1 q2); have hK4 := Lib.hid (q3 w4 (But.refl _ _)); have hB4 := Lib.hid (hB3.out.trans (q4.mono hB3.out.size)); clear q1 q2 q3 q4)
        | (go_at_call 23; refine (hFz.out A2 n2 c2 vs2 _ hkn.out.1 hkn.out.2 hK4.out).mono ?_; rintro e w5 ⟨rfl, hb5⟩; have hK5 := Lib.hid (hK4.out.up hb5); have hB5 := Lib.hid (hB4.out.trans (hb5.mono hB4.out.size)); clear hb5)
        | (go_at_call 26; refine (hLi.out _ hB5.out).mono ?_; rintro e w6 ⟨A6, n6, c6, rr6, rfl, q1, q2, q3, q4⟩; have hR6 := Lib.hid (And.intro q1 (And.intro q2 q3)); have hK6 := Lib.hid (hK5.out.up q4); have hB6 := Lib.hid (hB5.out.trans (q4.mono hB5.out.size)); clear q1 q2 q3 q4)
        | (go_at_call 25; refine (hFi.out A6 n6 c6 rr6 _ hR6.out.1 hR6.out.2.1 hR6.out.2.2).mono ?_; rintro e w7 ⟨rfl, hb7⟩; have hK7 := Lib.hid (hK6.out.up hb7); have hB7 := Lib.hid (hB6.out.trans (hb7.mono hB6.out.size)); clear hb7))
      go_ret2
      exact hpr.out 6 (by rw [hwr3.out]; rfl) (by decide) _ hB7.out
    go_upto_region 12 with (first
      | (go_at_call 24; refine (hZe.out _ hB3.out).mono ?_; rintro e w4 ⟨A2, n2, c2, vs2, rfl, q1, q2, q3, q4⟩; have hkn := Lib.hid (And.intro q1 q2); have hK4 := Lib.hid (q3 w4 (But.refl _ _)); have hB4 := Lib.hid (hB3.out.trans (q4.mono hB3.out.size)); clear q1 q2 q3 q4)
      | (go_at_call 23; refine (hFz.out A2 n2 c2 vs2 _ hkn.out.1 hkn.out.2 hK4.out).mono ?_; rintro e w5 ⟨rfl, hb5⟩; have hK5 := Lib.hid (hK4.out.up hb5); have hB5 := Lib.hid (hB4.out.trans (hb5.mono hB4.out.size)); clear hb5)
      | (go_at_call 26; refine (hLi.out _ hB5.out).mono ?_; rintro e w6 ⟨A6, n6, c6, rr6, rfl, q1, q2, q3, q4⟩; have hR6 := Lib.hid (And.intro q1 (And.intro q2 q3)); have hK6 := Lib.hid (hK5.out.up q4); have hB6 := Lib.hid (hB5.out.trans (q4.mono hB5.out.size)); clear q1 q2 q3 q4)
      | (go_at_call 25; refine (hFi.out A6 n6 c6 rr6 _ hR6.out.1 hR6.out.2.1 hR6.out.2.2).mono ?_; rintro e w7 ⟨rfl, hb7⟩; have hK7 := Lib.hid (hK6.out.up hb7); have hB7 := Lib.hid (hB6.out.trans (hb7.mono hB6.out.size)); clear hb7))
    clear hK4 hK5 hB4 hB5 h3b h3h
  case' neg =>
    have h3b : (style == 3) = false := by rw [beq_eq_false_iff_ne]; exact h3
    obtain ⟨ks, hks0⟩ : ∃ ks, ps = ks := ⟨_, rfl⟩
    have hks : Hid (smallK ks) := Lib.hid (by rw [← hks0]; exact hsmh.out.1)
    have hpm : Hid (wrongM ps style long = 0 → printM ps style long = linesM style long.toNat ks ∧ ∀ p ∈ ks, p.1 = true → p.2.2.2 ≠ [] ∧ p.2.2.2.length ≤ 16) := Lib.hid (fun h => ⟨by unfold printM; rw [if_pos h, if_neg h3, hks0], by rw [← hks0]; exact (wrongM_none.1 h).2.1⟩)
    have hK3 : Hid (Pcs w3 w3.heap.size A n vs ks) := Lib.hid (by rw [← hks0]; exact hAh.out.up hB3.out)
    clear h3 hz hks0
    cases ft
    · go_wp2_with (first
        | (go_at_call 26; refine (hLi.out _ hB3.out).mono ?_; rintro e w6 ⟨A6, n6, c6, rr6, rfl, q1, q2, q3, q4⟩; have hR6 := Lib.hid (And.intro q1 (And.intro q2 q3)); have hK6 := Lib.hid (hK3.out.up q4); have hB6 := Lib.hid (hB3.out.trans (q4.mono hB3.out.size)); clear q1 q2 q3 q4)
        | (go_at_call 25; refine (hFi.out A6 n6 c6 rr6 _ hR6.out.1 hR6.out.2.1 hR6.out.2.2).mono ?_; rintro e w7 ⟨rfl, hb7⟩; have hK7 := Lib.hid (hK6.out.up hb7); have hB7 := Lib.hid (hB6.out.trans (hb7.mono hB6.out.size)); clear hb7))
      go_ret2
      exact hpr.out 6 (by rw [hwr3.out]; rfl) (by decide) _ hB7.out
    go_upto_region 12 with (first
      | (go_at_call 26; refine (hLi.out _ hB3.out).mono ?_; rintro e w6 ⟨A6, n6, c6, rr6, rfl, q1, q2, q3, q4⟩; have hR6 := Lib.hid (And.intro q1 (And.intro q2 q3)); have hK6 := Lib.hid (hK3.out.up q4); have hB6 := Lib.hid (hB3.out.trans (q4.mono hB3.out.size)); clear q1 q2 q3 q4)
      | (go_at_call 25; refine (hFi.out A6 n6 c6 rr6 _ hR6.out.1 hR6.out.2.1 hR6.out.2.2).mono ?_; rintro e w7 ⟨rfl, hb7⟩; have hK7 := Lib.hid (hK6.out.up hb7); have hB7 := Lib.hid (hB6.out.trans (hb7.mono hB6.out.size)); clear hb7))
    have hkn := hkn0
    obtain ⟨A2, rfl⟩ : ∃ A2, A2 = A := ⟨_, rfl⟩
    obtain ⟨n2, rfl⟩ : ∃ n2, n2 = n := ⟨_, rfl⟩
    obtain ⟨c2, rfl⟩ : ∃ c2, c2 = c := ⟨_, rfl⟩
    obtain ⟨vs2, rfl⟩ : ∃ vs2, vs2 = vs := ⟨_, rfl⟩
    clear hK3 h3b
  all_goals
    have hw0 : Hid (wrongM ps style long = 0) := Lib.hid (by rw [hwr3.out]; rfl)
    obtain ⟨⟨g1, g2, g3, g4⟩, -, -⟩ := hyh.out.1 hw0.out
    obtain ⟨hp1, hp2⟩ := hpm.out hw0.out
    have hp1h := Lib.hid hp1
    have hk16 := Lib.hid hp2
    obtain ⟨lg, rfl⟩ : ∃ lg : Nat, long = (lg : Int) := ⟨long.toNat, by omega⟩
    have hlg2 : lg ≤ 4096 := by omega
    have hkl := hK7.out.len
    have hklh := Lib.hid hkl
    have hn100 : n2 ≤ 100 := by rw [← hkl]; exact hks.out.1.1
    obtain ⟨wb, hwb⟩ : ∃ wb, (style != 1) = wb := ⟨_, rfl⟩
    have hwbh : Hid (wb = decide (style ≠ 1)) := Lib.hid (by rw [← hwb, Bool.eq_iff_iff]; simp)
    obtain ⟨W8, hW8⟩ : ∃ W8, W8 = w7.alloc (.cells #[.int .i64 (lg : Int), .slice none 0 0] 53) := ⟨_, rfl⟩
    have hSh0 : Hid (Sh w7 w7.heap.size W8 lg (.slice none 0 0) []) := Lib.hid (by rw [hW8]; exact ⟨one_a w7 _, ⟨World.ownsRow_nil _ _ _ _, below_alloc (Below.refl _ _) _⟩, Nat.le_refl _⟩)
    have hW8h := Lib.hid hW8
    clear hAk hBd hFo hFz hZe hLi hFi hwr hwr2 hwr3 hpr hpm hp1 hp2 hyh hW8 hkl g1 g2 g3 g4 hsmh hAh hkn0 hB1 hB2 hB3 hB6 hR6 hK6 tok1
    go_upto_region 13 with fail
    rw [← hW8h.out]
    go_wp2
    go_loopw [11, 41] (fun _ s41 wr => ∃ (i : Nat) (v : Value), i ≤ n2 ∧ s41 = .int .i64 i ∧ Hid (Sh w7 w7.heap.size wr lg v (linesM style lg (ks.take i)))) (fun _ s41 _ => n2 - (intOf s41).toNat)
    case atStart => exact ⟨0, _, Nat.zero_le _, rfl, hSh0⟩
    case round =>
      obtain ⟨i, v, hi1, rfl, hO⟩ := hrel
      obtain ⟨wo, rfl⟩ : ∃ wo : World, wo = wr := ⟨_, rfl⟩
      by_cases hlt : i < n2
      · obtain ⟨b, o, cf, At, nt, ct, Ab, nb, cb, As, ns, cs, t, bs, ss, hAe, hb, hv, hp, k1, k2, k3, k4, j1, j2, j3⟩ := hK7.out.at_ (k := i) hlt
        subst hAe
        have i1 : (0 : Int) ≤ (i : Int) := by omega
        have i2 : (i : Int) < (n2 : Int) := by omega
        have hst1 := Lib.hid (lines_take (style := style) (long := lg) hp)
        have hpm := List.mem_of_getElem? hp
        have hsp := hks.out.1.2 _ hpm
        have hs16 := hk16.out _ hpm
        have htx : ∀ d ∈ t :: bs :: ss, ∀ s ∈ d, s.length ≤ 1000000 := fun d hd => hks.out.2 d (mem_lists.2 ⟨_, hpm, by simpa only [List.mem_cons] using hd⟩)
        obtain ⟨y, hy⟩ : ∃ y, linesM style lg (ks.take i) = y := ⟨_, rfl⟩
        have hylen : y.length ≤ 20000000 := by
          have h1 := lines_sum (style := style) (long := lg) (ps := ks.take i) fun p hp => ⟨hks.out.1.2 p (List.mem_of_mem_take hp), fun h => (hk16.out p (List.mem_of_mem_take hp) h).2⟩
          have h2 : (ks.take i).length ≤ i := List.length_take_le _ _
          rw [hy] at h1
          omega
        rw [hy] at hst1 hO
        obtain ⟨hp1, hp2, hp3, hp4⟩ := hsp
        dsimp only at hp1 hp2 hp3 hp4 hs16
        have hBo := hO.out.own.below
        have hszo := hBo.size
        have hbo : b < wo.heap.size := by omega
        have y0 := (hBo.cell (p := ⟨b, o + i * 4, none⟩) hb).trans k1
        have y1 := (hBo.cell (p := ⟨b, o + i * 4 + 1, none⟩) hb).trans k2
        have y2 := (hBo.cell (p := ⟨b, o + i * 4 + 2, none⟩) hb).trans k3
        have y3 := (hBo.cell (p := ⟨b, o + i * 4 + 3, none⟩) hb).trans k4
        have hPu := Lib.hid (putPiece_any w7 w7.heap.size lg cf At Ab As nt ct nb cb ns cs t bs ss style wb v y _ hwbh.out hlg2 hs16 (fun d hd => ⟨by
          rcases List.mem_cons.1 hd with rfl | hd
          · omega
          rcases List.mem_cons.1 hd with rfl | hd
          · omega
          · have := hp3 d hd; omega, htx d hd⟩) hylen (hO.out.up (below_alloc (Below.refl _ _) (.cells #[.bool cf, .slice At nt ct, .slice Ab nb cb, .slice As ns cs] 40))) ⟨j1, j2, j3⟩)
        clear hv hp k1 k2 k3 k4 j1 j2 j3 htx hs16 hy hpm hp1 hp2 hp3 hp4 hylen hBo hszo
        go_wp2_with (go_at_call 27; refine hPu.out.mono ?_; rintro e w9 ⟨rfl, v9, hv9⟩; have hv9h := Lib.hid hv9; clear hv9)
        go_roundw
        case rel => exact ⟨i + 1, v9, by omega, by go_num, Lib.hid (by rw [hst1.out]; exact hv9h.out)⟩
        case measure => simp [intOf]; omega
      · obtain rfl : i = n2 := by omega
        have hOf := hO.out
        rw [List.take_of_length_le (by rw [hklh.out]; exact Nat.le_refl _)] at hOf
        obtain ⟨A9, c9, hv9, l1, l2, hr9⟩ := own_slice hOf.own.own
        subst hv9
        have x1 := hOf.txs_at
        have hfin := Lib.hid (And.intro l1 (And.intro l2 (And.intro hr9 hOf.own.below)))
        clear hOf l1 l2 hr9 hO
        go_wp2
        go_ret2
        exact ⟨A9, _, c9, by rw [hw0.out]; rfl, by rw [hp1h.out]; exact ⟨hfin.out.1, hfin.out.2.1, hfin.out.2.2.1⟩, hB7.out.trans (hfin.out.2.2.2.mono hB7.out.size)⟩
end Go.Proofs.YtcpopnhnihbofaaGreatDoor
