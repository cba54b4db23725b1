/- Proved here: texts joined: ContRef, PickCl, PickRef, PcFew. -/
import Derived.Test.YtidfhgocnglnjaaBz06
import Derived.Test.YtidfhgocnglnjaaBz15
import Derived.Test.YtidfhgocnglnjaaBz16
import Derived.Test.YtidfhgocnglnjaaChecked
import Derived.Deep.DeepCutAuto
import Derived.Outline
/- Proved here: the contract of the document's own answer of layer 6: Few. -/
namespace Go.Proofs.Ytidfhgocnglnjaa
open Go.RowKit
set_option linter.unusedVariables false

set_option maxHeartbeats 800000 in
theorem rFew_any (A0 : Option Addr) (n0 c0 B0 : Nat) (base : Txs) (A : Option Addr) (n c B : Nat) (rows : List Slc) (files : List Txs) (w : World) (hn0 : n0 ≤ maxLen) (hn : n ≤ maxLen) (hA0 : Strs w B0 A0 n0 base) (hA : RowsT w B A n rows files) :
    Calls Try.prog 24 #[.slice A0 n0 c0, .slice A n c] w fun e w' => e = .returned (.bool (fewT base files)) ∧ w' = w := by
  have hf := hA.few
  have hl := hA.len
  obtain ⟨fb, hfb⟩ : ∃ fb, fewB base 20 = fb := ⟨_, rfl⟩
  have hF := Few_any A0 n0 c0 20 B0 base w hn0 (by omega) hA0
  rw [hfb] at hF
  have hF' := Lib.hid hF
  have hfbh := Lib.hid hfb
  unfold maxLen at hn
  clear hF hfb hA0
  go_enter Try.func24, Try.ntmps24
  go_wp2
  go_loop [5] (fun i => ∃ k : Nat, k ≤ n ∧ k ≤ 7 ∧ i = .int .i64 k ∧ Hid ((files.take k).all (fun f => fewB f 20) = true)) (fun i => n - (intOf i).toNat)
  case atStart => exact ⟨0, Nat.zero_le _, Nat.zero_le _, rfl, Lib.hid rfl⟩
  case round =>
    obtain ⟨k, hk, hk7, rfl, hq⟩ := hrel
    by_cases hlt : k < n
    · by_cases hm : k < 7
      · obtain ⟨b, o, A', n', c', f, rfl, hb, ht, -, hc, hnc, hcm, hst⟩ := hA.at_ (k := k) hlt
        have hfl : n' ≤ maxLen := by omega
        obtain ⟨g, hg⟩ : ∃ g, fewB f 20 = g := ⟨_, rfl⟩
        have hC := Few_any A' n' c' 20 B f w hfl (by omega) hst
        rw [hg] at hC
        have hC' := Lib.hid hC
        have hg' := Lib.hid hg
        clear hC hg
        cases g
        · go_wp2_with (go_at_call 23; refine hC'.out.mono ?_; rintro e w' ⟨rfl, rfl⟩)
          go_ret
          exact ⟨ret_bool (fewT_no hm ht hg'.out), rfl⟩
        · go_wp2_with (go_at_call 23; refine hC'.out.mono ?_; rintro e w' ⟨rfl, rfl⟩)
          go_round
          case rel => exact ⟨k + 1, by omega, by omega, by go_num, Lib.hid (fewT_step hq.out ht hg'.out)⟩
          case measure => simp [intOf]; omega
      · have hend := Lib.hid (fewT_end (base := base) hl (.inr ⟨by omega, hlt⟩) hq.out)
        have h6 : decide ((n : Int) ≤ 6) = false := by simp; omega
        cases fb
        · go_wp2_with (go_at_call 23; refine hF'.out.mono ?_; rintro e w' ⟨rfl, rfl⟩)
          go_ret
          exact ⟨ret_bool (by rw [← hend.out, hfbh.out]; rfl), rfl⟩
        · go_wp2_with (go_at_call 23; refine hF'.out.mono ?_; rintro e w' ⟨rfl, rfl⟩)
          go_ret
          exact ⟨ret_bool (by rw [← hend.out, hfbh.out]; simp; try omega), rfl⟩
    · obtain rfl : k = n := by omega
      have hend := Lib.hid (fewT_end (base := base) hl (.inl rfl) hq.out)
      cases fb
      · go_wp2_with (go_at_call 23; refine hF'.out.mono ?_; rintro e w' ⟨rfl, rfl⟩)
        all_goals
          go_ret
          exact ⟨ret_bool (by rw [← hend.out, hfbh.out]; rfl), rfl⟩
      · go_wp2_with (go_at_call 23; refine hF'.out.mono ?_; rintro e w' ⟨rfl, rfl⟩)
        all_goals
          go_ret
          exact ⟨ret_bool (by rw [← hend.out, hfbh.out]; simp; try omega), rfl⟩
end Go.Proofs.Ytidfhgocnglnjaa
/- Proved here: the contract of the document's own answer of layer 7: Clean. -/
namespace Go.Proofs.Ytidfhgocnglnjaa
open Go.RowKit
set_option linter.unusedVariables false

theorem clean_no {ps : List Pc} {k : Nat} {p : Pc} (ht : ps[k]? = some p) (h : p.1 = true) : false = cleanB ps := by
  unfold cleanB
  rw [eq_comm, Bool.eq_false_iff, ne_eq, List.all_eq_true]
  intro ha
  have := ha p (List.mem_of_getElem? ht)
  rw [h] at this
  cases this
set_option maxHeartbeats 1000000 in
theorem rClean_any (A : Option Addr) (n c B : Nat) (vs : List PcV) (ps : List Pc) (w : World) (hn : n ≤ maxLen) (hA : Pcs w B A n vs ps) :
    Calls Try.prog 19 #[.slice A n c] w fun e w' => e = .returned (.bool (cleanB ps)) ∧ w' = w := by
  have hl := hA.len
  unfold maxLen at hn
  go_enter Try.func19, Try.ntmps19
  go_wp2
  go_loop [3] (fun i => ∃ k : Nat, k ≤ n ∧ i = .int .i64 k ∧ Hid (∀ (j : Nat) (p : Pc), j < k → ps[j]? = some p → p.1 = false)) (fun i => n - (intOf i).toNat)
  case atStart => exact ⟨0, Nat.zero_le _, rfl, Lib.hid fun j p h => absurd h (by omega)⟩
  case round =>
    obtain ⟨k, hk, rfl, hq⟩ := hrel
    by_cases hlt : k < n
    · obtain ⟨b, o, cf, At, nt, ct, Ab, nb, cb, As, ns, cs, t, bs, ss, rfl, hb, hv, hp, k1, k2, k3, k4, j1, j2, j3⟩ := hA.at_ (k := k) hlt
      have hph := Lib.hid hp
      clear hv hp j1 j2 j3 k2 k3 k4
      cases cf
      · go_wp2
        go_round
        case rel =>
          refine ⟨k + 1, by omega, by go_num, Lib.hid fun j p hj hp => ?_⟩
          rcases Nat.lt_or_ge j k with h | h
          · exact hq.out j p h hp
          · obtain rfl : j = k := by omega
            rw [hph.out] at hp
            injection hp with hp
            rw [← hp]
        case measure => simp [intOf]; omega
      · go_wp2
        go_ret
        exact ⟨ret_bool (clean_no hph.out rfl), rfl⟩
    · obtain rfl : k = n := by omega
      have hc : cleanB ps = true := by
        unfold cleanB
        rw [List.all_eq_true]
        intro p hp
        obtain ⟨j, hj⟩ := List.mem_iff_getElem?.1 hp
        rw [hq.out j p (by have := (List.getElem?_eq_some_iff.1 hj).1; omega) hj]
        rfl
      have hch := Lib.hid hc
      clear hc
      go_wp2
      go_ret
      exact ⟨ret_bool hch.out.symm, rfl⟩
end Go.Proofs.Ytidfhgocnglnjaa
/- Proved here: contracts of the document's own answers of layer 7: Few, Clean, Same. -/
namespace Go.Proofs.Ytidfhgocnglnjaa
open Go.RowKit
set_option linter.unusedVariables false

/-- Few texts in a piece; at most 12 such pieces. -/
def fewP1 (p : Pc) : Bool := fewB p.2.1 20 && fewT p.2.2.1 p.2.2.2
def fewP (ps : List Pc) : Bool := decide (ps.length ≤ 12) && (ps.take 13).all fewP1
theorem fewP_parts {ps : List Pc} (h : fewP ps = true) : ps.length ≤ 12 ∧ ∀ p ∈ ps, fewP1 p = true := by
  unfold fewP at h
  rw [Bool.and_eq_true, decide_eq_true_eq] at h
  refine ⟨h.1, fun p hp => ?_⟩
  have := h.2
  rw [List.take_of_length_le (by omega), List.all_eq_true] at this
  exact this p hp
theorem fewP_step {ps : List Pc} {k : Nat} {p : Pc} (hq : (ps.take k).all fewP1 = true) (ht : ps[k]? = some p) (h : fewP1 p = true) : (ps.take (k + 1)).all fewP1 = true := by
  rw [take_at ht, List.all_append, hq]
  simp [h]
theorem fewP_no {ps : List Pc} {k : Nat} {p : Pc} (hk : k < 13) (ht : ps[k]? = some p) (h : fewP1 p = false) : false = fewP ps := by
  unfold fewP
  have hm : p ∈ ps.take 13 := List.mem_of_getElem? (i := k) (by rw [List.getElem?_take]; rw [if_pos hk]; exact ht)
  rw [eq_comm, Bool.and_eq_false_iff]
  right
  rw [Bool.eq_false_iff, ne_eq, List.all_eq_true]
  intro ha
  rw [ha p hm] at h
  cases h
theorem fewP_end {ps : List Pc} {k n : Nat} (hl : ps.length = n) (h : k = n ∨ 13 ≤ k ∧ k < n) (hq : (ps.take k).all fewP1 = true) : decide (n ≤ 12) = fewP ps := by
  unfold fewP
  rw [hl]
  by_cases hm : n ≤ 12
  · have : k = n := by omega
    subst this
    rw [List.take_of_length_le (by omega)] at hq
    rw [List.take_of_length_le (by omega), hq]
    simp
  · simp [hm]

set_option maxRecDepth 100000 in
set_option maxHeartbeats 2000000 in
theorem pFew_any (A : Option Addr) (n c B : Nat) (vs : List PcV) (ps : List Pc) (w : World) (hn : n ≤ maxLen) (hA : Pcs w B A n vs ps) :
    Calls Try.prog 9 #[.slice A n c] w fun e w' => e = .returned (.bool (fewP ps)) ∧ ∃ q, w' = w.drewN q := by
  have hl := hA.len
  have hAh := Lib.hid hA
  unfold maxLen at hn
  clear hA
  go_enter Try.func9, Try.ntmps9
  go_wp2
  go_loopw [3] (fun i wr => ∃ k : Nat, k ≤ n ∧ k ≤ 13 ∧ i = .int .i64 k ∧ Hid ((ps.take k).all fewP1 = true) ∧ Hid (∃ q, wr = w.drewN q)) (fun i _ => n - (intOf i).toNat)
  case atStart => exact ⟨0, Nat.zero_le _, Nat.zero_le _, rfl, Lib.hid rfl, Lib.hid ⟨0, rfl⟩⟩
  case round =>
    obtain ⟨k, hk, hk13, rfl, hq, hw⟩ := hrel
    obtain ⟨wo, rfl⟩ : ∃ wo : World, wo = wr := ⟨_, rfl⟩
    have hAo : Hid (Pcs wo B A n vs ps) := Lib.hid (by obtain ⟨q, rfl⟩ := hw.out; exact hAh.out.drewN q)
    by_cases hlt : k < n
    · by_cases hm : k < 13
      · obtain ⟨b, o, cf, At, nt, ct, Ab, nb, cb, As, ns, cs, t, bs, ss, rfl, hb, hv, hp, k1, k2, k3, k4, j1, j2, j3, j4, rr, j5⟩ := hAo.out.at_ (k := k) hlt
        have i1 : (0 : Int) ≤ (k : Int) := by omega
        have i2 : (k : Int) < (n : Int) := by omega
        have i3 : (k : Int) < 13 := by omega
        obtain ⟨f1, hf1⟩ : ∃ f1, fewB t 20 = f1 := ⟨_, rfl⟩
        obtain ⟨f2, hf2⟩ : ∃ f2, fewT bs ss = f2 := ⟨_, rfl⟩
        have hF1 : Hid (∀ j, Calls Try.prog 23 #[.slice At nt ct, .int .i64 20] (wo.drewN j) fun e w' => e = .returned (.bool f1) ∧ ∃ q, w' = (wo.drewN j).drewN q) := Lib.hid (fun j => by
          rw [← hf1]
          exact (Few_any At nt ct 20 B t (wo.drewN j) (Nat.le_trans j1.1 j1.2.1) (by omega) (j1.2.2.drewN j)).mono fun e w' h => ⟨h.1, 0, h.2.symm⟩)
        have hF2 : Hid (∀ j, Calls Try.prog 24 #[.slice Ab nb cb, .slice As ns cs] (wo.drewN j) fun e w' => e = .returned (.bool f2) ∧ ∃ q, w' = (wo.drewN j).drewN q) := Lib.hid (fun j => by
          rw [← hf2]
          exact (rFew_any Ab nb cb B bs As ns cs B rr ss (wo.drewN j) (Nat.le_trans j2.1 j2.2.1) (Nat.le_trans j3 j4) (j2.2.2.drewN j) (j5.drewN j)).mono fun e w' h => ⟨h.1, 0, h.2⟩)
        have h1 : Hid (fewP1 (cf, t, bs, ss) = (f1 && f2)) := Lib.hid (by unfold fewP1; rw [← hf1, ← hf2])
        have hph := Lib.hid hp
        clear hv hp hf1 hf2 j1 j2 j5
        cases f1
        · go_wp2
          go_quiet ((first | (go_at_call 23; exact Calls.quiet_of (hF1.out _)) | (go_at_call 24; exact Calls.quiet_of (hF2.out _))))
          obtain ⟨z1, rfl⟩ : ∃ z1, z1 = nq := ⟨_, rfl⟩
          go_wp2
          go_ret
          exact ⟨ret_bool (fewP_no hm hph.out h1.out), by obtain ⟨q, rfl⟩ := hw.out; exact ⟨_, World.drewN_drewN _ _ _⟩⟩
        · cases f2
          · go_wp2
            go_quiet ((first | (go_at_call 23; exact Calls.quiet_of (hF1.out _)) | (go_at_call 24; exact Calls.quiet_of (hF2.out _))))
            obtain ⟨z1, rfl⟩ : ∃ z1, z1 = nq := ⟨_, rfl⟩
            go_wp2
            go_ret
            exact ⟨ret_bool (fewP_no hm hph.out h1.out), by obtain ⟨q, rfl⟩ := hw.out; exact ⟨_, World.drewN_drewN _ _ _⟩⟩
          · go_wp2
            go_quiet ((first | (go_at_call 23; exact Calls.quiet_of (hF1.out _)) | (go_at_call 24; exact Calls.quiet_of (hF2.out _))))
            obtain ⟨z1, rfl⟩ : ∃ z1, z1 = nq := ⟨_, rfl⟩
            go_wp2
            go_roundw
            case rel => exact ⟨k + 1, by omega, by omega, by go_num, Lib.hid (fewP_step hq.out hph.out h1.out), Lib.hid (by obtain ⟨q, rfl⟩ := hw.out; exact ⟨_, World.drewN_drewN _ _ _⟩)⟩
            case measure => simp [intOf]; omega
      · have hend := Lib.hid (fewP_end hl (.inr ⟨by omega, hlt⟩) hq.out)
        go_wp2
        go_ret
        exact ⟨ret_bool (by rw [← hend.out]; simp; try omega), hw.out⟩
    · obtain rfl : k = n := by omega
      have hend := Lib.hid (fewP_end hl (.inl rfl) hq.out)
      go_wp2
      all_goals
        go_ret
        exact ⟨ret_bool (by rw [← hend.out]; simp; try omega), hw.out⟩
end Go.Proofs.Ytidfhgocnglnjaa
/- Proved here, without conditions on the program: of few texts in pieces: how many are chosen, how many there are. -/
namespace Go.Proofs.Ytidfhgocnglnjaa
open Go.RowKit
set_option linter.unusedVariables false

/-- Pieces that came in. -/
def ArgPcs (w : World) (A : Option Addr) (n c : Nat) (vs : List PcV) (ps : List Pc) : Prop := n ≤ c ∧ c ≤ maxLen ∧ Pcs w w.heap.size A n vs ps

theorem fewP1_text {p : Pc} (h : fewP1 p = true) : p.2.1.length ≤ 20 := by
  unfold fewP1 at h
  rw [Bool.and_eq_true] at h
  exact fewB_len h.1
theorem fewP1_side {p : Pc} (h : fewP1 p = true) : ∀ s ∈ p.2.2.2, s.length ≤ 20 := by
  unfold fewP1 at h
  rw [Bool.and_eq_true] at h
  exact fun s hs => (fewT_parts h.2).2.2 s hs
theorem chosen_few {p : Pc} (z : Int) (h : fewP1 p = true) : (chosen z p).length ≤ 20 := by
  unfold chosen
  split
  · split
    · cases hs : p.2.2.2[(z - 1).toNat]? with
      | none => simp
      | some s => exact fewP1_side h s (List.mem_of_getElem? hs)
    · simp
  · exact fewP1_text h
theorem choose_few (z : Int) : ∀ {ps : List Pc}, (∀ p ∈ ps, fewP1 p = true) → (choose ps z).length ≤ ps.length * 20
  | [], _ => by simp [choose]
  | p :: ps, h => by
    have h1 := choose_few z (ps := ps) fun q hq => h q (List.mem_cons_of_mem _ hq)
    have h2 := chosen_few z (h p (List.mem_cons_self ..))
    unfold choose at h1 ⊢
    rw [List.flatMap_cons, List.length_append, List.length_cons]
    omega
theorem smallN_few {ps : List Pc} (h : ∀ p ∈ ps, fewP1 p = true) : smallN ps := by
  intro p hp
  have h1 := h p hp
  unfold fewP1 at h1
  rw [Bool.and_eq_true] at h1
  obtain ⟨a1, a2, a3⟩ := fewT_parts h1.2
  refine ⟨by omega, fun d hd => ?_⟩
  rcases List.mem_cons.1 hd with rfl | hd
  · omega
  · have := a3 d hd
    omega
theorem sumT_few : ∀ {ps : List Pc}, (∀ p ∈ ps, fewP1 p = true) → sumT ps ≤ ps.length * 20
  | [], _ => by simp [sumT]
  | p :: ps, h => by
    have h1 := sumT_few (ps := ps) fun q hq => h q (List.mem_cons_of_mem _ hq)
    have h2 := fewP1_text (h p (List.mem_cons_self ..))
    rw [sumT_cons, List.length_cons]
    omega
theorem joinT_len (t : Txs) : ∀ r : List Pc, (joinT t r).length ≤ r.length + 1
  | [] => by by_cases h : t = [] <;> simp [joinT, h]
  | (false, x, b, s) :: r => by simp [joinT]
  | (true, x, b, s) :: r => by by_cases h : t = [] <;> simp [joinT, h]
theorem normal_len : ∀ ps : List Pc, (normal ps).length ≤ ps.length
  | [] => by simp [normal]
  | (true, _, b, s) :: l => by simpa [normal] using normal_len l
  | (false, t, _, _) :: l => by
    have h1 := normal_len l
    have h2 := joinT_len t (normal l)
    rw [normal, List.length_cons]
    omega
end Go.Proofs.Ytidfhgocnglnjaa
