/- Proved here: texts joined: EdNum, EdLin. -/
import Derived.Test.YtdfpifipkchmnaaGreatDoorBa14
import Derived.Test.YtdfpifipkchmnaaGreatDoorBa15
import Derived.Test.YtdfpifipkchmnaaGreatDoorBa17
import Derived.Deep.RegionHeld3
/- Proved here: the contracts of the document's own answers of layer 17: digit, number, lines. -/
namespace Go.Proofs.YtdfpifipkchmnaaGreatDoor
open Go.RowKit
set_option linter.unusedVariables false
set_option maxRecDepth 100000

theorem rDigit_any (c : UInt8) (w : World) : Calls Tryz.prog 37 #[.int .u8 (c.toNat : Int)] w fun e w' => e = .returned (.bool (figB c)) ∧ w' = w := by
  by_cases h1 : 48 ≤ c.toNat
  · by_cases h2 : c.toNat ≤ 57
    · have hf : Hid (figB c = true) := Lib.hid (by unfold figB; simp [h1, h2])
      have x1 : (48 : Int) ≤ (c.toNat : Int) := by omega
      have x2 : (c.toNat : Int) ≤ 57 := by omega
      clear h1 h2
      go_enter Tryz.func37, Tryz.ntmps37
      go_wp2
      go_ret
      exact ⟨ret_bool (by rw [hf.out]), rfl⟩
    · have hf : Hid (figB c = false) := Lib.hid (by unfold figB; simp [h2])
      have x1 : (48 : Int) ≤ (c.toNat : Int) := by omega
      have x2 : ¬ (c.toNat : Int) ≤ 57 := by omega
      clear h1 h2
      go_enter Tryz.func37, Tryz.ntmps37
      go_wp2
      go_ret
      exact ⟨ret_bool (by rw [hf.out]), rfl⟩
  · have hf : Hid (figB c = false) := Lib.hid (by unfold figB; simp [h1])
    have x1 : ¬ (48 : Int) ≤ (c.toNat : Int) := by omega
    clear h1
    go_enter Tryz.func37, Tryz.ntmps37
    go_wp2
    go_ret
    exact ⟨ret_bool (by rw [hf.out]), rfl⟩

theorem u8_small (D : Nat) (h : D ≤ 9) : IntKind.u8.wrap (D : Int) = (D : Int) := by
  have : ∀ d : Fin 10, IntKind.u8.wrap ((d.val : Nat) : Int) = ((d.val : Nat) : Int) := by decide
  exact this ⟨D, by omega⟩
theorem numV_lt : ∀ {k : Nat} {s : Tx}, s.length ≤ k → s.all figB = true → numV s < 10 ^ k
  | k, [], _, _ => by show 0 < 10 ^ k; exact Nat.pow_pos (by decide)
  | 0, c :: s, h, _ => by simp at h
  | k + 1, c :: s, h, ha => by
    obtain ⟨t, d, hd⟩ : ∃ t d, c :: s = t ++ [d] := ⟨(c :: s).dropLast, (c :: s).getLast (by simp), (List.dropLast_concat_getLast (by simp)).symm⟩
    rw [hd] at h ha ⊢
    rw [List.length_append, List.length_singleton] at h
    rw [List.all_append, Bool.and_eq_true] at ha
    have ih := numV_lt (k := k) (s := t) (by omega) ha.1
    have hd9 : d.toNat - 48 ≤ 9 := by
      have := ha.2
      simp [figB] at this
      omega
    rw [numV_snoc, Nat.pow_succ]
    omega
  termination_by k s => k
theorem numE_bad {s : Tx} {k : Nat} {c : UInt8} (hc : s[k]? = some c) (hf : figB c = false) : numE s = -1 := by
  have h : s.all figB = false := by
    cases h : s.all figB with
    | false => rfl
    | true =>
      rw [List.all_eq_true.1 h c (List.mem_of_getElem? hc)] at hf
      cases hf
  unfold numE
  exact if_pos (.inr (.inr (.inr h)))
theorem numE_good {s : Tx} (h0 : s.length ≠ 0) (h9 : s.length ≤ 9) (h1 : ¬ (s.head? = some 48 ∧ 1 < s.length)) (ha : s.all figB = true) : numE s = (numV s : Nat) := by
  unfold numE
  rw [if_neg]
  rintro (h | h | h | h)
  · exact h0 h
  · omega
  · exact h1 h
  · rw [ha] at h; cases h

set_option maxHeartbeats 4000000 in
theorem rNum_any (s : Tx) (w : World) (hs : s.length ≤ 1000000) : Calls Tryz.prog 55 #[.string (str s)] w fun e w' => e = .returned (.int .i64 (numE s)) ∧ w' = w := by
  obtain ⟨S, hS⟩ : ∃ S, str s = S := ⟨_, rfl⟩
  obtain ⟨L, hL⟩ : ∃ L, s.length = L := ⟨_, rfl⟩
  have hz : S.size = L := by rw [← hS, str_size, hL]
  have hat : Hid (∀ k c, s[k]? = some c → ∃ h : k < S.size, S[k]'h = c) := Lib.hid (fun k c hc => by
    have hk : k < S.size := by rw [hz, ← hL]; exact (List.getElem?_eq_some_iff.1 hc).1
    refine ⟨hk, ?_⟩
    have h1 := byte_at S k hk
    have h2 : S.data.toList = s := by rw [← hS, str_data]
    rw [h2, hc] at h1
    injection h1 with h1
    exact h1.symm)
  rw [hS]
  have hD := Lib.hid rDigit_any
  by_cases h0 : L = 0
  · have hr : Hid (numE s = -1) := Lib.hid (by unfold numE; rw [if_pos (.inl (by omega))])
    subst h0
    clear hs hS hL
    go_enter Tryz.func55, Tryz.ntmps55
    go_wp2
    go_ret
    exact ⟨ret_int (by rw [hr.out]), rfl⟩
  · have x0 : ((L : Int) == 0) = false := by rw [beq_eq_false_iff_ne]; omega
    by_cases h9 : 9 < L
    · have hr : Hid (numE s = -1) := Lib.hid (by unfold numE; rw [if_pos (.inr (.inl (by omega)))])
      have x1 : (9 : Int) < (L : Int) := by omega
      clear hs hS hL h0 h9
      go_enter Tryz.func55, Tryz.ntmps55
      go_wp2
      go_ret
      exact ⟨ret_int (by rw [hr.out]), rfl⟩
    · have x1 : ¬ (9 : Int) < (L : Int) := by omega
      obtain ⟨c0, hc0⟩ : ∃ c, s[0]? = some c := ⟨s[0]'(by omega), List.getElem?_eq_getElem _⟩
      obtain ⟨i0, b0⟩ := hat.out 0 c0 hc0
      have hh : s.head? = some c0 := by rw [List.head?_eq_getElem?]; exact hc0
      have x2 : (0 : Int) < (L : Int) := by omega
      have h48 := byte_is (c := c0) (n := 48) (by omega)
      rw [show ((48 : Nat) : Int) = 48 from rfl, show UInt8.ofNat 48 = 48 from rfl] at h48
      have hgo : Hid (¬ (s.head? = some 48 ∧ 1 < s.length) → ∀ k, s.take k = s → s.all figB = true → numE s = (numV (s.take k) : Nat)) := Lib.hid (fun h1 k hk ha => by rw [hk]; exact numE_good (by omega) (by omega) h1 ha)
      have hst : Hid (∀ k c, s[k]? = some c → figB c = true → (s.take k).all figB = true → (s.take (k + 1)).all figB = true ∧ numV (s.take (k + 1)) = 10 * numV (s.take k) + (c.toNat - 48) ∧ numV (s.take k) < 10 ^ 9 ∧ 48 ≤ c.toNat ∧ c.toNat ≤ 57) := Lib.hid (fun k c hc hf ha => by
        refine ⟨?_, ?_, ?_, ?_⟩
        · rw [take_at hc, List.all_append, ha]; simp [hf]
        · rw [take_at hc, numV_snoc]
        · exact numV_lt (by rw [List.length_take]; omega) ha
        · simpa [figB] using hf)
      have hbad := Lib.hid (fun k c => numE_bad (s := s) (k := k) (c := c))
      have hget : Hid (∀ k, k < L → ∃ c, s[k]? = some c) := Lib.hid (fun k hk => ⟨s[k]'(by omega), List.getElem?_eq_getElem _⟩)
      have htk : Hid (s.take L = s) := Lib.hid (List.take_of_length_le (by omega))
      cases hz0 : (c0 == 48) with
      | true =>
        rw [hz0] at h48
        by_cases hl1 : 1 < L
        · have hr : Hid (numE s = -1) := Lib.hid (by
            unfold numE
            rw [if_pos (.inr (.inr (.inl ⟨by rw [hh, beq_iff_eq.1 hz0], by omega⟩)))])
          have x3 : (1 : Int) < (L : Int) := by omega
          clear hs hS hL h0 h9 hc0 hh hz0 hl1
          go_enter Tryz.func55, Tryz.ntmps55
          go_wp2
          go_ret
          exact ⟨ret_int (by rw [hr.out]), rfl⟩
        · have x3 : ¬ (1 : Int) < (L : Int) := by omega
          have hg := Lib.hid (hgo.out (fun h => hl1 (by omega)))
          clear hs hS hL h0 h9 hc0 hh hz0 hgo hl1
          go_enter Tryz.func55, Tryz.ntmps55
          go_wp2
          go_loop [3, 4] (fun sn si => ∃ k : Nat, k ≤ L ∧ si = .int .i64 k ∧ sn = .int .i64 (numV (s.take k) : Nat) ∧ Hid ((s.take k).all figB = true)) (fun _ si => L - (intOf si).toNat)
          case atStart => exact ⟨0, Nat.zero_le _, rfl, rfl, Lib.hid rfl⟩
          case round =>
            obtain ⟨k, hk, rfl, rfl, ha⟩ := hrel
            by_cases hlt : k < L
            · obtain ⟨c, hc⟩ := hget.out k hlt
              obtain ⟨ik, bk⟩ := hat.out k c hc
              have i1 : (0 : Int) ≤ (k : Int) := by omega
              have i2 : (k : Int) < (L : Int) := by omega
              have hDc := Lib.hid (fun W => hD.out c W)
              cases hf : figB c with
              | true =>
                rw [hf] at hDc
                obtain ⟨ha2, hv2, hb9, hc1, hc2⟩ := hst.out k c hc hf ha.out
                obtain ⟨V, hV⟩ : ∃ V, numV (s.take k) = V := ⟨_, rfl⟩
                rw [hV] at hv2 hb9 ⊢
                obtain ⟨D, hDd⟩ : ∃ D, c.toNat - 48 = D := ⟨_, rfl⟩
                obtain ⟨M, hM⟩ : ∃ M, 10 * V = M := ⟨_, rfl⟩
                obtain ⟨T, hT⟩ : ∃ T, M + D = T := ⟨_, rfl⟩
                rw [hM, hDd, hT] at hv2
                have e1 : (10 : Int) * (V : Int) = (M : Int) := by omega
                have e2 : IntKind.i64.wrap (M : Int) = (M : Int) := IntWalk.i64_in _ (by omega)
                have e3 : (c.toNat : Int) - 48 = (D : Int) := by omega
                have e4 : IntKind.u8.wrap (D : Int) = (D : Int) := by
                  exact u8_small D (by omega)
                have e5 : IntKind.i64.wrap (D : Int) = (D : Int) := IntWalk.i64_in _ (by omega)
                have e6 : (M : Int) + (D : Int) = (T : Int) := by omega
                have e7 : IntKind.i64.wrap (T : Int) = (T : Int) := IntWalk.i64_in _ (by omega)
                have e8 : IntKind.i64.wrap ((k : Int) + 1) = (k : Int) + 1 := IntWalk.i64_in _ (by omega)
                have hv2h := Lib.hid hv2
                have ha2h := Lib.hid ha2
                clear hf hv2 ha2 ha hc hb9 hc1 hc2 hV hDd hM hT
                go_wp2_with (go_at_call 37; refine (hDc.out _).mono ?_; rintro e w1 ⟨rfl, hww⟩; subst hww)
                go_round
                case rel => exact ⟨k + 1, by omega, by go_num, by rw [hv2h.out], ha2h⟩
                case measure => simp [intOf]; omega
              | false =>
                rw [hf] at hDc
                have hr := Lib.hid (hbad.out k c hc hf)
                clear hf ha hc
                go_wp2_with (go_at_call 37; refine (hDc.out _).mono ?_; rintro e w1 ⟨rfl, hww⟩; subst hww)
                go_ret
                exact ⟨ret_int (by rw [hr.out]), rfl⟩
            · obtain rfl : k = L := by omega
              have hr : Hid (numE s = (numV (s.take k) : Nat)) := Lib.hid (hg.out k htk.out (by have := ha.out; rw [htk.out] at this; exact this))
              go_wp2
              go_ret
              exact ⟨ret_int (by rw [hr.out]), rfl⟩
      | false =>
        rw [hz0] at h48
        have hg := Lib.hid (hgo.out (fun h => by rw [hh] at h; have := h.1; injection this with this; rw [this] at hz0; cases hz0))
        clear hs hS hL h0 h9 hc0 hh hz0 hgo
        go_enter Tryz.func55, Tryz.ntmps55
        go_wp2
        go_loop [3, 4] (fun sn si => ∃ k : Nat, k ≤ L ∧ si = .int .i64 k ∧ sn = .int .i64 (numV (s.take k) : Nat) ∧ Hid ((s.take k).all figB = true)) (fun _ si => L - (intOf si).toNat)
        case atStart => exact ⟨0, Nat.zero_le _, rfl, rfl, Lib.hid rfl⟩
        case round =>
          obtain ⟨k, hk, rfl, rfl, ha⟩ := hrel
          by_cases hlt : k < L
          · obtain ⟨c, hc⟩ := hget.out k hlt
            obtain ⟨ik, bk⟩ := hat.out k c hc
            have i1 : (0 : Int) ≤ (k : Int) := by omega
            have i2 : (k : Int) < (L : Int) := by omega
            have hDc := Lib.hid (fun W => hD.out c W)
            cases hf : figB c with
            | true =>
              rw [hf] at hDc
              obtain ⟨ha2, hv2, hb9, hc1, hc2⟩ := hst.out k c hc hf ha.out
              obtain ⟨V, hV⟩ : ∃ V, numV (s.take k) = V := ⟨_, rfl⟩
              rw [hV] at hv2 hb9 ⊢
              obtain ⟨D, hDd⟩ : ∃ D, c.toNat - 48 = D := ⟨_, rfl⟩
              obtain ⟨M, hM⟩ : ∃ M, 10 * V = M := ⟨_, rfl⟩
              obtain ⟨T, hT⟩ : ∃ T, M + D = T := ⟨_, rfl⟩
              rw [hM, hDd, hT] at hv2
              have e1 : (10 : Int) * (V : Int) = (M : Int) := by omega
              have e2 : IntKind.i64.wrap (M : Int) = (M : Int) := IntWalk.i64_in _ (by omega)
              have e3 : (c.toNat : Int) - 48 = (D : Int) := by omega
              have e4 : IntKind.u8.wrap (D : Int) = (D : Int) := by
                exact u8_small D (by omega)
              have e5 : IntKind.i64.wrap (D : Int) = (D : Int) := IntWalk.i64_in _ (by omega)
              have e6 : (M : Int) + (D : Int) = (T : Int) := by omega
              have e7 : IntKind.i64.wrap (T : Int) = (T : Int) := IntWalk.i64_in _ (by omega)
              have e8 : IntKind.i64.wrap ((k : Int) + 1) = (k : Int) + 1 := IntWalk.i64_in _ (by omega)
              have hv2h := Lib.hid hv2
              have ha2h := Lib.hid ha2
              clear hf hv2 ha2 ha hc hb9 hc1 hc2 hV hDd hM hT
              go_wp2_with (go_at_call 37; refine (hDc.out _).mono ?_; rintro e w1 ⟨rfl, hww⟩; subst hww)
              go_round
              case rel => exact ⟨k + 1, by omega, by go_num, by rw [hv2h.out], ha2h⟩
              case measure => simp [intOf]; omega
            | false =>
              rw [hf] at hDc
              have hr := Lib.hid (hbad.out k c hc hf)
              clear hf ha hc
              go_wp2_with (go_at_call 37; refine (hDc.out _).mono ?_; rintro e w1 ⟨rfl, hww⟩; subst hww)
              go_ret
              exact ⟨ret_int (by rw [hr.out]), rfl⟩
          · obtain rfl : k = L := by omega
            have hr : Hid (numE s = (numV (s.take k) : Nat)) := Lib.hid (hg.out k htk.out (by have := ha.out; rw [htk.out] at this; exact this))
            go_wp2
            go_ret
            exact ⟨ret_int (by rw [hr.out]), rfl⟩
end Go.Proofs.YtdfpifipkchmnaaGreatDoor
/- Proved here: the contract of the document's own answer of layer 17: lines. -/
namespace Go.Proofs.YtdfpifipkchmnaaGreatDoor
open Go.RowKit
set_option linter.unusedVariables false
set_option maxRecDepth 100000

theorem lines_no44 {s : Tx} (h : s.contains 44 = false) : linesE s = (numE s, numE s) := by unfold linesE; rw [if_pos h]
theorem lines_hit {s : Tx} {k : Nat} (hc : s[k]? = some 44) (h : (s.take k).contains 44 = false) : linesE s = (numE (s.take k), numE (s.drop (k + 1))) := by
  have e : s = s.take k ++ 44 :: s.drop (k + 1) := by
    conv => lhs; rw [← List.take_append_drop k s]
    rw [drop_at hc]
  have hp : ∀ c ∈ s.take k, (c != 44) = true := fun c hcm => by
    have : c ≠ 44 := by
      rintro rfl
      rw [Bool.eq_false_iff] at h
      exact h (List.contains_iff_mem.2 hcm)
    simpa using this
  have h1 : s.contains 44 = true := List.contains_iff_mem.2 (List.mem_of_getElem? hc)
  have h2 : (s.takeWhile fun c => c != 44) = s.take k := by
    conv => lhs; rw [e]
    rw [List.takeWhile_append_of_pos hp]
    simp
  have h3 : (s.dropWhile fun c => c != 44) = 44 :: s.drop (k + 1) := by
    conv => lhs; rw [e]
    rw [List.dropWhile_append_of_pos hp]
    simp
  unfold linesE
  rw [if_neg (by rw [h1]; decide), h2, h3]
  rfl

set_option maxHeartbeats 4000000 in
theorem rLin_any (s : Tx) (w : World) (hs : s.length ≤ 1000000) : Calls Tryz.prog 38 #[.string (str s)] w fun e w' => e = .returned (.tuple #[.int .i64 (linesE s).1, .int .i64 (linesE s).2]) ∧ ∃ q, w' = w.drewN q := by
  have hN : Hid (∀ (t : Tx) (W : World), t.length ≤ 1000000 → Calls Tryz.prog 55 #[.string (str t)] W fun e w' => e = .returned (.int .i64 (numE t)) ∧ ∃ q, w' = W.drewN q) := Lib.hid (fun t W ht => (rNum_any t W ht).mono fun e w' h => ⟨h.1, 0, h.2⟩)
  obtain ⟨S, hS⟩ : ∃ S, str s = S := ⟨_, rfl⟩
  obtain ⟨L, hL⟩ : ∃ L, s.length = L := ⟨_, rfl⟩
  have hz : S.size = L := by rw [← hS, str_size, hL]
  have hat : Hid (∀ k c, s[k]? = some c → ∃ h : k < S.size, S[k]'h = c) := Lib.hid (fun k c hc => by
    have hk : k < S.size := by rw [hz, ← hL]; exact (List.getElem?_eq_some_iff.1 hc).1
    refine ⟨hk, ?_⟩
    have h1 := byte_at S k hk
    have h2 : S.data.toList = s := by rw [← hS, str_data]
    rw [h2, hc] at h1
    injection h1 with h1
    exact h1.symm)
  have hget : Hid (∀ k, k < L → ∃ c, s[k]? = some c) := Lib.hid (fun k hk => ⟨s[k]'(by omega), List.getElem?_eq_getElem _⟩)
  have hsh := Lib.hid hs
  have hSh := Lib.hid hS
  have hLh := Lib.hid hL
  rw [hS]
  clear hs hS hL
  go_enter Tryz.func38, Tryz.ntmps38
  go_wp2
  go_loopw [4] (fun si wr => ∃ k : Nat, k ≤ L ∧ si = .int .i64 k ∧ Hid ((s.take k).contains 44 = false) ∧ wr = w) (fun si _ => L - (intOf si).toNat)
  case atStart => exact ⟨0, Nat.zero_le _, rfl, Lib.hid rfl, rfl⟩
  case round =>
    obtain ⟨k, hk, rfl, ha, rfl⟩ := hrel
    by_cases hlt : k < L
    · obtain ⟨c, hc⟩ := hget.out k hlt
      obtain ⟨ik, bk⟩ := hat.out k c hc
      have i1 : (0 : Int) ≤ (k : Int) := by omega
      have i2 : (k : Int) < (L : Int) := by omega
      have hLb : L ≤ 1000000 := by have := hsh.out; have := hLh.out; omega
      have h44 := byte_is (c := c) (n := 44) (by omega)
      rw [show ((44 : Nat) : Int) = 44 from rfl, show UInt8.ofNat 44 = 44 from rfl] at h44
      cases hz0 : (c == 44) with
      | true =>
        rw [hz0] at h44
        rw [beq_iff_eq.1 hz0] at hc
        have hr := Lib.hid (lines_hit hc ha.out)
        have e8 : IntKind.i64.wrap ((k : Int) + 1) = ((k + 1 : Nat) : Int) := IntWalk.i64_in _ (by omega)
        have hs1 : ∀ W : World, (Instr.slice 9 (.string S) none (some (.int .i64 (k : Int))) none).run Tryz.prog W = .ok (.string (str (s.take k))) W := fun W => by rw [← hSh.out]; exact slice_str_to s k (by rw [hLh.out]; omega) W
        have hs2 : ∀ W : World, (Instr.slice 9 (.string S) (some (.int .i64 ((k : Int) + 1))) none none).run Tryz.prog W = .ok (.string (str (s.drop (k + 1)))) W := fun W => by rw [← hSh.out]; exact slice_str_from s (k + 1) (by rw [hLh.out]; omega) W
        have hn1 := Lib.hid (fun W => hN.out (s.take k) W (by rw [List.length_take]; have := hsh.out; omega))
        have hn2 := Lib.hid (fun W => hN.out (s.drop (k + 1)) W (by rw [List.length_drop]; have := hsh.out; omega))
        obtain ⟨S1, hS1⟩ : ∃ S1, str (s.take k) = S1 := ⟨_, rfl⟩
        obtain ⟨S2, hS2⟩ : ∃ S2, str (s.drop (k + 1)) = S2 := ⟨_, rfl⟩
        obtain ⟨N1, hN1⟩ : ∃ N1, numE (s.take k) = N1 := ⟨_, rfl⟩
        obtain ⟨N2, hN2⟩ : ∃ N2, numE (s.drop (k + 1)) = N2 := ⟨_, rfl⟩
        rw [hS1] at hs1 hn1
        rw [hS2] at hs2 hn2
        rw [hN1] at hn1 hr
        rw [hN2] at hn2 hr
        clear hz0 hc ha hN hS1 hS2 hN1 hN2
        go_wp2
        go_quiet (first | with_reducible exact Calls.quiet_of (hn1.out _) | with_reducible exact Calls.quiet_of (hn2.out _))
        go_wp2
        go_ret2
        rw [hr.out]
        exact ⟨rfl, nq, rfl⟩
      | false =>
        rw [hz0] at h44
        have ha2 : Hid ((s.take (k + 1)).contains 44 = false) := Lib.hid (by
          rw [take_at hc, Bool.eq_false_iff]
          intro h
          rcases List.mem_append.1 (List.contains_iff_mem.1 h) with h | h
          · have := ha.out
            rw [Bool.eq_false_iff] at this
            exact this (List.contains_iff_mem.2 h)
          · rw [← List.mem_singleton.1 h] at hz0
            cases hz0)
        clear hz0 hc ha
        go_wp2
        go_roundw
        case rel => exact ⟨k + 1, by omega, by go_num, ha2, trivial⟩
        case measure => simp [intOf]; omega
    · obtain rfl : k = L := by omega
      have hr := Lib.hid (lines_no44 (by have := ha.out; rw [List.take_of_length_le (by rw [hLh.out]; exact Nat.le_refl _)] at this; exact this))
      have hn1 := Lib.hid (fun W => rNum_any s W hsh.out)
      rw [hSh.out] at hn1
      obtain ⟨N1, hN1⟩ : ∃ N1, numE s = N1 := ⟨_, rfl⟩
      rw [hN1] at hn1 hr
      clear hN hN1
      go_wp2_with (go_at_call 55; refine (hn1.out _).mono ?_; rintro e w1 ⟨rfl, hww⟩; subst hww)
      go_ret2
      rw [hr.out]
      exact ⟨rfl, 0, rfl⟩
end Go.Proofs.YtdfpifipkchmnaaGreatDoor
