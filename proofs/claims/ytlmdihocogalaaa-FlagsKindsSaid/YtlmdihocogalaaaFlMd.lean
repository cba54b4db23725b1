/- Proved here: the contract of the landed flags.marked. -/
import Derived.Test.YtlmdihocogalaaaFlPut
import Derived.Test.YtlmdihocogalaaaClonT
import Derived.Laws.EntriesVeiled
namespace Go.Proofs.Ytlmdihocogalaaa
open Go.RowKit
set_option linter.unusedVariables false
set_option maxRecDepth 100000

/-- The texts of marked as one puts them one behind the other. -/
theorem shown_parts (b : Bool) (mine older yours : Txs) : shownF b mine older yours = (([] ++ (([60, 60, 60, 60, 60, 60, 60] ++ [] ++ wordM ++ [10]) :: closed mine)) ++ (if b = true then ([124, 124, 124, 124, 124, 124, 124] ++ exF mine ++ wordO ++ [10]) :: closed older else [])) ++ (([61, 61, 61, 61, 61, 61, 61] ++ exF (if b = true then older else mine) ++ [] ++ [10]) :: closed yours) ++ (([62, 62, 62, 62, 62, 62, 62] ++ exF yours ++ wordY ++ [10]) :: closed []) := by
  unfold shownF markT exF
  cases b
  · simp [closed, openB, List.replicate]
  · simp [closed, openB, List.replicate]
theorem closed_lenX {d : Txs} : (closed d).length = d.length := closed_len d

/-- One more list is put. -/
theorem MfOut.go {w0 : World} {Bl Be : Nat} {w' : World} {zs : Txs} {ex : Tx} (h : MfOut w0 Bl Be w' zs ex) (S N : Tx) (A : Option Addr) (n c : Nat) (d : Txs) (hT : TxR w0 w0.heap.size (A, n, c) d) (hd : smallX d) (hx : zs.length ≤ 100000000) (hS : S.length ≤ 1000) (hN : N.length ≤ 1000) (he : ex.length ≤ 1000) :
    Calls Try.prog 28 #[.string (str S), .string (str N), .slice A n c, .pointer (some ⟨Bl, 0, none⟩), .pointer (some ⟨Be, 0, none⟩)] w' fun e w' => e = .returned (.tuple #[]) ∧ MfOut w0 Bl Be w' (zs ++ (S ++ ex ++ N ++ [10]) :: closed d) (exF d) := by
  obtain ⟨v, hv⟩ := h
  exact putF_any w0 Bl Be S N A n c v zs d ex w' hv hT hd hx hS hN he

theorem exF_len (d : Txs) : (exF d).length ≤ 1000 := by unfold exF; split <;> simp
theorem mf_start (w : World) : MfOut w w.heap.size (w.heap.size + 1) ((w.alloc (.cells #[.slice none 0 0] 22)).alloc (.cells #[.string (str [])] 9)) [] [] := by
  obtain ⟨k1, k2⟩ := two_a w (.cells #[.slice none 0 0] 22) (.cells #[.string (str [])] 9)
  exact ⟨.slice none 0 0, k1, k2, ⟨World.ownsRow_nil _ _ _ _, below_alloc (below_alloc (Below.refl _ _) _) _⟩, by simp [Value.ownBlock], Nat.le_refl _, Nat.le_succ _⟩
theorem MfOut.end_ {w0 : World} {Bl Be : Nat} {w' : World} {zs : Txs} {ex : Tx} (h : MfOut w0 Bl Be w' zs ex) : ∃ A n c, w'.cell? ⟨Bl, 0, none⟩ = some (.slice A n c) ∧ TxsOut w0 w' (.returned (.slice A n c)) zs := by
  obtain ⟨v, hM⟩ := h
  have h2 := hM.own.out
  obtain ⟨A, c, rfl, -, -, -⟩ := own_slice hM.own.own
  exact ⟨A, _, c, hM.bl.cell, h2⟩

set_option maxHeartbeats 4000000 in
theorem marked_any (b : Bool) (A0 : Option Addr) (n0 c0 : Nat) (mine : Txs) (A1 : Option Addr) (n1 c1 : Nat) (older : Txs) (A2 : Option Addr) (n2 c2 : Nat) (yours : Txs) (w : World) (hm : smallX mine) (ho : smallX older) (hy : smallX yours)
    (h0 : TxR w w.heap.size (A0, n0, c0) mine) (h1 : TxR w w.heap.size (A1, n1, c1) older) (h2 : TxR w w.heap.size (A2, n2, c2) yours) :
    Calls Try.prog 24 #[.slice A0 n0 c0, .slice A1 n1 c1, .slice A2 n2 c2, .bool b] w fun e w' => TxsOut w w' e (shownF b mine older yours) := by
  have hparts := shown_parts b mine older yours
  have hs : smallX ([] : Txs) := ⟨Nat.zero_le _, fun s h => by cases h⟩
  have hN : TxR w w.heap.size (none, 0, 0) [] := ⟨Nat.le_refl _, Nat.zero_le _, rfl, fun h => absurd h (Nat.lt_irrefl 0)⟩
  obtain ⟨Z1, hZ1⟩ : ∃ Z1, ([] : Txs) ++ (([60, 60, 60, 60, 60, 60, 60] ++ [] ++ wordM ++ [10]) :: closed mine) = Z1 := ⟨_, rfl⟩
  rw [hZ1] at hparts
  have l1 : Z1.length ≤ 1000000 := by rw [← hZ1]; have := hm.1; simp [closed_lenX]; omega
  have hC0 := Lib.hid (mf_start w)
  have hgo1 : Hid (∀ W, MfOut w w.heap.size (w.heap.size + 1) W [] [] → Calls Try.prog 28 #[.string (str [60, 60, 60, 60, 60, 60, 60]), .string (str wordM), .slice A0 n0 c0, .pointer (some ⟨w.heap.size, 0, none⟩), .pointer (some ⟨w.heap.size + 1, 0, none⟩)] W fun e w' => e = .returned (.tuple #[]) ∧ MfOut w w.heap.size (w.heap.size + 1) w' Z1 (exF mine)) := Lib.hid (fun W h => by
    have := h.go [60, 60, 60, 60, 60, 60, 60] wordM A0 n0 c0 mine h0 hm (by simp) (by simp) (by simp [wordM]) (by simp)
    rw [hZ1] at this
    exact this)
  have tok1 := trivial
  cases b
  · rw [if_neg (by decide), if_neg (by decide), List.append_nil] at hparts
    obtain ⟨Z2, hZ2⟩ : ∃ Z2, Z1 ++ (([61, 61, 61, 61, 61, 61, 61] ++ exF mine ++ [] ++ [10]) :: closed yours) = Z2 := ⟨_, rfl⟩
    rw [hZ2] at hparts
    have l2 : Z2.length ≤ 2000000 := by rw [← hZ2]; have := hy.1; simp [closed_lenX]; omega
    have hgo2 : Hid (∀ W, MfOut w w.heap.size (w.heap.size + 1) W Z1 (exF mine) → Calls Try.prog 28 #[.string (str [61, 61, 61, 61, 61, 61, 61]), .string (str []), .slice A2 n2 c2, .pointer (some ⟨w.heap.size, 0, none⟩), .pointer (some ⟨w.heap.size + 1, 0, none⟩)] W fun e w' => e = .returned (.tuple #[]) ∧ MfOut w w.heap.size (w.heap.size + 1) w' Z2 (exF yours)) := Lib.hid (fun W h => by
      have := h.go [61, 61, 61, 61, 61, 61, 61] [] A2 n2 c2 yours h2 hy (by omega) (by simp) (by simp) (exF_len _)
      rw [hZ2] at this
      exact this)
    have hgo3 : Hid (∀ W, MfOut w w.heap.size (w.heap.size + 1) W Z2 (exF yours) → Calls Try.prog 28 #[.string (str [62, 62, 62, 62, 62, 62, 62]), .string (str wordY), .slice none 0 0, .pointer (some ⟨w.heap.size, 0, none⟩), .pointer (some ⟨w.heap.size + 1, 0, none⟩)] W fun e w' => e = .returned (.tuple #[]) ∧ MfOut w w.heap.size (w.heap.size + 1) w' (shownF false mine older yours) (exF [])) := Lib.hid (fun W h => by
      have := h.go [62, 62, 62, 62, 62, 62, 62] wordY none 0 0 [] hN hs (by omega) (by simp) (by simp [wordY]) (exF_len _)
      rw [← hparts] at this
      exact this)
    obtain ⟨R, hR⟩ : ∃ R, shownF false mine older yours = R := ⟨_, rfl⟩
    rw [hR] at hgo3 ⊢
    clear hparts hs hN hZ1 hZ2 l1 l2 hR h0 h1 h2 hm ho hy
    go_enter Try.func24, Try.ntmps24
    go_wp2_with (first
      | (go_at_call 28; have _t := tok1; refine (hgo1.out _ hC0.out).mono ?_; rintro e w1 ⟨rfl, hM⟩; have hC1 := Lib.hid hM; have tok2 := trivial; clear tok1 hM)
      | (go_at_call 28; have _t := tok2; refine (hgo2.out _ hC1.out).mono ?_; rintro e w2 ⟨rfl, hM⟩; have hC2 := Lib.hid hM; have tok3 := trivial; clear tok2 hM)
      | (go_at_call 28; have _t := tok3; refine (hgo3.out _ hC2.out).mono ?_; rintro e w3 ⟨rfl, hM⟩; obtain ⟨A, n, c, x0, hf⟩ := hM.end_; have hfh := Lib.hid hf; clear tok3 hM hf))
    go_ret
    exact hfh.out
  · rw [if_pos rfl, if_pos rfl] at hparts
    obtain ⟨Z2, hZ2⟩ : ∃ Z2, Z1 ++ (([124, 124, 124, 124, 124, 124, 124] ++ exF mine ++ wordO ++ [10]) :: closed older) = Z2 := ⟨_, rfl⟩
    rw [hZ2] at hparts
    have l2 : Z2.length ≤ 2000000 := by rw [← hZ2]; have := ho.1; simp [closed_lenX]; omega
    obtain ⟨Z3, hZ3⟩ : ∃ Z3, Z2 ++ (([61, 61, 61, 61, 61, 61, 61] ++ exF older ++ [] ++ [10]) :: closed yours) = Z3 := ⟨_, rfl⟩
    rw [hZ3] at hparts
    have l3 : Z3.length ≤ 3000000 := by rw [← hZ3]; have := hy.1; simp [closed_lenX]; omega
    have hgo2 : Hid (∀ W, MfOut w w.heap.size (w.heap.size + 1) W Z1 (exF mine) → Calls Try.prog 28 #[.string (str [124, 124, 124, 124, 124, 124, 124]), .string (str wordO), .slice A1 n1 c1, .pointer (some ⟨w.heap.size, 0, none⟩), .pointer (some ⟨w.heap.size + 1, 0, none⟩)] W fun e w' => e = .returned (.tuple #[]) ∧ MfOut w w.heap.size (w.heap.size + 1) w' Z2 (exF older)) := Lib.hid (fun W h => by
      have := h.go [124, 124, 124, 124, 124, 124, 124] wordO A1 n1 c1 older h1 ho (by omega) (by simp) (by simp [wordO]) (exF_len _)
      rw [hZ2] at this
      exact this)
    have hgo3 : Hid (∀ W, MfOut w w.heap.size (w.heap.size + 1) W Z2 (exF older) → Calls Try.prog 28 #[.string (str [61, 61, 61, 61, 61, 61, 61]), .string (str []), .slice A2 n2 c2, .pointer (some ⟨w.heap.size, 0, none⟩), .pointer (some ⟨w.heap.size + 1, 0, none⟩)] W fun e w' => e = .returned (.tuple #[]) ∧ MfOut w w.heap.size (w.heap.size + 1) w' Z3 (exF yours)) := Lib.hid (fun W h => by
      have := h.go [61, 61, 61, 61, 61, 61, 61] [] A2 n2 c2 yours h2 hy (by omega) (by simp) (by simp) (exF_len _)
      rw [hZ3] at this
      exact this)
    have hgo4 : Hid (∀ W, MfOut w w.heap.size (w.heap.size + 1) W Z3 (exF yours) → Calls Try.prog 28 #[.string (str [62, 62, 62, 62, 62, 62, 62]), .string (str wordY), .slice none 0 0, .pointer (some ⟨w.heap.size, 0, none⟩), .pointer (some ⟨w.heap.size + 1, 0, none⟩)] W fun e w' => e = .returned (.tuple #[]) ∧ MfOut w w.heap.size (w.heap.size + 1) w' (shownF true mine older yours) (exF [])) := Lib.hid (fun W h => by
      have := h.go [62, 62, 62, 62, 62, 62, 62] wordY none 0 0 [] hN hs (by omega) (by simp) (by simp [wordY]) (exF_len _)
      rw [← hparts] at this
      exact this)
    obtain ⟨R, hR⟩ : ∃ R, shownF true mine older yours = R := ⟨_, rfl⟩
    rw [hR] at hgo4 ⊢
    clear hparts hs hN hZ1 hZ2 hZ3 l1 l2 l3 hR h0 h1 h2 hm ho hy
    go_enter Try.func24, Try.ntmps24
    go_wp2_with (first
      | (go_at_call 28; have _t := tok1; refine (hgo1.out _ hC0.out).mono ?_; rintro e w1 ⟨rfl, hM⟩; have hC1 := Lib.hid hM; have tok2 := trivial; clear tok1 hM)
      | (go_at_call 28; have _t := tok2; refine (hgo2.out _ hC1.out).mono ?_; rintro e w2 ⟨rfl, hM⟩; have hC2 := Lib.hid hM; have tok3 := trivial; clear tok2 hM)
      | (go_at_call 28; have _t := tok3; refine (hgo3.out _ hC2.out).mono ?_; rintro e w3 ⟨rfl, hM⟩; have hC3 := Lib.hid hM; have tok4 := trivial; clear tok3 hM)
      | (go_at_call 28; have _t := tok4; refine (hgo4.out _ hC3.out).mono ?_; rintro e w4 ⟨rfl, hM⟩; obtain ⟨A, n, c, x0, hf⟩ := hM.end_; have hfh := Lib.hid hf; clear tok4 hM hf))
    go_ret
    exact hfh.out

end Go.Proofs.Ytlmdihocogalaaa
