/- Proved here: the contract of the landed flags.Result; all that the statements ask of package flags. -/
import Derived.Test.YtlmdihocogalaaaFlFn
import Derived.Test.YtlmdihocogalaaaFlMd
namespace Go.Proofs.Ytlmdihocogalaaa
open Go.RowKit
set_option linter.unusedVariables false
set_option maxRecDepth 100000

theorem result_cases (c : UInt8) (mine older yours : Txs) : ∃ k : Nat, doesF c (kindF mine older yours : Nat) = k ∧ k ≤ 3 ∧ resultF c mine older yours = if k = 0 then mine else if k = 1 then yours else if k = 2 then shownF false mine older yours else shownF true mine older yours := by
  refine ⟨_, rfl, does_le, ?_⟩
  have h := does_le (c := c) (k := (kindF mine older yours : Nat))
  unfold resultF
  generalize doesF c (kindF mine older yours : Nat) = k at *
  match k, h with
  | 0, _ => rfl
  | 1, _ => rfl
  | 2, _ => rfl
  | 3, _ => rfl
theorem TxsOut.low {w0 w w' : World} {e : Ending} {xs : Txs} (h : TxsOut w w' e xs) (hb : Below w0.heap.size w0 w) : TxsOut w0 w' e xs := by
  obtain ⟨A, n, c, rfl, h1, h2⟩ := h
  exact ⟨A, n, c, rfl, h1, hb.trans (h2.mono hb.size)⟩

set_option maxHeartbeats 4000000 in
theorem result_anyL : FlagResultOk := by
  intro c A0 n0 c0 mine A1 n1 c1 older A2 n2 c2 yours w hm ho hy h0 h1 h2
  obtain ⟨k, hk, hk3, hres⟩ := result_cases c mine older yours
  have hK := Lib.hid (kind_anyL A0 n0 c0 mine A1 n1 c1 older A2 n2 c2 yours w hm ho hy h0 h1 h2)
  have hD : Hid (∀ W, Below w.heap.size w W → Calls Try.prog 14 #[.int .u8 (c.toNat : Int), .int .i64 (kindF mine older yours : Nat)] W fun e w' => e = .returned (.int .i64 (k : Nat)) ∧ Below w.heap.size w w') := Lib.hid (fun W hW => by
    have := does_any c (kindF mine older yours : Nat) W (by have := kind_le (mine := mine) (older := older) (yours := yours); unfold inR64; omega)
    rw [hk] at this
    exact this.mono fun e w' h => ⟨h.1, hW.trans (h.2.mono hW.size)⟩)
  have hCl : Hid (∀ (A : Option Addr) (n c : Nat) (d : Txs) (W : World), smallX d → Below w.heap.size w W → TxR w w.heap.size (A, n, c) d → Calls Try.prog 23 #[.slice A n c] W fun e w' => TxsOut w w' e d) := Lib.hid (fun A n c d W hd hW hT => by
    refine (cloneT_any A n c W.heap.size d W (by have := hd.1; have := hT.2.2.len; simp only at this; omega) (Nat.le_refl _) (hT.up hW).2.2).mono fun e w' h => ?_
    obtain ⟨v, rfl, h⟩ := h
    exact h.out.low hW)
  have hMk : Hid (∀ (b : Bool) (W : World), Below w.heap.size w W → Calls Try.prog 24 #[.slice A0 n0 c0, .slice A1 n1 c1, .slice A2 n2 c2, .bool b] W fun e w' => TxsOut w w' e (shownF b mine older yours)) := Lib.hid (fun b W hW => (marked_any b A0 n0 c0 mine A1 n1 c1 older A2 n2 c2 yours W hm ho hy (h0.up hW) (h1.up hW) (h2.up hW)).mono fun e w' h => h.low hW)
  have hCm : Hid (∀ W, Below w.heap.size w W → Calls Try.prog 23 #[.slice A0 n0 c0] W fun e w' => TxsOut w w' e mine) := Lib.hid (fun W hW => hCl.out _ _ _ _ W hm hW h0)
  have hCy : Hid (∀ W, Below w.heap.size w W → Calls Try.prog 23 #[.slice A2 n2 c2] W fun e w' => TxsOut w w' e yours) := Lib.hid (fun W hW => hCl.out _ _ _ _ W hy hW h2)
  obtain ⟨C, hC⟩ : ∃ C : Int, (c.toNat : Int) = C := ⟨_, rfl⟩
  obtain ⟨Kd, hKd⟩ : ∃ Kd : Int, ((kindF mine older yours : Nat) : Int) = Kd := ⟨_, rfl⟩
  obtain ⟨Y, hY⟩ : ∃ Y, shownF false mine older yours = Y := ⟨_, rfl⟩
  obtain ⟨X, hX⟩ : ∃ X, shownF true mine older yours = X := ⟨_, rfl⟩
  have hMf := Lib.hid (hMk.out false)
  have hMt := Lib.hid (hMk.out true)
  rw [hY] at hMf
  rw [hX] at hMt
  rw [hres, hX, hY, hC]
  rw [hC, hKd] at hD
  rw [hKd] at hK
  clear hMk hCl hX hY hKd hC hk hres h0 h1 h2 hm ho hy
  obtain (rfl | rfl | rfl | rfl) : k = 0 ∨ k = 1 ∨ k = 2 ∨ k = 3 := by omega
  · clear hk3
    go_enter Try.func17, Try.ntmps17
    go_wp2_with (first
      | (go_at_call 10; refine hK.out.mono ?_; rintro e w1 ⟨rfl, hb⟩; have hB1 := Lib.hid hb; clear hb)
      | (go_at_call 14; refine (hD.out _ hB1.out).mono ?_; rintro e w2 ⟨rfl, hb⟩; have hB2 := Lib.hid hb; clear hb)
      | (go_at_call 23; refine (hCm.out _ hB2.out).mono ?_; rintro e w3 ⟨A, n, c, rfl, hf⟩; have hfh := Lib.hid hf; clear hf))
    go_ret
    exact ⟨A, n, c, rfl, hfh.out⟩
  · clear hk3
    go_enter Try.func17, Try.ntmps17
    go_wp2_with (first
      | (go_at_call 10; refine hK.out.mono ?_; rintro e w1 ⟨rfl, hb⟩; have hB1 := Lib.hid hb; clear hb)
      | (go_at_call 14; refine (hD.out _ hB1.out).mono ?_; rintro e w2 ⟨rfl, hb⟩; have hB2 := Lib.hid hb; clear hb)
      | (go_at_call 23; refine (hCy.out _ hB2.out).mono ?_; rintro e w3 ⟨A, n, c, rfl, hf⟩; have hfh := Lib.hid hf; clear hf))
    go_ret
    exact ⟨A, n, c, rfl, hfh.out⟩
  · clear hk3
    go_enter Try.func17, Try.ntmps17
    go_wp2_with (first
      | (go_at_call 10; refine hK.out.mono ?_; rintro e w1 ⟨rfl, hb⟩; have hB1 := Lib.hid hb; clear hb)
      | (go_at_call 14; refine (hD.out _ hB1.out).mono ?_; rintro e w2 ⟨rfl, hb⟩; have hB2 := Lib.hid hb; clear hb)
      | (go_at_call 24; refine (hMf.out _ hB2.out).mono ?_; rintro e w3 ⟨A, n, c, rfl, hf⟩; have hfh := Lib.hid hf; clear hf))
    go_ret
    exact ⟨A, n, c, rfl, hfh.out⟩
  · clear hk3
    go_enter Try.func17, Try.ntmps17
    go_wp2_with (first
      | (go_at_call 10; refine hK.out.mono ?_; rintro e w1 ⟨rfl, hb⟩; have hB1 := Lib.hid hb; clear hb)
      | (go_at_call 14; refine (hD.out _ hB1.out).mono ?_; rintro e w2 ⟨rfl, hb⟩; have hB2 := Lib.hid hb; clear hb)
      | (go_at_call 24; refine (hMt.out _ hB2.out).mono ?_; rintro e w3 ⟨A, n, c, rfl, hf⟩; have hfh := Lib.hid hf; clear hf))
    go_ret
    exact ⟨A, n, c, rfl, hfh.out⟩

theorem fl_ok : FlagsOk := ⟨kind_anyL, known_any, does_any, result_anyL⟩
end Go.Proofs.Ytlmdihocogalaaa
