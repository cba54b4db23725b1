/- The statements' own example of layer 11 comes to true. -/
import Derived.Test.YtiokgehiighgpaaConSz
import Derived.Test.YtiokgehiighgpaaSzRefB
import Derived.Test.YtiokgehiighgpaaContFew
import Derived.Test.YtiokgehiighgpaaPush
import Derived.RangeFuncBox
namespace Go.Proofs.Ytiokgehiighgpaa
open Go.RowKit
set_option linter.unusedVariables false
set_option maxRecDepth 100000

/-- One file of one text, that a call has made. -/
theorem one_file (w : World) (s : Tx) {W : World} (h0 : W.heap[w.heap.size]? = some (.cells #[.string (str s)] 9)) (h1 : W.heap[w.heap.size + 1]? = some (.cells #[.slice (some ⟨w.heap.size, 0, none⟩) 1 1] 34)) :
    RowsT W W.heap.size (some ⟨w.heap.size + 1, 0, none⟩) 1 [(some ⟨w.heap.size, 0, none⟩, 1, 1)] [[s]] := by
  have ht : TxR W W.heap.size (some ⟨w.heap.size, 0, none⟩, 1, 1) [s] := txr_of h0 rfl rfl (by decide)
  refine rowsT_of h1 rfl rfl rfl fun k r ss a b => ?_
  match k, a, b with
  | 0, a, b => simp at a b; subst a; subst b; exact ht
  | k + 1, a, b => simp at a

def ArgTs (w : World) (A : Option Addr) (n c : Nat) (rows : List Slc) (sss : List Txs) : Prop := n ≤ c ∧ c ≤ maxLen ∧ RowsT w w.heap.size A n rows sss
theorem str_of (s : ByteArray) : str s.data.toList = s := by
  unfold str
  rw [Array.toArray_toList]
section
variable (H : SizeOk)
include H

set_option maxHeartbeats 4000000 in
theorem szAwake_any (w : World) : Calls Try.prog 8 #[] w fun e w' => e = .returned (.bool true) ∧ Below w.heap.size w w' := by
  have hR1 : Hid (∀ W, Below w.heap.size w W → Calls Try.prog 9 #[.string ⟨#[60, 60, 60, 61]⟩] W fun e w' => e = .returned (.int .i64 3) ∧ Below w.heap.size w w') := Lib.hid (fun W hW => (H.run_ok [60, 60, 60, 61] W (by decide)).mono fun e w' h => ⟨h.1, hW.trans (h.2.mono hW.size)⟩)
  have hR2 : Hid (∀ W, Below w.heap.size w W → Calls Try.prog 9 #[.string ⟨#[97, 60]⟩] W fun e w' => e = .returned (.int .i64 0) ∧ Below w.heap.size w w') := Lib.hid (fun W hW => (H.run_ok [97, 60] W (by decide)).mono fun e w' h => ⟨h.1, hW.trans (h.2.mono hW.size)⟩)
  have hR3 : Hid (∀ W, Below w.heap.size w W → Calls Try.prog 9 #[.string ⟨#[]⟩] W fun e w' => e = .returned (.int .i64 0) ∧ Below w.heap.size w w') := Lib.hid (fun W hW => (H.run_ok [] W (by decide)).mono fun e w' h => ⟨h.1, hW.trans (h.2.mono hW.size)⟩)
  have hOne : ∀ (W : World) (s : Tx), RowsT ((W.alloc (.cells #[.string (str s)] 9)).alloc (.cells #[.slice (some ⟨W.heap.size, 0, none⟩) 1 1] 34)) ((W.alloc (.cells #[.string (str s)] 9)).alloc (.cells #[.slice (some ⟨W.heap.size, 0, none⟩) 1 1] 34)).heap.size (some ⟨W.heap.size + 1, 0, none⟩) 1 [(some ⟨W.heap.size, 0, none⟩, 1, 1)] [[s]] := fun W s => one_file W s (two_a W _ _).1 (two_a W _ _).2
  have hA1 : Hid (∀ W, Below w.heap.size w W → Calls Try.prog 12 #[.slice (some ⟨W.heap.size + 1, 0, none⟩) 1 1] ((W.alloc (.cells #[.string ⟨#[61, 61, 61, 61, 61, 61, 61, 61, 120]⟩] 9)).alloc (.cells #[.slice (some ⟨W.heap.size, 0, none⟩) 1 1] 34)) fun e w' => e = .returned (.int .i64 9) ∧ Below w.heap.size w w') := Lib.hid (fun W hW => (H.auto_ok _ 1 1 _ [[[61, 61, 61, 61, 61, 61, 61, 61, 120]]] _ (Nat.le_refl _) (by decide) (by unfold smallF; decide) (hOne W _)).mono fun e w' h => ⟨h.1, (below_alloc (below_alloc hW _) _).trans (h.2.mono (below_alloc (below_alloc hW _) _).size)⟩)
  have hA2 : Hid (∀ W, Below w.heap.size w W → Calls Try.prog 12 #[.slice none 0 0] W fun e w' => e = .returned (.int .i64 7) ∧ Below w.heap.size w w') := Lib.hid (fun W hW => (H.auto_ok none 0 0 [] [] W (Nat.le_refl _) (by decide) (by unfold smallF; decide) (RowsT.nil _ _ _)).mono fun e w' h => ⟨h.1, hW.trans (h.2.mono hW.size)⟩)
  have hF1 : Hid (∀ W, Below w.heap.size w W → Calls Try.prog 14 #[.int .i64 3, .slice (some ⟨W.heap.size + 1, 0, none⟩) 1 1] ((W.alloc (.cells #[.string ⟨#[60, 60]⟩] 9)).alloc (.cells #[.slice (some ⟨W.heap.size, 0, none⟩) 1 1] 34)) fun e w' => e = .returned (.bool true) ∧ Below w.heap.size w w') := Lib.hid (fun W hW => (H.fits_ok 3 _ 1 1 _ [[[60, 60]]] _ (by decide) (by decide) (Nat.le_refl _) (by decide) (by unfold smallF; decide) (hOne W _)).mono fun e w' h => ⟨h.1, (below_alloc (below_alloc hW _) _).trans (h.2.mono (below_alloc (below_alloc hW _) _).size)⟩)
  have hF2 : Hid (∀ W, Below w.heap.size w W → Calls Try.prog 14 #[.int .i64 2, .slice (some ⟨W.heap.size + 1, 0, none⟩) 1 1] ((W.alloc (.cells #[.string ⟨#[60, 60]⟩] 9)).alloc (.cells #[.slice (some ⟨W.heap.size, 0, none⟩) 1 1] 34)) fun e w' => e = .returned (.bool false) ∧ Below w.heap.size w w') := Lib.hid (fun W hW => (H.fits_ok 2 _ 1 1 _ [[[60, 60]]] _ (by decide) (by decide) (Nat.le_refl _) (by decide) (by unfold smallF; decide) (hOne W _)).mono fun e w' h => ⟨h.1, (below_alloc (below_alloc hW _) _).trans (h.2.mono (below_alloc (below_alloc hW _) _).size)⟩)
  have hF3 : Hid (∀ W, Below w.heap.size w W → Calls Try.prog 14 #[.int .i64 0, .slice none 0 0] W fun e w' => e = .returned (.bool false) ∧ Below w.heap.size w w') := Lib.hid (fun W hW => (H.fits_ok 0 none 0 0 [] [] W (by decide) (by decide) (Nat.le_refl _) (by decide) (by unfold smallF; decide) (RowsT.nil _ _ _)).mono fun e w' h => ⟨h.1, hW.trans (h.2.mono hW.size)⟩)
  have h0 := Lib.hid (Below.refl w.heap.size w)
  have t1 := trivial
  have t2 := trivial
  have t3 := trivial
  have t4 := trivial
  have t5 := trivial
  clear hOne
  go_enter Try.func8, Try.ntmps8
  go_wp2_with (first
    | (go_at_call 9; have _t := t1; refine (hR1.out _ h0.out).mono ?_; rintro e w1 ⟨rfl, hb⟩; have hB1 := Lib.hid hb; clear hb t1)
    | (go_at_call 9; have _t := t2; refine (hR2.out _ hB1.out).mono ?_; rintro e w2 ⟨rfl, hb⟩; have hB2 := Lib.hid hb; clear hb t2)
    | (go_at_call 9; refine (hR3.out _ hB2.out).mono ?_; rintro e w3 ⟨rfl, hb⟩; have hB3 := Lib.hid hb; clear hb)
    | (go_at_call 12; have _t := t3; refine (hA1.out _ hB3.out).mono ?_; rintro e w4 ⟨rfl, hb⟩; have hB4 := Lib.hid hb; clear hb t3)
    | (go_at_call 12; refine (hA2.out _ hB4.out).mono ?_; rintro e w5 ⟨rfl, hb⟩; have hB5 := Lib.hid hb; clear hb)
    | (go_at_call 14; have _t := t4; refine (hF1.out _ hB5.out).mono ?_; rintro e w6 ⟨rfl, hb⟩; have hB6 := Lib.hid hb; clear hb t4)
    | (go_at_call 14; have _t := t5; refine (hF2.out _ hB6.out).mono ?_; rintro e w7 ⟨rfl, hb⟩; have hB7 := Lib.hid hb; clear hb t5)
    | (go_at_call 14; refine (hF3.out _ hB7.out).mono ?_; rintro e w8 ⟨rfl, hb⟩; have hB8 := Lib.hid hb; clear hb))
  go_ret
  exact ⟨rfl, hB8.out⟩
end
end Go.Proofs.Ytiokgehiighgpaa
