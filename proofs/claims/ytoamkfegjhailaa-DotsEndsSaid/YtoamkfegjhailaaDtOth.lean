/- Proved here: the contract of the landed dots.otherwise, for whatever closure makes a text otherwise and notes it in a box. -/
import Derived.Test.YtoamkfegjhailaaDtFn
import Derived.Deep.OwnRows
import Derived.Shelf.Abstract
namespace Go.Proofs.Ytoamkfegjhailaa
open Go.RowKit
set_option linter.unusedVariables false
set_option maxRecDepth 100000

theorem make_txs (n : Nat) (hn : n ≤ 1000000) (w : World) : (Instr.makeSlice 22 (.int .i64 (n : Int)) (.int .i64 (n : Int))).run Try.prog w = .ok (.slice (some ⟨w.heap.size, 0, none⟩) n n) (w.alloc (.cells (madeCells #[.string ByteArray.empty] n) 9)) := by
  obtain ⟨i, hi, hzz⟩ := Option.map_eq_some_iff.1 infoStr
  simp only [Prod.mk.injEq] at hzz
  obtain ⟨hz, hs, hb⟩ := hzz
  have := run_make (P := Try.prog) w 22 9 i (.string ByteArray.empty) Try.underlying22 hi hz .i64 .i64 n n (by omega) (Int.le_refl _) (by rw [hb]; omega) (by omega)
  simp only [Int.toNat_natCast, hs, Nat.mul_one] at this
  exact this
/-- A row of texts is a slice of the call's own. -/
theorem row_own {w : World} {G n base : Nat} {f : Nat → Value} {xs : Txs} (h : w.rowIs G 9 n f) (hl : xs.length = n) (hm : n ≤ maxLen) (hb : base ≤ G) (hx : ∀ i t, xs[i]? = some t → f i = .string (str t)) :
    w.ownsRow base 9 1 (.slice (some ⟨G, 0, none⟩) n n) n (xs.map fun s => .string (str s)) := by
  obtain ⟨c, hh, hs, hc⟩ := h
  refine ⟨by simpa using hl, .inr ⟨G, n, c, rfl, hb, hh, Nat.le_refl _, hm, by omega, ?_⟩⟩
  rw [Nat.mul_one]
  apply List.ext_getElem?
  intro i
  by_cases hi : i < n
  · rw [List.getElem?_take, if_pos hi, Array.getElem?_toList, hc i hi, List.getElem?_map, List.getElem?_eq_getElem (by omega), Option.map_some, hx i _ (List.getElem?_eq_getElem (by omega))]
  · rw [List.getElem?_take, if_neg hi, List.getElem?_map, List.getElem?_eq_none (by omega)]
    rfl

/-- The cells of texts that are made one by one. -/
def cellO (xs : Txs) (i : Nat) : Value := if i < xs.length then .string (str (xs.getD i [])) else .string ByteArray.empty
/-- What lies there behind some rounds: the new row G, the box. -/
structure OthIn (w wr : World) (n G Bd : Nat) (xs : Txs) (b : Bool) : Prop where
  row : wr.rowIs G 9 n (cellO xs)
  box : Boxed wr Bd 4 (.bool b)
  but : But (fun k => k = Bd) w wr
section
variable {w wr w1 : World} {n G Bd : Nat} {xs : Txs} {b b1 : Bool} {t : Tx}
theorem OthIn.start (hb : Boxed w Bd 4 (.bool b)) : OthIn w (w.alloc (.cells (madeCells #[.string ByteArray.empty] n) 9)) n w.heap.size Bd [] b :=
  ⟨(World.rowIs_made w _ _ _).congr fun i _ => rfl, hb.alloc _, But.alloc _ _⟩
theorem OthIn.put (h : OthIn w wr n w.heap.size Bd xs b) (hk : xs.length < n) (hlt : Bd < w.heap.size) (h1 : BoxB Bd wr w1 b1) :
    w1.cell? ⟨w.heap.size, xs.length, none⟩ = some (.string ByteArray.empty) ∧ w1.frozen? ⟨w.heap.size, xs.length, none⟩ = false ∧ OthIn w (w1.setCell ⟨w.heap.size, xs.length, none⟩ (.string (str t))) n w.heap.size Bd (xs ++ [t]) b1 := by
  have hne : w.heap.size ≠ Bd := by omega
  have hrow : w1.rowIs w.heap.size 9 n (cellO xs) := h.row.of_block (h1.2.block _ h.row.lt (by omega))
  refine ⟨by rw [hrow.cell hk]; unfold cellO; rw [if_neg (by omega)], hrow.frozen _, (hrow.set xs.length (.string (str t))).congr fun i hi => ?_, ?_, ?_⟩
  · unfold cellO
    rw [List.length_append, List.length_singleton]
    by_cases e : i = xs.length
    · subst e
      simp
    · rw [if_neg e]
      rcases Nat.lt_or_ge i xs.length with h2 | h2
      · rw [if_pos h2, if_pos (by omega), List.getD_eq_getElem?_getD, List.getD_eq_getElem?_getD, List.getElem?_append_left h2]
      · rw [if_neg (by omega), if_neg (by omega)]
  · exact ((But.setCell (F := fun k => k = w.heap.size) w1 (p := ⟨w.heap.size, xs.length, none⟩) rfl _).block Bd h1.1.lt (by omega)).trans h1.1
  · exact (h.but.trans h1.2 (fun k hk => .inl hk)).trans (But.setCell (F := fun k => k = w.heap.size) w1 (p := ⟨w.heap.size, xs.length, none⟩) rfl _) (fun k hk => .inr (by omega))
theorem OthIn.cell {B b0 o : Nat} {v : Value} (h : OthIn w wr n G Bd xs b) (hb : b0 < B) (hB : B ≤ Bd) (hlt : Bd < w.heap.size) (hc : w.cell? ⟨b0, o, none⟩ = some v) : wr.cell? ⟨b0, o, none⟩ = some v :=
  (World.cell?_of_block (w := w) (h.but.block b0 (by omega) (by omega))).trans hc
end
/-- What otherwise tells. -/
def OthOut (w w' : World) (e : Ending) (Bd : Nat) (ys : Txs) (b : Bool) : Prop :=
  ∃ G n, e = .returned (.slice (some ⟨G, 0, none⟩) n n) ∧ ys.length = n ∧ w.heap.size ≤ G ∧ w'.ownsRow w.heap.size 9 1 (.slice (some ⟨G, 0, none⟩) n n) n (ys.map fun s => .string (str s)) ∧ Boxed w' Bd 4 (.bool b) ∧ But (fun k => k = Bd) w w'

set_option maxHeartbeats 2000000 in
theorem oth_any (g2 Bd : Nat) (f : Tx → Tx) (p : Tx → Bool) (A : Option Addr) (n c B : Nat) (l : Txs) (w : World) (hsm : smallD l) (hA : Strs w B A n l) (hB : B ≤ Bd) (hb : Boxed w Bd 4 (.bool false))
    (hent : ∀ args w, (callFunc g2 args).run Try.prog w = .ok (.enter g2 args) w) (hch : ChF g2 Bd f p) :
    Calls Try.prog 18 #[.slice A n c, .func (.func g2) #[] #[.pointer (some ⟨Bd, 0, none⟩)]] w fun e w' => OthOut w w' e Bd (l.map f) (l.any p) := by
  have hl := hA.len
  have hn : n ≤ 100000 := by rw [← hl]; exact hsm.1
  have hAh := Lib.hid hA
  have hlh := Lib.hid hl
  have hsh := Lib.hid hsm.2
  have hchh := Lib.hid hch
  have hltb := hb.lt
  have hmk := make_txs n (by omega)
  have hst := Lib.hid (OthIn.start (n := n) hb)
  clear hA hl hsm hch hb
  go_enter Try.func18, Try.ntmps18
  go_wp2
  go_loopw [6, 7, 13] (fun _ _ i wr => ∃ (k : Nat) (b : Bool), k ≤ n ∧ i = .int .i64 k ∧ Hid ((l.take k).any p = b) ∧ Hid (OthIn w wr n w.heap.size Bd ((l.take k).map f) b)) (fun _ _ i _ => n - (intOf i).toNat)
  case atStart => exact ⟨0, false, Nat.zero_le _, rfl, Lib.hid rfl, hst⟩
  case round =>
    obtain ⟨k, b, hk, rfl, hm, hI⟩ := hrel
    obtain ⟨wo, rfl⟩ : ∃ wo : World, wo = wr := ⟨_, rfl⟩
    clear hst
    by_cases hlt : k < n
    · obtain ⟨b0, o, t, rfl, hb0, ht, hc⟩ := Strs.at_ hAh.out (k := k) hlt
      have xc := hI.out.cell hb0 hB hltb hc
      have hC := Lib.hid (hchh.out b t wo (hsh.out t (List.mem_of_getElem? ht)) hI.out.box)
      have i1 : (0 : Int) ≤ (k : Int) := by omega
      have i2 : (k : Int) < (n : Int) := by omega
      have hlk : ((l.take k).map f).length = k := by rw [List.length_map, List.length_take]; have := hlh.out; omega
      have hput : Hid (∀ w1, BoxB Bd wo w1 (b || p t) → w1.cell? ⟨w.heap.size, k, none⟩ = some (.string ByteArray.empty) ∧ w1.frozen? ⟨w.heap.size, k, none⟩ = false ∧ OthIn w (w1.setCell ⟨w.heap.size, k, none⟩ (.string (str (f t)))) n w.heap.size Bd ((l.take (k + 1)).map f) (b || p t)) := Lib.hid (fun w1 h1 => by
        have := hI.out.put (t := f t) (by rw [hlk]; exact hlt) hltb h1
        rw [hlk] at this
        rw [take_at ht, List.map_append]
        exact this)
      have hm2 : Hid ((l.take (k + 1)).any p = (b || p t)) := Lib.hid (by rw [take_at ht, List.any_append, hm.out]; simp)
      obtain ⟨S, hS⟩ : ∃ S, str t = S := ⟨_, rfl⟩
      obtain ⟨R, hR⟩ : ∃ R, str (f t) = R := ⟨_, rfl⟩
      obtain ⟨q, hq⟩ : ∃ q, (b || p t) = q := ⟨_, rfl⟩
      rw [hS] at xc hC
      rw [hR] at hC hput
      rw [hq] at hC hput hm2
      have hkn : Hid (k + 1 ≤ n) := Lib.hid (by omega)
      clear ht hc hb0 hlk hS hR hq hm
      go_wp2_with (refine hC.out.mono ?_; rintro e w1 ⟨rfl, hbx⟩; obtain ⟨y0, y1, hI2⟩ := hput.out w1 hbx; have hI2h := Lib.hid hI2; clear hbx hI2)
      go_roundw
      case rel => exact ⟨k + 1, q, hkn.out, by go_num, hm2, hI2h⟩
      case measure => simp [intOf]; have := hkn.out; omega
    · obtain rfl : k = n := by omega
      have hfin : Hid (OthIn w wo k w.heap.size Bd (l.map f) (l.any p)) := Lib.hid (by
        have h1 := hI.out
        rw [List.take_of_length_le (by rw [hlh.out]; exact Nat.le_refl _)] at h1
        have h2 := hm.out
        rw [List.take_of_length_le (by rw [hlh.out]; exact Nat.le_refl _)] at h2
        rw [h2]
        exact h1)
      clear hI hm
      go_wp2
      go_ret
      have hf := hfin.out
      have hlk : (l.map f).length = k := by rw [List.length_map]; exact hlh.out
      exact ⟨_, _, rfl, hlk, Nat.le_refl _, row_own hf.row hlk (by unfold maxLen; omega) (Nat.le_refl _) (fun i t ht => by
        unfold cellO
        have hi := (List.getElem?_eq_some_iff.1 ht).1
        rw [if_pos hi, List.getD_eq_getElem?_getD, ht]
        rfl), hf.box, hf.but⟩
end Go.Proofs.Ytoamkfegjhailaa
