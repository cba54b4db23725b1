/- Proved here: texts joined: SlcT, Figs, ScrFig, DotSm, TxOC, MkPlA, Byte, DtRef. -/
import Derived.Test.YtoopdgohdeddoaaGreatDoorBs01
import Derived.Test.YtoopdgohdeddoaaGreatDoorBs04
import Derived.Test.YtoopdgohdeddoaaGreatDoorBs06
import Derived.Test.YtoopdgohdeddoaaGreatDoorBs07
import Derived.Test.YtoopdgohdeddoaaGreatDoorBs09
import Derived.Test.YtoopdgohdeddoaaGreatDoorBs10
import Derived.Laws.OwnMore
import Derived.RangeFuncBox
import Derived.Deep.DeepCutAuto
/- Proved here: a slice of texts cut by one bound alone, ahead or behind. -/
namespace Go.Proofs.YtoopdgohdeddoaaGreatDoor
open Go.RowKit
set_option linter.unusedVariables false
set_option maxRecDepth 100000

/-- 's[:k]'. -/
theorem slice_to {w : World} {B n c : Nat} {A : Option Addr} {ss : List (List UInt8)} {k : Nat} (h : TxR w B (A, n, c) ss) (hk : k ≤ n) :
    ∃ A' m q, (∀ W : World, (Instr.slice 22 (.slice A n c) none (some (.int .i64 (k : Int))) none).run Tryz.prog W = .ok (.slice A' m q) W) ∧ TxR w B (A', m, q) (ss.take k) ∧ m = k := by
  obtain ⟨e1, e2, e3⟩ := h
  dsimp only at e1 e2 e3
  have hl := e3.len
  refine ⟨(if c = 0 then A else A.map (·.add 0)), k, c, fun W => ?_, ⟨by show k ≤ c; omega, e2, by rw [List.length_map, List.length_take]; show min k ss.length = k; omega, fun hn => ?_⟩, rfl⟩
  · rw [run_slice_h (P := Tryz.prog) W 22 A n c Tryz.underlying22 .i64 (k : Int) (by omega) (by omega)]
    go_simp
  · obtain ⟨b, o, rfl, hb, hcell⟩ := e3.2 (by have : 0 < k := hn; omega)
    have hc0 : c ≠ 0 := by have : 0 < k := hn; omega
    refine ⟨b, o, by show (if c = 0 then some ⟨b, o, none⟩ else (some (⟨b, o, none⟩ : Addr)).map (·.add 0)) = _; rw [if_neg hc0]; rfl, hb, fun j u hu => ?_⟩
    refine hcell j u ?_
    rw [← hu, List.map_take, List.getElem?_take]
    have hj := (List.getElem?_eq_some_iff.1 hu).1
    simp at hj
    rw [if_pos (by omega)]
/-- 's[k:]'. -/
theorem slice_from {w : World} {B n c : Nat} {A : Option Addr} {ss : List (List UInt8)} {k : Nat} (h : TxR w B (A, n, c) ss) (hk : k ≤ n) :
    ∃ A' m q, (∀ W : World, (Instr.slice 22 (.slice A n c) (some (.int .i64 (k : Int))) none none).run Tryz.prog W = .ok (.slice A' m q) W) ∧ TxR w B (A', m, q) (ss.drop k) ∧ m + k = n := by
  obtain ⟨e1, e2, e3⟩ := h
  dsimp only at e1 e2 e3
  have hl := e3.len
  refine ⟨(if c = k then A else A.map (·.add k)), n - k, c - k, fun W => ?_, ⟨by show n - k ≤ c - k; omega, by show c - k ≤ maxLen; omega, by rw [List.length_map, List.length_drop]; show ss.length - k = n - k; omega, fun hn => ?_⟩, by omega⟩
  · rw [run_slice_l (P := Tryz.prog) W 22 A n c Tryz.underlying22 .i64 (k : Int) (by omega) (by omega)]
    go_simp
  · have hn' : 0 < n - k := hn
    obtain ⟨b, o, rfl, hb, hcell⟩ := e3.2 (by omega)
    refine ⟨b, o + k, by show (if c = k then some ⟨b, o, none⟩ else (some (⟨b, o, none⟩ : Addr)).map (·.add k)) = _; rw [if_neg (by omega)]; simp only [Option.map_some]; unfold Addr.add; split <;> simp_all, hb, fun j u hu => ?_⟩
    rw [Nat.add_assoc]
    refine hcell (k + j) u ?_
    rw [← hu, List.map_drop, List.getElem?_drop]
/-- A slice lies where another one does. -/
def Near (A : Option Addr) (r : Slc) : Prop := 0 < r.2.1 → ∀ q o, r.1 = some ⟨q, o, none⟩ → ∃ o', A = some ⟨q, o', none⟩
/-- 's[i:k]'. -/
theorem slice_mid {w : World} {B n c : Nat} {A : Option Addr} {ss : List (List UInt8)} {i k : Nat} (h : TxR w B (A, n, c) ss) (hi : i ≤ k) (hk : k ≤ n) :
    ∃ A' m q, (∀ W : World, (Instr.slice 22 (.slice A n c) (some (.int .i64 (i : Int))) (some (.int .i64 (k : Int))) none).run Tryz.prog W = .ok (.slice A' m q) W) ∧ TxR w B (A', m, q) ((ss.drop i).take (k - i)) ∧ m + i = k ∧ Near A (A', m, q) := by
  obtain ⟨e1, e2, e3⟩ := h
  dsimp only at e1 e2 e3
  have hl := e3.len
  refine ⟨(if c = i then A else A.map (·.add i)), k - i, c - i, fun W => ?_, ⟨by show k - i ≤ c - i; omega, by show c - i ≤ maxLen; omega, by rw [List.length_map, List.length_take, List.length_drop]; show min (k - i) (ss.length - i) = k - i; omega, fun hn => ?_⟩, by omega, fun hn q o e => ?_⟩
  · rw [run_slice_lh (P := Tryz.prog) W 22 A n c Tryz.underlying22 .i64 .i64 (i : Int) (k : Int) (by omega) (by omega) (by omega)]
    go_simp
  · have hn' : 0 < k - i := hn
    obtain ⟨b, o, rfl, hb, hcell⟩ := e3.2 (by omega)
    refine ⟨b, o + i, by show (if c = i then some ⟨b, o, none⟩ else (some (⟨b, o, none⟩ : Addr)).map (·.add i)) = _; rw [if_neg (by omega)]; simp only [Option.map_some]; unfold Addr.add; split <;> simp_all, hb, fun j u hu => ?_⟩
    rw [Nat.add_assoc]
    refine hcell (i + j) u ?_
    have hj := (List.getElem?_eq_some_iff.1 hu).1
    simp at hj
    rw [← hu, List.map_take, List.getElem?_take, if_pos (by omega), List.map_drop, List.getElem?_drop]
  · have hn' : 0 < k - i := hn
    obtain ⟨b, o', rfl, hb, hcell⟩ := e3.2 (by omega)
    dsimp only at e
    rw [if_neg (by omega), Option.map_some] at e
    injection e with e
    refine ⟨o', ?_⟩
    have hb2 : ((⟨b, o', none⟩ : Addr).add i).block = b := by unfold Addr.add; split <;> rfl
    rw [e] at hb2
    dsimp only at hb2
    rw [hb2]
end Go.Proofs.YtoopdgohdeddoaaGreatDoor
/- Proved here: the contract of the document's own answer of layer 16: Figures. -/
namespace Go.Proofs.YtoopdgohdeddoaaGreatDoor
open Go.RowKit
set_option linter.unusedVariables false
set_option maxRecDepth 100000

theorem fig_len (n : Nat) : (figD n).length ≤ n + 1 := by
  induction n using Nat.strongRecOn with
  | _ n ih =>
    unfold figD
    by_cases h : n < 10
    · rw [if_pos h]; simp
    · have := ih (n / 10) (by omega)
      rw [if_neg h, List.length_append, List.length_singleton]
      omega
theorem fig_size (n : Nat) (h : n ≤ 1000000) : (str (figD n)).size ≤ 1000001 := by rw [str_size]; have := fig_len n; omega
theorem num_byte (r : Nat) (h : r < 10) : strOfNums [48 + (r : Int)] = str [UInt8.ofNat (48 + r)] := by
  rcases (by omega : r = 0 ∨ r = 1 ∨ r = 2 ∨ r = 3 ∨ r = 4 ∨ r = 5 ∨ r = 6 ∨ r = 7 ∨ r = 8 ∨ r = 9) with rfl | rfl | rfl | rfl | rfl | rfl | rfl | rfl | rfl | rfl <;> rfl
theorem fig_add (n : Nat) (h : ¬ n < 10) : str (figD (n / 10)) ++ str [UInt8.ofNat (48 + n % 10)] = str (figD n) := by
  rw [strs_app]
  conv => rhs; unfold figD
  rw [if_neg h]
theorem fig_one (n : Nat) (h : n < 10) : figD n = [UInt8.ofNat (48 + n % 10)] := by
  unfold figD
  rw [if_pos h, Nat.mod_eq_of_lt h]

set_option maxHeartbeats 4000000 in
theorem rFigures_any : ∀ (n : Nat) (w : World), n ≤ 1000000 → Calls Tryz.prog 53 #[.int .i64 (n : Int)] w fun e w' => e = .returned (.string (str (figD n))) ∧ Below w.heap.size w w' := by
  intro n
  induction n using Nat.strongRecOn with
  | _ n ih =>
  intro w hn
  have hb : ∀ o : Obj, Below w.heap.size w (w.alloc o) := fun o => below_alloc (Below.refl _ _) o
  have hcv : ∀ z : Int, (convert 134 9 (.slice (some ⟨w.heap.size, 0, none⟩) 1 1)).run Tryz.prog (w.alloc (.cells #[.int .u8 z] 5)) = .ok (.string (strOfNums [z])) (w.alloc (.cells #[.int .u8 z] 5)) := fun z =>
    run_convert_bytes_arg (P := Tryz.prog) (w.alloc (.cells #[.int .u8 z] 5)) 134 5 Tryz.underlying134 Tryz.underlying5 w.heap.size 0 1 1 [z] rfl (fun i hi => by
      obtain rfl : i = 0 := by omega
      rw [Nat.zero_add, cells_of (one_a w _)]
      rfl) 9 Tryz.underlying9
  by_cases h : n < 10
  · have e := fig_one n h
    rcases (by omega : n = 0 ∨ n = 1 ∨ n = 2 ∨ n = 3 ∨ n = 4 ∨ n = 5 ∨ n = 6 ∨ n = 7 ∨ n = 8 ∨ n = 9) with rfl | rfl | rfl | rfl | rfl | rfl | rfl | rfl | rfl | rfl
    all_goals
      rw [e]
      clear ih
      go_enter Tryz.func53, Tryz.ntmps53
      go_wp2
      go_ret
      exact ⟨rfl, hb _⟩
  · have hI : Hid (∀ W : World, Calls Tryz.prog 53 #[.int .i64 ((n / 10 : Nat) : Int)] W fun e w' => e = .returned (.string (str (figD (n / 10)))) ∧ Below W.heap.size W w') := Lib.hid (fun W => ih (n / 10) (by omega) W (by omega))
    obtain ⟨S, hS⟩ : ∃ S, str (figD (n / 10)) = S := ⟨_, rfl⟩
    obtain ⟨r, hr⟩ : ∃ r, n % 10 = r := ⟨_, rfl⟩
    have hf := Lib.hid (fig_add n h)
    have hSz : S.size ≤ 1000001 := by rw [← hS]; exact fig_size _ (by omega)
    rw [hS] at hI hf
    rw [hr] at hf
    have e1 : (n : Int).tmod 10 = (r : Int) := by rw [← hr]; rfl
    have e2 : (n : Int).tdiv 10 = ((n / 10 : Nat) : Int) := rfl
    have hr10 : r < 10 := by omega
    have hnb := Lib.hid (num_byte r hr10)
    have hov : ¬ 9223372036854775807 < S.size + (strOfNums [48 + (r : Int)]).size := by rw [hnb.out, str_size, List.length_singleton]; omega
    clear ih hr hS
    go_enter Tryz.func53, Tryz.ntmps53
    go_wp2_with (first
      | (go_at_call 53; refine (hI.out _).mono ?_; rintro e w1 ⟨rfl, q1⟩; have hB1 := Lib.hid q1; clear q1))
    go_ret
    have e : S ++ strOfNums [48 + (r : Int)] = str (figD n) := by rw [hnb.out, hf.out]
    exact ⟨congrArg (fun x => Ending.returned (Value.string x)) e, (hb _).trans (hB1.out.mono (hb _).size)⟩
end Go.Proofs.YtoopdgohdeddoaaGreatDoor
/- Proved here: the contract of the document's own answer of layer 16: lines. -/
namespace Go.Proofs.YtoopdgohdeddoaaGreatDoor
open Go.RowKit
set_option linter.unusedVariables false
set_option maxRecDepth 100000

theorem str_comma (a b : Tx) : str a ++ ⟨#[44]⟩ ++ str b = str (a ++ 44 :: b) := by
  rw [show (⟨#[44]⟩ : ByteArray) = str [44] from rfl, strs_app, strs_app]
  congr 1
  simp
set_option maxHeartbeats 4000000 in
theorem rLines_any (m n : Nat) (w : World) (hm : m ≤ 1000000) (hn : n ≤ 1000000) : Calls Tryz.prog 52 #[.int .i64 (m : Int), .int .i64 (n : Int)] w fun e w' => e = .returned (.string (str (linesD m n))) ∧ Below w.heap.size w w' := by
  have hF : Hid (∀ (k : Nat) (W : World), k ≤ 1000000 → Calls Tryz.prog 53 #[.int .i64 (k : Int)] W fun e w' => e = .returned (.string (str (figD k))) ∧ Below W.heap.size W w') := Lib.hid rFigures_any
  have hz := Lib.hid fig_size
  have hr : Hid (linesD m n = if m = n then figD m else figD m ++ 44 :: figD n) := Lib.hid rfl
  by_cases h : m = n
  · subst h
    go_enter Tryz.func52, Tryz.ntmps52
    go_wp2_with (first
      | (go_at_call 53; refine (hF.out m _ hm).mono ?_; rintro e w1 ⟨rfl, q1⟩; have hB1 := Lib.hid q1; clear q1))
    go_ret
    have e : figD m = linesD m m := by rw [hr.out]; simp
    exact ⟨congrArg (fun x => Ending.returned (Value.string (str x))) e, hB1.out⟩
  · have h1 := hz.out m hm
    have h2 := hz.out n hn
    have hc := Lib.hid (str_comma (figD m) (figD n))
    have hM := Lib.hid (fun W : World => hF.out m W hm)
    have hN := Lib.hid (fun W : World => hF.out n W hn)
    obtain ⟨S, hS⟩ : ∃ S, str (figD m) = S := ⟨_, rfl⟩
    obtain ⟨T, hT⟩ : ∃ S, str (figD n) = S := ⟨_, rfl⟩
    rw [hS] at h1 hc hM
    rw [hT] at h2 hc hN
    have hne : ((m : Int) == (n : Int)) = false := by rw [beq_eq_false_iff_ne]; omega
    have h3 : ¬ 9223372036854775807 < S.size + 1 := by omega
    have h4 : ¬ 9223372036854775807 < (S ++ (⟨#[44]⟩ : ByteArray)).size + T.size := by rw [ByteArray.size_append]; show ¬ _ < S.size + 1 + T.size; omega
    have h5 : ¬ 9223372036854775807 < S.size + 1 + T.size := by omega
    clear hS hT
    go_enter Tryz.func52, Tryz.ntmps52
    go_wp2_with (first
      | (go_at_call 53; refine (hM.out _).mono ?_; rintro e w1 ⟨rfl, q1⟩; have hB1 := Lib.hid q1; clear q1 hM)
      | (go_at_call 53; refine (hN.out _).mono ?_; rintro e w2 ⟨rfl, q1⟩; have hB2 := Lib.hid q1; clear q1))
    go_ret
    have e : S ++ (⟨#[44]⟩ : ByteArray) ++ T = str (linesD m n) := by rw [hc.out, hr.out, if_neg h]
    exact ⟨congrArg (fun x => Ending.returned (Value.string x)) e, hB1.out.trans (hB2.out.mono hB1.out.size)⟩
end Go.Proofs.YtoopdgohdeddoaaGreatDoor
/- Texts that aren't too many, nor too long (layers 15 and 16). -/
namespace Go.Proofs.YtoopdgohdeddoaaGreatDoor
open Go.RowKit
set_option linter.unusedVariables false
set_option maxRecDepth 100000

/-- Texts that aren't too many, nor too long. -/
def smallD (l : Txs) : Prop := l.length ≤ 100000 ∧ ∀ s ∈ l, s.length ≤ 1000000
/-- Texts that a call tells, and a bool. -/
def TxsB (w w' : World) (e : Ending) (x : Txs × Bool) : Prop := ∃ A n c, e = .returned (.tuple #[.slice A n c, .bool x.2]) ∧ TxR w' w'.heap.size (A, n, c) x.1 ∧ Below w.heap.size w w'
/-- Texts that a call tells, and a number. -/
def TxsN (w w' : World) (e : Ending) (x : Txs × Nat) : Prop := ∃ A n c, e = .returned (.tuple #[.slice A n c, .int .i64 (x.2 : Int)]) ∧ TxR w' w'.heap.size (A, n, c) x.1 ∧ Below w.heap.size w w'
theorem few_D {l : Txs} {k : Nat} (h : fewB l k = true) (hk : k ≤ 100000) : smallD l := by
  unfold fewB at h
  rw [Bool.and_eq_true, decide_eq_true_eq] at h
  refine ⟨by omega, fun t ht => ?_⟩
  have h2 := h.2
  rw [List.take_of_length_le (by omega), List.all_eq_true] at h2
  have := h2 t ht
  simp at this
  omega
theorem dotT_len (s : Tx) : (dotT s).length ≤ s.length + 1 := by unfold dotT; split <;> simp
theorem bareT_len (s : Tx) : (bareT s).length ≤ s.length := by unfold bareT; split <;> simp
theorem small_block {l : Txs} {k : Nat} (h : l.length ≤ 50000) (hs : ∀ s ∈ l, s.length ≤ 900000) : smallD (blockD l) := by
  refine ⟨by rw [block_len]; omega, fun s hs2 => ?_⟩
  unfold blockD at hs2
  rcases List.mem_append.1 hs2 with h1 | h1
  · obtain ⟨t, ht, rfl⟩ := List.mem_map.1 h1
    have := dotT_len t
    have := hs t ht
    omega
  · rw [List.mem_singleton.1 h1]
    simp [endD]
theorem str_dot (t : Tx) : (⟨#[46]⟩ : ByteArray) ++ str t = str (46 :: t) := by
  apply ByteArray.ext
  simp [str]
theorem unblock_step (l : Txs) (k : Nat) (t : Tx) (ht : l[k]? = some t) : unblockD (l.take k) k (l.drop k) = if t = endD then (l.take k, k + 1) else unblockD (l.take (k + 1)) (k + 1) (l.drop (k + 1)) := by
  rw [drop_at ht, unblockD, take_at ht]
end Go.Proofs.YtoopdgohdeddoaaGreatDoor
/- Proved here: texts that a call has made, behind another call. -/
namespace Go.Proofs.YtoopdgohdeddoaaGreatDoor
open Go.RowKit
set_option linter.unusedVariables false
set_option maxRecDepth 100000

/-- Texts that a call has made, told. -/
def OwnT (w w' : World) (e : Ending) (xs : Txs) : Prop := ∃ v, e = .returned v ∧ TxO w w' v xs
theorem TxO.call {w wr w1 : World} {v : Value} {xs : Txs} (h : TxO w wr v xs) (hb : Below wr.heap.size wr w1) : TxO w w1 v xs :=
  ⟨ownsRow_kept h.own fun k e => hb.block k (h.own.lt k e).2, h.below.trans (hb.mono h.below.size)⟩
theorem own_lower {w : World} {b1 b2 n : Nat} {e : TypeId} {size : Nat} {v : Value} {xs : List Value} (h : w.ownsRow b1 e size v n xs) (hb : b2 ≤ b1) : w.ownsRow b2 e size v n xs := by
  refine ⟨h.1, ?_⟩
  rcases h.2 with h | ⟨g, cap, cur, e1, h2, r⟩
  · exact .inl h
  · exact .inr ⟨g, cap, cur, e1, Nat.le_trans hb h2, r⟩
theorem TxO.lit (w : World) (s : Tx) : TxO w (w.alloc (.cells #[.string (str s)] 9)) (.slice (some ⟨w.heap.size, 0, none⟩) 1 1) [s] :=
  ⟨World.ownsRow_lit w #[.string (str s)] 1 (Nat.le_refl _) (by decide) rfl, below_alloc (Below.refl _ _) _⟩
end Go.Proofs.YtoopdgohdeddoaaGreatDoor
/- Proved here, without conditions on the program: texts put together; how many lines a conflict makes. -/
namespace Go.Proofs.YtoopdgohdeddoaaGreatDoor
open Go.RowKit
set_option linter.unusedVariables false
set_option maxRecDepth 100000

theorem rep_app (c : UInt8) (i : Nat) : str (List.replicate i c) ++ str [c] = str (List.replicate (i + 1) c) := by
  rw [strs_app, ← List.replicate_succ']

theorem closed_setO {ss : Txs} {n : Nat} {t : Tx} (hl : ss.length = n + 1) (ht : ss[n]? = some t) (ho : openB ss = true) : closed ss = ss.set n (t ++ [10]) := by
  have hg : ss.getLast? = some t := by rw [List.getLast?_eq_getElem?, hl]; exact ht
  unfold closed openB at *
  rw [hg] at ho ⊢
  dsimp only at ho ⊢
  rw [if_neg (by simpa using ho)]
  apply List.ext_getElem?
  intro i
  rw [List.getElem?_set]
  rcases Nat.lt_trichotomy i n with h | h | h
  · rw [List.getElem?_append_left (by rw [List.length_dropLast]; omega), List.getElem?_dropLast, if_pos (by omega), if_neg (by omega)]
  · subst h
    rw [List.getElem?_append_right (by rw [List.length_dropLast]; omega), List.length_dropLast, if_pos rfl, if_pos (by omega)]
    rw [hl, Nat.add_sub_cancel, Nat.sub_self]
    rfl
  · rw [List.getElem?_eq_none (by rw [List.length_append, List.length_dropLast, List.length_singleton]; omega), if_neg (by omega), List.getElem?_eq_none (by omega)]

theorem sides_len : ∀ (ds : List Txs) (long : Nat) (ahead : Txs) (n : Nat), (sidesM long ahead n ds).length = ds.flatten.length + ds.length + 1
  | [], _, _, _ => rfl
  | d :: ds, long, ahead, n => by
    unfold sidesM
    rw [List.length_cons, List.length_append, closed_len, sides_len ds, List.flatten_cons, List.length_append, List.length_cons]; omega
theorem flatM_len {ds : List Txs} (h : ∀ d ∈ ds, d.length ≤ 10000) : ds.flatten.length ≤ ds.length * 10000 := by
  induction ds with
  | nil => simp
  | cons d ds ih =>
    have := ih fun e he => h e (List.mem_cons_of_mem _ he)
    have := h d (List.mem_cons_self ..)
    rw [List.flatten_cons, List.length_append, List.length_cons]
    omega
theorem conf_len {style : Int} {long : Nat} {bs : Txs} {ds : List Txs} (h : ∀ d ∈ bs :: ds, d.length ≤ 10000) : (confM style long bs ds).length ≤ (ds.length + 2) * 10001 := by
  cases ds with
  | nil => simp [confM]
  | cons f ds =>
    have h1 := flatM_len (ds := ds) fun d hd => h d (List.mem_cons_of_mem _ (List.mem_cons_of_mem _ hd))
    have h2 := h bs (List.mem_cons_self ..)
    have h3 := h f (by simp)
    unfold confM
    rw [List.length_cons, List.length_append, closed_len]
    split
    · rw [sides_len, List.length_cons]; omega
    · rw [List.length_cons, List.length_append, closed_len, sides_len, List.length_cons]; omega
theorem conf_split (style : Int) (long : Nat) (bs f : Txs) (ds : List Txs) : confM style long bs (f :: ds) = if style = 1 then ([markT 60 long [] [32, 49]] ++ closed f) ++ sidesM long f 2 ds else (([markT 60 long [] [32, 49]] ++ closed f) ++ [markT 124 long f [32, 98, 97, 115, 101]] ++ closed bs) ++ sidesM long bs 2 ds := by
  by_cases h : style = 1
  · rw [if_pos h]; unfold confM; simp [h]
  · rw [if_neg h]; unfold confM; simp [h]
end Go.Proofs.YtoopdgohdeddoaaGreatDoor
/- Proved here, without a word of the program: a byte held against a number. -/
namespace Go.Proofs.YtoopdgohdeddoaaGreatDoor
set_option linter.unusedVariables false

theorem byte_is {c : UInt8} {n : Nat} (hn : n < 256) : ((c.toNat : Int) == (n : Int)) = (c == UInt8.ofNat n) := by
  rw [Bool.eq_iff_iff, beq_iff_eq, beq_iff_eq]
  constructor
  · intro h
    have h' : c.toNat = n := by exact_mod_cast h
    exact UInt8.toNat_inj.1 (by rw [h', UInt8.toNat_ofNat']; omega)
  · intro h
    subst h
    rw [UInt8.toNat_ofNat']
    congr 1
    omega
theorem byte_at (s : ByteArray) (k : Nat) (h : k < s.size) : s.data.toList[k]? = some s[k] := by
  rw [List.getElem?_eq_getElem (by simpa using h)]
  rfl
end Go.Proofs.YtoopdgohdeddoaaGreatDoor
/- Proved here: the contracts of the document's own answers of layer 15: Dotted, Block, Unblock, Strip. -/
namespace Go.Proofs.YtoopdgohdeddoaaGreatDoor
open Go.RowKit
set_option linter.unusedVariables false
set_option maxRecDepth 100000

theorem rBegins_anyD (s : Tx) (w : World) (hs : s.length ≤ 1000000) : Calls Tryz.prog 107 #[.string (str s)] w fun e w' => e = .returned (.bool (pointB s)) ∧ w' = w := by
  cases s with
  | nil =>
    have hz : (str []).size = 0 := rfl
    go_enter Tryz.func107, Tryz.ntmps107
    go_wp2
    go_ret
    exact ⟨rfl, rfl⟩
  | cons c r =>
    have hz : (str (c :: r)).size = r.length + 1 := by rw [str_size]; rfl
    have h0 : (0 : Int) < ((str (c :: r)).size : Int) := by rw [hz]; omega
    have hres : Hid (pointB (c :: r) = (((c.toNat : Nat) : Int) == 46)) := Lib.hid (by
      have := byte_is (c := c) (n := 46) (by omega)
      rw [show ((46 : Nat) : Int) = 46 from rfl] at this
      rw [this]
      unfold pointB
      rw [Bool.eq_iff_iff]
      simp)
    obtain ⟨S, hS⟩ : ∃ S, str (c :: r) = S := ⟨_, rfl⟩
    have h1 : 0 < S.size := by rw [← hS, hz]; omega
    have hb : S[0]'h1 = c := by subst hS; rfl
    rw [hS] at h0 ⊢
    clear hS hz
    go_enter Tryz.func107, Tryz.ntmps107
    go_wp2
    go_ret
    exact ⟨ret_bool (by rw [hres.out]), rfl⟩

theorem dotted_step {l : Txs} {k : Nat} {t : Tx} (ht : l[k]? = some t) : dottedB (l.drop k) = (pointB t || dottedB (l.drop (k + 1))) := by
  rw [drop_at ht]
  rfl
set_option maxHeartbeats 1000000 in
theorem rDotted_any (A : Option Addr) (n c B : Nat) (l : Txs) (w : World) (hn : n ≤ 100000) (hs : ∀ s ∈ l, s.length ≤ 1000000) (hA : Strs w B A n l) :
    Calls Tryz.prog 93 #[.slice A n c] w fun e w' => e = .returned (.bool (dottedB l)) ∧ w' = w := by
  have hl := hA.len
  go_enter Tryz.func93, Tryz.ntmps93
  go_wp2
  go_loop [3] (fun i => ∃ k : Nat, k ≤ n ∧ i = .int .i64 k ∧ Hid (dottedB l = dottedB (l.drop k))) (fun i => n - (intOf i).toNat)
  case atStart => exact ⟨0, Nat.zero_le _, rfl, Lib.hid rfl⟩
  case round =>
    obtain ⟨k, hk, rfl, hm⟩ := hrel
    by_cases hlt : k < n
    · obtain ⟨b, o, t, rfl, _, ht, hc⟩ := hA.at_ (k := k) hlt
      have hB := Lib.hid (rBegins_anyD t w (hs t (List.mem_of_getElem? ht)))
      obtain ⟨p, hp⟩ : ∃ p, pointB t = p := ⟨_, rfl⟩
      have hd : Hid (dottedB l = (p || dottedB (l.drop (k + 1)))) := Lib.hid (by rw [hm.out, dotted_step ht, hp])
      rw [hp] at hB
      clear ht hp
      cases p
      · go_wp2_with (go_at_call 107; refine hB.out.mono ?_; rintro e w' ⟨rfl, hw⟩; rw [hw])
        go_round
        case rel => exact ⟨k + 1, by omega, by go_num, Lib.hid (by rw [hd.out]; rfl)⟩
        case measure => simp [intOf]; omega
      · go_wp2_with (go_at_call 107; refine hB.out.mono ?_; rintro e w' ⟨rfl, hw⟩; rw [hw])
        go_ret
        exact ⟨ret_bool (by rw [hd.out]; rfl), rfl⟩
    · go_wp2
      go_ret
      have : k = n := by omega
      subst this
      exact ⟨ret_bool (by rw [hm.out, List.drop_of_length_le (by omega)]; rfl), rfl⟩

set_option maxHeartbeats 4000000 in
theorem rBlock_own (A : Option Addr) (n c : Nat) (l : Txs) (w : World) (hsm : smallD l) (hA : TxR w w.heap.size (A, n, c) l) :
    Calls Tryz.prog 92 #[.slice A n c] w fun e w' => OwnT w w' e (blockD l) := by
  have hl := hA.2.2.len
  dsimp only at hl
  have hn : n ≤ 100000 := by rw [← hl]; exact hsm.1
  obtain ⟨i0, hi, hzz⟩ := Option.map_eq_some_iff.1 infoStr
  simp only [Prod.mk.injEq] at hzz
  obtain ⟨hz0, hz1, hz2⟩ := hzz
  have hAh := Lib.hid hA
  have hsh := Lib.hid hsm.2
  have hlh := Lib.hid hl
  have hcell : Hid (∀ (W : World) (S : ByteArray) j x, ([.string S] : List Value)[j]? = some x → (W.alloc (.cells #[.string S] 9)).cell? ((⟨W.heap.size, 0, none⟩ : Addr).add j) = some x) := Lib.hid (fun W S j x hx => by
    rw [show (⟨W.heap.size, 0, none⟩ : Addr).add j = ⟨W.heap.size, j, none⟩ from by unfold Addr.add; split <;> simp_all, cells_of (one_a W _)]
    simpa using hx)
  have hmax : Hid (∀ k : Nat, k ≤ n → k + 1 ≤ maxLen ∧ (k + 1) * 16 ≤ 140737488355328) := Lib.hid (fun k hk => ⟨by unfold maxLen; omega, by omega⟩)
  have hstart : Hid (TxO w w (.slice none 0 0) []) := Lib.hid ⟨World.ownsRow_nil _ _ _ _, Below.refl _ _⟩
  clear hA hl hsm
  go_enter Tryz.func92, Tryz.ntmps92
  go_wp2
  go_loopw [3, 4, 5] (fun s3 s4 _ wr => ∃ (k : Nat) (v : Value), v = s3 ∧ k ≤ n ∧ s4 = .int .i64 k ∧ Hid (TxO w wr v ((l.take k).map dotT))) (fun _ s4 _ _ => n - (intOf s4).toNat)
  case atStart => exact ⟨0, _, rfl, Nat.zero_le _, rfl, hstart⟩
  case round =>
    obtain ⟨k, v, rfl, hk, rfl, hO⟩ := hrel
    obtain ⟨wo, rfl⟩ : ∃ wo : World, wo = wr := ⟨_, rfl⟩
    by_cases hlt : k < n
    · obtain ⟨b, o, t, rfl, hb, ht, hc⟩ := Strs.at_ hAh.out.2.2 (k := k) hlt
      have xc := (hO.out.below.cell (p := ⟨b, o + k, none⟩) hb).trans hc
      have htl := hsh.out t (List.mem_of_getElem? ht)
      have hB := Lib.hid (fun W => rBegins_anyD t W htl)
      have htk : Hid ((l.take (k + 1)).map dotT = (l.take k).map dotT ++ [dotT t]) := Lib.hid (by rw [take_at ht, List.map_append]; rfl)
      have hlk : Hid (((l.take k).map dotT).length = k) := Lib.hid (by rw [List.length_map, List.length_take]; have := hlh.out; omega)
      obtain ⟨xs, hxs⟩ : ∃ xs, (l.take k).map dotT = xs := ⟨_, rfl⟩
      rw [hxs] at hO hlk htk
      have hown : Hid (∀ o : Obj, (wo.alloc o).ownsRow w.heap.size 9 1 v k (xs.map fun s => .string (str s))) := Lib.hid (fun o => by rw [← hlk.out]; exact hO.out.own.alloc o)
      have hbase : Hid (∀ o : Obj, w.heap.size ≤ (wo.alloc o).heap.size) := Lib.hid (fun o => by have := hO.out.below.size; simp; omega)
      have hpush : Hid (∀ (v' : Value) (w2 : World) (o : Obj) (s : Tx), w2.ownsRow w.heap.size 9 1 v' (k + 1) ((xs.map fun s => .string (str s)) ++ [.string (str s)]) → (wo.alloc o).grownBy w2 v.ownBlock → TxO w w2 v' (xs ++ [s])) := Lib.hid (fun v' w2 o s h1 h2 => hO.out.push (by rw [hlk.out]; exact h1) h2)
      obtain ⟨p, hp⟩ : ∃ p, pointB t = p := ⟨_, rfl⟩
      obtain ⟨S, hS⟩ : ∃ S, str t = S := ⟨_, rfl⟩
      have hdt : Hid (str (dotT t) = if p = true then (⟨#[46]⟩ : ByteArray) ++ S else S) := Lib.hid (by
        unfold dotT
        rw [hp, ← hS]
        cases p
        · rfl
        · rw [if_pos rfl, if_pos rfl, str_dot])
      rw [hp] at hB
      rw [hS] at hB xc
      have hSs : ¬ 9223372036854775807 < 1 + S.size := by rw [← hS, str_size]; omega
      have hkn : Hid (k + 1 ≤ n) := Lib.hid (by omega)
      clear ht hc hb hp hS hxs htl hO
      cases p
      · go_wp2_with (first
          | (go_at_call 107; refine (hB.out _).mono ?_; rintro e w' ⟨rfl, hw⟩; rw [hw])
          | (at_builtin; refine wpList_append_own_at _ rfl _ _ 22 rfl w.heap.size 9 i0 (.string ByteArray.empty) 1 16 Tryz.underlying22 hi hz0 hz1 hz2 rfl (by decide) v k _ rfl (hown.out _) ⟨wo.heap.size, 0, none⟩ 1 1 [.string S] rfl rfl (hcell.out wo S) (by simp; rfl) (hmax.out k hk).1 (hmax.out k hk).2 (hbase.out _) ?_; intro v' w2 hown2 hg2 hnil2 hloc2; clear hnil2 hloc2; rw [show S = str (dotT t) by rw [hdt.out]; rfl] at hown2; have hT2 := Lib.hid (hpush.out v' w2 _ (dotT t) hown2 hg2); clear hown2 hg2))
        go_roundw
        case rel => exact ⟨k + 1, v', rfl, hkn.out, by go_num, by rw [htk.out]; exact hT2⟩
        case measure => simp [intOf]; have := hkn.out; omega
      · go_wp2_with (first
          | (go_at_call 107; refine (hB.out _).mono ?_; rintro e w' ⟨rfl, hw⟩; rw [hw])
          | (at_builtin; refine wpList_append_own_at _ rfl _ _ 22 rfl w.heap.size 9 i0 (.string ByteArray.empty) 1 16 Tryz.underlying22 hi hz0 hz1 hz2 rfl (by decide) v k _ rfl (hown.out _) ⟨wo.heap.size, 0, none⟩ 1 1 [.string (⟨#[46]⟩ ++ S)] rfl rfl (hcell.out wo (⟨#[46]⟩ ++ S)) (by simp; rfl) (hmax.out k hk).1 (hmax.out k hk).2 (hbase.out _) ?_; intro v' w2 hown2 hg2 hnil2 hloc2; clear hnil2 hloc2; rw [show (⟨#[46]⟩ : ByteArray) ++ S = str (dotT t) by rw [hdt.out]; rfl] at hown2; have hT2 := Lib.hid (hpush.out v' w2 _ (dotT t) hown2 hg2); clear hown2 hg2))
        go_roundw
        case rel => exact ⟨k + 1, v', rfl, hkn.out, by go_num, by rw [htk.out]; exact hT2⟩
        case measure => simp [intOf]; have := hkn.out; omega
    · obtain rfl : k = n := by omega
      have hO2 := hO.out
      rw [List.take_of_length_le (by rw [hlh.out]; exact Nat.le_refl _)] at hO2
      have hlk : Hid ((l.map dotT).length = k) := Lib.hid (by rw [List.length_map]; exact hlh.out)
      have hown : Hid ((wo.alloc (.cells #[.string ⟨#[46, 10]⟩] 9)).ownsRow w.heap.size 9 1 v k ((l.map dotT).map fun s => .string (str s))) := Lib.hid (by rw [← hlk.out]; exact hO2.own.alloc _)
      have hbase : Hid (w.heap.size ≤ (wo.alloc (.cells #[.string ⟨#[46, 10]⟩] 9)).heap.size) := Lib.hid (by have := hO2.below.size; simp; omega)
      have hpush : Hid (∀ (v' : Value) (w2 : World), w2.ownsRow w.heap.size 9 1 v' (k + 1) (((l.map dotT).map fun s => .string (str s)) ++ [.string (str endD)]) → (wo.alloc (.cells #[.string ⟨#[46, 10]⟩] 9)).grownBy w2 v.ownBlock → TxO w w2 v' (blockD l)) := Lib.hid (fun v' w2 h1 h2 => hO2.push (by rw [hlk.out]; exact h1) h2)
      clear hO hO2
      go_wp2_with (at_builtin; refine wpList_append_own_at _ rfl _ _ 22 rfl w.heap.size 9 i0 (.string ByteArray.empty) 1 16 Tryz.underlying22 hi hz0 hz1 hz2 rfl (by decide) v k _ rfl hown.out ⟨wo.heap.size, 0, none⟩ 1 1 [.string ⟨#[46, 10]⟩] rfl rfl (hcell.out wo _) (by simp; rfl) (hmax.out k hk).1 (hmax.out k hk).2 hbase.out ?_; intro v' w2 hown2 hg2 hnil2 hloc2; clear hnil2 hloc2; have hT2 := Lib.hid (hpush.out v' w2 hown2 hg2); clear hown2 hg2)
      go_ret
      exact ⟨_, rfl, hT2.out⟩
theorem OwnT.out {w w' : World} {e : Ending} {xs : Txs} (h : OwnT w w' e xs) : TxsOut w w' e xs := by
  obtain ⟨v, rfl, h⟩ := h
  exact h.out
theorem rBlock_any (A : Option Addr) (n c : Nat) (l : Txs) (w : World) (hsm : smallD l) (hA : TxR w w.heap.size (A, n, c) l) :
    Calls Tryz.prog 92 #[.slice A n c] w fun e w' => TxsOut w w' e (blockD l) := (rBlock_own A n c l w hsm hA).mono fun e w' h => h.out
end Go.Proofs.YtoopdgohdeddoaaGreatDoor
