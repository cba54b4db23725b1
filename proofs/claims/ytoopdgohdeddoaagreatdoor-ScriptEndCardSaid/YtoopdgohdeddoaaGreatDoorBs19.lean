/- Proved here: texts joined: ContFew, Last, May, MgFew, MgOut, IdNum. -/
import Derived.Test.YtoopdgohdeddoaaGreatDoorBs01
import Derived.Test.YtoopdgohdeddoaaGreatDoorBs02
import Derived.Test.YtoopdgohdeddoaaGreatDoorBs04
import Derived.Test.YtoopdgohdeddoaaGreatDoorBs09
import Derived.Test.YtoopdgohdeddoaaGreatDoorBs10
import Derived.Test.YtoopdgohdeddoaaGreatDoorBs11
import Derived.Test.YtoopdgohdeddoaaGreatDoorBs13
import Derived.Test.YtoopdgohdeddoaaGreatDoorChecked
import Derived.WalkLawsBesides
import Derived.Deep.QuietTactic
import Derived.BigQuiet
import Derived.Lib.Hide
/- Proved here, without conditions on the program: few texts. -/
namespace Go.Proofs.YtoopdgohdeddoaaGreatDoor
open Go.RowKit
set_option linter.unusedVariables false

/-- A base, and 6 parts, of 20 texts of 100 bytes, at most. -/
def fewT (base : Txs) (parts : List Txs) : Bool := fewB base 20 && decide (parts.length ≤ 6) && (parts.take 7).all fun f => fewB f 20
theorem fewB_len {ss : Txs} {m : Nat} (h : fewB ss m = true) : ss.length ≤ m := by
  unfold fewB at h
  simp at h
  exact h.1
theorem fewT_parts {base : Txs} {parts : List Txs} (h : fewT base parts = true) : base.length ≤ 20 ∧ parts.length ≤ 6 ∧ ∀ f ∈ parts, f.length ≤ 20 := by
  unfold fewT at h
  rw [Bool.and_eq_true, Bool.and_eq_true, decide_eq_true_eq] at h
  obtain ⟨⟨h1, h2⟩, h3⟩ := h
  refine ⟨fewB_len h1, h2, fun f hf => ?_⟩
  rw [List.take_of_length_le (by omega), List.all_eq_true] at h3
  exact fewB_len (h3 f hf)
theorem fewB_txs {ss : Txs} {m : Nat} (h : fewB ss m = true) : ∀ s ∈ ss, s.length ≤ 100 := by
  have hl := fewB_len h
  unfold fewB at h
  rw [Bool.and_eq_true, List.all_eq_true] at h
  intro s hs
  have := h.2 s (by rw [List.take_of_length_le (by omega)]; exact hs)
  simpa using this
theorem fewT_txs {base : Txs} {parts : List Txs} (h : fewT base parts = true) : (∀ s ∈ base, s.length ≤ 100) ∧ ∀ f ∈ parts, ∀ s ∈ f, s.length ≤ 100 := by
  unfold fewT at h
  rw [Bool.and_eq_true, Bool.and_eq_true, decide_eq_true_eq] at h
  obtain ⟨⟨h1, h2⟩, h3⟩ := h
  refine ⟨fewB_txs h1, fun f hf => ?_⟩
  rw [List.take_of_length_le (by omega), List.all_eq_true] at h3
  exact fewB_txs (h3 f hf)
theorem fewT_step {files : List Txs} {k : Nat} {f : Txs} (hq : (files.take k).all (fun f => fewB f 20) = true) (ht : files[k]? = some f) (h : fewB f 20 = true) : (files.take (k + 1)).all (fun f => fewB f 20) = true := by
  rw [take_at ht, List.all_append, hq]
  simp [h]
theorem fewT_no {base : Txs} {files : List Txs} {k : Nat} {f : Txs} (hk : k < 7) (ht : files[k]? = some f) (h : fewB f 20 = false) : false = fewT base files := by
  unfold fewT
  have hm : f ∈ files.take 7 := List.mem_of_getElem? (i := k) (by rw [List.getElem?_take]; rw [if_pos hk]; exact ht)
  rw [eq_comm, Bool.and_eq_false_iff]
  right
  rw [Bool.eq_false_iff, ne_eq, List.all_eq_true]
  intro ha
  rw [ha f hm] at h
  cases h
theorem fewT_end {base : Txs} {files : List Txs} {k n : Nat} (hl : files.length = n) (h : k = n ∨ 7 ≤ k ∧ k < n) (hq : (files.take k).all (fun f => fewB f 20) = true) : (fewB base 20 && decide (n ≤ 6)) = fewT base files := by
  unfold fewT
  rw [hl]
  by_cases hm : n ≤ 6
  · have : k = n := by omega
    subst this
    rw [List.take_of_length_le (by omega)] at hq
    rw [List.take_of_length_le (by omega), hq]
    simp
  · simp [hm]

end Go.Proofs.YtoopdgohdeddoaaGreatDoor
/- Proved here, without conditions on the program: the last byte of a string. (NOT beside stage 1's Lines, which has the same name.) -/
namespace Go.Proofs.YtoopdgohdeddoaaGreatDoor
open Go.RowKit
set_option linter.unusedVariables false

theorem last_byte (s : ByteArray) (h : 1 ≤ s.size) (k : Nat) (hk : k = s.size - 1) (h' : k < s.size) : endedB s.data.toList = (((s[k]'h').toNat : Int) == 10) := by
  subst hk
  have e : s.data.toList.getLast? = some (s[s.size - 1]'h') := by
    rw [List.getLast?_eq_getElem?]
    have hz : s.data.toList.length = s.size := (Lib.size_eq s).symm
    rw [hz, List.getElem?_eq_getElem (by omega)]
    rfl
  unfold endedB
  rw [e, Bool.eq_iff_iff]
  simp only [beq_iff_eq, Option.some.injEq]
  constructor
  · intro h; rw [h]; rfl
  · intro h; exact UInt8.toNat_inj.1 (by simpa using (by exact_mod_cast h : (s[s.size - 1]'h').toNat = 10))
end Go.Proofs.YtoopdgohdeddoaaGreatDoor
/- Proved here: the contract of the document's own answer May of layer 1 (for strings of at most maxLen bytes); for stages behind the first: NOT beside stage 1's Lines, Ref and Laws, which have the same names. -/
namespace Go.Proofs.YtoopdgohdeddoaaGreatDoor
open Go.RowKit
set_option linter.unusedVariables false

theorem take_byte (s : ByteArray) (k : Nat) (h : k < s.size) : s.data.toList.take (k + 1) = s.data.toList.take k ++ [s[k]] := by
  rw [List.take_succ_eq_append_getElem (by simpa using h)]; rfl
def nlN (l : List UInt8) : Nat := l.count 10
theorem nlN_le (l : List UInt8) (k : Nat) : nlN (l.take k) ≤ l.length := by
  unfold nlN
  have := List.count_le_length (a := (10 : UInt8)) (l := l.take k)
  have := List.length_take_le k l
  have := List.length_take_le' k l
  omega
theorem is10 (c : UInt8) : ((c.toNat : Int) == 10) = (c == 10) := byte_is (c := c) (n := 10) (by omega)
theorem nlN_hit (l : List UInt8) (c : UInt8) (h : ((c.toNat : Int) == 10) = true) : nlN (l ++ [c]) = nlN l + 1 := by
  rw [is10] at h
  unfold nlN
  rw [List.count_append, List.count_singleton, h]; rfl
theorem nlN_miss (l : List UInt8) (c : UInt8) (h : ((c.toNat : Int) == 10) = false) : nlN (l ++ [c]) = nlN l := by
  rw [is10] at h
  unfold nlN
  rw [List.count_append, List.count_singleton, h]; rfl

set_option maxHeartbeats 400000 in
theorem feeds_any (s : ByteArray) (w : World) (hs : s.size ≤ maxLen) :
    Calls Tryz.prog 31 #[.string s] w fun e w' => e = .returned (.int .i64 (nlN s.data.toList)) ∧ w = w' := by
  unfold maxLen at hs
  go_enter Tryz.func31, Tryz.ntmps31
  go_wp2
  go_loop [3, 4] (fun n i => ∃ k : Nat, k ≤ s.size ∧ i = .int .i64 k ∧ n = .int .i64 (nlN (s.data.toList.take k))) (fun _ i => s.size - (intOf i).toNat)
  case atStart => exact ⟨0, Nat.zero_le _, rfl, rfl⟩
  case round =>
    obtain ⟨k, hk, rfl, rfl⟩ := hrel
    have hl := nlN_le s.data.toList k
    rw [← Lib.size_eq] at hl
    by_cases hlt : k < s.size
    · have hts := Lib.hid (take_byte s k hlt)
      have hl3 : nlN (s.data.toList.take k) + 1 ≤ 9223372036854775807 := by
        have := List.count_le_length (a := (10 : UInt8)) (l := s.data.toList.take k)
        have := List.length_take_le k s.data.toList
        unfold nlN; omega
      go_wp2
      · have h : ((s[k].toNat : Int) == 10) = true := by assumption
        go_round
        case rel => exact ⟨k + 1, by omega, by go_num, by rw [hts.out, nlN_hit _ _ h]; go_num⟩
        case measure => simp [intOf]; omega
      · have h : ((s[k].toNat : Int) == 10) = false := by assumption
        go_round
        case rel => exact ⟨k + 1, by omega, by go_num, by rw [hts.out, nlN_miss _ _ h]⟩
        case measure => simp [intOf]; omega
    · go_wp2
      go_ret
      obtain rfl : k = s.size := by omega
      exact ⟨ret_int (by rw [Lib.size_eq, List.take_length]), rfl⟩

def lineB (l : List UInt8) : Bool := nlN l == 1 && endedB l
set_option maxHeartbeats 400000 in
theorem Line_any (s : ByteArray) (w : World) (hs : s.size ≤ maxLen) :
    Calls Tryz.prog 32 #[.string s] w fun e w' => e = .returned (.bool (lineB s.data.toList)) ∧ w = w' := by
  have hs' := hs
  unfold maxLen at hs
  obtain ⟨N, hN⟩ : ∃ N, N = nlN s.data.toList := ⟨_, rfl⟩
  have hN' := Lib.hid hN
  by_cases h1 : N = 1
  · have hpos : 1 ≤ s.size := by
      rw [Lib.size_eq]
      have := List.count_le_length (a := (10 : UInt8)) (l := s.data.toList)
      unfold nlN at hN
      omega
    have hb : (((N : Nat) : Int) == 1) = true := by rw [h1]; rfl
    have hlb := Lib.hid (last_byte s hpos _ rfl (by omega))
    have h1' := Lib.hid h1
    have hi : (s.size : Int) - 1 < s.size := by omega
    clear h1 hN
    go_enter Tryz.func32, Tryz.ntmps32
    go_wp2_with (go_at_call 31; refine (feeds_any s _ hs').mono ?_; rintro e w' ⟨rfl, rfl⟩; rw [show nlN s.data.toList = N from hN'.out.symm])
    go_ret
    exact ⟨ret_bool (by unfold lineB; rw [← hN'.out, h1'.out, hlb.out]; rfl), rfl⟩
  · have hb : (((N : Nat) : Int) == 1) = false := by simp; omega
    have h1' := Lib.hid h1
    clear h1 hN
    go_enter Tryz.func32, Tryz.ntmps32
    go_wp2_with (go_at_call 31; refine (feeds_any s _ hs').mono ?_; rintro e w' ⟨rfl, rfl⟩; rw [show nlN s.data.toList = N from hN'.out.symm])
    go_ret
    exact ⟨ret_bool (by unfold lineB; rw [← hN'.out]; simp [h1'.out]), rfl⟩

def rmay : List (List UInt8) → Bool
  | [] => true
  | s :: r => ((r.isEmpty && decide (0 < s.length) && nlN s == 0) || lineB s) && rmay r

section
variable {ss : List (List UInt8)} {k n : Nat} {t : List UInt8}
theorem rmay_no (hl : ss.length = n) (hm : rmay ss = rmay (ss.drop k)) (hd : ss.drop k = t :: ss.drop (k + 1)) (h2 : ¬ k + 1 = n) (h : (!lineB (str t).data.toList) = true) : false = rmay ss := by
  rw [str_data] at h
  have h' : lineB t = false := by simpa using h
  have hk : k < ss.length := by
    have := congrArg List.length hd
    simp at this; omega
  have hne : (ss.drop (k + 1)).isEmpty = false := by
    rw [Bool.eq_false_iff, ne_eq, List.isEmpty_iff]
    intro e
    have := congrArg List.length e
    rw [List.length_drop] at this
    simp at this
    omega
  rw [hm, hd, rmay, h', hne]
  simp
theorem rmay_last_nil (hl : ss.length = n) (h2 : k + 1 = n) : ss.drop (k + 1) = [] := List.drop_of_length_le (by omega)
theorem rmay_last (hl : ss.length = n) (hm : rmay ss = rmay (ss.drop k)) (hd : ss.drop k = t :: ss.drop (k + 1)) (h2 : k + 1 = n) : rmay ss = ((decide (0 < t.length) && nlN t == 0) || lineB t) := by
  rw [hm, hd, rmay_last_nil hl h2, rmay]
  simp [rmay]
theorem rmay_go (hm : rmay ss = rmay (ss.drop k)) (hd : ss.drop k = t :: ss.drop (k + 1)) (h : (!lineB (str t).data.toList) = false) : rmay ss = rmay (ss.drop (k + 1)) := by
  rw [str_data] at h
  have h' : lineB t = true := by simpa using h
  rw [hm, hd, rmay, h']
  simp
end

set_option maxHeartbeats 400000 in
theorem rMay_any (A : Option Addr) (n c B : Nat) (ss : List (List UInt8)) (w : World) (hn : n ≤ maxLen) (hs : ∀ s ∈ ss, s.length ≤ maxLen) (hA : Strs w B A n ss) :
    Calls Tryz.prog 16 #[.slice A n c] w fun e w' => e = .returned (.bool (rmay ss)) ∧ w = w' := by
  unfold maxLen at hn
  have hl := hA.len
  go_enter Tryz.func16, Tryz.ntmps16
  go_wp2
  go_loop [3] (fun i => ∃ k : Nat, k ≤ n ∧ i = .int .i64 k ∧ Hid (rmay ss = rmay (ss.drop k))) (fun i => n - (intOf i).toNat)
  case atStart => exact ⟨0, Nat.zero_le _, rfl, Lib.hid rfl⟩
  case round =>
    obtain ⟨k, hk, rfl, hm⟩ := hrel
    by_cases hlt : k < n
    · obtain ⟨b, o, t, rfl, _, ht, hc⟩ := hA.at_ (k := k) hlt
      have htl : t.length ≤ maxLen := hs t (List.mem_of_getElem? ht)
      have htl' : (str t).size ≤ maxLen := by rw [str_size]; exact htl
      unfold maxLen at htl
      have hd := Lib.hid (drop_at ht)
      by_cases hlast : k + 1 = n
      · have hb : ((k : Int) == (n : Int) - 1) = true := by simp; omega
        have hlast' := Lib.hid hlast
        clear hlast
        go_wp2_with (first
          | (go_at_call 31; refine (feeds_any (str t) _ htl').mono ?_; rintro e w' ⟨rfl, rfl⟩)
          | (go_at_call 32; refine (Line_any (str t) _ htl').mono ?_; rintro e w' ⟨rfl, rfl⟩))
        · have h1 : 0 < (str t).size := by assumption
          have h2 : nlN (str t).data.toList = 0 := by assumption
          go_round
          case rel => exact ⟨k + 1, by have := hlast'.out; omega, by go_num, Lib.hid (by rw [rmay_last hl hm.out hd.out hlast'.out, (rmay_last_nil hl hlast'.out)]; rw [str_data] at h2; rw [str_size] at h1; simp [h2, h1, rmay])⟩
          case measure => have := hlast'.out; simp [intOf]; omega
        · have h1 : ¬ nlN (str t).data.toList = 0 := by assumption
          have h2 : (!((nlN (str t).data.toList : Int)) == 0) = true ∧ (!lineB (str t).data.toList) = true := by assumption
          go_ret
          exact ⟨ret_bool (by rw [rmay_last hl hm.out hd.out hlast'.out]; rw [str_data] at h1 h2; simp at h2; simp [h1, h2.2]), rfl⟩
        · have h1 : ¬ nlN (str t).data.toList = 0 := by assumption
          have h2 : (!((nlN (str t).data.toList : Int)) == 0) = false ∨ (!lineB (str t).data.toList) = false := by assumption
          go_round
          case rel => exact ⟨k + 1, by have := hlast'.out; omega, by go_num, Lib.hid (rmay_go hm.out hd.out (by rcases h2 with h2 | h2; { exfalso; apply h1; simpa using h2 }; exact h2))⟩
          case measure => have := hlast'.out; simp [intOf]; omega
        · have h1 : ¬ 0 < (str t).size := by assumption
          have h2 : (!lineB (str t).data.toList) = true := by assumption
          go_ret
          exact ⟨ret_bool (by rw [rmay_last hl hm.out hd.out hlast'.out]; rw [str_data] at h2; rw [str_size] at h1; simp at h2; simp [h1, h2]), rfl⟩
        · have h2 : (!lineB (str t).data.toList) = false := by assumption
          go_round
          case rel => exact ⟨k + 1, by have := hlast'.out; omega, by go_num, Lib.hid (rmay_go hm.out hd.out h2)⟩
          case measure => have := hlast'.out; simp [intOf]; omega
      · have hb : ((k : Int) == (n : Int) - 1) = false := by simp; omega
        have hlast' := Lib.hid hlast
        clear hlast
        go_wp2_with (go_at_call 32; refine (Line_any (str t) _ htl').mono ?_; rintro e w' ⟨rfl, rfl⟩)
        · have h : (!lineB (str t).data.toList) = true := by assumption
          go_ret
          exact ⟨ret_bool (rmay_no hl hm.out hd.out hlast'.out h), rfl⟩
        · have h : (!lineB (str t).data.toList) = false := by assumption
          go_round
          case rel => exact ⟨k + 1, by omega, by go_num, Lib.hid (rmay_go hm.out hd.out h)⟩
          case measure => simp [intOf]; omega
    · go_wp2
      go_ret
      have : k = n := by omega
      subst this
      exact ⟨ret_bool (by rw [hm.out, List.drop_of_length_le (by omega)]; rfl), rfl⟩

theorem fe_all (s : List UInt8) (h : s ≠ []) : fe s = s.length ↔ (nlN s = 0 ∨ (nlN s = 1 ∧ s.getLast? = some 10)) := by
  induction s with
  | nil => exact absurd rfl h
  | cons c r ih =>
    by_cases hc : c = 10
    · subst hc
      have hf : fe (10 :: r) = 1 := by simp [fe]
      have hn : nlN (10 :: r) = nlN r + 1 := by simp [nlN]
      rw [hf, hn]
      cases r with
      | nil => simp [nlN]
      | cons d t =>
        constructor
        · intro h; simp at h
        · rintro (h | ⟨h1, h2⟩)
          · omega
          · exfalso
            rw [List.getLast?_cons_cons] at h2
            have : (10 : UInt8) ∈ d :: t := List.mem_of_getLast? h2
            have := List.count_pos_iff.2 this
            unfold nlN at h1
            omega
    · have hf : fe (c :: r) = fe r + 1 := by simp [fe, hc]
      have hn : nlN (c :: r) = nlN r := by simp [nlN, hc]
      rw [hf, hn]
      cases r with
      | nil => simp [fe, nlN]
      | cons d t =>
        rw [List.getLast?_cons_cons, ← ih (by simp)]
        simp

theorem may_eq (ss : List (List UInt8)) : mayB ss = rmay ss := by
  induction ss with
  | nil => rfl
  | cons s r ih =>
    rw [mayB, rmay, ih]
    congr 1
    cases s with
    | nil => simp [lineB, nlN]
    | cons c t =>
      have hk := fe_all (c :: t) (by simp)
      have hle := fe_le (c :: t)
      have hd : (!decide (fe (c :: t) < (c :: t).length)) = decide (fe (c :: t) = (c :: t).length) := by
        rw [Bool.eq_iff_iff]; simp only [Bool.not_eq_true', decide_eq_false_iff_not, decide_eq_true_iff]; omega
      rw [hd]
      rw [Bool.eq_iff_iff]
      simp only [lineB, endedB, Bool.and_eq_true, Bool.or_eq_true, decide_eq_true_iff, beq_iff_eq, hk]
      by_cases h0 : nlN (c :: t) = 0
      · have hno : ¬ (c :: t).getLast? = some 10 := by
          intro h
          have := List.count_pos_iff.2 (List.mem_of_getLast? h)
          unfold nlN at h0
          omega
        simp [h0, hno]
      · simp [h0]
        exact fun _ h => .inr h

/-- May, by the plain word. -/
theorem rMayB_any (A : Option Addr) (n c B : Nat) (ss : List (List UInt8)) (w : World) (hn : n ≤ maxLen) (hs : ∀ s ∈ ss, s.length ≤ maxLen) (hA : Strs w B A n ss) :
    Calls Tryz.prog 16 #[.slice A n c] w fun e w' => e = .returned (.bool (mayB ss)) ∧ w = w' := by
  rw [may_eq]
  exact rMay_any A n c B ss w hn hs hA
end Go.Proofs.YtoopdgohdeddoaaGreatDoor
/- Proved here: contracts of the document's own answers of layer 8: Few, wrong, May. -/
namespace Go.Proofs.YtoopdgohdeddoaaGreatDoor
open Go.RowKit
set_option linter.unusedVariables false

/-- A base, and 6 sides, of 16 texts of 100 bytes, at most. -/
def fewM (base : Txs) (parts : List Txs) : Bool := fewB base 16 && decide (parts.length ≤ 6) && (parts.take 7).all fun f => fewB f 16
theorem fewM_small {base : Txs} {parts : List Txs} (h : fewM base parts = true) : parts.length ≤ 6 ∧ base.length ≤ 16 ∧ (∀ s ∈ base, s.length ≤ 100) ∧ ∀ f ∈ parts, f.length ≤ 16 ∧ ∀ s ∈ f, s.length ≤ 100 := by
  unfold fewM at h
  rw [Bool.and_eq_true, Bool.and_eq_true, decide_eq_true_eq] at h
  obtain ⟨⟨h1, h2⟩, h3⟩ := h
  rw [List.take_of_length_le (by omega), List.all_eq_true] at h3
  exact ⟨h2, fewB_len h1, fewB_txs h1, fun f hf => ⟨fewB_len (h3 f hf), fewB_txs (h3 f hf)⟩⟩
theorem fewM_step {files : List Txs} {k : Nat} {f : Txs} (hq : (files.take k).all (fun f => fewB f 16) = true) (ht : files[k]? = some f) (h : fewB f 16 = true) : (files.take (k + 1)).all (fun f => fewB f 16) = true := by
  rw [take_at ht, List.all_append, hq]
  simp [h]
theorem fewM_no {base : Txs} {files : List Txs} {k : Nat} {f : Txs} (hk : k < 7) (ht : files[k]? = some f) (h : fewB f 16 = false) : false = fewM base files := by
  unfold fewM
  have hm : f ∈ files.take 7 := List.mem_of_getElem? (i := k) (by rw [List.getElem?_take]; rw [if_pos hk]; exact ht)
  rw [eq_comm, Bool.and_eq_false_iff]
  right
  rw [Bool.eq_false_iff, ne_eq, List.all_eq_true]
  intro ha
  rw [ha f hm] at h
  cases h
theorem fewM_end {base : Txs} {files : List Txs} {k n : Nat} (hl : files.length = n) (h : k = n ∨ 7 ≤ k ∧ k < n) (hq : (files.take k).all (fun f => fewB f 16) = true) : (fewB base 16 && decide (n ≤ 6)) = fewM base files := by
  unfold fewM
  rw [hl]
  by_cases hm : n ≤ 6
  · have : k = n := by omega
    subst this
    rw [List.take_of_length_le (by omega)] at hq
    rw [List.take_of_length_le (by omega), hq]
    simp
  · simp [hm]

set_option maxHeartbeats 800000 in
theorem mFew_any (A0 : Option Addr) (n0 c0 B0 : Nat) (base : Txs) (A : Option Addr) (n c B : Nat) (rows : List Slc) (files : List Txs) (w : World) (hn0 : n0 ≤ maxLen) (hn : n ≤ maxLen) (hA0 : Strs w B0 A0 n0 base) (hA : RowsT w B A n rows files) :
    Calls Tryz.prog 55 #[.slice A0 n0 c0, .slice A n c] w fun e w' => e = .returned (.bool (fewM base files)) ∧ w' = w := by
  have hf := hA.few
  have hl := hA.len
  obtain ⟨fb, hfb⟩ : ∃ fb, fewB base 16 = fb := ⟨_, rfl⟩
  have hF := Few_any A0 n0 c0 16 B0 base w hn0 (by omega) hA0
  rw [hfb] at hF
  have hF' := Lib.hid hF
  have hfbh := Lib.hid hfb
  unfold maxLen at hn
  clear hF hfb hA0
  go_enter Tryz.func55, Tryz.ntmps55
  go_wp2
  go_loop [5] (fun i => ∃ k : Nat, k ≤ n ∧ k ≤ 7 ∧ i = .int .i64 k ∧ Hid ((files.take k).all (fun f => fewB f 16) = true)) (fun i => n - (intOf i).toNat)
  case atStart => exact ⟨0, Nat.zero_le _, Nat.zero_le _, rfl, Lib.hid rfl⟩
  case round =>
    obtain ⟨k, hk, hk7, rfl, hq⟩ := hrel
    by_cases hlt : k < n
    · by_cases hm : k < 7
      · obtain ⟨b, o, A', n', c', f, rfl, hb, ht, -, hc, hnc, hcm, hst⟩ := hA.at_ (k := k) hlt
        have hfl : n' ≤ maxLen := by omega
        obtain ⟨g, hg⟩ : ∃ g, fewB f 16 = g := ⟨_, rfl⟩
        have hC := Few_any A' n' c' 16 B f w hfl (by omega) hst
        rw [hg] at hC
        have hC' := Lib.hid hC
        have hg' := Lib.hid hg
        clear hC hg
        cases g
        · go_wp2_with (go_at_call 9; refine hC'.out.mono ?_; rintro e w' ⟨rfl, rfl⟩)
          go_ret
          exact ⟨ret_bool (fewM_no hm ht hg'.out), rfl⟩
        · go_wp2_with (go_at_call 9; refine hC'.out.mono ?_; rintro e w' ⟨rfl, rfl⟩)
          go_round
          case rel => exact ⟨k + 1, by omega, by omega, by go_num, Lib.hid (fewM_step hq.out ht hg'.out)⟩
          case measure => simp [intOf]; omega
      · have hend := Lib.hid (fewM_end (base := base) hl (.inr ⟨by omega, hlt⟩) hq.out)
        have h6 : decide ((n : Int) ≤ 6) = false := by simp; omega
        cases fb
        · go_wp2_with (go_at_call 9; refine hF'.out.mono ?_; rintro e w' ⟨rfl, rfl⟩)
          go_ret
          exact ⟨ret_bool (by rw [← hend.out, hfbh.out]; rfl), rfl⟩
        · go_wp2_with (go_at_call 9; refine hF'.out.mono ?_; rintro e w' ⟨rfl, rfl⟩)
          go_ret
          exact ⟨ret_bool (by rw [← hend.out, hfbh.out]; simp; try omega), rfl⟩
    · obtain rfl : k = n := by omega
      have hend := Lib.hid (fewM_end (base := base) hl (.inl rfl) hq.out)
      cases fb
      · go_wp2_with (go_at_call 9; refine hF'.out.mono ?_; rintro e w' ⟨rfl, rfl⟩)
        all_goals
          go_ret
          exact ⟨ret_bool (by rw [← hend.out, hfbh.out]; rfl), rfl⟩
      · go_wp2_with (go_at_call 9; refine hF'.out.mono ?_; rintro e w' ⟨rfl, rfl⟩)
        all_goals
          go_ret
          exact ⟨ret_bool (by rw [← hend.out, hfbh.out]; simp; try omega), rfl⟩

theorem wrong_may {base : Txs} {sides : List Txs} {k : Nat} {d : Txs} (h : sides[k]? = some d) : (mayB base && (sides.take (k + 1)).all mayB) = ((mayB base && (sides.take k).all mayB) && mayB d) := by
  rw [take_at h, List.all_append]
  simp [Bool.and_assoc]
theorem wrong_long {base : Txs} {sides : List Txs} {k : Nat} {d : Txs} (h : sides[k]? = some d) : (decide (2000 < base.length) || (sides.take (k + 1)).any fun d => decide (2000 < d.length)) = ((decide (2000 < base.length) || (sides.take k).any fun d => decide (2000 < d.length)) || decide (2000 < d.length)) := by
  rw [take_at h, List.any_append]
  simp [Bool.or_assoc]

set_option maxRecDepth 100000 in
set_option maxHeartbeats 2000000 in
theorem mWrong_any (A0 : Option Addr) (n0 c0 : Nat) (base : Txs) (A : Option Addr) (n c B : Nat) (rows : List Slc) (sides : List Txs) (w : World) (hn0 : n0 ≤ maxLen) (hn : n ≤ maxLen) (htx : ∀ d ∈ base :: sides, ∀ s ∈ d, s.length ≤ maxLen) (hA0 : Strs w B A0 n0 base) (hA : RowsT w B A n rows sides) :
    Calls Tryz.prog 47 #[.slice A0 n0 c0, .slice A n c] w fun e w' => e = .returned (.int .i64 (wrongN base sides)) ∧ w = w' := by
  have hl := hA.len
  have hl0 := hA0.len
  have hM0 := Lib.hid (rMayB_any A0 n0 c0 B base w hn0 (htx base (List.mem_cons_self ..)) hA0)
  have hAh := Lib.hid hA
  have htxh := Lib.hid htx
  unfold maxLen at hn hn0
  by_cases h0 : sides.length = 0 ∨ 16 < sides.length
  · have hw : wrongN base sides = 1 := by unfold wrongN; rw [if_pos h0]
    rw [hw]
    rw [hl] at h0
    clear hA hA0 htx hw
    rcases h0 with h0 | h0
    · subst h0
      go_enter Tryz.func47, Tryz.ntmps47
      go_wp2
      go_ret
      exact ⟨rfl, rfl⟩
    · have d1 : ((n : Int) == 0) = false := by simp; omega
      have d2 : decide ((16 : Int) < (n : Int)) = true := decide_eq_true (by omega)
      go_enter Tryz.func47, Tryz.ntmps47
      go_wp2
      go_ret
      exact ⟨rfl, rfl⟩
  have hw : wrongN base sides = if (mayB base && sides.all mayB) = false then 2 else if (decide (2000 < base.length) || sides.any fun d => decide (2000 < d.length)) = true then 4 else 0 := by unfold wrongN; rw [if_neg h0]
  have hwh := Lib.hid hw
  obtain ⟨W, hW⟩ : ∃ W, wrongN base sides = W := ⟨_, rfl⟩
  have hWh := Lib.hid hW
  rw [hW]
  have d1 : ((n : Int) == 0) = false := by simp; omega
  have d2 : decide ((16 : Int) < (n : Int)) = false := decide_eq_false (by omega)
  obtain ⟨b0, hb0⟩ : ∃ b0, mayB base = b0 := ⟨_, rfl⟩
  rw [hb0] at hM0
  obtain ⟨g0, hg0⟩ : ∃ g0, decide ((2000 : Int) < (n0 : Int)) = g0 := ⟨_, rfl⟩
  have hst : Hid (b0 = (mayB base && (sides.take 0).all mayB) ∧ g0 = (decide (2000 < base.length) || (sides.take 0).any fun d => decide (2000 < d.length))) := Lib.hid ⟨by rw [hb0]; simp, by rw [← hg0, hl0, List.take_zero]; simp only [List.any_nil, Bool.or_false]; exact decide_eq_decide.2 (by omega)⟩
  clear hA hA0 htx hw hW hb0 h0
  go_enter Tryz.func47, Tryz.ntmps47
  go_wp2_with (go_at_call 16; refine hM0.out.mono ?_; rintro e w1 ⟨rfl, rfl⟩)
  go_loop [5, 6, 7] (fun s5 s6 s7 => ∃ (k : Nat) (bm bl : Bool), k ≤ n ∧ s7 = .int .i64 k ∧ s5 = .bool bm ∧ s6 = .bool bl ∧ Hid (bm = (mayB base && (sides.take k).all mayB) ∧ bl = (decide (2000 < base.length) || (sides.take k).any fun d => decide (2000 < d.length)))) (fun _ _ s7 => n - (intOf s7).toNat)
  case atStart => exact ⟨0, b0, g0, Nat.zero_le _, rfl, rfl, by first | rfl | rw [hg0], hst⟩
  case round =>
    obtain ⟨k, bm, bl, hk, rfl, rfl, rfl, hq⟩ := hrel
    clear hst hM0 hg0
    by_cases hlt : k < n
    · obtain ⟨b, o, A1, n1, c1, d, rfl, hb, hd, -, hc, hnc, hcm, hS⟩ := hAh.out.at_ (k := k) hlt
      have i1 : (0 : Int) ≤ (k : Int) := by omega
      have i2 : (k : Int) < (n : Int) := by omega
      have hMd := Lib.hid (rMayB_any A1 n1 c1 B d w (Nat.le_trans hnc hcm) (htxh.out d (List.mem_cons_of_mem _ (List.mem_of_getElem? hd))) hS)
      obtain ⟨bd, hbd⟩ : ∃ bd, mayB d = bd := ⟨_, rfl⟩
      rw [hbd] at hMd
      have hdl := hS.len
      obtain ⟨gd, hgd⟩ : ∃ gd, decide ((2000 : Int) < (n1 : Int)) = gd := ⟨_, rfl⟩
      have hq2 : Hid ((bm && bd) = (mayB base && (sides.take (k + 1)).all mayB) ∧ (bl || gd) = (decide (2000 < base.length) || (sides.take (k + 1)).any fun d => decide (2000 < d.length))) := Lib.hid (by
        rw [wrong_may hd, wrong_long hd, ← hq.out.1, ← hq.out.2, hbd, ← hgd, hdl]
        exact ⟨rfl, by congr 1; exact decide_eq_decide.2 (by omega)⟩)
      clear hd hbd hS hdl hnc hcm hq
      cases bm <;> cases bl
      · go_wp2
        go_round
        case rel => exact ⟨k + 1, false, _, by omega, by go_num, rfl, by first | rfl | rw [hgd], by simpa using hq2⟩
        case measure => simp [intOf] <;> omega
      · go_wp2
        go_round
        case rel => exact ⟨k + 1, false, true, by omega, by go_num, rfl, rfl, by simpa using hq2⟩
        case measure => simp [intOf] <;> omega
      · go_wp2_with (go_at_call 16; refine hMd.out.mono ?_; rintro e w1 ⟨rfl, rfl⟩)
        go_round
        case rel => exact ⟨k + 1, bd, gd, by omega, by go_num, rfl, by first | rfl | rw [hgd], by simpa using hq2⟩
        case measure => simp [intOf] <;> omega
      · go_wp2_with (go_at_call 16; refine hMd.out.mono ?_; rintro e w1 ⟨rfl, rfl⟩)
        go_round
        case rel => exact ⟨k + 1, bd, true, by omega, by go_num, rfl, rfl, by simpa using hq2⟩
        case measure => simp [intOf] <;> omega
    · obtain rfl : k = n := by omega
      have ht : sides.take k = sides := List.take_of_length_le (by omega)
      have hq2 := hq.out
      rw [ht] at hq2
      have hres : Hid (W = if bm = false then 2 else if bl = true then 4 else 0) := Lib.hid (by rw [← hWh.out, hwh.out, ← hq2.1, ← hq2.2])
      clear hq2 ht
      cases bm
      · go_wp2
        go_ret
        exact ⟨ret_int (by rw [hres.out]; rfl), rfl⟩
      · cases bl
        · go_wp2
          go_ret
          exact ⟨ret_int (by rw [hres.out]; rfl), rfl⟩
        · go_wp2
          go_ret
          exact ⟨ret_int (by rw [hres.out]; rfl), rfl⟩

set_option maxHeartbeats 1000000 in
theorem mMay_any (A0 : Option Addr) (n0 c0 : Nat) (base : Txs) (A : Option Addr) (n c B : Nat) (rows : List Slc) (sides : List Txs) (w : World) (hn0 : n0 ≤ maxLen) (hn : n ≤ maxLen) (hA0 : Strs w B A0 n0 base) (hA : RowsT w B A n rows sides) :
    Calls Tryz.prog 30 #[.slice A0 n0 c0, .slice A n c] w fun e w' => e = .returned (.bool (fewM base sides && decide (wrongN base sides = 0))) ∧ w = w' := by
  have hF := Lib.hid (mFew_any A0 n0 c0 B base A n c B rows sides w hn0 hn hA0 hA)
  obtain ⟨f, hf⟩ : ∃ f, fewM base sides = f := ⟨_, rfl⟩
  rw [hf] at hF ⊢
  cases f
  · clear hA0 hA hf
    go_enter Tryz.func30, Tryz.ntmps30
    go_wp2_with (go_at_call 55; refine hF.out.mono ?_; rintro e w1 ⟨rfl, rfl⟩)
    go_ret
    exact ⟨rfl, rfl⟩
  · obtain ⟨s1, s2, s3, s4⟩ := fewM_small hf
    have hW := Lib.hid (mWrong_any A0 n0 c0 base A n c B rows sides w hn0 hn (fun d hd s hs => by
      rcases List.mem_cons.1 hd with rfl | hd
      · exact Nat.le_trans (s3 s hs) (by decide)
      · exact Nat.le_trans ((s4 d hd).2 s hs) (by decide)) hA0 hA)
    obtain ⟨z, hz⟩ : ∃ z, wrongN base sides = z := ⟨_, rfl⟩
    rw [hz] at hW ⊢
    clear hA0 hA hf hz s1 s2 s3 s4
    obtain ⟨r, hr⟩ : ∃ r, (true && decide (z = 0)) = r := ⟨_, rfl⟩
    have hrh := Lib.hid hr
    rw [hr]
    clear hr
    go_enter Tryz.func30, Tryz.ntmps30
    go_wp2_with (first
      | (go_at_call 55; refine hF.out.mono ?_; rintro e w1 ⟨rfl, rfl⟩)
      | (go_at_call 47; refine hW.out.mono ?_; rintro e w1 ⟨rfl, rfl⟩))
    go_ret
    exact ⟨ret_bool (by rw [← hrh.out, Bool.true_and]; rfl), rfl⟩
end Go.Proofs.YtoopdgohdeddoaaGreatDoor
/- What a call of Chunks tells. -/
namespace Go.Proofs.YtoopdgohdeddoaaGreatDoor
open Go.RowKit
set_option linter.unusedVariables false

/-- Chunks that a call tells, or an error. -/
def ChunksOut (w w' : World) (e : Ending) (base : Txs) (sides : List Txs) : Prop := ∃ er A n c cs, e = .returned (.tuple #[.slice A n c, .int .i64 er]) ∧ n ≤ c ∧ c ≤ maxLen ∧ Cks w' w'.heap.size A n cs ∧ CutsTo base sides er cs ∧ Below w.heap.size w w'
end Go.Proofs.YtoopdgohdeddoaaGreatDoor
/- Proved here, without conditions: the numbers of texts, plain; what a call tells that gives numbers to files. -/
namespace Go.Proofs.YtoopdgohdeddoaaGreatDoor
open Go.RowKit
set_option linter.unusedVariables false

theorem info9 : (Tryz.prog.info? 9).map (fun i => (i.zero, i.size, i.bytes)) = some (some (.string ⟨#[]⟩), 1, 16) := by kernel_rfl
/-- The number of s in a table of the texts ts: where it stands, or, if it doesn't, how many there are. -/
def numOf (ts : List (List UInt8)) (s : List UInt8) : Nat := ts.idxOf s
/-- The texts of a table behind s was asked. -/
def withText (ts : List (List UInt8)) (s : List UInt8) : List (List UInt8) := if s ∈ ts then ts else ts ++ [s]

/-- The texts of a table behind all of l were asked, in turn. -/
def withAll (ts l : List (List UInt8)) : List (List UInt8) := l.foldl withText ts

theorem withText_pre (ts : List (List UInt8)) (s : List UInt8) : ts <+: withText ts s := by
  unfold withText; split
  · exact List.prefix_refl _
  · exact List.prefix_append _ _
theorem withText_mem (ts : List (List UInt8)) (s : List UInt8) : s ∈ withText ts s := by
  unfold withText; split
  · assumption
  · simp
theorem withAll_pre (l : List (List UInt8)) : ∀ ts, ts <+: withAll ts l := by
  induction l with
  | nil => exact fun ts => List.prefix_refl _
  | cons s r ih => exact fun ts => (withText_pre ts s).trans (ih _)
theorem withAll_app (ts l l' : List (List UInt8)) : withAll ts (l ++ l') = withAll (withAll ts l) l' := by unfold withAll; rw [List.foldl_append]
theorem withAll_len (l : List (List UInt8)) : ∀ ts, (withAll ts l).length ≤ ts.length + l.length := by
  induction l with
  | nil => exact fun ts => by simp [withAll]
  | cons s r ih =>
    intro ts
    have h1 := ih (withText ts s)
    have h2 : (withText ts s).length ≤ ts.length + 1 := by unfold withText; split <;> simp
    show (withAll (withText ts s) r).length ≤ _
    simp only [List.length_cons]
    omega
theorem numOf_pre {ts fin : List (List UInt8)} {s : List UInt8} (h : withText ts s <+: fin) : numOf ts s = numOf fin s := by
  obtain ⟨r, rfl⟩ := h
  have hm := withText_mem ts s
  unfold numOf
  rw [List.idxOf_append, if_pos hm]
  unfold withText
  split
  · rfl
  · rename_i hn
    rw [List.idxOf_append, if_neg hn, List.idxOf_eq_length hn]
    simp
theorem numOf_le (ts : List (List UInt8)) (s : List UInt8) : numOf ts s ≤ ts.length := List.idxOf_le_length

/-- The numbers of all texts of the files. -/
def numsL (fin : List (List UInt8)) (files : List (List (List UInt8))) : List (List Int) := files.map fun f => f.map fun s => (numOf fin s : Int)

/-- The numbers of all texts were given. -/
def AllOut (w w' : World) (e : Ending) (xss : List (List Int)) : Prop :=
  ∃ A n c rows, e = .returned (.slice A n c) ∧ n ≤ c ∧ c ≤ maxLen ∧ RowsN w' w'.heap.size A n rows xss ∧ Below w.heap.size w w'

theorem info3 : (Tryz.prog.info? 3).map (fun i => (i.zero, i.size, i.bytes)) = some (some (.int .i64 0), 1, 8) := by kernel_rfl

theorem sum_le : ∀ (l : List (List (List UInt8))) (m : Nat), (∀ f ∈ l, f.length ≤ m) → (l.map List.length).sum ≤ l.length * m
  | [], _, _ => by simp
  | f :: r, m, h => by
    have h1 := h f (by simp)
    have h2 := sum_le r m (fun g hg => h g (by simp [hg]))
    simp only [List.map_cons, List.sum_cons, List.length_cons, Nat.add_mul]
    omega
theorem info39 : (Tryz.prog.info? 75).map (fun i => (i.zero, i.size, i.bytes)) = some (some (.slice none 0 0), 1, 24) := by kernel_rfl

end Go.Proofs.YtoopdgohdeddoaaGreatDoor
