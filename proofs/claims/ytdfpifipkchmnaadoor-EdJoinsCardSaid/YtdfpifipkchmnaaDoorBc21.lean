/- Proved here: texts joined: Last, Byte, May, Open. -/
import Derived.Test.YtdfpifipkchmnaaDoorBc01
import Derived.Test.YtdfpifipkchmnaaDoorBc03
import Derived.Test.YtdfpifipkchmnaaDoorBc05
import Derived.Test.YtdfpifipkchmnaaDoorChecked
import Derived.WalkLawsBesides
import Derived.Deep.QuietTactic
import Derived.BigQuiet
import Derived.Lib.Hide
/- Proved here, without conditions on the program: the last byte of a string. (NOT beside stage 1's Lines, which has the same name.) -/
namespace Go.Proofs.YtdfpifipkchmnaaDoor
open Go.RowKit
set_option linter.unusedVariables false

theorem last_byte (s : ByteArray) (h : 1 ≤ s.size) (k : Nat) (hk : k = s.size - 1) (h' : k < s.size) : endedB s.data.toList = (((s[k]'h').toNat : Int) == 10) := by
  subst hk
  have e : s.data.toList.getLast? = some (s[s.size - 1]'h') := by
    rw [List.getLast?_eq_getElem?]
    have hz : s.data.toList.length = s.size := (Lib.size_eq s).symm
    rw [hz, List.getElem?_eq_getElem (by omega)]
    rfl
  unfold endedB
  rw [e, Bool.eq_iff_iff]
  simp only [beq_iff_eq, Option.some.injEq]
  constructor
  · intro h; rw [h]; rfl
  · intro h; exact UInt8.toNat_inj.1 (by simpa using (by exact_mod_cast h : (s[s.size - 1]'h').toNat = 10))
end Go.Proofs.YtdfpifipkchmnaaDoor
/- Proved here, without a word of the program: a byte held against a number. -/
namespace Go.Proofs.YtdfpifipkchmnaaDoor
set_option linter.unusedVariables false

theorem byte_is {c : UInt8} {n : Nat} (hn : n < 256) : ((c.toNat : Int) == (n : Int)) = (c == UInt8.ofNat n) := by
  rw [Bool.eq_iff_iff, beq_iff_eq, beq_iff_eq]
  constructor
  · intro h
    have h' : c.toNat = n := by exact_mod_cast h
    exact UInt8.toNat_inj.1 (by rw [h', UInt8.toNat_ofNat']; omega)
  · intro h
    subst h
    rw [UInt8.toNat_ofNat']
    congr 1
    omega
theorem byte_at (s : ByteArray) (k : Nat) (h : k < s.size) : s.data.toList[k]? = some s[k] := by
  rw [List.getElem?_eq_getElem (by simpa using h)]
  rfl
end Go.Proofs.YtdfpifipkchmnaaDoor
/- Proved here: the contract of the document's own answer May of layer 1 (for strings of at most maxLen bytes); for stages behind the first: NOT beside stage 1's Lines, Ref and Laws, which have the same names. -/
namespace Go.Proofs.YtdfpifipkchmnaaDoor
open Go.RowKit
set_option linter.unusedVariables false

theorem take_byte (s : ByteArray) (k : Nat) (h : k < s.size) : s.data.toList.take (k + 1) = s.data.toList.take k ++ [s[k]] := by
  rw [List.take_succ_eq_append_getElem (by simpa using h)]; rfl
def nlN (l : List UInt8) : Nat := l.count 10
theorem nlN_le (l : List UInt8) (k : Nat) : nlN (l.take k) ≤ l.length := by
  unfold nlN
  have := List.count_le_length (a := (10 : UInt8)) (l := l.take k)
  have := List.length_take_le k l
  have := List.length_take_le' k l
  omega
theorem is10 (c : UInt8) : ((c.toNat : Int) == 10) = (c == 10) := byte_is (c := c) (n := 10) (by omega)
theorem nlN_hit (l : List UInt8) (c : UInt8) (h : ((c.toNat : Int) == 10) = true) : nlN (l ++ [c]) = nlN l + 1 := by
  rw [is10] at h
  unfold nlN
  rw [List.count_append, List.count_singleton, h]; rfl
theorem nlN_miss (l : List UInt8) (c : UInt8) (h : ((c.toNat : Int) == 10) = false) : nlN (l ++ [c]) = nlN l := by
  rw [is10] at h
  unfold nlN
  rw [List.count_append, List.count_singleton, h]; rfl

set_option maxHeartbeats 400000 in
theorem feeds_any (s : ByteArray) (w : World) (hs : s.size ≤ maxLen) :
    Calls Tryd.prog 16 #[.string s] w fun e w' => e = .returned (.int .i64 (nlN s.data.toList)) ∧ w = w' := by
  unfold maxLen at hs
  go_enter Tryd.func16, Tryd.ntmps16
  go_wp2
  go_loop [3, 4] (fun n i => ∃ k : Nat, k ≤ s.size ∧ i = .int .i64 k ∧ n = .int .i64 (nlN (s.data.toList.take k))) (fun _ i => s.size - (intOf i).toNat)
  case atStart => exact ⟨0, Nat.zero_le _, rfl, rfl⟩
  case round =>
    obtain ⟨k, hk, rfl, rfl⟩ := hrel
    have hl := nlN_le s.data.toList k
    rw [← Lib.size_eq] at hl
    by_cases hlt : k < s.size
    · have hts := Lib.hid (take_byte s k hlt)
      have hl3 : nlN (s.data.toList.take k) + 1 ≤ 9223372036854775807 := by
        have := List.count_le_length (a := (10 : UInt8)) (l := s.data.toList.take k)
        have := List.length_take_le k s.data.toList
        unfold nlN; omega
      go_wp2
      · have h : ((s[k].toNat : Int) == 10) = true := by assumption
        go_round
        case rel => exact ⟨k + 1, by omega, by go_num, by rw [hts.out, nlN_hit _ _ h]; go_num⟩
        case measure => simp [intOf]; omega
      · have h : ((s[k].toNat : Int) == 10) = false := by assumption
        go_round
        case rel => exact ⟨k + 1, by omega, by go_num, by rw [hts.out, nlN_miss _ _ h]⟩
        case measure => simp [intOf]; omega
    · go_wp2
      go_ret
      obtain rfl : k = s.size := by omega
      exact ⟨ret_int (by rw [Lib.size_eq, List.take_length]), rfl⟩

def lineB (l : List UInt8) : Bool := nlN l == 1 && endedB l
set_option maxHeartbeats 400000 in
theorem Line_any (s : ByteArray) (w : World) (hs : s.size ≤ maxLen) :
    Calls Tryd.prog 17 #[.string s] w fun e w' => e = .returned (.bool (lineB s.data.toList)) ∧ w = w' := by
  have hs' := hs
  unfold maxLen at hs
  obtain ⟨N, hN⟩ : ∃ N, N = nlN s.data.toList := ⟨_, rfl⟩
  have hN' := Lib.hid hN
  by_cases h1 : N = 1
  · have hpos : 1 ≤ s.size := by
      rw [Lib.size_eq]
      have := List.count_le_length (a := (10 : UInt8)) (l := s.data.toList)
      unfold nlN at hN
      omega
    have hb : (((N : Nat) : Int) == 1) = true := by rw [h1]; rfl
    have hlb := Lib.hid (last_byte s hpos _ rfl (by omega))
    have h1' := Lib.hid h1
    have hi : (s.size : Int) - 1 < s.size := by omega
    clear h1 hN
    go_enter Tryd.func17, Tryd.ntmps17
    go_wp2_with (go_at_call 16; refine (feeds_any s _ hs').mono ?_; rintro e w' ⟨rfl, rfl⟩; rw [show nlN s.data.toList = N from hN'.out.symm])
    go_ret
    exact ⟨ret_bool (by unfold lineB; rw [← hN'.out, h1'.out, hlb.out]; rfl), rfl⟩
  · have hb : (((N : Nat) : Int) == 1) = false := by simp; omega
    have h1' := Lib.hid h1
    clear h1 hN
    go_enter Tryd.func17, Tryd.ntmps17
    go_wp2_with (go_at_call 16; refine (feeds_any s _ hs').mono ?_; rintro e w' ⟨rfl, rfl⟩; rw [show nlN s.data.toList = N from hN'.out.symm])
    go_ret
    exact ⟨ret_bool (by unfold lineB; rw [← hN'.out]; simp [h1'.out]), rfl⟩

def rmay : List (List UInt8) → Bool
  | [] => true
  | s :: r => ((r.isEmpty && decide (0 < s.length) && nlN s == 0) || lineB s) && rmay r

section
variable {ss : List (List UInt8)} {k n : Nat} {t : List UInt8}
theorem rmay_no (hl : ss.length = n) (hm : rmay ss = rmay (ss.drop k)) (hd : ss.drop k = t :: ss.drop (k + 1)) (h2 : ¬ k + 1 = n) (h : (!lineB (str t).data.toList) = true) : false = rmay ss := by
  rw [str_data] at h
  have h' : lineB t = false := by simpa using h
  have hk : k < ss.length := by
    have := congrArg List.length hd
    simp at this; omega
  have hne : (ss.drop (k + 1)).isEmpty = false := by
    rw [Bool.eq_false_iff, ne_eq, List.isEmpty_iff]
    intro e
    have := congrArg List.length e
    rw [List.length_drop] at this
    simp at this
    omega
  rw [hm, hd, rmay, h', hne]
  simp
theorem rmay_last_nil (hl : ss.length = n) (h2 : k + 1 = n) : ss.drop (k + 1) = [] := List.drop_of_length_le (by omega)
theorem rmay_last (hl : ss.length = n) (hm : rmay ss = rmay (ss.drop k)) (hd : ss.drop k = t :: ss.drop (k + 1)) (h2 : k + 1 = n) : rmay ss = ((decide (0 < t.length) && nlN t == 0) || lineB t) := by
  rw [hm, hd, rmay_last_nil hl h2, rmay]
  simp [rmay]
theorem rmay_go (hm : rmay ss = rmay (ss.drop k)) (hd : ss.drop k = t :: ss.drop (k + 1)) (h : (!lineB (str t).data.toList) = false) : rmay ss = rmay (ss.drop (k + 1)) := by
  rw [str_data] at h
  have h' : lineB t = true := by simpa using h
  rw [hm, hd, rmay, h']
  simp
end

set_option maxHeartbeats 400000 in
theorem rMay_any (A : Option Addr) (n c B : Nat) (ss : List (List UInt8)) (w : World) (hn : n ≤ maxLen) (hs : ∀ s ∈ ss, s.length ≤ maxLen) (hA : Strs w B A n ss) :
    Calls Tryd.prog 8 #[.slice A n c] w fun e w' => e = .returned (.bool (rmay ss)) ∧ w = w' := by
  unfold maxLen at hn
  have hl := hA.len
  go_enter Tryd.func8, Tryd.ntmps8
  go_wp2
  go_loop [3] (fun i => ∃ k : Nat, k ≤ n ∧ i = .int .i64 k ∧ Hid (rmay ss = rmay (ss.drop k))) (fun i => n - (intOf i).toNat)
  case atStart => exact ⟨0, Nat.zero_le _, rfl, Lib.hid rfl⟩
  case round =>
    obtain ⟨k, hk, rfl, hm⟩ := hrel
    by_cases hlt : k < n
    · obtain ⟨b, o, t, rfl, _, ht, hc⟩ := hA.at_ (k := k) hlt
      have htl : t.length ≤ maxLen := hs t (List.mem_of_getElem? ht)
      have htl' : (str t).size ≤ maxLen := by rw [str_size]; exact htl
      unfold maxLen at htl
      have hd := Lib.hid (drop_at ht)
      by_cases hlast : k + 1 = n
      · have hb : ((k : Int) == (n : Int) - 1) = true := by simp; omega
        have hlast' := Lib.hid hlast
        clear hlast
        go_wp2_with (first
          | (go_at_call 16; refine (feeds_any (str t) _ htl').mono ?_; rintro e w' ⟨rfl, rfl⟩)
          | (go_at_call 17; refine (Line_any (str t) _ htl').mono ?_; rintro e w' ⟨rfl, rfl⟩))
        · have h1 : 0 < (str t).size := by assumption
          have h2 : nlN (str t).data.toList = 0 := by assumption
          go_round
          case rel => exact ⟨k + 1, by have := hlast'.out; omega, by go_num, Lib.hid (by rw [rmay_last hl hm.out hd.out hlast'.out, (rmay_last_nil hl hlast'.out)]; rw [str_data] at h2; rw [str_size] at h1; simp [h2, h1, rmay])⟩
          case measure => have := hlast'.out; simp [intOf]; omega
        · have h1 : ¬ nlN (str t).data.toList = 0 := by assumption
          have h2 : (!((nlN (str t).data.toList : Int)) == 0) = true ∧ (!lineB (str t).data.toList) = true := by assumption
          go_ret
          exact ⟨ret_bool (by rw [rmay_last hl hm.out hd.out hlast'.out]; rw [str_data] at h1 h2; simp at h2; simp [h1, h2.2]), rfl⟩
        · have h1 : ¬ nlN (str t).data.toList = 0 := by assumption
          have h2 : (!((nlN (str t).data.toList : Int)) == 0) = false ∨ (!lineB (str t).data.toList) = false := by assumption
          go_round
          case rel => exact ⟨k + 1, by have := hlast'.out; omega, by go_num, Lib.hid (rmay_go hm.out hd.out (by rcases h2 with h2 | h2; { exfalso; apply h1; simpa using h2 }; exact h2))⟩
          case measure => have := hlast'.out; simp [intOf]; omega
        · have h1 : ¬ 0 < (str t).size := by assumption
          have h2 : (!lineB (str t).data.toList) = true := by assumption
          go_ret
          exact ⟨ret_bool (by rw [rmay_last hl hm.out hd.out hlast'.out]; rw [str_data] at h2; rw [str_size] at h1; simp at h2; simp [h1, h2]), rfl⟩
        · have h2 : (!lineB (str t).data.toList) = false := by assumption
          go_round
          case rel => exact ⟨k + 1, by have := hlast'.out; omega, by go_num, Lib.hid (rmay_go hm.out hd.out h2)⟩
          case measure => have := hlast'.out; simp [intOf]; omega
      · have hb : ((k : Int) == (n : Int) - 1) = false := by simp; omega
        have hlast' := Lib.hid hlast
        clear hlast
        go_wp2_with (go_at_call 17; refine (Line_any (str t) _ htl').mono ?_; rintro e w' ⟨rfl, rfl⟩)
        · have h : (!lineB (str t).data.toList) = true := by assumption
          go_ret
          exact ⟨ret_bool (rmay_no hl hm.out hd.out hlast'.out h), rfl⟩
        · have h : (!lineB (str t).data.toList) = false := by assumption
          go_round
          case rel => exact ⟨k + 1, by omega, by go_num, Lib.hid (rmay_go hm.out hd.out h)⟩
          case measure => simp [intOf]; omega
    · go_wp2
      go_ret
      have : k = n := by omega
      subst this
      exact ⟨ret_bool (by rw [hm.out, List.drop_of_length_le (by omega)]; rfl), rfl⟩

theorem fe_all (s : List UInt8) (h : s ≠ []) : fe s = s.length ↔ (nlN s = 0 ∨ (nlN s = 1 ∧ s.getLast? = some 10)) := by
  induction s with
  | nil => exact absurd rfl h
  | cons c r ih =>
    by_cases hc : c = 10
    · subst hc
      have hf : fe (10 :: r) = 1 := by simp [fe]
      have hn : nlN (10 :: r) = nlN r + 1 := by simp [nlN]
      rw [hf, hn]
      cases r with
      | nil => simp [nlN]
      | cons d t =>
        constructor
        · intro h; simp at h
        · rintro (h | ⟨h1, h2⟩)
          · omega
          · exfalso
            rw [List.getLast?_cons_cons] at h2
            have : (10 : UInt8) ∈ d :: t := List.mem_of_getLast? h2
            have := List.count_pos_iff.2 this
            unfold nlN at h1
            omega
    · have hf : fe (c :: r) = fe r + 1 := by simp [fe, hc]
      have hn : nlN (c :: r) = nlN r := by simp [nlN, hc]
      rw [hf, hn]
      cases r with
      | nil => simp [fe, nlN]
      | cons d t =>
        rw [List.getLast?_cons_cons, ← ih (by simp)]
        simp

theorem may_eq (ss : List (List UInt8)) : mayB ss = rmay ss := by
  induction ss with
  | nil => rfl
  | cons s r ih =>
    rw [mayB, rmay, ih]
    congr 1
    cases s with
    | nil => simp [lineB, nlN]
    | cons c t =>
      have hk := fe_all (c :: t) (by simp)
      have hle := fe_le (c :: t)
      have hd : (!decide (fe (c :: t) < (c :: t).length)) = decide (fe (c :: t) = (c :: t).length) := by
        rw [Bool.eq_iff_iff]; simp only [Bool.not_eq_true', decide_eq_false_iff_not, decide_eq_true_iff]; omega
      rw [hd]
      rw [Bool.eq_iff_iff]
      simp only [lineB, endedB, Bool.and_eq_true, Bool.or_eq_true, decide_eq_true_iff, beq_iff_eq, hk]
      by_cases h0 : nlN (c :: t) = 0
      · have hno : ¬ (c :: t).getLast? = some 10 := by
          intro h
          have := List.count_pos_iff.2 (List.mem_of_getLast? h)
          unfold nlN at h0
          omega
        simp [h0, hno]
      · simp [h0]
        exact fun _ h => .inr h

/-- May, by the plain word. -/
theorem rMayB_any (A : Option Addr) (n c B : Nat) (ss : List (List UInt8)) (w : World) (hn : n ≤ maxLen) (hs : ∀ s ∈ ss, s.length ≤ maxLen) (hA : Strs w B A n ss) :
    Calls Tryd.prog 8 #[.slice A n c] w fun e w' => e = .returned (.bool (mayB ss)) ∧ w = w' := by
  rw [may_eq]
  exact rMay_any A n c B ss w hn hs hA
end Go.Proofs.YtdfpifipkchmnaaDoor
/- Proved here: the contract of the document's own answer Open of layer 1 (for strings of at most maxLen bytes); for stages behind the first: NOT beside stage 1's Lines and Ref, which have the same names. -/
namespace Go.Proofs.YtdfpifipkchmnaaDoor
open Go.RowKit
set_option linter.unusedVariables false

set_option maxHeartbeats 400000 in
theorem rOpen_any (A : Option Addr) (n c B : Nat) (ss : List (List UInt8)) (w : World) (hn : n ≤ maxLen) (hs : ∀ s ∈ ss, s.length ≤ maxLen) (hA : Strs w B A n ss) :
    Calls Tryd.prog 9 #[.slice A n c] w fun e w' => e = .returned (.bool (openB ss)) ∧ w = w' := by
  unfold maxLen at hn
  have hl := hA.len
  by_cases h0 : n = 0
  · subst h0
    go_enter Tryd.func9, Tryd.ntmps9
    go_wp2
    go_ret
    obtain rfl : ss = [] := List.eq_nil_of_length_eq_zero hl
    exact ⟨rfl, rfl⟩
  · obtain ⟨b, o, t, rfl, _, ht, hc⟩ := hA.at_ (k := n - 1) (by omega)
    have htl : t.length ≤ maxLen := hs t (List.mem_of_getElem? ht)
    unfold maxLen at htl
    have hres : Hid ((!endedB t) = openB ss) := Lib.hid <| by
      unfold openB; rw [List.getLast?_eq_getElem?, hl, ht]
    have h1 : (1 : Int) ≤ n := by omega
    have hd : (((n : Int)) == 0) = false := by simp; omega
    by_cases hz : (str t).size = 0
    · have hzz : ((((str t).size : Nat) : Int) == 0) = true := by rw [hz]; rfl
      have hz' := Lib.hid hz
      clear hz
      go_enter Tryd.func9, Tryd.ntmps9
      go_wp2
      go_ret
      refine ⟨ret_bool ?_, rfl⟩
      rw [← hres.out]
      have := hz'.out
      rw [str_size] at this
      rw [List.eq_nil_of_length_eq_zero this]; rfl
    · have hzz : ((((str t).size : Nat) : Int) == 0) = false := by rw [beq_eq_false_iff_ne]; omega
      have hp : 1 ≤ (str t).size := by omega
      have hsl : (str t).size ≤ 9223372036854775807 := by rw [str_size]; omega
      have hlb := Lib.hid (last_byte (str t) hp _ rfl (by omega))
      go_enter Tryd.func9, Tryd.ntmps9
      go_wp2
      go_ret
      refine ⟨ret_bool ?_, rfl⟩
      have h2 := hlb.out
      rw [str_data] at h2
      rw [← hres.out, h2]
      rfl
end Go.Proofs.YtdfpifipkchmnaaDoor
