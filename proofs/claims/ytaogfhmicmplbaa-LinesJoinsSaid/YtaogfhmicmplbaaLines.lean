/- Proved here: contracts of package lines: ended, firstEnd, Open, May (each for strings of at most maxLen bytes). -/
import Derived.Test.YtaogfhmicmplbaaWords
import Derived.Test.YtaogfhmicmplbaaPure
import Derived.Test.YtaogfhmicmplbaaShelf
import Derived.WalkLawsBesides
import Derived.Deep.QuietTactic
import Derived.BigQuiet
import Derived.Lib.Hide
namespace Go.Proofs.Ytaogfhmicmplbaa
open Go.RowKit
set_option linter.unusedVariables false

theorem last_byte (s : ByteArray) (h : 1 ≤ s.size) (k : Nat) (hk : k = s.size - 1) (h' : k < s.size) : endedB s.data.toList = (((s[k]'h').toNat : Int) == 10) := by
  subst hk
  have e : s.data.toList.getLast? = some (s[s.size - 1]'h') := by
    rw [List.getLast?_eq_getElem?]
    have hz : s.data.toList.length = s.size := (Lib.size_eq s).symm
    rw [hz, List.getElem?_eq_getElem (by omega)]
    rfl
  unfold endedB
  rw [e, Bool.eq_iff_iff]
  simp only [beq_iff_eq, Option.some.injEq]
  constructor
  · intro h; rw [h]; rfl
  · intro h; exact UInt8.toNat_inj.1 (by simpa using (by exact_mod_cast h : (s[s.size - 1]'h').toNat = 10))

set_option maxHeartbeats 400000 in
theorem ended_any (s : ByteArray) (w : World) (hs : s.size ≤ maxLen) :
    Calls Try.prog 21 #[.string s] w fun e w' => e = .returned (.bool (endedB s.data.toList)) ∧ w = w' := by
  unfold maxLen at hs
  by_cases h : s.toList = []
  · go_enter Try.func21, Try.ntmps21
    go_wp2
    go_ret
    exact ⟨ret_bool (by rw [data_nil h]; rfl), rfl⟩
  · have h1 := size_pos h
    have h2 : (!s.toList.isEmpty) = true := by simpa using h
    go_enter Try.func21, Try.ntmps21
    go_wp2
    go_ret
    exact ⟨ret_bool (by rw [last_byte s h1 _ rfl (by omega)]), rfl⟩

set_option maxHeartbeats 400000 in
theorem firstEnd_any (s : ByteArray) (w : World) (hs : s.size ≤ maxLen) :
    Calls Try.prog 20 #[.string s] w fun e w' => e = .returned (.int .i64 (fe s.data.toList)) ∧ w = w' := by
  unfold maxLen at hs
  have hf := fe_le s.data.toList
  have hx := fe_index s.data.toList
  have hz : s.data.toList.length = s.size := (Lib.size_eq s).symm
  obtain ⟨i, hi⟩ : ∃ i, i = Lib.indexByte s.data.toList 10 := ⟨_, rfl⟩
  rw [← hi, hz] at hx
  rw [hz] at hf
  have hi' := Lib.hid hi
  have hb : i ≤ s.size ∧ -1 ≤ i := by
    have := Lib.indexByte_ge s.data.toList 10
    split at hx <;> omega
  obtain ⟨f, hf'⟩ : ∃ f, f = fe s.data.toList := ⟨_, rfl⟩
  rw [← hf'] at hx hf ⊢
  by_cases h0 : 0 ≤ i
  · rw [if_pos h0] at hx
    have hib : i + 1 ≤ s.size := by omega
    have hh := Lib.hid hx
    clear hi hx hf'
    go_enter Try.func20, Try.ntmps20
    go_wp2_with (go_at_call 25; refine (Try.strings_IndexByte _ _ _).mono ?_; rintro e w' ⟨rfl, rfl⟩; rw [show Lib.indexByte s.data.toList (10 : Int).toNat.toUInt8 = i from hi'.out.symm])
    go_ret
    exact ⟨ret_int (by rw [hh.out]), rfl⟩
  · rw [if_neg h0] at hx
    have hh := Lib.hid hx
    clear hi hx hf'
    go_enter Try.func20, Try.ntmps20
    go_wp2_with (go_at_call 25; refine (Try.strings_IndexByte _ _ _).mono ?_; rintro e w' ⟨rfl, rfl⟩; rw [show Lib.indexByte s.data.toList (10 : Int).toNat.toUInt8 = i from hi'.out.symm])
    go_ret
    exact ⟨ret_int (by rw [hh.out]), rfl⟩
set_option maxHeartbeats 400000 in
theorem Open_any (A : Option Addr) (n c B : Nat) (ss : List (List UInt8)) (w : World) (hn : n ≤ maxLen) (hs : ∀ s ∈ ss, s.length ≤ maxLen) (hA : Strs w B A n ss) :
    Calls Try.prog 13 #[.slice A n c] w fun e w' => e = .returned (.bool (openB ss)) ∧ w = w' := by
  unfold maxLen at hn
  have hl := hA.len
  by_cases h0 : n = 0
  · subst h0
    have hd : decide ((0 : Int) < ((0 : Nat) : Int)) = false := by decide
    go_enter Try.func13, Try.ntmps13
    go_wp2
    go_ret
    obtain rfl : ss = [] := List.eq_nil_of_length_eq_zero hl
    exact ⟨rfl, rfl⟩
  · obtain ⟨b, o, t, rfl, _, ht, hc⟩ := hA.at_ (k := n - 1) (by omega)
    have htl : t.length ≤ maxLen := hs t (List.mem_of_getElem? ht)
    have hres : Hid ((!endedB (str t).data.toList) = openB ss) := Lib.hid <| by
      rw [str_data]; unfold openB; rw [List.getLast?_eq_getElem?, hl, ht]
    have h1 : (1 : Int) ≤ n := by omega
    have hd : decide ((0 : Int) < (n : Int)) = true := by simp; omega
    go_enter Try.func13, Try.ntmps13
    go_wp2_with (go_at_call 21; refine (ended_any (str t) _ (by rw [str_size]; exact htl)).mono ?_; rintro e w' ⟨rfl, rfl⟩)
    go_ret
    exact ⟨ret_bool hres.out, rfl⟩
section
variable {ss : List (List UInt8)} {k n : Nat} {t : List UInt8}
theorem may_a (hm : mayB ss = mayB (ss.drop k)) (hd : ss.drop k = t :: ss.drop (k + 1)) (h : (str t).toList = []) : false = mayB ss := by
  have := data_nil h
  rw [str_data] at this
  subst this
  rw [hm, hd]; rfl
theorem may_b (hm : mayB ss = mayB (ss.drop k)) (hd : ss.drop k = t :: ss.drop (k + 1)) (h : (str t).toList.isEmpty = true ∨ fe (str t).data.toList < (str t).size) : false = mayB ss := by
  rw [ByteArray.toList_eq, str_data, str_size] at h
  rw [hm, hd, mayB]
  rcases h with h | h <;> simp [h]
theorem may_c (hl : ss.length = n) (hm : mayB ss = mayB (ss.drop k)) (hd : ss.drop k = t :: ss.drop (k + 1)) (h2 : (k : Int) < (n : Int) - 1) (h : (!endedB (str t).data.toList) = true) : false = mayB ss := by
  rw [str_data] at h
  have h' : endedB t = false := by simpa using h
  have hne : (ss.drop (k + 1)).isEmpty = false := by
    rw [Bool.eq_false_iff, ne_eq, List.isEmpty_iff]
    intro e
    have := congrArg List.length e
    rw [List.length_drop] at this
    simp at this
    omega
  rw [hm, hd, mayB, h', hne]
  simp
theorem may_go (hm : mayB ss = mayB (ss.drop k)) (hd : ss.drop k = t :: ss.drop (k + 1)) (h1 : (str t).toList.isEmpty = false ∧ ¬ fe (str t).data.toList < (str t).size) (he : (ss.drop (k + 1)).isEmpty = true ∨ endedB t = true) : mayB ss = mayB (ss.drop (k + 1)) := by
  rw [ByteArray.toList_eq, str_data, str_size] at h1
  rw [hm, hd, mayB]
  rcases he with he | he <;> simp [h1.1, h1.2, he]
end

set_option maxHeartbeats 400000 in
theorem May_any (A : Option Addr) (n c B : Nat) (ss : List (List UInt8)) (w : World) (hn : n ≤ maxLen) (hs : ∀ s ∈ ss, s.length ≤ maxLen) (hA : Strs w B A n ss) :
    Calls Try.prog 12 #[.slice A n c] w fun e w' => e = .returned (.bool (mayB ss)) ∧ w = w' := by
  unfold maxLen at hn
  have hl := hA.len
  go_enter Try.func12, Try.ntmps12
  go_wp2
  go_loop [11] (fun i => ∃ k : Nat, k ≤ n ∧ i = .int .i64 k ∧ Hid (mayB ss = mayB (ss.drop k))) (fun i => n - (intOf i).toNat)
  case atStart => exact ⟨0, Nat.zero_le _, rfl, Lib.hid rfl⟩
  case round =>
    obtain ⟨k, hk, rfl, hm⟩ := hrel
    by_cases hlt : k < n
    · obtain ⟨b, o, t, rfl, _, ht, hc⟩ := hA.at_ (k := k) hlt
      have htl : t.length ≤ maxLen := hs t (List.mem_of_getElem? ht)
      have hd := Lib.hid (drop_at ht)
      go_wp2_with (first
        | (go_at_call 20; refine (firstEnd_any (str t) _ (by rw [str_size]; exact htl)).mono ?_; rintro e w' ⟨rfl, rfl⟩)
        | (go_at_call 21; refine (ended_any (str t) _ (by rw [str_size]; exact htl)).mono ?_; rintro e w' ⟨rfl, rfl⟩))
      · go_ret; exact ⟨ret_bool (may_a hm.out hd.out ‹_›), rfl⟩
      · go_ret; exact ⟨ret_bool (may_b hm.out hd.out ‹_›), rfl⟩
      · go_ret; exact ⟨ret_bool (may_c hl hm.out hd.out ‹_› ‹_›), rfl⟩
      · have h1 : (str t).toList.isEmpty = false ∧ ¬fe (str t).data.toList < (str t).size := by assumption
        have h2 : (!endedB (str t).data.toList) = false := by assumption
        go_round
        case rel => exact ⟨k + 1, by omega, by go_num, Lib.hid (may_go hm.out hd.out h1 (.inr (by rw [str_data] at h2; simpa using h2)))⟩
        case measure => simp [intOf]; omega
      · have h1 : (str t).toList.isEmpty = false ∧ ¬fe (str t).data.toList < (str t).size := by assumption
        go_round
        case rel => exact ⟨k + 1, by omega, by go_num, Lib.hid (may_go hm.out hd.out h1 (.inl (by rw [List.drop_of_length_le (by omega)]; rfl)))⟩
        case measure => simp [intOf]; omega
    · go_wp2
      go_ret
      have : k = n := by omega
      subst this
      exact ⟨ret_bool (by rw [hm.out, List.drop_of_length_le (by omega)]; rfl), rfl⟩
end Go.Proofs.Ytaogfhmicmplbaa
