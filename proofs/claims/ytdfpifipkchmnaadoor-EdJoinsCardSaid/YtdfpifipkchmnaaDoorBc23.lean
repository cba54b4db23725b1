/- Proved here: texts joined: Apart, LinOpen, IdxB, LinMay. -/
import Derived.Test.YtdfpifipkchmnaaDoorBc01
import Derived.Test.YtdfpifipkchmnaaDoorBc02
import Derived.Test.YtdfpifipkchmnaaDoorBc05
import Derived.Test.YtdfpifipkchmnaaDoorBc21
import Derived.Test.YtdfpifipkchmnaaDoorChecked
import Derived.Lib.Bytealg
import Derived.WalkLawsBesides
import Derived.Lib.Hide
import Derived.Deep.QuietTactic
import Derived.BigQuiet
/- Proved here, without conditions: rows, and boxes, of different types lie in different blocks. -/
namespace Go.Proofs.YtdfpifipkchmnaaDoor
open Go.RowKit
set_option linter.unusedVariables false

/-- Two rows of different types. -/
theorem rows_apart {w : World} {b1 b2 n m s1 s2 : Nat} {e1 e2 : TypeId} {v u : Value} {xs ys : List Value} (h : w.ownsRow b1 e1 s1 v n xs) (k : w.ownsRow b2 e2 s2 u m ys) (hne : e1 ≠ e2) : ∀ j, v.ownBlock = some j → u.ownBlock ≠ some j := by
  intro j hj e
  rcases h.2 with ⟨rfl, _⟩ | ⟨g, cap, cur, rfl, _, hg, _⟩
  · simp [Value.ownBlock] at hj
  · rcases k.2 with ⟨rfl, _⟩ | ⟨g', cap', cur', rfl, _, hg', _⟩
    · simp [Value.ownBlock] at e
    · simp only [Value.ownBlock, Option.some.injEq] at e hj
      rw [e, ← hj, hg] at hg'
      injection hg' with hg'
      simp at hg'
      exact hne hg'.2
theorem cells_not_row {W : World} {L : Nat} {C : Array Value} {t e : TypeId} (h : W.heap[L]? = some (.cells C t (0, 0))) (hte : t ≠ e) {base size k : Nat} {v : Value} {xs : List Value} (hr : W.ownsRow base e size v k xs) : v.ownBlock ≠ some L := by
  rcases hr.2 with ⟨rfl, _⟩ | ⟨g, cap, cur, rfl, _, hgb, _⟩
  · simp [Value.ownBlock]
  · intro e'
    obtain rfl : g = L := by simpa [Value.ownBlock] using e'
    have := h.symm.trans hgb
    simp at this
    exact hte this.2
theorem box_ne {W : World} {a b : Nat} {C D : Array Value} {s t : TypeId} (h : W.heap[a]? = some (.cells C s (0, 0))) (k : W.heap[b]? = some (.cells D t (0, 0))) (hne : s ≠ t) : a ≠ b := by
  rintro rfl
  have := h.symm.trans k
  simp at this
  exact hne this.2
end Go.Proofs.YtdfpifipkchmnaaDoor
/- Proved here: contracts of the landed package lines: ended, Open (each for strings of at most maxLen bytes); for stages behind the first: NOT beside stage 1's Lines, which has the same names. -/
namespace Go.Proofs.YtdfpifipkchmnaaDoor
open Go.RowKit
set_option linter.unusedVariables false

set_option maxHeartbeats 400000 in
theorem ended_any (s : ByteArray) (w : World) (hs : s.size ≤ maxLen) :
    Calls Tryd.prog 24 #[.string s] w fun e w' => e = .returned (.bool (endedB s.data.toList)) ∧ w = w' := by
  unfold maxLen at hs
  by_cases h : s.toList = []
  · go_enter Tryd.func24, Tryd.ntmps24
    go_wp2
    go_ret
    exact ⟨ret_bool (by rw [data_nil h]; rfl), rfl⟩
  · have h1 := size_pos h
    have h2 : (!s.toList.isEmpty) = true := by simpa using h
    go_enter Tryd.func24, Tryd.ntmps24
    go_wp2
    go_ret
    exact ⟨ret_bool (by rw [last_byte s h1 _ rfl (by omega)]), rfl⟩

set_option maxHeartbeats 400000 in
theorem Open_any (A : Option Addr) (n c B : Nat) (ss : List (List UInt8)) (w : World) (hn : n ≤ maxLen) (hs : ∀ s ∈ ss, s.length ≤ maxLen) (hA : Strs w B A n ss) :
    Calls Tryd.prog 19 #[.slice A n c] w fun e w' => e = .returned (.bool (openB ss)) ∧ w = w' := by
  unfold maxLen at hn
  have hl := hA.len
  by_cases h0 : n = 0
  · subst h0
    have hd : decide ((0 : Int) < ((0 : Nat) : Int)) = false := by decide
    go_enter Tryd.func19, Tryd.ntmps19
    go_wp2
    go_ret
    obtain rfl : ss = [] := List.eq_nil_of_length_eq_zero hl
    exact ⟨rfl, rfl⟩
  · obtain ⟨b, o, t, rfl, _, ht, hc⟩ := hA.at_ (k := n - 1) (by omega)
    have htl : t.length ≤ maxLen := hs t (List.mem_of_getElem? ht)
    have hres : Hid ((!endedB (str t).data.toList) = openB ss) := Lib.hid <| by
      rw [str_data]; unfold openB; rw [List.getLast?_eq_getElem?, hl, ht]
    have h1 : (1 : Int) ≤ n := by omega
    have hd : decide ((0 : Int) < (n : Int)) = true := by simp; omega
    go_enter Tryd.func19, Tryd.ntmps19
    go_wp2_with (go_at_call 24; refine (ended_any (str t) _ (by rw [str_size]; exact htl)).mono ?_; rintro e w' ⟨rfl, rfl⟩)
    go_ret
    exact ⟨ret_bool hres.out, rfl⟩
end Go.Proofs.YtdfpifipkchmnaaDoor
/- Proved here: contracts of the library's internal/stringslite.IndexByte and strings.IndexByte, by the external internal/bytealg.IndexByteString. -/
namespace Go.Proofs.YtdfpifipkchmnaaDoor
open Go.RowKit
set_option linter.unusedVariables false

set_option maxRecDepth 100000 in
set_option maxHeartbeats 400000 in
theorem indexByteL_any (s : ByteArray) (c : Int) (w : World) :
    Calls Tryd.prog 49 #[.string s, .int .u8 c] w fun e w' => e = .returned (.int .i64 (Lib.indexByte s.data.toList c.toNat.toUInt8)) ∧ w' = w := by
  go_enter Tryd.func49, Tryd.ntmps49
  go_wp2
  rw [run_callFunc_extern Tryd.func66 (by kernel_rfl) (by kernel_rfl) (by kernel_rfl) (e := Extern.BytealgIndexByte.indexByte) (by kernel_rfl), Lib.run_indexByteString]
  simp only [Result.andThen]
  rw [Oper.upon_value]
  go_wp2
  go_ret
  exact ⟨rfl, rfl⟩
set_option maxRecDepth 100000 in
set_option maxHeartbeats 400000 in
theorem indexByte_any (s : ByteArray) (c : Int) (w : World) :
    Calls Tryd.prog 36 #[.string s, .int .u8 c] w fun e w' => e = .returned (.int .i64 (Lib.indexByte s.data.toList c.toNat.toUInt8)) ∧ w' = w := by
  go_enter Tryd.func36, Tryd.ntmps36
  go_wp2_with (go_at_call 49; refine (indexByteL_any _ _ _).mono ?_; rintro e w' ⟨rfl, rfl⟩)
  go_ret
  exact ⟨rfl, rfl⟩
end Go.Proofs.YtdfpifipkchmnaaDoor
/- Proved here: contracts of the landed package lines: firstEnd, May (each for strings of at most maxLen bytes); for stages behind the first: NOT beside stage 1's Lines, which has the same names. -/
namespace Go.Proofs.YtdfpifipkchmnaaDoor
open Go.RowKit
set_option linter.unusedVariables false

set_option maxRecDepth 100000 in
set_option maxHeartbeats 400000 in
theorem firstEnd_any (s : ByteArray) (w : World) (hs : s.size ≤ maxLen) :
    Calls Tryd.prog 23 #[.string s] w fun e w' => e = .returned (.int .i64 (fe s.data.toList)) ∧ w = w' := by
  unfold maxLen at hs
  have hf := fe_le s.data.toList
  have hx := fe_index s.data.toList
  have hz : s.data.toList.length = s.size := (Lib.size_eq s).symm
  obtain ⟨i, hi⟩ : ∃ i, i = Lib.indexByte s.data.toList 10 := ⟨_, rfl⟩
  rw [← hi, hz] at hx
  rw [hz] at hf
  have hi' := Lib.hid hi
  have hb : i ≤ s.size ∧ -1 ≤ i := by
    have := Lib.indexByte_ge s.data.toList 10
    split at hx <;> omega
  obtain ⟨f, hf'⟩ : ∃ f, f = fe s.data.toList := ⟨_, rfl⟩
  rw [← hf'] at hx hf ⊢
  by_cases h0 : 0 ≤ i
  · rw [if_pos h0] at hx
    have hib : i + 1 ≤ s.size := by omega
    have hh := Lib.hid hx
    clear hi hx hf'
    go_enter Tryd.func23, Tryd.ntmps23
    go_wp2_with (go_at_call 36; refine (indexByte_any _ _ _).mono ?_; rintro e w' ⟨rfl, rfl⟩; rw [show Lib.indexByte s.data.toList (10 : Int).toNat.toUInt8 = i from hi'.out.symm])
    go_ret
    exact ⟨ret_int (by rw [hh.out]), rfl⟩
  · rw [if_neg h0] at hx
    have hh := Lib.hid hx
    clear hi hx hf'
    go_enter Tryd.func23, Tryd.ntmps23
    go_wp2_with (go_at_call 36; refine (indexByte_any _ _ _).mono ?_; rintro e w' ⟨rfl, rfl⟩; rw [show Lib.indexByte s.data.toList (10 : Int).toNat.toUInt8 = i from hi'.out.symm])
    go_ret
    exact ⟨ret_int (by rw [hh.out]), rfl⟩
section
variable {ss : List (List UInt8)} {k n : Nat} {t : List UInt8}
theorem may_a (hm : mayB ss = mayB (ss.drop k)) (hd : ss.drop k = t :: ss.drop (k + 1)) (h : (str t).toList = []) : false = mayB ss := by
  have := data_nil h
  rw [str_data] at this
  subst this
  rw [hm, hd]; rfl
theorem may_b (hm : mayB ss = mayB (ss.drop k)) (hd : ss.drop k = t :: ss.drop (k + 1)) (h : (str t).toList.isEmpty = true ∨ fe (str t).data.toList < (str t).size) : false = mayB ss := by
  rw [ByteArray.toList_eq, str_data, str_size] at h
  rw [hm, hd, mayB]
  rcases h with h | h <;> simp [h]
theorem may_c (hl : ss.length = n) (hm : mayB ss = mayB (ss.drop k)) (hd : ss.drop k = t :: ss.drop (k + 1)) (h2 : (k : Int) < (n : Int) - 1) (h : (!endedB (str t).data.toList) = true) : false = mayB ss := by
  rw [str_data] at h
  have h' : endedB t = false := by simpa using h
  have hne : (ss.drop (k + 1)).isEmpty = false := by
    rw [Bool.eq_false_iff, ne_eq, List.isEmpty_iff]
    intro e
    have := congrArg List.length e
    rw [List.length_drop] at this
    simp at this
    omega
  rw [hm, hd, mayB, h', hne]
  simp
theorem may_go (hm : mayB ss = mayB (ss.drop k)) (hd : ss.drop k = t :: ss.drop (k + 1)) (h1 : (str t).toList.isEmpty = false ∧ ¬ fe (str t).data.toList < (str t).size) (he : (ss.drop (k + 1)).isEmpty = true ∨ endedB t = true) : mayB ss = mayB (ss.drop (k + 1)) := by
  rw [ByteArray.toList_eq, str_data, str_size] at h1
  rw [hm, hd, mayB]
  rcases he with he | he <;> simp [h1.1, h1.2, he]
end

set_option maxRecDepth 100000 in
set_option maxHeartbeats 400000 in
theorem lMay_any (A : Option Addr) (n c B : Nat) (ss : List (List UInt8)) (w : World) (hn : n ≤ maxLen) (hs : ∀ s ∈ ss, s.length ≤ maxLen) (hA : Strs w B A n ss) :
    Calls Tryd.prog 18 #[.slice A n c] w fun e w' => e = .returned (.bool (mayB ss)) ∧ w = w' := by
  unfold maxLen at hn
  have hl := hA.len
  go_enter Tryd.func18, Tryd.ntmps18
  go_wp2
  go_loop [11] (fun i => ∃ k : Nat, k ≤ n ∧ i = .int .i64 k ∧ Hid (mayB ss = mayB (ss.drop k))) (fun i => n - (intOf i).toNat)
  case atStart => exact ⟨0, Nat.zero_le _, rfl, Lib.hid rfl⟩
  case round =>
    obtain ⟨k, hk, rfl, hm⟩ := hrel
    by_cases hlt : k < n
    · obtain ⟨b, o, t, rfl, _, ht, hc⟩ := hA.at_ (k := k) hlt
      have htl : t.length ≤ maxLen := hs t (List.mem_of_getElem? ht)
      have hd := Lib.hid (drop_at ht)
      go_wp2_with (first
        | (go_at_call 23; refine (firstEnd_any (str t) _ (by rw [str_size]; exact htl)).mono ?_; rintro e w' ⟨rfl, rfl⟩)
        | (go_at_call 24; refine (ended_any (str t) _ (by rw [str_size]; exact htl)).mono ?_; rintro e w' ⟨rfl, rfl⟩))
      · go_ret; exact ⟨ret_bool (may_a hm.out hd.out ‹_›), rfl⟩
      · go_ret; exact ⟨ret_bool (may_b hm.out hd.out ‹_›), rfl⟩
      · go_ret; exact ⟨ret_bool (may_c hl hm.out hd.out ‹_› ‹_›), rfl⟩
      · have h1 : (str t).toList.isEmpty = false ∧ ¬fe (str t).data.toList < (str t).size := by assumption
        have h2 : (!endedB (str t).data.toList) = false := by assumption
        go_round
        case rel => exact ⟨k + 1, by omega, by go_num, Lib.hid (may_go hm.out hd.out h1 (.inr (by rw [str_data] at h2; simpa using h2)))⟩
        case measure => simp [intOf]; omega
      · have h1 : (str t).toList.isEmpty = false ∧ ¬fe (str t).data.toList < (str t).size := by assumption
        go_round
        case rel => exact ⟨k + 1, by omega, by go_num, Lib.hid (may_go hm.out hd.out h1 (.inl (by rw [List.drop_of_length_le (by omega)]; rfl)))⟩
        case measure => simp [intOf]; omega
    · go_wp2
      go_ret
      have : k = n := by omega
      subst this
      exact ⟨ret_bool (by rw [hm.out, List.drop_of_length_le (by omega)]; rfl), rfl⟩
end Go.Proofs.YtdfpifipkchmnaaDoor
