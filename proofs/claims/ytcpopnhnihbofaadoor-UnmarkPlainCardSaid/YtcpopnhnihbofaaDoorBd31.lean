/- Proved here: texts joined: LinOpen, IdxB, LinMay, UmFn. -/
import Derived.Test.YtcpopnhnihbofaaDoorBd01
import Derived.Test.YtcpopnhnihbofaaDoorBd04
import Derived.Test.YtcpopnhnihbofaaDoorBd16
import Derived.Test.YtcpopnhnihbofaaDoorBd30
import Derived.Test.YtcpopnhnihbofaaDoorChecked
import Derived.Lib.Bytealg
import Derived.WalkLawsBesides
import Derived.Lib.Hide
import Derived.Deep.QuietTactic
import Derived.BigQuiet
import Derived.Test.YtcpopnhnihbofaaDoorShelf
import Derived.Laws.EntriesVeiled
import Derived.RangeFuncBox
import Derived.Deep.DeepCutAuto
import Derived.Lib.Strings
/- Proved here: contracts of the landed package lines: ended, Open (each for strings of at most maxLen bytes); for stages behind the first: NOT beside stage 1's Lines, which has the same names. -/
namespace Go.Proofs.YtcpopnhnihbofaaDoor
open Go.RowKit
set_option linter.unusedVariables false

set_option maxHeartbeats 400000 in
theorem ended_any (s : ByteArray) (w : World) (hs : s.size ≤ maxLen) :
    Calls Tryd.prog 46 #[.string s] w fun e w' => e = .returned (.bool (endedB s.data.toList)) ∧ w = w' := by
  unfold maxLen at hs
  by_cases h : s.toList = []
  · go_enter Tryd.func46, Tryd.ntmps46
    go_wp2
    go_ret
    exact ⟨ret_bool (by rw [data_nil h]; rfl), rfl⟩
  · have h1 := size_pos h
    have h2 : (!s.toList.isEmpty) = true := by simpa using h
    go_enter Tryd.func46, Tryd.ntmps46
    go_wp2
    go_ret
    exact ⟨ret_bool (by rw [last_byte s h1 _ rfl (by omega)]), rfl⟩

set_option maxHeartbeats 400000 in
theorem Open_any (A : Option Addr) (n c B : Nat) (ss : List (List UInt8)) (w : World) (hn : n ≤ maxLen) (hs : ∀ s ∈ ss, s.length ≤ maxLen) (hA : Strs w B A n ss) :
    Calls Tryd.prog 32 #[.slice A n c] w fun e w' => e = .returned (.bool (openB ss)) ∧ w = w' := by
  unfold maxLen at hn
  have hl := hA.len
  by_cases h0 : n = 0
  · subst h0
    have hd : decide ((0 : Int) < ((0 : Nat) : Int)) = false := by decide
    go_enter Tryd.func32, Tryd.ntmps32
    go_wp2
    go_ret
    obtain rfl : ss = [] := List.eq_nil_of_length_eq_zero hl
    exact ⟨rfl, rfl⟩
  · obtain ⟨b, o, t, rfl, _, ht, hc⟩ := hA.at_ (k := n - 1) (by omega)
    have htl : t.length ≤ maxLen := hs t (List.mem_of_getElem? ht)
    have hres : Hid ((!endedB (str t).data.toList) = openB ss) := Lib.hid <| by
      rw [str_data]; unfold openB; rw [List.getLast?_eq_getElem?, hl, ht]
    have h1 : (1 : Int) ≤ n := by omega
    have hd : decide ((0 : Int) < (n : Int)) = true := by simp; omega
    go_enter Tryd.func32, Tryd.ntmps32
    go_wp2_with (go_at_call 46; refine (ended_any (str t) _ (by rw [str_size]; exact htl)).mono ?_; rintro e w' ⟨rfl, rfl⟩)
    go_ret
    exact ⟨ret_bool hres.out, rfl⟩
end Go.Proofs.YtcpopnhnihbofaaDoor
/- Proved here: contracts of the library's internal/stringslite.IndexByte and strings.IndexByte, by the external internal/bytealg.IndexByteString. -/
namespace Go.Proofs.YtcpopnhnihbofaaDoor
open Go.RowKit
set_option linter.unusedVariables false

set_option maxRecDepth 100000 in
set_option maxHeartbeats 400000 in
theorem indexByteL_any (s : ByteArray) (c : Int) (w : World) :
    Calls Tryd.prog 58 #[.string s, .int .u8 c] w fun e w' => e = .returned (.int .i64 (Lib.indexByte s.data.toList c.toNat.toUInt8)) ∧ w' = w := by
  go_enter Tryd.func58, Tryd.ntmps58
  go_wp2
  rw [run_callFunc_extern Tryd.func64 (by kernel_rfl) (by kernel_rfl) (by kernel_rfl) (e := Extern.BytealgIndexByte.indexByte) (by kernel_rfl), Lib.run_indexByteString]
  simp only [Result.andThen]
  rw [Oper.upon_value]
  go_wp2
  go_ret
  exact ⟨rfl, rfl⟩
set_option maxRecDepth 100000 in
set_option maxHeartbeats 400000 in
theorem indexByte_any (s : ByteArray) (c : Int) (w : World) :
    Calls Tryd.prog 53 #[.string s, .int .u8 c] w fun e w' => e = .returned (.int .i64 (Lib.indexByte s.data.toList c.toNat.toUInt8)) ∧ w' = w := by
  go_enter Tryd.func53, Tryd.ntmps53
  go_wp2_with (go_at_call 58; refine (indexByteL_any _ _ _).mono ?_; rintro e w' ⟨rfl, rfl⟩)
  go_ret
  exact ⟨rfl, rfl⟩
end Go.Proofs.YtcpopnhnihbofaaDoor
/- Proved here: contracts of the landed package lines: firstEnd, May (each for strings of at most maxLen bytes); for stages behind the first: NOT beside stage 1's Lines, which has the same names. -/
namespace Go.Proofs.YtcpopnhnihbofaaDoor
open Go.RowKit
set_option linter.unusedVariables false

set_option maxRecDepth 100000 in
set_option maxHeartbeats 400000 in
theorem firstEnd_any (s : ByteArray) (w : World) (hs : s.size ≤ maxLen) :
    Calls Tryd.prog 45 #[.string s] w fun e w' => e = .returned (.int .i64 (fe s.data.toList)) ∧ w = w' := by
  unfold maxLen at hs
  have hf := fe_le s.data.toList
  have hx := fe_index s.data.toList
  have hz : s.data.toList.length = s.size := (Lib.size_eq s).symm
  obtain ⟨i, hi⟩ : ∃ i, i = Lib.indexByte s.data.toList 10 := ⟨_, rfl⟩
  rw [← hi, hz] at hx
  rw [hz] at hf
  have hi' := Lib.hid hi
  have hb : i ≤ s.size ∧ -1 ≤ i := by
    have := Lib.indexByte_ge s.data.toList 10
    split at hx <;> omega
  obtain ⟨f, hf'⟩ : ∃ f, f = fe s.data.toList := ⟨_, rfl⟩
  rw [← hf'] at hx hf ⊢
  by_cases h0 : 0 ≤ i
  · rw [if_pos h0] at hx
    have hib : i + 1 ≤ s.size := by omega
    have hh := Lib.hid hx
    clear hi hx hf'
    go_enter Tryd.func45, Tryd.ntmps45
    go_wp2_with (go_at_call 53; refine (indexByte_any _ _ _).mono ?_; rintro e w' ⟨rfl, rfl⟩; rw [show Lib.indexByte s.data.toList (10 : Int).toNat.toUInt8 = i from hi'.out.symm])
    go_ret
    exact ⟨ret_int (by rw [hh.out]), rfl⟩
  · rw [if_neg h0] at hx
    have hh := Lib.hid hx
    clear hi hx hf'
    go_enter Tryd.func45, Tryd.ntmps45
    go_wp2_with (go_at_call 53; refine (indexByte_any _ _ _).mono ?_; rintro e w' ⟨rfl, rfl⟩; rw [show Lib.indexByte s.data.toList (10 : Int).toNat.toUInt8 = i from hi'.out.symm])
    go_ret
    exact ⟨ret_int (by rw [hh.out]), rfl⟩
section
variable {ss : List (List UInt8)} {k n : Nat} {t : List UInt8}
theorem may_a (hm : mayB ss = mayB (ss.drop k)) (hd : ss.drop k = t :: ss.drop (k + 1)) (h : (str t).toList = []) : false = mayB ss := by
  have := data_nil h
  rw [str_data] at this
  subst this
  rw [hm, hd]; rfl
theorem may_b (hm : mayB ss = mayB (ss.drop k)) (hd : ss.drop k = t :: ss.drop (k + 1)) (h : (str t).toList.isEmpty = true ∨ fe (str t).data.toList < (str t).size) : false = mayB ss := by
  rw [ByteArray.toList_eq, str_data, str_size] at h
  rw [hm, hd, mayB]
  rcases h with h | h <;> simp [h]
theorem may_c (hl : ss.length = n) (hm : mayB ss = mayB (ss.drop k)) (hd : ss.drop k = t :: ss.drop (k + 1)) (h2 : (k : Int) < (n : Int) - 1) (h : (!endedB (str t).data.toList) = true) : false = mayB ss := by
  rw [str_data] at h
  have h' : endedB t = false := by simpa using h
  have hne : (ss.drop (k + 1)).isEmpty = false := by
    rw [Bool.eq_false_iff, ne_eq, List.isEmpty_iff]
    intro e
    have := congrArg List.length e
    rw [List.length_drop] at this
    simp at this
    omega
  rw [hm, hd, mayB, h', hne]
  simp
theorem may_go (hm : mayB ss = mayB (ss.drop k)) (hd : ss.drop k = t :: ss.drop (k + 1)) (h1 : (str t).toList.isEmpty = false ∧ ¬ fe (str t).data.toList < (str t).size) (he : (ss.drop (k + 1)).isEmpty = true ∨ endedB t = true) : mayB ss = mayB (ss.drop (k + 1)) := by
  rw [ByteArray.toList_eq, str_data, str_size] at h1
  rw [hm, hd, mayB]
  rcases he with he | he <;> simp [h1.1, h1.2, he]
end

set_option maxRecDepth 100000 in
set_option maxHeartbeats 400000 in
theorem lMay_any (A : Option Addr) (n c B : Nat) (ss : List (List UInt8)) (w : World) (hn : n ≤ maxLen) (hs : ∀ s ∈ ss, s.length ≤ maxLen) (hA : Strs w B A n ss) :
    Calls Tryd.prog 31 #[.slice A n c] w fun e w' => e = .returned (.bool (mayB ss)) ∧ w = w' := by
  unfold maxLen at hn
  have hl := hA.len
  go_enter Tryd.func31, Tryd.ntmps31
  go_wp2
  go_loop [11] (fun i => ∃ k : Nat, k ≤ n ∧ i = .int .i64 k ∧ Hid (mayB ss = mayB (ss.drop k))) (fun i => n - (intOf i).toNat)
  case atStart => exact ⟨0, Nat.zero_le _, rfl, Lib.hid rfl⟩
  case round =>
    obtain ⟨k, hk, rfl, hm⟩ := hrel
    by_cases hlt : k < n
    · obtain ⟨b, o, t, rfl, _, ht, hc⟩ := hA.at_ (k := k) hlt
      have htl : t.length ≤ maxLen := hs t (List.mem_of_getElem? ht)
      have hd := Lib.hid (drop_at ht)
      go_wp2_with (first
        | (go_at_call 45; refine (firstEnd_any (str t) _ (by rw [str_size]; exact htl)).mono ?_; rintro e w' ⟨rfl, rfl⟩)
        | (go_at_call 46; refine (ended_any (str t) _ (by rw [str_size]; exact htl)).mono ?_; rintro e w' ⟨rfl, rfl⟩))
      · go_ret; exact ⟨ret_bool (may_a hm.out hd.out ‹_›), rfl⟩
      · go_ret; exact ⟨ret_bool (may_b hm.out hd.out ‹_›), rfl⟩
      · go_ret; exact ⟨ret_bool (may_c hl hm.out hd.out ‹_› ‹_›), rfl⟩
      · have h1 : (str t).toList.isEmpty = false ∧ ¬fe (str t).data.toList < (str t).size := by assumption
        have h2 : (!endedB (str t).data.toList) = false := by assumption
        go_round
        case rel => exact ⟨k + 1, by omega, by go_num, Lib.hid (may_go hm.out hd.out h1 (.inr (by rw [str_data] at h2; simpa using h2)))⟩
        case measure => simp [intOf]; omega
      · have h1 : (str t).toList.isEmpty = false ∧ ¬fe (str t).data.toList < (str t).size := by assumption
        go_round
        case rel => exact ⟨k + 1, by omega, by go_num, Lib.hid (may_go hm.out hd.out h1 (.inl (by rw [List.drop_of_length_le (by omega)]; rfl)))⟩
        case measure => simp [intOf]; omega
    · go_wp2
      go_ret
      have : k = n := by omega
      subst this
      exact ⟨ret_bool (by rw [hm.out, List.drop_of_length_le (by omega)]; rfl), rfl⟩
end Go.Proofs.YtcpopnhnihbofaaDoor
/- Proved here: the landed unmark's small functions: inConflict, isLine, the closure that compares marks. -/
namespace Go.Proofs.YtcpopnhnihbofaaDoor
open Go.RowKit
set_option linter.unusedVariables false
set_option maxRecDepth 100000

theorem inConf_any (L : Nat) (A : Option Addr) (n c : Nat) (w : World) (hx : w.cell? ⟨L, 2, none⟩ = some (.slice A n c)) :
    Calls Tryd.prog 17 #[.pointer (some ⟨L, 0, none⟩)] w fun e w' => e = .returned (.bool (decide (0 < n))) ∧ w = w' := by
  go_enter Tryd.func17, Tryd.ntmps17
  go_wp2
  go_ret
  exact ⟨ret_bool (by simp), rfl⟩

theorem head_prefix (t : Tx) (sg : UInt8) : Lib.hasPrefix t [sg] = decide (t.head? = some sg) := by
  unfold Lib.hasPrefix
  cases t with
  | nil => simp
  | cons x r =>
    show (sg == x && true) = decide (some x = some sg)
    rw [Bool.and_true, Bool.eq_iff_iff, beq_iff_eq, decide_eq_true_eq, Option.some.injEq]
    exact eq_comm

set_option maxHeartbeats 1000000 in
theorem is_any (t told bh : Tx) (sg : UInt8) (Bt Bd : Nat) (w : World) (hbh : bh.length ≤ 1000000) (ht : Boxed w Bt 9 (.string (str t))) (hd : Boxed w Bd 9 (.string (str told))) :
    Calls Tryd.prog 37 #[.string (str [sg]), .string (str bh), .pointer (some ⟨Bt, 0, none⟩), .pointer (some ⟨Bd, 0, none⟩)] w fun e w' => e = .returned (.bool (isC t told sg bh)) ∧ w = w' := by
  have x0 := ht.cell
  have x1 := hd.cell
  have hP := Lib.hid (Tryd.strings_HasPrefix (str t) (str [sg]) w)
  obtain ⟨T, hT⟩ : ∃ T, str t = T := ⟨_, rfl⟩
  obtain ⟨D, hD⟩ : ∃ D, str told = D := ⟨_, rfl⟩
  obtain ⟨B, hB⟩ : ∃ B, str bh = B := ⟨_, rfl⟩
  have hBs : ¬ 9223372036854775807 < B.size + 1 := by rw [← hB, str_size]; omega
  have hpre : Lib.hasPrefix T.data.toList (str [sg]).data.toList = decide (t.head? = some sg) := by
    rw [← hT, str_data]
    exact head_prefix t sg
  rw [hT, hpre] at hP
  have hres : Hid (isC t told sg bh = (decide (t.head? = some sg) && (D.toList == (B ++ ⟨#[10]⟩).toList))) := Lib.hid (by
    unfold isC
    rw [← hD, ← hB, str_feed, Lib.toList_data, Lib.toList_data, str_data, str_data]
    congr 1
    rw [Bool.eq_iff_iff]
    simp)
  obtain ⟨S, hS⟩ : ∃ S, str [sg] = S := ⟨_, rfl⟩
  rw [hS] at hP
  rw [hS, hB]
  rw [hT] at x0
  rw [hD] at x1
  obtain ⟨o, ho⟩ : ∃ o, decide (t.head? = some sg) = o := ⟨_, rfl⟩
  rw [ho] at hP hres
  clear ht hd hbh hT hD hB hS hpre ho
  cases o
  all_goals
    go_enter Tryd.func37, Tryd.ntmps37
    go_wp2_with (go_at_call 38; refine hP.out.mono ?_; rintro e w' ⟨rfl, rfl⟩)
    go_ret
    exact ⟨ret_bool (by rw [hres.out]; simp), rfl⟩

set_option maxHeartbeats 1000000 in
theorem isLine_any (t : Tx) (mb : Bool) (w : World) (ht : t.length ≤ 1000000) :
    Calls Tryd.prog 18 #[.string (str t), .bool mb] w fun e w' => e = .returned (.bool (lineC t mb)) ∧ Below w.heap.size w w' := by
  obtain ⟨W, hW⟩ : ∃ W, W = w.alloc (.cells #[.string (str t)] 9) := ⟨_, rfl⟩
  have hB : Below w.heap.size w W := by rw [hW]; exact below_alloc (Below.refl _ _) _
  have hR : TxR W W.heap.size (some ⟨w.heap.size, 0, none⟩, 1, 1) [t] := by rw [hW]; exact txr_of (one_a w _) rfl rfl (by decide)
  have hs : ∀ s ∈ [t], s.length ≤ maxLen := by
    intro s h
    rw [List.mem_singleton.1 h]
    unfold maxLen
    omega
  have hM := Lib.hid (lMay_any (some ⟨w.heap.size, 0, none⟩) 1 1 W.heap.size [t] W (by decide) hs hR.2.2)
  have hO := Lib.hid (Open_any (some ⟨w.heap.size, 0, none⟩) 1 1 W.heap.size [t] W (by decide) hs hR.2.2)
  obtain ⟨a, ha⟩ : ∃ a, mayB [t] = a := ⟨_, rfl⟩
  obtain ⟨b, hb⟩ : ∃ b, openB [t] = b := ⟨_, rfl⟩
  have hres : Hid (lineC t mb = (a && (mb || !b))) := Lib.hid (by unfold lineC; rw [ha, hb])
  rw [ha] at hM
  rw [hb] at hO
  have hWh := Lib.hid hW
  have hBh := Lib.hid hB
  clear ha hb hs hR hW ht hB
  cases a <;> cases mb
  all_goals
    go_enter Tryd.func18, Tryd.ntmps18
    go_upto_region 2 with fail
    rw [← hWh.out]
    go_wp2_with (first
      | (go_at_call 31; refine hM.out.mono ?_; rintro e w1 ⟨rfl, rfl⟩)
      | (go_at_call 32; refine hO.out.mono ?_; rintro e w1 ⟨rfl, rfl⟩))
    go_ret
    exact ⟨ret_bool (by rw [hres.out]; simp), hBh.out⟩
end Go.Proofs.YtcpopnhnihbofaaDoor
