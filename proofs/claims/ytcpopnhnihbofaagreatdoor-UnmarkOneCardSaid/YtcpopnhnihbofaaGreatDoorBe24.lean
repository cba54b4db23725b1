/- Proved here: texts joined: LinOpen, IdxB, LinMay, UmFn, UmPut. -/
import Derived.Test.YtcpopnhnihbofaaGreatDoorBe01
import Derived.Test.YtcpopnhnihbofaaGreatDoorBe03
import Derived.Test.YtcpopnhnihbofaaGreatDoorBe16
import Derived.Test.YtcpopnhnihbofaaGreatDoorBe23
import Derived.Test.YtcpopnhnihbofaaGreatDoorChecked
import Derived.Lib.Bytealg
import Derived.WalkLawsBesides
import Derived.Lib.Hide
import Derived.Deep.QuietTactic
import Derived.BigQuiet
import Derived.Test.YtcpopnhnihbofaaGreatDoorShelf
import Derived.Laws.EntriesVeiled
import Derived.RangeFuncBox
import Derived.Deep.DeepCutAuto
import Derived.Lib.Strings
/- Proved here: contracts of the landed package lines: ended, Open (each for strings of at most maxLen bytes); for stages behind the first: NOT beside stage 1's Lines, which has the same names. -/
namespace Go.Proofs.YtcpopnhnihbofaaGreatDoor
open Go.RowKit
set_option linter.unusedVariables false

set_option maxHeartbeats 400000 in
theorem ended_any (s : ByteArray) (w : World) (hs : s.size ≤ maxLen) :
    Calls Tryz.prog 76 #[.string s] w fun e w' => e = .returned (.bool (endedB s.data.toList)) ∧ w = w' := by
  unfold maxLen at hs
  by_cases h : s.toList = []
  · go_enter Tryz.func76, Tryz.ntmps76
    go_wp2
    go_ret
    exact ⟨ret_bool (by rw [data_nil h]; rfl), rfl⟩
  · have h1 := size_pos h
    have h2 : (!s.toList.isEmpty) = true := by simpa using h
    go_enter Tryz.func76, Tryz.ntmps76
    go_wp2
    go_ret
    exact ⟨ret_bool (by rw [last_byte s h1 _ rfl (by omega)]), rfl⟩

set_option maxHeartbeats 400000 in
theorem Open_any (A : Option Addr) (n c B : Nat) (ss : List (List UInt8)) (w : World) (hn : n ≤ maxLen) (hs : ∀ s ∈ ss, s.length ≤ maxLen) (hA : Strs w B A n ss) :
    Calls Tryz.prog 49 #[.slice A n c] w fun e w' => e = .returned (.bool (openB ss)) ∧ w = w' := by
  unfold maxLen at hn
  have hl := hA.len
  by_cases h0 : n = 0
  · subst h0
    have hd : decide ((0 : Int) < ((0 : Nat) : Int)) = false := by decide
    go_enter Tryz.func49, Tryz.ntmps49
    go_wp2
    go_ret
    obtain rfl : ss = [] := List.eq_nil_of_length_eq_zero hl
    exact ⟨rfl, rfl⟩
  · obtain ⟨b, o, t, rfl, _, ht, hc⟩ := hA.at_ (k := n - 1) (by omega)
    have htl : t.length ≤ maxLen := hs t (List.mem_of_getElem? ht)
    have hres : Hid ((!endedB (str t).data.toList) = openB ss) := Lib.hid <| by
      rw [str_data]; unfold openB; rw [List.getLast?_eq_getElem?, hl, ht]
    have h1 : (1 : Int) ≤ n := by omega
    have hd : decide ((0 : Int) < (n : Int)) = true := by simp; omega
    go_enter Tryz.func49, Tryz.ntmps49
    go_wp2_with (go_at_call 76; refine (ended_any (str t) _ (by rw [str_size]; exact htl)).mono ?_; rintro e w' ⟨rfl, rfl⟩)
    go_ret
    exact ⟨ret_bool hres.out, rfl⟩
end Go.Proofs.YtcpopnhnihbofaaGreatDoor
/- Proved here: contracts of the library's internal/stringslite.IndexByte and strings.IndexByte, by the external internal/bytealg.IndexByteString. -/
namespace Go.Proofs.YtcpopnhnihbofaaGreatDoor
open Go.RowKit
set_option linter.unusedVariables false

set_option maxRecDepth 100000 in
set_option maxHeartbeats 400000 in
theorem indexByteL_any (s : ByteArray) (c : Int) (w : World) :
    Calls Tryz.prog 106 #[.string s, .int .u8 c] w fun e w' => e = .returned (.int .i64 (Lib.indexByte s.data.toList c.toNat.toUInt8)) ∧ w' = w := by
  go_enter Tryz.func106, Tryz.ntmps106
  go_wp2
  rw [run_callFunc_extern Tryz.func119 (by kernel_rfl) (by kernel_rfl) (by kernel_rfl) (e := Extern.BytealgIndexByte.indexByte) (by kernel_rfl), Lib.run_indexByteString]
  simp only [Result.andThen]
  rw [Oper.upon_value]
  go_wp2
  go_ret
  exact ⟨rfl, rfl⟩
set_option maxRecDepth 100000 in
set_option maxHeartbeats 400000 in
theorem indexByte_any (s : ByteArray) (c : Int) (w : World) :
    Calls Tryz.prog 95 #[.string s, .int .u8 c] w fun e w' => e = .returned (.int .i64 (Lib.indexByte s.data.toList c.toNat.toUInt8)) ∧ w' = w := by
  go_enter Tryz.func95, Tryz.ntmps95
  go_wp2_with (go_at_call 106; refine (indexByteL_any _ _ _).mono ?_; rintro e w' ⟨rfl, rfl⟩)
  go_ret
  exact ⟨rfl, rfl⟩
end Go.Proofs.YtcpopnhnihbofaaGreatDoor
/- Proved here: contracts of the landed package lines: firstEnd, May (each for strings of at most maxLen bytes); for stages behind the first: NOT beside stage 1's Lines, which has the same names. -/
namespace Go.Proofs.YtcpopnhnihbofaaGreatDoor
open Go.RowKit
set_option linter.unusedVariables false

set_option maxRecDepth 100000 in
set_option maxHeartbeats 400000 in
theorem firstEnd_any (s : ByteArray) (w : World) (hs : s.size ≤ maxLen) :
    Calls Tryz.prog 75 #[.string s] w fun e w' => e = .returned (.int .i64 (fe s.data.toList)) ∧ w = w' := by
  unfold maxLen at hs
  have hf := fe_le s.data.toList
  have hx := fe_index s.data.toList
  have hz : s.data.toList.length = s.size := (Lib.size_eq s).symm
  obtain ⟨i, hi⟩ : ∃ i, i = Lib.indexByte s.data.toList 10 := ⟨_, rfl⟩
  rw [← hi, hz] at hx
  rw [hz] at hf
  have hi' := Lib.hid hi
  have hb : i ≤ s.size ∧ -1 ≤ i := by
    have := Lib.indexByte_ge s.data.toList 10
    split at hx <;> omega
  obtain ⟨f, hf'⟩ : ∃ f, f = fe s.data.toList := ⟨_, rfl⟩
  rw [← hf'] at hx hf ⊢
  by_cases h0 : 0 ≤ i
  · rw [if_pos h0] at hx
    have hib : i + 1 ≤ s.size := by omega
    have hh := Lib.hid hx
    clear hi hx hf'
    go_enter Tryz.func75, Tryz.ntmps75
    go_wp2_with (go_at_call 95; refine (indexByte_any _ _ _).mono ?_; rintro e w' ⟨rfl, rfl⟩; rw [show Lib.indexByte s.data.toList (10 : Int).toNat.toUInt8 = i from hi'.out.symm])
    go_ret
    exact ⟨ret_int (by rw [hh.out]), rfl⟩
  · rw [if_neg h0] at hx
    have hh := Lib.hid hx
    clear hi hx hf'
    go_enter Tryz.func75, Tryz.ntmps75
    go_wp2_with (go_at_call 95; refine (indexByte_any _ _ _).mono ?_; rintro e w' ⟨rfl, rfl⟩; rw [show Lib.indexByte s.data.toList (10 : Int).toNat.toUInt8 = i from hi'.out.symm])
    go_ret
    exact ⟨ret_int (by rw [hh.out]), rfl⟩
section
variable {ss : List (List UInt8)} {k n : Nat} {t : List UInt8}
theorem may_a (hm : mayB ss = mayB (ss.drop k)) (hd : ss.drop k = t :: ss.drop (k + 1)) (h : (str t).toList = []) : false = mayB ss := by
  have := data_nil h
  rw [str_data] at this
  subst this
  rw [hm, hd]; rfl
theorem may_b (hm : mayB ss = mayB (ss.drop k)) (hd : ss.drop k = t :: ss.drop (k + 1)) (h : (str t).toList.isEmpty = true ∨ fe (str t).data.toList < (str t).size) : false = mayB ss := by
  rw [ByteArray.toList_eq, str_data, str_size] at h
  rw [hm, hd, mayB]
  rcases h with h | h <;> simp [h]
theorem may_c (hl : ss.length = n) (hm : mayB ss = mayB (ss.drop k)) (hd : ss.drop k = t :: ss.drop (k + 1)) (h2 : (k : Int) < (n : Int) - 1) (h : (!endedB (str t).data.toList) = true) : false = mayB ss := by
  rw [str_data] at h
  have h' : endedB t = false := by simpa using h
  have hne : (ss.drop (k + 1)).isEmpty = false := by
    rw [Bool.eq_false_iff, ne_eq, List.isEmpty_iff]
    intro e
    have := congrArg List.length e
    rw [List.length_drop] at this
    simp at this
    omega
  rw [hm, hd, mayB, h', hne]
  simp
theorem may_go (hm : mayB ss = mayB (ss.drop k)) (hd : ss.drop k = t :: ss.drop (k + 1)) (h1 : (str t).toList.isEmpty = false ∧ ¬ fe (str t).data.toList < (str t).size) (he : (ss.drop (k + 1)).isEmpty = true ∨ endedB t = true) : mayB ss = mayB (ss.drop (k + 1)) := by
  rw [ByteArray.toList_eq, str_data, str_size] at h1
  rw [hm, hd, mayB]
  rcases he with he | he <;> simp [h1.1, h1.2, he]
end

set_option maxRecDepth 100000 in
set_option maxHeartbeats 400000 in
theorem lMay_any (A : Option Addr) (n c B : Nat) (ss : List (List UInt8)) (w : World) (hn : n ≤ maxLen) (hs : ∀ s ∈ ss, s.length ≤ maxLen) (hA : Strs w B A n ss) :
    Calls Tryz.prog 46 #[.slice A n c] w fun e w' => e = .returned (.bool (mayB ss)) ∧ w = w' := by
  unfold maxLen at hn
  have hl := hA.len
  go_enter Tryz.func46, Tryz.ntmps46
  go_wp2
  go_loop [11] (fun i => ∃ k : Nat, k ≤ n ∧ i = .int .i64 k ∧ Hid (mayB ss = mayB (ss.drop k))) (fun i => n - (intOf i).toNat)
  case atStart => exact ⟨0, Nat.zero_le _, rfl, Lib.hid rfl⟩
  case round =>
    obtain ⟨k, hk, rfl, hm⟩ := hrel
    by_cases hlt : k < n
    · obtain ⟨b, o, t, rfl, _, ht, hc⟩ := hA.at_ (k := k) hlt
      have htl : t.length ≤ maxLen := hs t (List.mem_of_getElem? ht)
      have hd := Lib.hid (drop_at ht)
      go_wp2_with (first
        | (go_at_call 75; refine (firstEnd_any (str t) _ (by rw [str_size]; exact htl)).mono ?_; rintro e w' ⟨rfl, rfl⟩)
        | (go_at_call 76; refine (ended_any (str t) _ (by rw [str_size]; exact htl)).mono ?_; rintro e w' ⟨rfl, rfl⟩))
      · go_ret; exact ⟨ret_bool (may_a hm.out hd.out ‹_›), rfl⟩
      · go_ret; exact ⟨ret_bool (may_b hm.out hd.out ‹_›), rfl⟩
      · go_ret; exact ⟨ret_bool (may_c hl hm.out hd.out ‹_› ‹_›), rfl⟩
      · have h1 : (str t).toList.isEmpty = false ∧ ¬fe (str t).data.toList < (str t).size := by assumption
        have h2 : (!endedB (str t).data.toList) = false := by assumption
        go_round
        case rel => exact ⟨k + 1, by omega, by go_num, Lib.hid (may_go hm.out hd.out h1 (.inr (by rw [str_data] at h2; simpa using h2)))⟩
        case measure => simp [intOf]; omega
      · have h1 : (str t).toList.isEmpty = false ∧ ¬fe (str t).data.toList < (str t).size := by assumption
        go_round
        case rel => exact ⟨k + 1, by omega, by go_num, Lib.hid (may_go hm.out hd.out h1 (.inl (by rw [List.drop_of_length_le (by omega)]; rfl)))⟩
        case measure => simp [intOf]; omega
    · go_wp2
      go_ret
      have : k = n := by omega
      subst this
      exact ⟨ret_bool (by rw [hm.out, List.drop_of_length_le (by omega)]; rfl), rfl⟩
end Go.Proofs.YtcpopnhnihbofaaGreatDoor
/- Proved here: the landed unmark's small functions: inConflict, isLine, the closure that compares marks. -/
namespace Go.Proofs.YtcpopnhnihbofaaGreatDoor
open Go.RowKit
set_option linter.unusedVariables false
set_option maxRecDepth 100000

theorem inConf_any (L : Nat) (A : Option Addr) (n c : Nat) (w : World) (hx : w.cell? ⟨L, 2, none⟩ = some (.slice A n c)) :
    Calls Tryz.prog 29 #[.pointer (some ⟨L, 0, none⟩)] w fun e w' => e = .returned (.bool (decide (0 < n))) ∧ w = w' := by
  go_enter Tryz.func29, Tryz.ntmps29
  go_wp2
  go_ret
  exact ⟨ret_bool (by simp), rfl⟩

theorem head_prefix (t : Tx) (sg : UInt8) : Lib.hasPrefix t [sg] = decide (t.head? = some sg) := by
  unfold Lib.hasPrefix
  cases t with
  | nil => simp
  | cons x r =>
    show (sg == x && true) = decide (some x = some sg)
    rw [Bool.and_true, Bool.eq_iff_iff, beq_iff_eq, decide_eq_true_eq, Option.some.injEq]
    exact eq_comm

set_option maxHeartbeats 1000000 in
theorem is_any (t told bh : Tx) (sg : UInt8) (Bt Bd : Nat) (w : World) (hbh : bh.length ≤ 1000000) (ht : Boxed w Bt 9 (.string (str t))) (hd : Boxed w Bd 9 (.string (str told))) :
    Calls Tryz.prog 60 #[.string (str [sg]), .string (str bh), .pointer (some ⟨Bt, 0, none⟩), .pointer (some ⟨Bd, 0, none⟩)] w fun e w' => e = .returned (.bool (isC t told sg bh)) ∧ w = w' := by
  have x0 := ht.cell
  have x1 := hd.cell
  have hP := Lib.hid (Tryz.strings_HasPrefix (str t) (str [sg]) w)
  obtain ⟨T, hT⟩ : ∃ T, str t = T := ⟨_, rfl⟩
  obtain ⟨D, hD⟩ : ∃ D, str told = D := ⟨_, rfl⟩
  obtain ⟨B, hB⟩ : ∃ B, str bh = B := ⟨_, rfl⟩
  have hBs : ¬ 9223372036854775807 < B.size + 1 := by rw [← hB, str_size]; omega
  have hpre : Lib.hasPrefix T.data.toList (str [sg]).data.toList = decide (t.head? = some sg) := by
    rw [← hT, str_data]
    exact head_prefix t sg
  rw [hT, hpre] at hP
  have hres : Hid (isC t told sg bh = (decide (t.head? = some sg) && (D.toList == (B ++ ⟨#[10]⟩).toList))) := Lib.hid (by
    unfold isC
    rw [← hD, ← hB, str_feed, Lib.toList_data, Lib.toList_data, str_data, str_data]
    congr 1
    rw [Bool.eq_iff_iff]
    simp)
  obtain ⟨S, hS⟩ : ∃ S, str [sg] = S := ⟨_, rfl⟩
  rw [hS] at hP
  rw [hS, hB]
  rw [hT] at x0
  rw [hD] at x1
  obtain ⟨o, ho⟩ : ∃ o, decide (t.head? = some sg) = o := ⟨_, rfl⟩
  rw [ho] at hP hres
  clear ht hd hbh hT hD hB hS hpre ho
  cases o
  all_goals
    go_enter Tryz.func60, Tryz.ntmps60
    go_wp2_with (go_at_call 61; refine hP.out.mono ?_; rintro e w' ⟨rfl, rfl⟩)
    go_ret
    exact ⟨ret_bool (by rw [hres.out]; simp), rfl⟩

set_option maxHeartbeats 1000000 in
theorem isLine_any (t : Tx) (mb : Bool) (w : World) (ht : t.length ≤ 1000000) :
    Calls Tryz.prog 30 #[.string (str t), .bool mb] w fun e w' => e = .returned (.bool (lineC t mb)) ∧ Below w.heap.size w w' := by
  obtain ⟨W, hW⟩ : ∃ W, W = w.alloc (.cells #[.string (str t)] 9) := ⟨_, rfl⟩
  have hB : Below w.heap.size w W := by rw [hW]; exact below_alloc (Below.refl _ _) _
  have hR : TxR W W.heap.size (some ⟨w.heap.size, 0, none⟩, 1, 1) [t] := by rw [hW]; exact txr_of (one_a w _) rfl rfl (by decide)
  have hs : ∀ s ∈ [t], s.length ≤ maxLen := by
    intro s h
    rw [List.mem_singleton.1 h]
    unfold maxLen
    omega
  have hM := Lib.hid (lMay_any (some ⟨w.heap.size, 0, none⟩) 1 1 W.heap.size [t] W (by decide) hs hR.2.2)
  have hO := Lib.hid (Open_any (some ⟨w.heap.size, 0, none⟩) 1 1 W.heap.size [t] W (by decide) hs hR.2.2)
  obtain ⟨a, ha⟩ : ∃ a, mayB [t] = a := ⟨_, rfl⟩
  obtain ⟨b, hb⟩ : ∃ b, openB [t] = b := ⟨_, rfl⟩
  have hres : Hid (lineC t mb = (a && (mb || !b))) := Lib.hid (by unfold lineC; rw [ha, hb])
  rw [ha] at hM
  rw [hb] at hO
  have hWh := Lib.hid hW
  have hBh := Lib.hid hB
  clear ha hb hs hR hW ht hB
  cases a <;> cases mb
  all_goals
    go_enter Tryz.func30, Tryz.ntmps30
    go_upto_region 2 with fail
    rw [← hWh.out]
    go_wp2_with (first
      | (go_at_call 46; refine hM.out.mono ?_; rintro e w1 ⟨rfl, rfl⟩)
      | (go_at_call 49; refine hO.out.mono ?_; rintro e w1 ⟨rfl, rfl⟩))
    go_ret
    exact ⟨ret_bool (by rw [hres.out]; simp), hBh.out⟩
end Go.Proofs.YtcpopnhnihbofaaGreatDoor
/- Proved here: the landed reader's begin and put. -/
namespace Go.Proofs.YtcpopnhnihbofaaGreatDoor
open Go.RowKit
set_option linter.unusedVariables false
set_option maxRecDepth 100000

/-- A method of the reader, as a function value. -/
def mvR (k L : Nat) : Value := .func (.func k) #[.pointer (some ⟨L, 0, none⟩)] #[]
section
variable {w wr : World} {L long : Nat} {st : Int} {nx vp vq u : Value} {qs : List (PcV × Pc)} {ps : List (Slc × Txs)} {tx cf : Bool} {cur : Txs}

set_option maxHeartbeats 1000000 in
theorem begin_any (h : Rd w wr L long st nx vp vq u qs ps tx cf cur) (hp : ps.length ≤ 1000) (k : Nat) :
    Calls Tryz.prog 54 #[.pointer (some ⟨L, 0, none⟩), mvR k L] wr fun e w' => e = .returned (.tuple #[]) ∧ ∃ vq' r, u = slcV r ∧ Rd w w' L long st (mvR k L) vp vq' (.slice none 0 0) (qsF qs tx r cur) (psF ps cf r cur) false true [] := by
  obtain ⟨i0, hi, hzz⟩ := Option.map_eq_some_iff.1 infoTxs
  simp only [Prod.mk.injEq] at hzz
  obtain ⟨hz0, hz1, hz2⟩ := hzz
  obtain ⟨N, hN⟩ : ∃ N, ps.length + nB cf = N := ⟨_, rfl⟩
  have hNb : N ≤ 1001 := by rw [← hN]; unfold nB; split <;> omega
  have hmax : Hid (N + 1 ≤ maxLen ∧ (N + 1) * 24 ≤ 140737488355328) := Lib.hid ⟨by unfold maxLen; omega, by omega⟩
  have hcell : Hid (∀ j x, ([.slice none 0 0] : List Value)[j]? = some x → (wr.alloc (.cells #[.slice none 0 0] 25)).cell? ((⟨wr.heap.size, 0, none⟩ : Addr).add j) = some x) := Lib.hid (fun j x hx => by
    rw [addr_add, cells_of (one_a wr _)]
    simpa using hx)
  have hown : Hid ((wr.alloc (.cells #[.slice none 0 0] 25)).ownsRow w.heap.size 25 1 vq N ((ps.map fun p => slcV p.1) ++ cC cf u)) := Lib.hid (by rw [← hN]; exact h.qown.alloc _)
  have hbase : Hid (w.heap.size ≤ (wr.alloc (.cells #[.slice none 0 0] 25)).heap.size) := Lib.hid (by have := h.below.size; simp; omega)
  have hfin : Hid (∀ (v' : Value) (w2 : World), w2.ownsRow w.heap.size 25 1 v' (N + 1) (((ps.map fun p => slcV p.1) ++ cC cf u) ++ [.slice none 0 0]) → (wr.alloc (.cells #[.slice none 0 0] 25)).grownBy w2 vq.ownBlock → (v'.ownBlock = vq.ownBlock ∨ v'.ownBlock = some (wr.alloc (.cells #[.slice none 0 0] 25)).heap.size) →
      (w2.frozen? ⟨L, 2, none⟩ = false ∧ w2.frozen? ⟨L, 4, none⟩ = false) ∧ (∃ x, w2.cell? ⟨L, 2, none⟩ = some x) ∧ (∃ x, w2.cell? ⟨L, 4, none⟩ = some x) ∧ ∃ r, u = slcV r ∧ Rd w ((w2.setCell ⟨L, 2, none⟩ v').setCell ⟨L, 4, none⟩ (mvR k L)) L long st (mvR k L) vp v' (.slice none 0 0) (qsF qs tx r cur) (psF ps cf r cur) false true []) := Lib.hid (fun v' w2 h1 h2 h3 => by
    rw [← hN] at h1
    obtain ⟨k1, k2, k3, k4⟩ := h.begin_ (mvR k L) h1 h2 h3
    exact ⟨⟨k1 2, k1 4⟩, k2, k3, k4⟩)
  have x2 := h.cells.2.2.1
  clear h hN hNb hp
  unfold mvR at hfin ⊢
  go_enter Tryz.func54, Tryz.ntmps54
  go_wp2_with (at_builtin; refine wpList_append_own_at _ rfl _ _ 38 rfl w.heap.size 25 i0 (.slice none 0 0) 1 24 Tryz.underlying38 hi hz0 hz1 hz2 rfl (by decide) vq N _ rfl hown.out ⟨wr.heap.size, 0, none⟩ 1 1 [.slice none 0 0] rfl rfl hcell.out (by simp; rfl) hmax.out.1 hmax.out.2 hbase.out ?_; intro v' w2 hown2 hg2 hnil2 hloc2; clear hnil2; obtain ⟨⟨y1, y2⟩, ⟨z1, y3⟩, ⟨z2, y4⟩, r, hr, hR⟩ := hfin.out v' w2 hown2 hg2 hloc2; have hRh := Lib.hid (And.intro hr hR); obtain ⟨g2, c2, rfl⟩ := ownsRow_succ hown2; clear hown2 hg2 hloc2 hr hR x2)
  go_end0
  exact ⟨rfl, _, r, hRh.out.1, hRh.out.2⟩

set_option maxHeartbeats 2000000 in
theorem put_conf (s : Tx) (h : Rd w wr L long st nx vp vq u qs ps false true cur) (hp : ps.length ≤ 1000) (hc : cur.length ≤ 100000000) :
    Calls Tryz.prog 57 #[.pointer (some ⟨L, 0, none⟩), .string (str s)] wr fun e w' => e = .returned (.tuple #[]) ∧ ∃ u', Rd w w' L long st nx vp vq u' qs ps false true (cur ++ [s]) := by
  obtain ⟨i0, hi, hzz⟩ := Option.map_eq_some_iff.1 infoStr
  simp only [Prod.mk.injEq] at hzz
  obtain ⟨hz0, hz1, hz2⟩ := hzz
  obtain ⟨m, hm⟩ : ∃ m, ps.length = m := ⟨_, rfl⟩
  obtain ⟨N, hN⟩ : ∃ N, m + 1 = N := ⟨_, rfl⟩
  obtain ⟨G, cap, rfl⟩ : ∃ G cap, vq = .slice (some ⟨G, 0, none⟩) N cap := by
    have := h.qown
    rw [show ps.length + nB true = m + 1 by rw [hm]; rfl] at this
    rw [← hN]
    exact ownsRow_succ this
  obtain ⟨K, hK⟩ : ∃ K, cur.length = K := ⟨_, rfl⟩
  have hKh := Lib.hid hK
  have hmax : Hid (K + 1 ≤ maxLen ∧ (K + 1) * 16 ≤ 140737488355328) := Lib.hid ⟨by unfold maxLen; omega, by omega⟩
  have hI := Lib.hid (inConf_any L _ N cap wr h.cells.2.2.1)
  have x2 := h.cells.2.2.1
  have xg : wr.cell? ⟨G, m, none⟩ = some u := by
    have := h.qown
    rw [show ps.length + nB true = N by rw [hm, ← hN]; rfl] at this
    rw [this.cellAt _ (by omega), List.getElem?_append_right (by simp [hm])]
    simp [hm, cC]
  have hd : decide (0 < N) = true := by simp; omega
  rw [hd] at hI
  have e1 : (N : Int) - 1 = (m : Int) := by omega
  have e2 : IntKind.i64.wrap ((N : Int) - 1) = (m : Int) := by rw [e1]; exact IntWalk.i64_in _ (by omega)
  have e3 : IntKind.i64.wrap (m : Int) = (m : Int) := IntWalk.i64_in _ (by omega)
  have i1 : (0 : Int) ≤ (m : Int) := by omega
  have i2 : (m : Int) < (N : Int) := by omega
  have hh := Lib.hid h
  have hNh := Lib.hid (And.intro hm hN)
  clear hd hp hc hK hN hm h
  go_enter Tryz.func57, Tryz.ntmps57
  go_upto_region 1 with (go_at_call 29; refine hI.out.mono ?_; rintro e w1 ⟨rfl, rfl⟩)
  go_quiet (fail)
  obtain ⟨wo, hwo⟩ : ∃ wo, wo = wr.drewN nq := ⟨_, rfl⟩
  have hho := hh.out.up (below_drewN (Below.refl wr.heap.size wr) nq)
  have xg2 : (wr.drewN nq).cell? ⟨G, m, none⟩ = some u := xg
  rw [← hwo] at hho xg2 ⊢
  have hown : Hid ((wo.alloc (.cells #[.string (str s)] 9)).ownsRow w.heap.size 9 1 u K (cur.map fun s => .string (str s))) := Lib.hid (by rw [← hKh.out]; exact hho.uown.alloc _)
  have hcell : Hid (∀ j x, ([.string (str s)] : List Value)[j]? = some x → (wo.alloc (.cells #[.string (str s)] 9)).cell? ((⟨wo.heap.size, 0, none⟩ : Addr).add j) = some x) := Lib.hid (fun j x hx => by
    rw [addr_add, cells_of (one_a wo _)]
    simpa using hx)
  have hbase : Hid (w.heap.size ≤ (wo.alloc (.cells #[.string (str s)] 9)).heap.size) := Lib.hid (by have := hho.below.size; simp; omega)
  have hfin : Hid (∀ (v' : Value) (w2 : World), w2.ownsRow w.heap.size 9 1 v' (K + 1) ((cur.map fun s => .string (str s)) ++ [.string (str s)]) → (wo.alloc (.cells #[.string (str s)] 9)).grownBy w2 u.ownBlock → (v'.ownBlock = u.ownBlock ∨ v'.ownBlock = some (wo.alloc (.cells #[.string (str s)] 9)).heap.size) →
      w2.frozen? ⟨G, m, none⟩ = false ∧ (∃ x, w2.cell? ⟨G, m, none⟩ = some x) ∧ Rd w (w2.setCell ⟨G, m, none⟩ v') L long st nx vp (.slice (some ⟨G, 0, none⟩) N cap) v' qs ps false true (cur ++ [s])) := Lib.hid (fun v' w2 h1 h2 h3 => by
    obtain ⟨rfl, hN⟩ := hNh.out
    rw [← hKh.out] at h1
    exact hho.ext_conf hN h1 h2 h3)
  clear hho hwo xg x2
  go_wp2_with (at_builtin; refine wpList_append_own_at _ rfl _ _ 25 rfl w.heap.size 9 i0 (.string ByteArray.empty) 1 16 Tryz.underlying25 hi hz0 hz1 hz2 rfl (by decide) u K _ rfl hown.out ⟨wo.heap.size, 0, none⟩ 1 1 [.string (str s)] rfl rfl hcell.out (by simp; rfl) hmax.out.1 hmax.out.2 hbase.out ?_; intro v' w2 hown2 hg2 hnil2 hloc2; clear hnil2; obtain ⟨y1, ⟨z1, y2⟩, hR⟩ := hfin.out v' w2 hown2 hg2 hloc2; have hRh := Lib.hid hR; obtain ⟨g2, c2, rfl⟩ := ownsRow_succ hown2; clear hown2 hg2 hloc2 hR xg2)
  refine bodyPost_ret (results_none rfl _ _ _) rfl ?_
  exact ⟨rfl, _, hRh.out⟩
end
end Go.Proofs.YtcpopnhnihbofaaGreatDoor
