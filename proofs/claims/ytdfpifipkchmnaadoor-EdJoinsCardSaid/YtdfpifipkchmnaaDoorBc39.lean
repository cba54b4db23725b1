/- Proved here: texts joined: EdNm, EdCut. -/
import Derived.Test.YtdfpifipkchmnaaDoorBc17
import Derived.Test.YtdfpifipkchmnaaDoorBc21
import Derived.Test.YtdfpifipkchmnaaDoorBc22
import Derived.Test.YtdfpifipkchmnaaDoorBc24
import Derived.Test.YtdfpifipkchmnaaDoorBc33
import Derived.Test.YtdfpifipkchmnaaDoorBc37
import Derived.Test.YtdfpifipkchmnaaDoorShelf
import Derived.Shelf.Strings.SlTrimAscii
import Derived.Lib.AtoiErrMem
import Derived.Deep.DeepCutAuto
/- Proved here: the landed mayBeNumber; what the landed cut asks of the library: CutSuffix, TrimLeft, Atoi. -/
namespace Go.Proofs.YtdfpifipkchmnaaDoor
open Go.RowKit
set_option linter.unusedVariables false
set_option maxRecDepth 100000

theorem sufT_any (s : Tx) (w : World) (hs : s.length ≤ 1000000) : Calls Tryd.prog 31 #[.string (str s), .string ⟨#[10]⟩] w fun e w' =>
    e = .returned (.tuple #[.string (str (if s.getLast? = some 10 then s.dropLast else s)), .bool (decide (s.getLast? = some 10))]) ∧ w' = w := by
  refine (Tryd.strings_CutSuffix (str s) ⟨#[10]⟩ w (by rw [str_size]; omega)).mono ?_
  rintro e w' ⟨rfl, rfl⟩
  have hb : Lib.hasSuffix (str s).data.toList [10] = decide (s.getLast? = some 10) := by
    rw [str_data, Lib.hasSuffix, Bool.eq_iff_iff, decide_eq_true_eq, List.isSuffixOf_iff_suffix]
    constructor
    · rintro ⟨t, rfl⟩
      simp
    · intro h
      obtain ⟨t, rfl⟩ := List.getLast?_eq_some_iff.1 h
      exact ⟨t, rfl⟩
  refine ⟨?_, rfl⟩
  show Ending.returned (.tuple #[.string ⟨(Lib.trimSuffix (str s).data.toList [10]).toArray⟩, .bool (Lib.hasSuffix (str s).data.toList [10])]) = _
  unfold Lib.trimSuffix
  rw [hb, str_data]
  congr 4
  simp only [decide_eq_true_eq]
  unfold str
  congr 2
  split
  · rw [List.dropLast_eq_take]
    rfl
  · rfl
theorem trimT_any (t : Tx) (w : World) : Calls Tryd.prog 32 #[.string (str t), .string ⟨#[48, 49, 50, 51, 52, 53, 54, 55, 56, 57, 44]⟩] w fun e w' =>
    e = .returned (.string (str (t.dropWhile comB))) ∧ Below w.heap.size w w' := by
  refine (Any.strings_TrimLeft_laid Tryd.lays161 (by kernel_rfl) (str t) ⟨#[48, 49, 50, 51, 52, 53, 54, 55, 56, 57, 44]⟩ w (by decide) (ascii_of_all (by decide))).mono ?_
  rintro e w' ⟨rfl, hb⟩
  refine ⟨?_, hb⟩
  have hc : (fun c : UInt8 => ([48, 49, 50, 51, 52, 53, 54, 55, 56, 57, 44] : List UInt8).contains c) = comB := by
    funext c
    have : ∀ n : Fin 256, ([48, 49, 50, 51, 52, 53, 54, 55, 56, 57, 44] : List UInt8).contains (UInt8.ofNat n.val) = comB (UInt8.ofNat n.val) := by decide
    have h := this ⟨c.toNat, c.toNat_lt⟩
    rwa [show UInt8.ofNat c.toNat = c from by simp] at h
  show Ending.returned (.string ⟨(Lib.trimLeftS (str t).data.toList [48, 49, 50, 51, 52, 53, 54, 55, 56, 57, 44]).toArray⟩) = _
  unfold Lib.trimLeftS
  rw [hc, str_data]
  rfl
theorem atoiT_any (t : Tx) (w : World) (h : t.all figB = true) (hm : mayN t = true) : Calls Tryd.prog 35 #[.string (str t)] w fun e w' =>
    e = .returned (.tuple #[.int .i64 ((numV t : Nat) : Int), .nilIface]) ∧ Below w.heap.size w w' := by
  obtain ⟨h1, h2, h3⟩ := mayN_small h hm
  refine (Tryd.strconv_Atoi (str t) ((numV t : Nat) : Int) (by rw [str_size]; omega) (by rw [str_data]; exact atoi_num h h2) w).mono ?_
  rintro e w' ⟨rfl, s, rfl⟩
  exact ⟨rfl, Lib.bytesWorld_below _ _ _⟩

set_option maxHeartbeats 1000000 in
theorem mayNum_any (s : Tx) (w : World) (hs : s.length ≤ 1000000) : Calls Tryd.prog 34 #[.string (str s)] w fun e w' => e = .returned (.bool (mayN s)) ∧ w' = w := by
  obtain ⟨r, hr⟩ : ∃ r, mayN s = r := ⟨_, rfl⟩
  rw [hr]
  have hrh := Lib.hid hr
  clear hr
  by_cases h1 : s = [48]
  · subst h1
    have e1 : ((str [48]).toList == [48]) = true := by rw [Lib.toList_data, str_data]; rfl
    obtain ⟨S, hS⟩ : ∃ S, str [48] = S := ⟨_, rfl⟩
    rw [hS] at e1 ⊢
    clear hS
    go_enter Tryd.func34, Tryd.ntmps34
    go_wp2
    go_ret
    exact ⟨ret_bool hrh.out, rfl⟩
  · have e1 : ((str s).toList == [48]) = false := by rw [Lib.toList_data, str_data, beq_eq_false_iff_ne]; exact h1
    cases s with
    | nil =>
      have e2 : ((str []).toList != []) = false := by rw [Lib.toList_data, str_data]; rfl
      have e3 : (str []).toList.isEmpty = true := by rw [Lib.toList_data, str_data]; rfl
      obtain ⟨S, hS⟩ : ∃ S, str [] = S := ⟨_, rfl⟩
      rw [hS] at e1 e2 e3 ⊢
      clear hS
      go_enter Tryd.func34, Tryd.ntmps34
      go_wp2
      go_ret
      exact ⟨ret_bool hrh.out, rfl⟩
    | cons c t =>
      have e2 : ((str (c :: t)).toList != []) = true := by rw [Lib.toList_data, str_data]; rfl
      have e3 : (str (c :: t)).toList.isEmpty = false := by rw [Lib.toList_data, str_data]; rfl
      have hz : (str (c :: t)).size = t.length + 1 := by rw [str_size]; rfl
      have hpos : 0 < (str (c :: t)).size := by omega
      have hget : (str (c :: t))[0] = c := rfl
      by_cases h2 : t.length + 1 ≤ 9
      · have e4 : (((str (c :: t)).size : Int) ≤ 9) := by rw [hz]; omega
        have e4d : decide (((str (c :: t)).size : Int) ≤ 9) = true := by simpa using e4
        have hres : Hid (r = (c != 48)) := Lib.hid (by
          rw [← hrh.out]
          unfold mayN
          rw [decide_eq_false h1, Bool.false_or, decide_eq_true (show (c :: t) ≠ [] by simp), decide_eq_true (show (c :: t).length ≤ 9 from h2), List.head?_cons]
          rw [Bool.eq_iff_iff]
          simp)
        have hnn : (((str (c :: t))[0].toNat : Int) != 48) = (c != 48) := by
          rw [hget]
          have := byte_is (c := c) (n := 48) (by omega)
          rw [bne, bne]
          rw [show ((48 : Nat) : Int) = 48 from rfl] at this
          rw [this]
          rfl
        clear hz hget h1 hrh hs
        generalize str (c :: t) = S at e1 e2 e3 hpos hnn e4 e4d ⊢
        go_enter Tryd.func34, Tryd.ntmps34
        go_wp2
        go_ret
        exact ⟨ret_bool (by rw [hres.out]), rfl⟩
      · have e4 : ¬ (((str (c :: t)).size : Int) ≤ 9) := by rw [hz]; omega
        have e4d : decide (((str (c :: t)).size : Int) ≤ 9) = false := by simpa using e4
        have hres : Hid (r = false) := Lib.hid (by
          rw [← hrh.out]
          unfold mayN
          rw [decide_eq_false h1, decide_eq_false (show ¬ (c :: t).length ≤ 9 from h2), Bool.false_or, Bool.and_false, Bool.false_and])
        clear hz hget h1 hrh hs
        generalize str (c :: t) = S at e1 e2 e3 hpos e4 e4d ⊢
        go_enter Tryd.func34, Tryd.ntmps34
        go_wp2
        go_ret
        exact ⟨ret_bool hres.out.symm, rfl⟩
end Go.Proofs.YtdfpifipkchmnaaDoor
/- Proved here: the landed cut, where the line has no line feed at its end, or no number ahead of its name. -/
namespace Go.Proofs.YtdfpifipkchmnaaDoor
open Go.RowKit
set_option linter.unusedVariables false
set_option maxRecDepth 100000

/-- A name, and the numbers ahead of it, told. -/
def CutO (w w' : World) (e : Ending) (name : Tx) (l : List Nat) : Prop := ∃ A n c, e = .returned (.tuple #[.string (str name), .slice A n c]) ∧ Nums w' w'.heap.size A n (l.map fun x : Nat => (x : Int)) ∧ Below w.heap.size w w'

set_option maxHeartbeats 1000000 in
theorem cut_no (E : Nat) (rd : Int) (s : Tx) (w : World) (hs : s.length ≤ 1000000) (hE : w.cell? ⟨E, 1, none⟩ = some (.int .i64 rd)) (hEl : E < w.heap.size) (h : s.getLast? ≠ some 10) :
    Calls Tryd.prog 21 #[.pointer (some ⟨E, 0, none⟩), .string (str s)] w fun e w' => e = .panicked (WR rd 2) ∧ Below w.heap.size w w' := by
  obtain ⟨W0, hW0⟩ : ∃ W0, W0 = w.alloc (.cells #[.pointer (some ⟨E, 0, none⟩)] 39) := ⟨_, rfl⟩
  have hb0 : Below w.heap.size w W0 := by rw [hW0]; exact below_alloc (Below.refl _ _) _
  have hk0 := Lib.hid (And.intro hW0 hb0)
  have hc := Lib.hid (sufT_any s W0 hs)
  rw [if_neg h, decide_eq_false h] at hc
  have hm := Lib.hid (must_bad E 2 rd W0 ((hb0.cell (p := ⟨E, 1, none⟩) hEl).trans hE))
  have q0 : W0.cell? ⟨w.heap.size, 0, none⟩ = some (.pointer (some ⟨E, 0, none⟩)) := by rw [hW0, World.cell?_alloc_mark]; rfl
  clear hW0 hb0
  go_enter Tryd.func21, Tryd.ntmps21
  go_upto_region 1 with fail
  rw [← hk0.out.1]
  go_wp2_with (first
    | (go_at_call 31; refine hc.out.mono ?_; rintro e w' ⟨rfl, rfl⟩)
    | (go_at_call 22; refine hm.out.mono ?_; rintro e w' ⟨rfl, rfl⟩))
  exact ⟨rfl, rfl, hk0.out.2⟩

set_option maxHeartbeats 1000000 in
theorem cut_bare (E : Nat) (rd : Int) (name : Tx) (w : World) (hs : name.length ≤ 900000) (hE : w.cell? ⟨E, 1, none⟩ = some (.int .i64 rd)) (hEl : E < w.heap.size) (h : ∀ c, name.head? = some c → comB c = false) :
    Calls Tryd.prog 21 #[.pointer (some ⟨E, 0, none⟩), .string (str (name ++ [10]))] w fun e w' => CutO w w' e name [] := by
  obtain ⟨W0, hW0⟩ : ∃ W0, W0 = w.alloc (.cells #[.pointer (some ⟨E, 0, none⟩)] 39) := ⟨_, rfl⟩
  have hb0 : Below w.heap.size w W0 := by rw [hW0]; exact below_alloc (Below.refl _ _) _
  have hk0 := Lib.hid (And.intro hW0 hb0)
  have hlast : (name ++ [10] : Tx).getLast? = some 10 := by simp
  have hc := Lib.hid (sufT_any (name ++ [10]) W0 (by simp; omega))
  rw [if_pos hlast, decide_eq_true hlast, List.dropLast_concat] at hc
  have hm := Lib.hid (must_ok E 2 W0)
  have ht := Lib.hid (trimT_any name W0)
  have hdr := (take_com (pre := []) (by simp) h).2
  rw [List.nil_append] at hdr
  rw [hdr] at ht
  have q0 : W0.cell? ⟨w.heap.size, 0, none⟩ = some (.pointer (some ⟨E, 0, none⟩)) := by rw [hW0, World.cell?_alloc_mark]; rfl
  have hsl : ∀ W, (Instr.slice 9 (.string (str name)) none (some (.int .i64 0)) none).run Tryd.prog W = .ok (.string ⟨#[]⟩) W := fun W => slice_str_to name 0 (Nat.zero_le _) W
  obtain ⟨L, hL⟩ : ∃ L, str (name ++ [10]) = L := ⟨_, rfl⟩
  obtain ⟨S, hS⟩ : ∃ S, str name = S := ⟨_, rfl⟩
  rw [hL, hS] at hc
  rw [hS] at ht hsl
  have hSh := Lib.hid hS
  rw [hL]
  have hz : S.size ≤ 1000000 := by rw [← hS, str_size]; omega
  clear hW0 hb0 hL hS hlast hdr h
  go_enter Tryd.func21, Tryd.ntmps21
  go_upto_region 1 with fail
  rw [← hk0.out.1]
  have hzz : IntKind.i64.wrap ((S.size : Int) - (S.size : Int)) = 0 := by rw [IntKind.wrap_i64]; omega
  go_wp2_with (first
    | (go_at_call 31; refine hc.out.mono ?_; rintro e w' ⟨rfl, rfl⟩)
    | (go_at_call 22; refine hm.out.mono ?_; rintro e w' ⟨rfl, rfl⟩)
    | (go_at_call 32; refine ht.out.mono ?_; rintro e w1 ⟨rfl, hb1⟩; have hB1 := Lib.hid (hk0.out.2.trans (hb1.mono hk0.out.2.size)); clear hb1))
  go_ret2
  refine ⟨none, 0, 0, by simp [hSh.out], ⟨rfl, fun h => absurd h (by omega)⟩, hB1.out⟩
end Go.Proofs.YtdfpifipkchmnaaDoor
