/- Proved here: texts joined: EdCut. -/
import Derived.Test.YtdfpifipkchmnaaGreatDoorBa17
import Derived.Test.YtdfpifipkchmnaaGreatDoorBa27
import Derived.Test.YtdfpifipkchmnaaGreatDoorBa36
import Derived.Test.YtdfpifipkchmnaaGreatDoorBa37
/- Proved here: the landed cut, where the line has no line feed at its end, or no number ahead of its name. -/
namespace Go.Proofs.YtdfpifipkchmnaaGreatDoor
open Go.RowKit
set_option linter.unusedVariables false
set_option maxRecDepth 100000

/-- A name, and the numbers ahead of it, told. -/
def CutO (w w' : World) (e : Ending) (name : Tx) (l : List Nat) : Prop := ∃ A n c, e = .returned (.tuple #[.string (str name), .slice A n c]) ∧ Nums w' w'.heap.size A n (l.map fun x : Nat => (x : Int)) ∧ Below w.heap.size w w'

set_option maxHeartbeats 1000000 in
theorem cut_no (E : Nat) (rd : Int) (s : Tx) (w : World) (hs : s.length ≤ 1000000) (hE : w.cell? ⟨E, 1, none⟩ = some (.int .i64 rd)) (hEl : E < w.heap.size) (h : s.getLast? ≠ some 10) :
    Calls Tryz.prog 35 #[.pointer (some ⟨E, 0, none⟩), .string (str s)] w fun e w' => e = .panicked (WR rd 2) ∧ Below w.heap.size w w' := by
  obtain ⟨W0, hW0⟩ : ∃ W0, W0 = w.alloc (.cells #[.pointer (some ⟨E, 0, none⟩)] 57) := ⟨_, rfl⟩
  have hb0 : Below w.heap.size w W0 := by rw [hW0]; exact below_alloc (Below.refl _ _) _
  have hk0 := Lib.hid (And.intro hW0 hb0)
  have hc := Lib.hid (sufT_any s W0 hs)
  rw [if_neg h, decide_eq_false h] at hc
  have hm := Lib.hid (must_bad E 2 rd W0 ((hb0.cell (p := ⟨E, 1, none⟩) hEl).trans hE))
  have q0 : W0.cell? ⟨w.heap.size, 0, none⟩ = some (.pointer (some ⟨E, 0, none⟩)) := by rw [hW0, World.cell?_alloc_mark]; rfl
  clear hW0 hb0
  go_enter Tryz.func35, Tryz.ntmps35
  go_upto_region 1 with fail
  rw [← hk0.out.1]
  go_wp2_with (first
    | (go_at_call 50; refine hc.out.mono ?_; rintro e w' ⟨rfl, rfl⟩)
    | (go_at_call 36; refine hm.out.mono ?_; rintro e w' ⟨rfl, rfl⟩))
  exact ⟨rfl, rfl, hk0.out.2⟩

set_option maxHeartbeats 1000000 in
theorem cut_bare (E : Nat) (rd : Int) (name : Tx) (w : World) (hs : name.length ≤ 900000) (hE : w.cell? ⟨E, 1, none⟩ = some (.int .i64 rd)) (hEl : E < w.heap.size) (h : ∀ c, name.head? = some c → comB c = false) :
    Calls Tryz.prog 35 #[.pointer (some ⟨E, 0, none⟩), .string (str (name ++ [10]))] w fun e w' => CutO w w' e name [] := by
  obtain ⟨W0, hW0⟩ : ∃ W0, W0 = w.alloc (.cells #[.pointer (some ⟨E, 0, none⟩)] 57) := ⟨_, rfl⟩
  have hb0 : Below w.heap.size w W0 := by rw [hW0]; exact below_alloc (Below.refl _ _) _
  have hk0 := Lib.hid (And.intro hW0 hb0)
  have hlast : (name ++ [10] : Tx).getLast? = some 10 := by simp
  have hc := Lib.hid (sufT_any (name ++ [10]) W0 (by simp; omega))
  rw [if_pos hlast, decide_eq_true hlast, List.dropLast_concat] at hc
  have hm := Lib.hid (must_ok E 2 W0)
  have ht := Lib.hid (trimT_any name W0)
  have hdr := (take_com (pre := []) (by simp) h).2
  rw [List.nil_append] at hdr
  rw [hdr] at ht
  have q0 : W0.cell? ⟨w.heap.size, 0, none⟩ = some (.pointer (some ⟨E, 0, none⟩)) := by rw [hW0, World.cell?_alloc_mark]; rfl
  have hsl : ∀ W, (Instr.slice 9 (.string (str name)) none (some (.int .i64 0)) none).run Tryz.prog W = .ok (.string ⟨#[]⟩) W := fun W => slice_str_to name 0 (Nat.zero_le _) W
  obtain ⟨L, hL⟩ : ∃ L, str (name ++ [10]) = L := ⟨_, rfl⟩
  obtain ⟨S, hS⟩ : ∃ S, str name = S := ⟨_, rfl⟩
  rw [hL, hS] at hc
  rw [hS] at ht hsl
  have hSh := Lib.hid hS
  rw [hL]
  have hz : S.size ≤ 1000000 := by rw [← hS, str_size]; omega
  clear hW0 hb0 hL hS hlast hdr h
  go_enter Tryz.func35, Tryz.ntmps35
  go_upto_region 1 with fail
  rw [← hk0.out.1]
  have hzz : IntKind.i64.wrap ((S.size : Int) - (S.size : Int)) = 0 := by rw [IntKind.wrap_i64]; omega
  go_wp2_with (first
    | (go_at_call 50; refine hc.out.mono ?_; rintro e w' ⟨rfl, rfl⟩)
    | (go_at_call 36; refine hm.out.mono ?_; rintro e w' ⟨rfl, rfl⟩)
    | (go_at_call 51; refine ht.out.mono ?_; rintro e w1 ⟨rfl, hb1⟩; have hB1 := Lib.hid (hk0.out.2.trans (hb1.mono hk0.out.2.size)); clear hb1))
  go_ret2
  refine ⟨none, 0, 0, by simp [hSh.out], ⟨rfl, fun h => absurd h (by omega)⟩, hB1.out⟩
end Go.Proofs.YtdfpifipkchmnaaGreatDoor
