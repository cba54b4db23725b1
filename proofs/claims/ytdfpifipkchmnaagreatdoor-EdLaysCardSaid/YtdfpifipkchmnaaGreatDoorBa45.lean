/- Proved here: texts joined: Figs, EdLawC, ConDtB. -/
import Derived.Test.YtdfpifipkchmnaaGreatDoorBa13
import Derived.Test.YtdfpifipkchmnaaGreatDoorBa14
import Derived.Test.YtdfpifipkchmnaaGreatDoorBa15
import Derived.Test.YtdfpifipkchmnaaGreatDoorBa16
import Derived.Test.YtdfpifipkchmnaaGreatDoorBa17
import Derived.Test.YtdfpifipkchmnaaGreatDoorBa18
import Derived.Test.YtdfpifipkchmnaaGreatDoorBa19
/- Proved here: the contract of the document's own answer of layer 16: Figures. -/
namespace Go.Proofs.YtdfpifipkchmnaaGreatDoor
open Go.RowKit
set_option linter.unusedVariables false
set_option maxRecDepth 100000

theorem fig_len (n : Nat) : (figD n).length ≤ n + 1 := by
  induction n using Nat.strongRecOn with
  | _ n ih =>
    unfold figD
    by_cases h : n < 10
    · rw [if_pos h]; simp
    · have := ih (n / 10) (by omega)
      rw [if_neg h, List.length_append, List.length_singleton]
      omega
theorem fig_size (n : Nat) (h : n ≤ 1000000) : (str (figD n)).size ≤ 1000001 := by rw [str_size]; have := fig_len n; omega
theorem num_byte (r : Nat) (h : r < 10) : strOfNums [48 + (r : Int)] = str [UInt8.ofNat (48 + r)] := by
  rcases (by omega : r = 0 ∨ r = 1 ∨ r = 2 ∨ r = 3 ∨ r = 4 ∨ r = 5 ∨ r = 6 ∨ r = 7 ∨ r = 8 ∨ r = 9) with rfl | rfl | rfl | rfl | rfl | rfl | rfl | rfl | rfl | rfl <;> rfl
theorem fig_add (n : Nat) (h : ¬ n < 10) : str (figD (n / 10)) ++ str [UInt8.ofNat (48 + n % 10)] = str (figD n) := by
  rw [strs_app]
  conv => rhs; unfold figD
  rw [if_neg h]
theorem fig_one (n : Nat) (h : n < 10) : figD n = [UInt8.ofNat (48 + n % 10)] := by
  unfold figD
  rw [if_pos h, Nat.mod_eq_of_lt h]

set_option maxHeartbeats 4000000 in
theorem rFigures_any : ∀ (n : Nat) (w : World), n ≤ 1000000 → Calls Tryz.prog 15 #[.int .i64 (n : Int)] w fun e w' => e = .returned (.string (str (figD n))) ∧ Below w.heap.size w w' := by
  intro n
  induction n using Nat.strongRecOn with
  | _ n ih =>
  intro w hn
  have hb : ∀ o : Obj, Below w.heap.size w (w.alloc o) := fun o => below_alloc (Below.refl _ _) o
  have hcv : ∀ z : Int, (convert 56 9 (.slice (some ⟨w.heap.size, 0, none⟩) 1 1)).run Tryz.prog (w.alloc (.cells #[.int .u8 z] 5)) = .ok (.string (strOfNums [z])) (w.alloc (.cells #[.int .u8 z] 5)) := fun z =>
    run_convert_bytes_arg (P := Tryz.prog) (w.alloc (.cells #[.int .u8 z] 5)) 56 5 Tryz.underlying56 Tryz.underlying5 w.heap.size 0 1 1 [z] rfl (fun i hi => by
      obtain rfl : i = 0 := by omega
      rw [Nat.zero_add, cells_of (one_a w _)]
      rfl) 9 Tryz.underlying9
  by_cases h : n < 10
  · have e := fig_one n h
    rcases (by omega : n = 0 ∨ n = 1 ∨ n = 2 ∨ n = 3 ∨ n = 4 ∨ n = 5 ∨ n = 6 ∨ n = 7 ∨ n = 8 ∨ n = 9) with rfl | rfl | rfl | rfl | rfl | rfl | rfl | rfl | rfl | rfl
    all_goals
      rw [e]
      clear ih
      go_enter Tryz.func15, Tryz.ntmps15
      go_wp2
      go_ret
      exact ⟨rfl, hb _⟩
  · have hI : Hid (∀ W : World, Calls Tryz.prog 15 #[.int .i64 ((n / 10 : Nat) : Int)] W fun e w' => e = .returned (.string (str (figD (n / 10)))) ∧ Below W.heap.size W w') := Lib.hid (fun W => ih (n / 10) (by omega) W (by omega))
    obtain ⟨S, hS⟩ : ∃ S, str (figD (n / 10)) = S := ⟨_, rfl⟩
    obtain ⟨r, hr⟩ : ∃ r, n % 10 = r := ⟨_, rfl⟩
    have hf := Lib.hid (fig_add n h)
    have hSz : S.size ≤ 1000001 := by rw [← hS]; exact fig_size _ (by omega)
    rw [hS] at hI hf
    rw [hr] at hf
    have e1 : (n : Int).tmod 10 = (r : Int) := by rw [← hr]; rfl
    have e2 : (n : Int).tdiv 10 = ((n / 10 : Nat) : Int) := rfl
    have hr10 : r < 10 := by omega
    have hnb := Lib.hid (num_byte r hr10)
    have hov : ¬ 9223372036854775807 < S.size + (strOfNums [48 + (r : Int)]).size := by rw [hnb.out, str_size, List.length_singleton]; omega
    clear ih hr hS
    go_enter Tryz.func15, Tryz.ntmps15
    go_wp2_with (first
      | (go_at_call 15; refine (hI.out _).mono ?_; rintro e w1 ⟨rfl, q1⟩; have hB1 := Lib.hid q1; clear q1))
    go_ret
    have e : S ++ strOfNums [48 + (r : Int)] = str (figD n) := by rw [hnb.out, hf.out]
    exact ⟨congrArg (fun x => Ending.returned (Value.string x)) e, (hb _).trans (hB1.out.mono (hb _).size)⟩
end Go.Proofs.YtdfpifipkchmnaaGreatDoor
/- Proved here: what the statement EdStrips says, by the contract of ed.Run. -/
namespace Go.Proofs.YtdfpifipkchmnaaGreatDoor
open Go.RowKit
set_option linter.unusedVariables false
set_option maxRecDepth 100000

/-- Lines that may be, none open: what the statements ask of a file. -/
theorem may_call (A : Option Addr) (n c : Nat) (l : Txs) (w : World) (hl : ∀ s ∈ l, s.length ≤ maxLen) (h0 : TxR w w.heap.size (A, n, c) l) (mb : Bool) (hmb : mayB l = mb) (W : World) (hW : Below w.heap.size w W) : Calls Tryz.prog 12 #[.slice A n c] W fun e w' => e = .returned (.bool mb) ∧ W = w' := by
  rw [← hmb]
  exact rMayB_any A n c W.heap.size l W (Nat.le_trans h0.1 h0.2.1) hl (h0.up hW).2.2
theorem open_call (A : Option Addr) (n c : Nat) (l : Txs) (w : World) (hl : ∀ s ∈ l, s.length ≤ maxLen) (h0 : TxR w w.heap.size (A, n, c) l) (mb : Bool) (hmb : openB l = mb) (W : World) (hW : Below w.heap.size w W) : Calls Tryz.prog 13 #[.slice A n c] W fun e w' => e = .returned (.bool mb) ∧ W = w' := by
  rw [← hmb]
  exact rOpen_any A n c W.heap.size l W (Nat.le_trans h0.1 h0.2.1) hl (h0.up hW).2.2
theorem few_lens {l : Txs} (h : fewB l 20 = true) : ∀ s ∈ l, s.length ≤ maxLen := fun s hs => by
  have := (fewK h (by decide)).2 s hs
  unfold maxLen
  omega
/-- One command on the file, where the list is made for it. -/
theorem one_run (H : EdRunOk) (A : Option Addr) (n c : Nat) (file : Txs) (T : Tx) (w : World) (hT : T.length ≤ 10000) (hf : smallE file) (h0 : TxR w w.heap.size (A, n, c) file) (W : World) (hW : Below w.heap.size w W) :
    Calls Tryz.prog 9 #[.slice (some ⟨W.heap.size, 0, none⟩) 1 1, .slice A n c] (W.alloc (.cells #[.string (str T)] 9)) fun e w' => EdOut (W.alloc (.cells #[.string (str T)] 9)) w' e (edR [T] file) :=
  H (some ⟨W.heap.size, 0, none⟩) 1 1 [T] A n c file _ ⟨by simp, fun s hs => by rw [List.mem_singleton.1 hs]; exact hT⟩ hf (txr_of (one_a W _) rfl rfl (by decide)) (h0.up (below_alloc hW _))

section
variable (H : EdRunOk)
include H

set_option maxHeartbeats 16000000 in
theorem EdStrips_walk (A : Option Addr) (n c : Nat) (file : Txs) (w : World) (h0 : TxR w w.heap.size (A, n, c) file) :
    Calls Tryz.prog 6 #[.slice A n c] w fun e w' => e = .returned (.bool true) ∧ Below w.heap.size w w' := by
  have haw := Lib.hid (edAwake_any H w)
  have hln : file.length = n := h0.2.2.len
  obtain ⟨fm, hfm⟩ : ∃ fm, fewB file 20 = fm := ⟨_, rfl⟩
  have hF := Lib.hid (few_call A n c 20 file w (by decide) h0 fm hfm)
  cases fm
  · clear h0 hfm H hln
    go_enter Tryz.func6, Tryz.ntmps6
    go_wp2_with (first
      | (go_at_call 7; refine haw.out.mono ?_; rintro e w1 ⟨rfl, hb1⟩; have hB1 := Lib.hid hb1; clear hb1)
      | (go_at_call 8; refine (hF.out _ hB1.out).mono ?_; rintro e w2 ⟨rfl, hww⟩; have hws := hww.symm; clear hww; subst hws))
    go_ret
    exact ⟨rfl, hB1.out⟩
  have hls := few_lens hfm
  have hk := fewK hfm (by decide)
  have hfE := few_E hfm (by decide)
  have hfD := few_D hfm (by decide)
  obtain ⟨mb, hmb⟩ : ∃ mb, mayB file = mb := ⟨_, rfl⟩
  obtain ⟨ob, hob⟩ : ∃ ob, openB file = ob := ⟨_, rfl⟩
  have hM := Lib.hid (may_call A n c file w hls h0 mb hmb)
  have hO := Lib.hid (open_call A n c file w hls h0 ob hob)
  by_cases hg : mb = true ∧ ob = false ∧ 1 ≤ n
  rotate_left
  · have hways : mb = false ∨ (mb = true ∧ ob = true) ∨ (mb = true ∧ ob = false ∧ n = 0) := by
      cases mb
      · exact .inl rfl
      · cases ob
        · exact .inr (.inr ⟨rfl, rfl, by simp at hg; omega⟩)
        · exact .inr (.inl ⟨rfl, rfl⟩)
    clear h0 hfm H hg hls hk hfE hfD hmb hob hln
    rcases hways with rfl | ⟨rfl, rfl⟩ | ⟨rfl, rfl, rfl⟩
    all_goals
      go_enter Tryz.func6, Tryz.ntmps6
      go_wp2_with (first
        | (go_at_call 7; refine haw.out.mono ?_; rintro e w1 ⟨rfl, hb1⟩; have hB1 := Lib.hid hb1; clear hb1)
        | (go_at_call 8; refine (hF.out _ hB1.out).mono ?_; rintro e w2 ⟨rfl, hww⟩; have hws := hww.symm; clear hww; subst hws)
        | (go_at_call 12; refine (hM.out _ hB1.out).mono ?_; rintro e w2 ⟨rfl, hww⟩; have hws := hww.symm; clear hww; subst hws)
        | (go_at_call 13; refine (hO.out _ hB1.out).mono ?_; rintro e w2 ⟨rfl, hww⟩; have hws := hww.symm; clear hww; subst hws))
      go_ret
      exact ⟨rfl, hB1.out⟩
  obtain ⟨rfl, rfl, hn1⟩ := hg
  have hlines := lines_iff.1 ⟨hmb, hob⟩
  have hrun := strips_run hlines (by omega) (by omega)
  have hn0 : ((n : Int) == 0) = false := by rw [beq_eq_false_iff_ne]; omega
  rw [hln] at hrun
  have hT : ([49] ++ [44] ++ figD n ++ subT : Tx).length ≤ 10000 := by
    have := fig_len n
    simp only [List.length_append, subT, List.length_cons, List.length_nil]
    omega
  have hCr := Lib.hid (fun W hW => hrun ▸ one_run H A n c file ([49] ++ [44] ++ figD n ++ subT) w hT hfE h0 W hW)
  have hTs : Hid ((⟨#[49, 44]⟩ : ByteArray) ++ str (figD n) ++ ⟨#[115, 47, 94, 92, 46, 47, 47, 10]⟩ = str ([49] ++ [44] ++ figD n ++ subT)) := Lib.hid (by
    rw [show (⟨#[49, 44]⟩ : ByteArray) = str [49, 44] from rfl, show (⟨#[115, 47, 94, 92, 46, 47, 47, 10]⟩ : ByteArray) = str subT from rfl, strs_app, strs_app]
    rfl)
  have hFg : Hid (∀ W, Below w.heap.size w W → Calls Tryz.prog 15 #[.int .i64 (n : Int)] W fun e w' => e = .returned (.string (str (figD n))) ∧ Below w.heap.size w w') := Lib.hid (fun W hW => (rFigures_any n W (by omega)).mono fun e w' h => ⟨h.1, hW.trans (h.2.mono hW.size)⟩)
  have hFs := fig_size n (by omega)
  have hDt := Lib.hid (fun (W : World) (hW : Below w.heap.size w W) => rDotted_any A n c W.heap.size file W (by omega) (fun s hs => by have := hk.2 s hs; omega) (h0.up hW).2.2)
  have hSt := Lib.hid (fun (W : World) (hW : Below w.heap.size w W) => rStrip_any A n c file W hfD (h0.up hW))
  obtain ⟨FS, hFS⟩ : ∃ FS, str (figD n) = FS := ⟨_, rfl⟩
  obtain ⟨T, hTT⟩ : ∃ T, str ([49] ++ [44] ++ figD n ++ subT) = T := ⟨_, rfl⟩
  rw [hTT] at hCr hTs
  rw [hFS] at hFg hTs hFs
  have s1 : ¬ 9223372036854775807 < 2 + FS.size := by omega
  have s2 : ¬ 9223372036854775807 < 2 + FS.size + 8 := by omega
  obtain ⟨db, hdb⟩ : ∃ db, dottedB file = db := ⟨_, rfl⟩
  rw [hdb] at hDt hCr
  clear h0 hfm H hls hk hfE hfD hmb hob hln hlines hrun hT hFS hTT hdb hn1 hFs
  cases db
  · have hCr2 : Hid (∀ W, Below w.heap.size w W → Calls Tryz.prog 9 #[.slice (some ⟨W.heap.size, 0, none⟩) 1 1, .slice A n c] (W.alloc (.cells #[.string T] 9)) fun e w' => EdOut (W.alloc (.cells #[.string T] 9)) w' e ([], false, 1, 7)) := Lib.hid (fun W hW => hCr.out W hW)
    clear hCr
    go_enter Tryz.func6, Tryz.ntmps6
    go_wp2_with (first
      | (go_at_call 7; refine haw.out.mono ?_; rintro e w1 ⟨rfl, hb1⟩; have hB1 := Lib.hid hb1; clear hb1)
      | (go_at_call 8; refine (hF.out _ hB1.out).mono ?_; rintro e w2 ⟨rfl, hww⟩; have hws := hww.symm; clear hww; subst hws)
      | (go_at_call 12; refine (hM.out _ hB1.out).mono ?_; rintro e w2 ⟨rfl, hww⟩; have hws := hww.symm; clear hww; subst hws)
      | (go_at_call 13; refine (hO.out _ hB1.out).mono ?_; rintro e w2 ⟨rfl, hww⟩; have hws := hww.symm; clear hww; subst hws)
      | (go_at_call 15; refine (hFg.out _ hB1.out).mono ?_; rintro e w2 ⟨rfl, hb2⟩; have hB2 := Lib.hid hb2; clear hb2)
      | (go_at_call 9; rw [hTs.out]; refine (hCr2.out _ hB2.out).mono ?_; rintro e w3 ⟨A3, n3, c3, rfl, p3, q3⟩; have hB3 := Lib.hid ((below_alloc hB2.out _).trans (q3.mono (below_alloc hB2.out _).size)); clear p3 q3)
      | (go_at_call 17; refine (hDt.out _ hB3.out).mono ?_; rintro e w4 ⟨rfl, hww⟩; subst hww))
    go_ret
    exact ⟨rfl, hB3.out⟩
  · have hCr2 : Hid (∀ W, Below w.heap.size w W → Calls Tryz.prog 9 #[.slice (some ⟨W.heap.size, 0, none⟩) 1 1, .slice A n c] (W.alloc (.cells #[.string T] 9)) fun e w' => EdOut (W.alloc (.cells #[.string T] 9)) w' e (stripD file, false, 0, 0)) := Lib.hid (fun W hW => hCr.out W hW)
    clear hCr
    go_enter Tryz.func6, Tryz.ntmps6
    go_wp2_with (first
      | (go_at_call 7; refine haw.out.mono ?_; rintro e w1 ⟨rfl, hb1⟩; have hB1 := Lib.hid hb1; clear hb1)
      | (go_at_call 8; refine (hF.out _ hB1.out).mono ?_; rintro e w2 ⟨rfl, hww⟩; have hws := hww.symm; clear hww; subst hws)
      | (go_at_call 12; refine (hM.out _ hB1.out).mono ?_; rintro e w2 ⟨rfl, hww⟩; have hws := hww.symm; clear hww; subst hws)
      | (go_at_call 13; refine (hO.out _ hB1.out).mono ?_; rintro e w2 ⟨rfl, hww⟩; have hws := hww.symm; clear hww; subst hws)
      | (go_at_call 15; refine (hFg.out _ hB1.out).mono ?_; rintro e w2 ⟨rfl, hb2⟩; have hB2 := Lib.hid hb2; clear hb2)
      | (go_at_call 9; rw [hTs.out]; refine (hCr2.out _ hB2.out).mono ?_; rintro e w3 ⟨A3, n3, c3, rfl, p3, q3⟩; have hP3 := Lib.hid p3; have hB3 := Lib.hid ((below_alloc hB2.out _).trans (q3.mono (below_alloc hB2.out _).size)); clear p3 q3)
      | (go_at_call 17; refine (hDt.out _ hB3.out).mono ?_; rintro e w4 ⟨rfl, hww⟩; subst hww)
      | (go_at_call 18; refine (hSt.out _ hB3.out).mono ?_; rintro e w5 ⟨A5, n5, c5, rfl, p5, q5⟩; have hP5 := Lib.hid p5; have hP3b := Lib.hid (hP3.out.up q5); have hB5 := Lib.hid (hB3.out.trans (q5.mono hB3.out.size)); clear p5 q5)
      | (go_at_call 11; refine (Same_any A3 A5 n3 n5 c3 c5 w5.heap.size w5.heap.size (stripD file) (stripD file) w5 (Nat.le_trans hP3b.out.1 hP3b.out.2.1) (Nat.le_trans hP5.out.1 hP5.out.2.1) hP3b.out.2.2 hP5.out.2.2).mono ?_; rintro e w6 ⟨rfl, q, rfl⟩; rw [decide_eq_true (rfl : stripD file = stripD file)]))
    go_ret
    exact ⟨rfl, below_drewN hB5.out q⟩
end
end Go.Proofs.YtdfpifipkchmnaaGreatDoor
/- What the statements ask of dots.Block. -/
namespace Go.Proofs.YtdfpifipkchmnaaGreatDoor
open Go.RowKit
set_option linter.unusedVariables false
set_option maxRecDepth 100000

/-- The contract of dots.Block. -/
def DotBlockOk : Prop := ∀ (A : Option Addr) (n c : Nat) (l : Txs) (w : World), smallD l → TxR w w.heap.size (A, n, c) l → Calls Tryz.prog 14 #[.slice A n c] w fun e w' => TxsB w w' e (blockD l, dottedB l)
end Go.Proofs.YtdfpifipkchmnaaGreatDoor
