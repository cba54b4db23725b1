/- Proved here: texts joined: EdCm, ConDtS, MkPlA, StrS, DtFn, MakeT. -/
import Derived.Test.YtdfpifipkchmnaaDoorBc03
import Derived.Test.YtdfpifipkchmnaaDoorBc04
import Derived.Test.YtdfpifipkchmnaaDoorBc12
import Derived.Test.YtdfpifipkchmnaaDoorBc17
import Derived.Test.YtdfpifipkchmnaaDoorBc22
import Derived.Test.YtdfpifipkchmnaaDoorBc30
import Derived.Test.YtdfpifipkchmnaaDoorBc31
import Derived.Test.YtdfpifipkchmnaaDoorBc32
import Derived.Laws.OwnMore
import Derived.RangeFuncBox
import Derived.Laws.Slices
import Derived.Test.YtdfpifipkchmnaaDoorChecked
import Derived.WalkKit
import Derived.Deep.OwnRows
/- Proved here: the landed editor's commands write and quit; and add. -/
namespace Go.Proofs.YtdfpifipkchmnaaDoor
open Go.RowKit
set_option linter.unusedVariables false
set_option maxRecDepth 100000

section
variable {B0 E r n c k : Nat} {w : World} {As : Option Addr} {ns cs : Nat} {fv : Value} {script file : Txs} {wr ov : Bool} {A : Option Addr} {l : List Nat}
/-- A line that is wrong, told. -/
def EdWrong (B0 : Nat) (w w' : World) (e : Ending) (line err : Nat) : Prop := e = .panicked (WR (line : Int) (err : Int)) ∧ Below B0 w w'
theorem EdI.leB (h : EdI B0 w E (As, ns, cs) fv script (r : Int) file wr ov) : B0 ≤ w.heap.size := by have := h.lt; have := h.low; omega

set_option maxHeartbeats 1000000 in
theorem write_bad (h : EdI B0 w E (As, ns, cs) fv script (r : Int) file wr ov) (hn : n ≠ 0) : Calls Tryd.prog 29 #[.pointer (some ⟨E, 0, none⟩), .slice A n c] w fun e w' => EdWrong B0 w w' e r 2 := by
  have hm := Lib.hid (must_bad E 2 (r : Int) w h.cells.2.1)
  have e1 : ((n : Int) == 0) = false := by rw [beq_eq_false_iff_ne]; omega
  clear h hn
  go_enter Tryd.func29, Tryd.ntmps29
  go_wp2_with (go_at_call 22; refine hm.out.mono ?_; rintro e w' ⟨rfl, rfl⟩)
  exact ⟨rfl, rfl, Below.refl _ _⟩
set_option maxHeartbeats 1000000 in
theorem write_ok (h : EdI B0 w E (As, ns, cs) fv script (r : Int) file wr ov) : Calls Tryd.prog 29 #[.pointer (some ⟨E, 0, none⟩), .slice A 0 c] w fun e w' => EdLeft B0 E (As, ns, cs) script w w' e (r : Int) file true ov := by
  have hm := Lib.hid (must_ok E 2 w)
  obtain ⟨-, -, -, x3, -⟩ := h.cells
  have x3f := h.free 3
  have hfin := Lib.hid (And.intro (h.setWr true) (And.intro ((Below.refl B0 w).setCell (p := ⟨E, 3, none⟩) h.low (.bool true)) (h.setK 3 (.bool true))))
  have e1 : (((0 : Nat) : Int) == 0) = true := rfl
  clear h
  go_enter Tryd.func29, Tryd.ntmps29
  go_wp2_with (go_at_call 22; refine hm.out.mono ?_; rintro e w' ⟨rfl, rfl⟩)
  go_end0
  exact ⟨_, rfl, hfin.out.1, hfin.out.2⟩
set_option maxHeartbeats 1000000 in
theorem quit_bad (h : EdI B0 w E (As, ns, cs) fv script (r : Int) file wr ov) (hn : n ≠ 0) : Calls Tryd.prog 30 #[.pointer (some ⟨E, 0, none⟩), .slice A n c] w fun e w' => EdWrong B0 w w' e r 2 := by
  have hm := Lib.hid (must_bad E 2 (r : Int) w h.cells.2.1)
  have e1 : ((n : Int) == 0) = false := by rw [beq_eq_false_iff_ne]; omega
  clear h hn
  go_enter Tryd.func30, Tryd.ntmps30
  go_wp2_with (go_at_call 22; refine hm.out.mono ?_; rintro e w' ⟨rfl, rfl⟩)
  exact ⟨rfl, rfl, Below.refl _ _⟩
set_option maxHeartbeats 1000000 in
theorem quit_ok (h : EdI B0 w E (As, ns, cs) fv script (r : Int) file wr ov) : Calls Tryd.prog 30 #[.pointer (some ⟨E, 0, none⟩), .slice A 0 c] w fun e w' => EdLeft B0 E (As, ns, cs) script w w' e (r : Int) file wr true := by
  have hm := Lib.hid (must_ok E 2 w)
  obtain ⟨-, -, -, -, x4⟩ := h.cells
  have x4f := h.free 4
  have hfin := Lib.hid (And.intro (h.setOv true) (And.intro ((Below.refl B0 w).setCell (p := ⟨E, 4, none⟩) h.low (.bool true)) (h.setK 4 (.bool true))))
  have e1 : (((0 : Nat) : Int) == 0) = true := rfl
  clear h
  go_enter Tryd.func30, Tryd.ntmps30
  go_wp2_with (go_at_call 22; refine hm.out.mono ?_; rintro e w' ⟨rfl, rfl⟩)
  go_end0
  exact ⟨_, rfl, hfin.out.1, hfin.out.2⟩
set_option maxHeartbeats 1000000 in
theorem add_count (h : EdI B0 w E (As, ns, cs) fv script (r : Int) file wr ov) (hn : n ≠ 1) : Calls Tryd.prog 25 #[.pointer (some ⟨E, 0, none⟩), .slice A n c] w fun e w' => EdWrong B0 w w' e r 2 := by
  have hm := Lib.hid (must_bad E 2 (r : Int) w h.cells.2.1)
  have e1 : ((n : Int) == 1) = false := by rw [beq_eq_false_iff_ne]; omega
  clear h hn
  go_enter Tryd.func25, Tryd.ntmps25
  go_wp2_with (go_at_call 22; refine hm.out.mono ?_; rintro e w' ⟨rfl, rfl⟩)
  exact ⟨rfl, rfl, Below.refl _ _⟩
set_option maxHeartbeats 1000000 in
theorem add_range (h : EdI B0 w E (As, ns, cs) fv script (r : Int) file wr ov) (hA : Nums w w.heap.size A 1 ([k].map fun x : Nat => (x : Int))) (hk : file.length < k) (hk9 : k < 1000000000) : Calls Tryd.prog 25 #[.pointer (some ⟨E, 0, none⟩), .slice A 1 c] w fun e w' => EdWrong B0 w w' e r 3 := by
  have hm1 := Lib.hid (must_ok E 2 w)
  have hm := Lib.hid (must_bad E 3 (r : Int) w h.cells.2.1)
  obtain ⟨-, -, x2, -, -⟩ := h.cells
  obtain ⟨Af, cf, hfv, -, -, -⟩ := own_slice h.own
  rw [hfv] at x2
  obtain ⟨N, hN⟩ : ∃ N, file.length = N := ⟨_, rfl⟩
  rw [hN] at x2 hk
  obtain ⟨b, o, rfl, -, c0⟩ := nums_at (k := 0) hA rfl
  rw [Nat.add_zero] at c0
  have d1 : decide ((k : Int) ≤ (N : Int)) = false := decide_eq_false (by omega)
  have p1 : ¬ (k : Int) ≤ (N : Int) := by omega
  have d2 : decide (k ≤ N) = false := decide_eq_false (by omega)
  have p2 : ¬ k ≤ N := by omega
  clear h hA hfv hN hk
  go_enter Tryd.func25, Tryd.ntmps25
  go_upto_region 1 with (go_at_call 22; refine hm1.out.mono ?_; rintro e w' ⟨rfl, hww⟩; have hws := hww.symm; clear hww; subst hws)
  go_wp2_with (go_at_call 22; refine hm.out.mono ?_; rintro e w' ⟨rfl, hww⟩; have hws := hww.symm; clear hww; subst hws)
  exact ⟨rfl, rfl, Below.refl _ _⟩

/-- What is told of a command, by the document's words. -/
def CmdO (B0 E : Nat) (S : Slc) (script : Txs) (w w' : World) (e : Ending) (r : Nat) : StE → Prop
  | .inl (err, line) => EdWrong B0 w w' e line err
  | .inr (f, sv, k) => EdLeft B0 E S script w w' e ((r + k : Nat) : Int) f sv false
theorem ins_split (h0 : mayB [] = true) {len at_ m n : Nat} {rest file text : Txs} {K : Nat} (hX : unblockD [] 0 rest = (text, K)) :
    insE len at_ m n rest file = if K = 0 then .inl (2, len + 1) else if (mayB text && !openB text) = false then .inl (2, at_ + 1) else .inr (layE file m n text, false, K) := by
  unfold insE
  rw [hX]
  dsimp only
  by_cases h : K = 0
  · rw [if_pos h, if_pos h]
  · rw [if_neg h, if_neg h]
    by_cases h2 : (mayB text && !openB text) = false
    · rw [if_pos h2, if_pos]
      cases h3 : mayB text
      · exact .inl rfl
      · rw [h3] at h2
        exact .inr (by simpa using h2)
    · rw [if_neg h2, if_neg]
      rw [Bool.not_eq_false, Bool.and_eq_true] at h2
      rintro (h3 | h3)
      · rw [h2.1] at h3; cases h3
      · rw [h3] at h2; simp at h2
/-- What handed tells, in one. -/
theorem handed_all (h : EdI B0 w E (As, ns, cs) fv script (r : Int) file wr ov) (hs : smallD script) (hr : r ≤ script.length) {text : Txs} {K : Nat} (hX : unblockD [] 0 (script.drop r) = (text, K)) :
    (K = 0 ∧ Calls Tryd.prog 38 #[.pointer (some ⟨E, 0, none⟩)] w fun e w' => EdWrong B0 w w' e (script.length + 1) 2) ∨
    (K ≠ 0 ∧ (mayB text && !openB text) = false ∧ Calls Tryd.prog 38 #[.pointer (some ⟨E, 0, none⟩)] w fun e w' => EdWrong B0 w w' e r 2) ∨
    (K ≠ 0 ∧ (mayB text && !openB text) = true ∧ Calls Tryd.prog 38 #[.pointer (some ⟨E, 0, none⟩)] w fun e w' => ∃ v, e = .returned v ∧ EdI B0 w' E (As, ns, cs) fv script ((r + K : Nat) : Int) file wr ov ∧ w'.ownsRow w.heap.size 9 1 v text.length (txC text) ∧ But (fun j => j = E) w w') := by
  have hB := h.leB
  by_cases hK : K = 0
  · refine .inl ⟨hK, (handed_none h hs hr (by rw [hX]; exact hK)).mono fun e w' h => ⟨?_, h.2.mono hB⟩⟩
    rw [h.1]
    rfl
  · cases ht : (mayB text && !openB text)
    · exact .inr (.inl ⟨hK, rfl, (handed_bad h hs hr (by rw [hX]; exact hK) (by rw [hX]; exact ht)).mono fun e w' h => ⟨h.1, h.2.mono hB⟩⟩)
    · exact .inr (.inr ⟨hK, rfl, handed_ok h hs hr hX hK ht⟩)
end
end Go.Proofs.YtdfpifipkchmnaaDoor
/- What the statements ask of dots.Strip. -/
namespace Go.Proofs.YtdfpifipkchmnaaDoor
open Go.RowKit
set_option linter.unusedVariables false
set_option maxRecDepth 100000

/-- The contract of dots.Strip. -/
def DotStripOk : Prop := ∀ (A : Option Addr) (n c : Nat) (l : Txs) (w : World), smallD l → TxR w w.heap.size (A, n, c) l → Calls Tryd.prog 40 #[.slice A n c] w fun e w' => TxsB w w' e (stripD l, dottedB l)
end Go.Proofs.YtdfpifipkchmnaaDoor
/- Proved here, without conditions on the program: texts put together; how many lines a conflict makes. -/
namespace Go.Proofs.YtdfpifipkchmnaaDoor
open Go.RowKit
set_option linter.unusedVariables false
set_option maxRecDepth 100000

theorem rep_app (c : UInt8) (i : Nat) : str (List.replicate i c) ++ str [c] = str (List.replicate (i + 1) c) := by
  rw [strs_app, ← List.replicate_succ']

theorem closed_setO {ss : Txs} {n : Nat} {t : Tx} (hl : ss.length = n + 1) (ht : ss[n]? = some t) (ho : openB ss = true) : closed ss = ss.set n (t ++ [10]) := by
  have hg : ss.getLast? = some t := by rw [List.getLast?_eq_getElem?, hl]; exact ht
  unfold closed openB at *
  rw [hg] at ho ⊢
  dsimp only at ho ⊢
  rw [if_neg (by simpa using ho)]
  apply List.ext_getElem?
  intro i
  rw [List.getElem?_set]
  rcases Nat.lt_trichotomy i n with h | h | h
  · rw [List.getElem?_append_left (by rw [List.length_dropLast]; omega), List.getElem?_dropLast, if_pos (by omega), if_neg (by omega)]
  · subst h
    rw [List.getElem?_append_right (by rw [List.length_dropLast]; omega), List.length_dropLast, if_pos rfl, if_pos (by omega)]
    rw [hl, Nat.add_sub_cancel, Nat.sub_self]
    rfl
  · rw [List.getElem?_eq_none (by rw [List.length_append, List.length_dropLast, List.length_singleton]; omega), if_neg (by omega), List.getElem?_eq_none (by omega)]

theorem sides_len : ∀ (ds : List Txs) (long : Nat) (ahead : Txs) (n : Nat), (sidesM long ahead n ds).length = ds.flatten.length + ds.length + 1
  | [], _, _, _ => rfl
  | d :: ds, long, ahead, n => by
    unfold sidesM
    rw [List.length_cons, List.length_append, closed_len, sides_len ds, List.flatten_cons, List.length_append, List.length_cons]; omega
theorem flatM_len {ds : List Txs} (h : ∀ d ∈ ds, d.length ≤ 10000) : ds.flatten.length ≤ ds.length * 10000 := by
  induction ds with
  | nil => simp
  | cons d ds ih =>
    have := ih fun e he => h e (List.mem_cons_of_mem _ he)
    have := h d (List.mem_cons_self ..)
    rw [List.flatten_cons, List.length_append, List.length_cons]
    omega
theorem conf_len {style : Int} {long : Nat} {bs : Txs} {ds : List Txs} (h : ∀ d ∈ bs :: ds, d.length ≤ 10000) : (confM style long bs ds).length ≤ (ds.length + 2) * 10001 := by
  cases ds with
  | nil => simp [confM]
  | cons f ds =>
    have h1 := flatM_len (ds := ds) fun d hd => h d (List.mem_cons_of_mem _ (List.mem_cons_of_mem _ hd))
    have h2 := h bs (List.mem_cons_self ..)
    have h3 := h f (by simp)
    unfold confM
    rw [List.length_cons, List.length_append, closed_len]
    split
    · rw [sides_len, List.length_cons]; omega
    · rw [List.length_cons, List.length_append, closed_len, sides_len, List.length_cons]; omega
theorem conf_split (style : Int) (long : Nat) (bs f : Txs) (ds : List Txs) : confM style long bs (f :: ds) = if style = 1 then ([markT 60 long [] [32, 49]] ++ closed f) ++ sidesM long f 2 ds else (([markT 60 long [] [32, 49]] ++ closed f) ++ [markT 124 long f [32, 98, 97, 115, 101]] ++ closed bs) ++ sidesM long bs 2 ds := by
  by_cases h : style = 1
  · rw [if_pos h]; unfold confM; simp [h]
  · rw [if_neg h]; unfold confM; simp [h]
end Go.Proofs.YtdfpifipkchmnaaDoor
/- Proved here, without conditions: a string cut ahead, or behind. -/
namespace Go.Proofs.YtdfpifipkchmnaaDoor
open Go.RowKit
set_option linter.unusedVariables false

theorem slice_str_from (t : Tx) (k : Nat) (hk : k ≤ t.length) (W : World) : (Instr.slice 9 (.string (str t)) (some (.int .i64 (k : Int))) none none).run Tryd.prog W = .ok (.string (str (t.drop k))) W := by
  rw [run_slice_string_l (P := Tryd.prog) W 9 (str t) Tryd.underlying9 .i64 (k : Int) (by omega) (by rw [str_size]; omega), Int.toNat_natCast]
  congr 2
  apply ByteArray.ext
  simp [str, ByteArray.extract, ByteArray.copySlice]
  show List.take (t.length - k) _ = _
  rw [List.take_of_length_le (by rw [List.length_drop]; exact Nat.le_refl _)]
theorem str_take (t : Tx) (k : Nat) (hk : k ≤ t.length) : (str t).extract 0 k = str (t.take k) := by
  apply ByteArray.ext
  simp [str, ByteArray.extract, ByteArray.copySlice, hk]
theorem slice_str_to (t : Tx) (k : Nat) (hk : k ≤ t.length) (W : World) : (Instr.slice 9 (.string (str t)) none (some (.int .i64 (k : Int))) none).run Tryd.prog W = .ok (.string (str (t.take k))) W := by
  rw [run_slice_string_h (P := Tryd.prog) W 9 (str t) Tryd.underlying9 .i64 (k : Int) (by omega) (by rw [str_size]; omega), Int.toNat_natCast, str_take t k hk]
end Go.Proofs.YtdfpifipkchmnaaDoor
/- Proved here: the contract of strings.HasPrefix at a point, and of the closure of the landed dots.Block. -/
namespace Go.Proofs.YtdfpifipkchmnaaDoor
open Go.RowKit
set_option linter.unusedVariables false
set_option maxRecDepth 100000

set_option maxHeartbeats 1000000 in
theorem prefS_any (t : Tx) (w : World) (ht : t.length ≤ 1000000) : Calls Tryd.prog 80 #[.string (str t), .string ⟨#[46]⟩] w fun e w' => e = .returned (.bool (pointB t)) ∧ w = w' := by
  have hp : (⟨#[46]⟩ : ByteArray).size = 1 := rfl
  cases t with
  | nil =>
    have hz : (str []).size = 0 := rfl
    obtain ⟨S, hS⟩ : ∃ S, str [] = S := ⟨_, rfl⟩
    rw [hS] at hz ⊢
    have hb : pointB [] = false := rfl
    rw [hb]
    clear hS
    go_enter Tryd.func80, Tryd.ntmps80
    go_wp2
    go_ret
    exact ⟨rfl, rfl⟩
  | cons c r =>
    have hz : (str (c :: r)).size = r.length + 1 := by rw [str_size]; rfl
    have hge : (1 : Int) ≤ ((str (c :: r)).size : Int) := by rw [hz]; omega
    have hsl : ∀ W, (Instr.slice 9 (.string (str (c :: r))) none (some (.int .i64 1)) none).run Tryd.prog W = .ok (.string (str [c])) W := fun W => slice_str_to (c :: r) 1 (by simp) W
    have hres : Hid (pointB (c :: r) = ((str [c]).toList == [46])) := Lib.hid (by
      rw [Lib.toList_data, str_data]
      unfold pointB
      rw [Bool.eq_iff_iff]
      simp)
    obtain ⟨S, hS⟩ : ∃ S, str (c :: r) = S := ⟨_, rfl⟩
    obtain ⟨U, hU⟩ : ∃ U, str [c] = U := ⟨_, rfl⟩
    rw [hS, hU] at hsl
    rw [hS] at hge ⊢
    rw [hU] at hres
    have hsz : ¬ (S.size : Int) < 1 := by omega
    clear hS hU hz ht
    go_enter Tryd.func80, Tryd.ntmps80
    go_wp2
    go_ret
    exact ⟨ret_bool (by rw [hres.out]), rfl⟩
/-- What a closure that makes a text otherwise leaves: the box Bd tells whether some began with a point. -/
def BoxB (Bd : Nat) (w w' : World) (b : Bool) : Prop := Boxed w' Bd 4 (.bool b) ∧ But (fun k => k = Bd) w w'
/-- A closure that makes each text otherwise, and notes whether it is one of those of p. -/
def ChF (g2 Bd : Nat) (f : Tx → Tx) (p : Tx → Bool) : Prop :=
  ∀ (b : Bool) (t : Tx) (w : World), t.length ≤ 1000000 → Boxed w Bd 4 (.bool b) → Calls Tryd.prog g2 #[.string (str t), .pointer (some ⟨Bd, 0, none⟩)] w fun e w' => e = .returned (.string (str (f t))) ∧ BoxB Bd w w' (b || p t)
end Go.Proofs.YtdfpifipkchmnaaDoor
/- Proved here: a slice of texts, just made; a row of texts is a slice of the call's own. -/
namespace Go.Proofs.YtdfpifipkchmnaaDoor
open Go.RowKit
set_option linter.unusedVariables false
set_option maxRecDepth 100000

theorem make_txs (n : Nat) (hn : n ≤ 1000000) (w : World) : (Instr.makeSlice 22 (.int .i64 (n : Int)) (.int .i64 (n : Int))).run Tryd.prog w = .ok (.slice (some ⟨w.heap.size, 0, none⟩) n n) (w.alloc (.cells (madeCells #[.string ByteArray.empty] n) 9)) := by
  obtain ⟨i, hi, hzz⟩ := Option.map_eq_some_iff.1 infoStr
  simp only [Prod.mk.injEq] at hzz
  obtain ⟨hz, hs, hb⟩ := hzz
  have := run_make (P := Tryd.prog) w 22 9 i (.string ByteArray.empty) Tryd.underlying22 hi hz .i64 .i64 n n (by omega) (Int.le_refl _) (by rw [hb]; omega) (by omega)
  simp only [Int.toNat_natCast, hs, Nat.mul_one] at this
  exact this
/-- A row of texts is a slice of the call's own. -/
theorem row_own {w : World} {G n base : Nat} {f : Nat → Value} {xs : Txs} (h : w.rowIs G 9 n f) (hl : xs.length = n) (hm : n ≤ maxLen) (hb : base ≤ G) (hx : ∀ i t, xs[i]? = some t → f i = .string (str t)) :
    w.ownsRow base 9 1 (.slice (some ⟨G, 0, none⟩) n n) n (xs.map fun s => .string (str s)) := by
  obtain ⟨c, hh, hs, hc⟩ := h
  refine ⟨by simpa using hl, .inr ⟨G, n, c, rfl, hb, hh, Nat.le_refl _, hm, by omega, ?_⟩⟩
  rw [Nat.mul_one]
  apply List.ext_getElem?
  intro i
  by_cases hi : i < n
  · rw [List.getElem?_take, if_pos hi, Array.getElem?_toList, hc i hi, List.getElem?_map, List.getElem?_eq_getElem (by omega), Option.map_some, hx i _ (List.getElem?_eq_getElem (by omega))]
  · rw [List.getElem?_take, if_neg hi, List.getElem?_map, List.getElem?_eq_none (by omega)]
    rfl
end Go.Proofs.YtdfpifipkchmnaaDoor
