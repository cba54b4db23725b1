/- Proved here: texts joined: EdRep3, EdPut, DotSm, ConDtU, ClonT. -/
import Derived.Test.YtdfpifipkchmnaaDoorBc09
import Derived.Test.YtdfpifipkchmnaaDoorBc13
import Derived.Test.YtdfpifipkchmnaaDoorBc17
import Derived.Test.YtdfpifipkchmnaaDoorBc29
import Derived.Deep.RegionLaw
import Derived.RangeFuncBox
import Derived.Deep.DeepCutAuto
import Derived.Outline
/- Proved here: what slices.Replace makes of a row of texts of the call's own, whatever is put in. -/
namespace Go.Proofs.YtdfpifipkchmnaaDoor
open Go.RowKit Go.Lib
set_option linter.unusedVariables false
set_option maxRecDepth 100000

section
variable {w : World} {base base2 i j : Nat} {v v2 : Value} {xs ys : Txs}
set_option maxHeartbeats 2000000 in
theorem replace_insert (hi : i ≤ xs.length) (hsz : xs.length + ys.length ≤ 1000000) (h1 : w.ownsRow base 9 1 v xs.length (txC xs)) (h2 : w.ownsRow base2 9 1 v2 ys.length (txC ys)) (hne : ∀ k, v2.ownBlock = some k → v.ownBlock ≠ some k) (hb : base ≤ w.heap.size) :
    Calls Tryd.prog 50 #[v, .int .i64 (i : Int), .int .i64 (i : Int), v2] w fun e w' => RowOut base v w w' e (layE xs i i ys) := by
  have hI := Lib.hid (insert_any hi hsz h1 h2 hne hb)
  obtain ⟨A, c, rfl, hc1, hc2, hr⟩ := own_slice h1
  obtain ⟨N, hN⟩ : ∃ N, xs.length = N := ⟨_, rfl⟩
  have hT : TxR w w.heap.size (A, xs.length, c) xs := ⟨hc1, hc2, hr⟩
  rw [hN] at hT hi
  rw [hN] at hI ⊢
  obtain ⟨A0, m0, q0, hs0, -, -, -⟩ := slice_mid (i := i) (k := i) hT (Nat.le_refl _) hi
  obtain ⟨Z, hZ⟩ : ∃ Z, layE xs i i ys = Z := ⟨_, rfl⟩
  rw [hZ] at hI ⊢
  clear h1 h2 hT hr hc1 hc2 hN hZ hne
  go_enter Tryd.func50, Tryd.ntmps50
  go_wp2_with (go_at_call 67; refine hI.out.mono ?_; rintro e w1 ⟨v', rfl, ho, hbt⟩; have hoh := Lib.hid (And.intro ho hbt); clear ho hbt)
  go_ret
  exact ⟨v', rfl, hoh.out.1, hoh.out.2⟩

/-- slices.Replace of a row of texts, by a row of texts. -/
theorem replace_any (hij : i ≤ j) (hj : j ≤ xs.length) (hsz : xs.length + ys.length ≤ 1000000) (h1 : w.ownsRow base 9 1 v xs.length (txC xs)) (h2 : w.ownsRow base2 9 1 v2 ys.length (txC ys)) (hne : ∀ k, v2.ownBlock = some k → v.ownBlock ≠ some k) (hb : base ≤ w.heap.size) :
    Calls Tryd.prog 50 #[v, .int .i64 (i : Int), .int .i64 (j : Int), v2] w fun e w' => RowOut base v w w' e (layE xs i j ys) := by
  by_cases he : i = j
  · subst he
    exact replace_insert hj hsz h1 h2 hne hb
  · rcases rowB_of h1 with ⟨rfl, rfl⟩ | ⟨g, c, L, rfl, hg, hr⟩
    · simp at hj
      omega
    · have hle := hr.le
      rcases rowB_of h2 with ⟨rfl, rfl⟩ | ⟨g2, c2, L2, rfl, hg2, hr2⟩
      · by_cases hjn : j = xs.length
        · rw [hjn] at he ⊢
          exact replace_end hr hg (m := 0) rfl (Src.ofNil w Tryd.underlying22 0) (by omega) (by omega) (by omega)
        · exact replace_narrow hr hg (m := 0) rfl (fun ty ln dc _ => copy_none ty) (by omega) (by omega) (by omega) (by omega)
      · have hg2n : g2 ≠ g := fun e => hne g2 rfl (by rw [e]; rfl)
        by_cases hjn : j = xs.length
        · rw [hjn] at he ⊢
          by_cases hroom : i + ys.length ≤ c
          · exact replace_end hr hg rfl (Src.ofSlice w Tryd.underlying22 ⟨g2, 0, none⟩ ys.length c2 (txC ys) (by rw [txC_len, Nat.mul_one]) (fun k u hk => by rw [Addr.add_lit]; exact hr2.cells k u hk) (txC_one ys)) (by omega) hroom (by omega)
          · exact replace_end_grow hr hg hr2 (by omega) (by omega) (by omega) hb
        · by_cases hroom : i + ys.length + (xs.length - j) ≤ c
          · by_cases hw : i + ys.length ≤ j
            · refine replace_narrow hr hg rfl (fun ty ln dc hln => ?_) (by omega) (by omega) hw (by omega)
              have := copy_some (w := w.drew) (g := g) (o := i) (len := ln) (dc := dc) (a := 0) (sl := ys.length) (sc := c2) (g2 := g2) (cs := txC ys) hr.blk (by rw [txC_len, min_eq hln]) hr2.cells (by rw [txC_len]; have := hr.len; omega) (txC_one ys) ty
              rw [txC_len] at this
              exact this
            · exact replace_wide hr hg hr2 hg2n (by omega) (by omega) hroom (by omega) (by omega)
          · exact replace_grow hr hr2 hg (by omega) (by omega) (by omega) (by omega) hb
end
end Go.Proofs.YtdfpifipkchmnaaDoor
/- Proved here: the landed editor's put: a text in place of lines. -/
namespace Go.Proofs.YtdfpifipkchmnaaDoor
open Go.RowKit
set_option linter.unusedVariables false
set_option maxRecDepth 100000

section
variable {B0 E i j base2 : Nat} {w : World} {S : Slc} {fv v2 : Value} {script file text : Txs} {rd : Int} {wr ov : Bool}
/-- Maps stay. -/
def MapsK (w w' : World) : Prop := ∀ (k : Nat) (es : Array MapEntry) (cl : Nat), w.heap[k]? = some (Obj.map es cl) → w'.heap[k]? = some (Obj.map es cl)
theorem MapsK.trans {w w' w'' : World} (h : MapsK w w') (h' : MapsK w' w'') : MapsK w w'' := fun k es cl e => h' k es cl (h k es cl e)
theorem MapsK.of_below {w w' : World} (h : Below w.heap.size w w') : MapsK w w' := fun k es cl e => (h.block k (Array.getElem?_eq_some_iff.1 e).1).trans e
theorem MapsK.but {F : Nat → Prop} {w w' : World} (hb : But F w w') (hF : ∀ k, F k → ∀ es cl, w.heap[k]? ≠ some (Obj.map es cl)) : MapsK w w' := fun k es cl e => (hb.block k (Array.getElem?_eq_some_iff.1 e).1 fun hk => hF k hk es cl e).trans e
theorem EdI.noMap {w : World} (h : EdI B0 w E S fv script rd file wr ov) : ∀ k, EdF E fv k → ∀ es cl, w.heap[k]? ≠ some (Obj.map es cl) := by
  rintro k (rfl | e) es cl hk
  · rw [h.box] at hk
    cases hk
  · rcases h.own.2 with ⟨hv, _⟩ | ⟨g, cap, cur, hv, _, hg, _⟩
    · rw [hv] at e; cases e
    · rw [hv] at e
      obtain rfl : g = k := by simpa [Value.ownBlock] using e
      rw [hg] at hk
      cases hk
theorem EdI.setK {w : World} (h : EdI B0 w E S fv script rd file wr ov) (j : Nat) (v : Value) : MapsK w (w.setCell ⟨E, j, none⟩ v) :=
  MapsK.but (F := fun k => k = E) (But.setB (F := fun k => k = E) rfl j v) fun k hk => h.noMap k (.inl hk)
/-- Below a block, and in the maps, the world is what it was. -/
def BmK (B0 : Nat) (w w' : World) : Prop := Below B0 w w' ∧ MapsK w w'
theorem BmK.trans {w w' w'' : World} (h : BmK B0 w w') (h' : BmK B0 w' w'') : BmK B0 w w'' := ⟨h.1.trans h'.1, h.2.trans h'.2⟩
theorem BmK.of {w w' : World} (h : Below w.heap.size w w') (hB : B0 ≤ w.heap.size) : BmK B0 w w' := ⟨h.mono hB, .of_below h⟩
/-- What an editor's command leaves. -/
def EdLeft (B0 E : Nat) (S : Slc) (script : Txs) (w w' : World) (e : Ending) (rd : Int) (file : Txs) (wr ov : Bool) : Prop := ∃ fv, e = .returned (.tuple #[]) ∧ EdI B0 w' E S fv script rd file wr ov ∧ BmK B0 w w'

set_option maxHeartbeats 4000000 in
theorem put_any (h : EdI B0 w E S fv script rd file wr ov) (hij : i ≤ j) (hj : j ≤ file.length) (hsz : file.length + text.length ≤ 1000000) (h2 : w.ownsRow base2 9 1 v2 text.length (txC text)) (hne : ∀ k, v2.ownBlock = some k → fv.ownBlock ≠ some k) :
    Calls Tryd.prog 37 #[.pointer (some ⟨E, 0, none⟩), .agg #[.int .i64 (i : Int), .int .i64 (j : Int)], v2] w fun e w' => EdLeft B0 E S script w w' e rd (layE file i j text) false ov := by
  obtain ⟨W0, hW0⟩ : ∃ W0, W0 = w.alloc (.cells #[.int .i64 (i : Int), .int .i64 (j : Int)] 63) := ⟨_, rfl⟩
  have hb0 : Below w.heap.size w W0 := by rw [hW0]; exact below_alloc (Below.refl _ _) _
  have hbx : W0.heap[w.heap.size]? = some (.cells #[.int .i64 (i : Int), .int .i64 (j : Int)] 63 (0, 0)) := by rw [hW0, push_at, if_pos rfl]
  obtain ⟨W1, hW1⟩ : ∃ W1, W1 = W0.drew := ⟨_, rfl⟩
  have hb1 : Below w.heap.size w W1 := by rw [hW1]; exact below_drew hb0
  have hE1 := h.up hb1
  have h2u : W1.ownsRow base2 9 1 v2 text.length (txC text) := ownsRow_kept h2 fun k e => hb1.block k (h2.lt k e).2
  have hlow := h.low
  have hlt := hE1.lt
  have hle : B0 ≤ w.heap.size := by have := h.lt; omega
  have hR := Lib.hid (replace_any hij hj hsz hE1.own h2u hne (by omega))
  have hbx1 : W1.heap[w.heap.size]? = some (.cells #[.int .i64 (i : Int), .int .i64 (j : Int)] 63 (0, 0)) := by rw [hW1]; exact hbx
  have q0 : W1.cell? ⟨w.heap.size, 0, none⟩ = some (.int .i64 (i : Int)) := (cells_of hbx1 0).trans rfl
  have q1 : W1.cell? ⟨w.heap.size, 1, none⟩ = some (.int .i64 (j : Int)) := (cells_of hbx1 1).trans rfl
  obtain ⟨-, -, x2, -, -⟩ := hE1.cells
  have hk0 := Lib.hid (And.intro hW0 hW1)
  have hEh := Lib.hid (And.intro hE1 hb1)
  obtain ⟨I, hI⟩ : ∃ I : Int, I = (i : Int) := ⟨_, rfl⟩
  obtain ⟨J, hJ⟩ : ∃ J : Int, J = (j : Int) := ⟨_, rfl⟩
  rw [← hI] at q0
  rw [← hJ] at q1
  rw [← hI, ← hJ] at hR hk0 ⊢
  obtain ⟨Z, hZ⟩ : ∃ Z, layE file i j text = Z := ⟨_, rfl⟩
  rw [hZ] at hR ⊢
  have q0b : (W0.drew).cell? ⟨w.heap.size, 0, none⟩ = some (.int .i64 I) := by rw [← hW1]; exact q0
  have q1b : (W0.drew).cell? ⟨w.heap.size, 1, none⟩ = some (.int .i64 J) := by rw [← hW1]; exact q1
  have x2b : (W0.drew).cell? ⟨E, 2, none⟩ = some fv := by rw [← hW1]; exact x2
  clear hW0 hW1 hb0 hbx hb1 h h2 h2u hne hij hj hsz hE1 hbx1 hI hJ hZ q0 q1 x2
  go_enter Tryd.func37, Tryd.ntmps37
  go_upto_region 1 with fail
  rw [← hk0.out.1]
  go_region_law (go_simp; go_at_call 50; rw [← hk0.out.2]; refine hR.out.mono ?_; rintro e w2 ⟨v', rfl, ho, hbt⟩; have hE3 := hEh.out.1.setFile hbt ho; obtain ⟨A3, c3, rfl, -, -, -⟩ := own_slice ho; have y2 := (World.cell?_of_block (w := W1) (a := ⟨E, 2, none⟩) (hbt.block E hEh.out.1.lt fun k => hEh.out.1.apart k)).trans hEh.out.1.cells.2.2.1; have y2f : w2.frozen? ⟨E, 2, none⟩ = false := unfrozen_of ((hbt.block E hEh.out.1.lt fun k => hEh.out.1.apart k).trans hEh.out.1.box) 2; have hF := Lib.hid (And.intro hE3 (And.intro (hEh.out.1.below (hbt.more fun k e => .inr e)) (MapsK.but hbt fun k hk => hEh.out.1.noMap k (.inr hk)))); have hbxE : ∀ k, k = E → ∀ es cl, w2.heap[k]? ≠ some (Obj.map es cl) := (by rintro k rfl es cl hk; rw [(hbt.block _ hEh.out.1.lt fun k => hEh.out.1.apart k).trans hEh.out.1.box] at hk; cases hk); clear ho hbt hE3)
  all_goals
    have hF1 := hF.out.1
    obtain ⟨-, -, -, z3, -⟩ := hF1.cells
    have z3f := hF1.free 3
    have hfin := Lib.hid (hF1.setWr false)
    have hbel := Lib.hid ((((hEh.out.2.mono hle).trans hF.out.2.1).setCell (p := ⟨E, 2, none⟩) hlow (.slice A3 Z.length c3)).setCell (p := ⟨E, 3, none⟩) hlow (.bool false))
    have hmk := Lib.hid ((((MapsK.of_below hEh.out.2).trans hF.out.2.2).trans (MapsK.but (F := fun k => k = E) (But.setB (F := fun k => k = E) rfl 2 (.slice A3 Z.length c3)) hbxE)).trans (hF1.setK 3 (.bool false)))
    clear hF1
    go_wp2
    go_end0
    exact ⟨_, rfl, hfin.out, hbel.out, hmk.out⟩
end
end Go.Proofs.YtdfpifipkchmnaaDoor
/- Texts that aren't too many, nor too long (layers 15 and 16). -/
namespace Go.Proofs.YtdfpifipkchmnaaDoor
open Go.RowKit
set_option linter.unusedVariables false
set_option maxRecDepth 100000

/-- Texts that aren't too many, nor too long. -/
def smallD (l : Txs) : Prop := l.length ≤ 100000 ∧ ∀ s ∈ l, s.length ≤ 1000000
/-- Texts that a call tells, and a bool. -/
def TxsB (w w' : World) (e : Ending) (x : Txs × Bool) : Prop := ∃ A n c, e = .returned (.tuple #[.slice A n c, .bool x.2]) ∧ TxR w' w'.heap.size (A, n, c) x.1 ∧ Below w.heap.size w w'
/-- Texts that a call tells, and a number. -/
def TxsN (w w' : World) (e : Ending) (x : Txs × Nat) : Prop := ∃ A n c, e = .returned (.tuple #[.slice A n c, .int .i64 (x.2 : Int)]) ∧ TxR w' w'.heap.size (A, n, c) x.1 ∧ Below w.heap.size w w'
theorem few_D {l : Txs} {k : Nat} (h : fewB l k = true) (hk : k ≤ 100000) : smallD l := by
  unfold fewB at h
  rw [Bool.and_eq_true, decide_eq_true_eq] at h
  refine ⟨by omega, fun t ht => ?_⟩
  have h2 := h.2
  rw [List.take_of_length_le (by omega), List.all_eq_true] at h2
  have := h2 t ht
  simp at this
  omega
theorem dotT_len (s : Tx) : (dotT s).length ≤ s.length + 1 := by unfold dotT; split <;> simp
theorem bareT_len (s : Tx) : (bareT s).length ≤ s.length := by unfold bareT; split <;> simp
theorem small_block {l : Txs} {k : Nat} (h : l.length ≤ 50000) (hs : ∀ s ∈ l, s.length ≤ 900000) : smallD (blockD l) := by
  refine ⟨by rw [block_len]; omega, fun s hs2 => ?_⟩
  unfold blockD at hs2
  rcases List.mem_append.1 hs2 with h1 | h1
  · obtain ⟨t, ht, rfl⟩ := List.mem_map.1 h1
    have := dotT_len t
    have := hs t ht
    omega
  · rw [List.mem_singleton.1 h1]
    simp [endD]
theorem str_dot (t : Tx) : (⟨#[46]⟩ : ByteArray) ++ str t = str (46 :: t) := by
  apply ByteArray.ext
  simp [str]
theorem unblock_step (l : Txs) (k : Nat) (t : Tx) (ht : l[k]? = some t) : unblockD (l.take k) k (l.drop k) = if t = endD then (l.take k, k + 1) else unblockD (l.take (k + 1)) (k + 1) (l.drop (k + 1)) := by
  rw [drop_at ht, unblockD, take_at ht]
end Go.Proofs.YtdfpifipkchmnaaDoor
/- What the statements ask of dots.Unblock. -/
namespace Go.Proofs.YtdfpifipkchmnaaDoor
open Go.RowKit
set_option linter.unusedVariables false
set_option maxRecDepth 100000

/-- The contract of dots.Unblock. -/
def DotUnblockOk : Prop := ∀ (A : Option Addr) (n c : Nat) (l : Txs) (w : World), smallD l → TxR w w.heap.size (A, n, c) l → Calls Tryd.prog 51 #[.slice A n c] w fun e w' => TxsN w w' e (unblockD [] 0 l)
end Go.Proofs.YtdfpifipkchmnaaDoor
/- Proved here: the contract of slices.Clone over texts. -/
namespace Go.Proofs.YtdfpifipkchmnaaDoor
open Go.RowKit
set_option linter.unusedVariables false
set_option maxRecDepth 100000

/-- Texts of the call's own, told. -/
def OwnOut (w w' : World) (e : Ending) (xs : Txs) : Prop := ∃ v, e = .returned v ∧ TxO w w' v xs

set_option maxHeartbeats 800000 in
theorem cloneT_any (A : Option Addr) (n c B : Nat) (ss : Txs) (w : World) (hn : n ≤ 1000000000) (hB : B ≤ w.heap.size) (hA : Strs w B A n ss) :
    Calls Tryd.prog 14 #[.slice A n c] w fun e w' => OwnOut w w' e ss := by
  have hl := hA.len
  obtain ⟨i0, hi, hzz⟩ := Option.map_eq_some_iff.1 infoStr
  simp only [Prod.mk.injEq] at hzz
  obtain ⟨hz0, hz1, hz2⟩ := hzz
  have hw0 : (w.alloc (.cells #[] 9)).ownsRow w.heap.size 9 1 (.slice (some ⟨w.heap.size, 0, none⟩) 0 0) 0 [] := own_empty w w.heap.size _ (Nat.le_refl _)
  have hB0 : Below w.heap.size w (w.alloc (.cells #[] 9)) := (Below.refl _ _).alloc (Nat.le_refl _) _
  have hm : Hid (0 + n ≤ maxLen ∧ (0 + n) * 16 ≤ 140737488355328) := Lib.hid ⟨by unfold maxLen; omega, by omega⟩
  cases A with
  | none =>
    have h0 : n = 0 := by
      rcases Nat.eq_zero_or_pos n with h0 | h0
      · exact h0
      · obtain ⟨_, _, h, _⟩ := hA.2 h0
        cases h
    subst h0
    obtain rfl : ss = [] := List.eq_nil_of_length_eq_zero hl
    have hq : ∀ W : World, (binOp .eql 22 (.slice none 0 c) (.slice none 0 0)).run Tryd.prog W = .ok (.bool true) W := fun W => Lib.run_eql_slice_nil W _ _ _ _ _ _ _ Tryd.underlying22
    go_enter Tryd.func14, Tryd.ntmps14
    go_wp2
    go_ret
    exact ⟨_, rfl, World.ownsRow_nil _ _ _ _, Below.refl _ _⟩
  | some p =>
    have hA0 := Lib.hid ((hA.more hB).below hB0)
    have hlh := Lib.hid hl
    clear hA hl
    have hq : ∀ W : World, (binOp .eql 22 (.slice (some p) n c) (.slice none 0 0)).run Tryd.prog W = .ok (.bool false) W := fun W => Lib.run_eql_slice_nil W _ _ _ _ _ _ _ Tryd.underlying22
    go_enter Tryd.func14, Tryd.ntmps14
    go_wp2_with (at_builtin; refine wpList_append_reads _ rfl _ _ 22 rfl w.heap.size 9 i0 (.string ByteArray.empty) 16 Tryd.underlying22 hi hz0 hz1 hz2 rfl _ 0 [] rfl hw0 w.heap.size (some p) n c _ rfl hA0.out (strs_one _) hm.out.1 hm.out.2 hB0.size ?_; intro v1 w1 hown1 hg1; have hB1 : Below w.heap.size w w1 := hB0.grown hg1 hB0.size (fun j e => (hw0.lt j e).1); rw [Nat.zero_add, List.nil_append] at hown1)
    go_ret
    exact ⟨_, rfl, by rw [hlh.out]; exact hown1, hB1⟩
end Go.Proofs.YtdfpifipkchmnaaDoor
