/- Proved here: texts joined: EdPut, ConDtU, ClonT, DtUn, EdHd. -/
import Derived.Test.YtdfpifipkchmnaaGreatDoorBa14
import Derived.Test.YtdfpifipkchmnaaGreatDoorBa16
import Derived.Test.YtdfpifipkchmnaaGreatDoorBa17
import Derived.Test.YtdfpifipkchmnaaGreatDoorBa27
import Derived.Test.YtdfpifipkchmnaaGreatDoorBa30
import Derived.Deep.RegionLaw
import Derived.RangeFuncBox
import Derived.Deep.DeepCutAuto
import Derived.Outline
/- Proved here: the landed editor's put: a text in place of lines. -/
namespace Go.Proofs.YtdfpifipkchmnaaGreatDoor
open Go.RowKit
set_option linter.unusedVariables false
set_option maxRecDepth 100000

section
variable {B0 E i j base2 : Nat} {w : World} {S : Slc} {fv v2 : Value} {script file text : Txs} {rd : Int} {wr ov : Bool}
/-- Maps stay. -/
def MapsK (w w' : World) : Prop := ∀ (k : Nat) (es : Array MapEntry) (cl : Nat), w.heap[k]? = some (Obj.map es cl) → w'.heap[k]? = some (Obj.map es cl)
theorem MapsK.trans {w w' w'' : World} (h : MapsK w w') (h' : MapsK w' w'') : MapsK w w'' := fun k es cl e => h' k es cl (h k es cl e)
theorem MapsK.of_below {w w' : World} (h : Below w.heap.size w w') : MapsK w w' := fun k es cl e => (h.block k (Array.getElem?_eq_some_iff.1 e).1).trans e
theorem MapsK.but {F : Nat → Prop} {w w' : World} (hb : But F w w') (hF : ∀ k, F k → ∀ es cl, w.heap[k]? ≠ some (Obj.map es cl)) : MapsK w w' := fun k es cl e => (hb.block k (Array.getElem?_eq_some_iff.1 e).1 fun hk => hF k hk es cl e).trans e
theorem EdI.noMap {w : World} (h : EdI B0 w E S fv script rd file wr ov) : ∀ k, EdF E fv k → ∀ es cl, w.heap[k]? ≠ some (Obj.map es cl) := by
  rintro k (rfl | e) es cl hk
  · rw [h.box] at hk
    cases hk
  · rcases h.own.2 with ⟨hv, _⟩ | ⟨g, cap, cur, hv, _, hg, _⟩
    · rw [hv] at e; cases e
    · rw [hv] at e
      obtain rfl : g = k := by simpa [Value.ownBlock] using e
      rw [hg] at hk
      cases hk
theorem EdI.setK {w : World} (h : EdI B0 w E S fv script rd file wr ov) (j : Nat) (v : Value) : MapsK w (w.setCell ⟨E, j, none⟩ v) :=
  MapsK.but (F := fun k => k = E) (But.setB (F := fun k => k = E) rfl j v) fun k hk => h.noMap k (.inl hk)
/-- Below a block, and in the maps, the world is what it was. -/
def BmK (B0 : Nat) (w w' : World) : Prop := Below B0 w w' ∧ MapsK w w'
theorem BmK.trans {w w' w'' : World} (h : BmK B0 w w') (h' : BmK B0 w' w'') : BmK B0 w w'' := ⟨h.1.trans h'.1, h.2.trans h'.2⟩
theorem BmK.of {w w' : World} (h : Below w.heap.size w w') (hB : B0 ≤ w.heap.size) : BmK B0 w w' := ⟨h.mono hB, .of_below h⟩
/-- What an editor's command leaves. -/
def EdLeft (B0 E : Nat) (S : Slc) (script : Txs) (w w' : World) (e : Ending) (rd : Int) (file : Txs) (wr ov : Bool) : Prop := ∃ fv, e = .returned (.tuple #[]) ∧ EdI B0 w' E S fv script rd file wr ov ∧ BmK B0 w w'

set_option maxHeartbeats 4000000 in
theorem put_any (h : EdI B0 w E S fv script rd file wr ov) (hij : i ≤ j) (hj : j ≤ file.length) (hsz : file.length + text.length ≤ 1000000) (h2 : w.ownsRow base2 9 1 v2 text.length (txC text)) (hne : ∀ k, v2.ownBlock = some k → fv.ownBlock ≠ some k) :
    Calls Tryz.prog 58 #[.pointer (some ⟨E, 0, none⟩), .agg #[.int .i64 (i : Int), .int .i64 (j : Int)], v2] w fun e w' => EdLeft B0 E S script w w' e rd (layE file i j text) false ov := by
  obtain ⟨W0, hW0⟩ : ∃ W0, W0 = w.alloc (.cells #[.int .i64 (i : Int), .int .i64 (j : Int)] 88) := ⟨_, rfl⟩
  have hb0 : Below w.heap.size w W0 := by rw [hW0]; exact below_alloc (Below.refl _ _) _
  have hbx : W0.heap[w.heap.size]? = some (.cells #[.int .i64 (i : Int), .int .i64 (j : Int)] 88 (0, 0)) := by rw [hW0, push_at, if_pos rfl]
  obtain ⟨W1, hW1⟩ : ∃ W1, W1 = W0.drew := ⟨_, rfl⟩
  have hb1 : Below w.heap.size w W1 := by rw [hW1]; exact below_drew hb0
  have hE1 := h.up hb1
  have h2u : W1.ownsRow base2 9 1 v2 text.length (txC text) := ownsRow_kept h2 fun k e => hb1.block k (h2.lt k e).2
  have hlow := h.low
  have hlt := hE1.lt
  have hle : B0 ≤ w.heap.size := by have := h.lt; omega
  have hR := Lib.hid (replace_any hij hj hsz hE1.own h2u hne (by omega))
  have hbx1 : W1.heap[w.heap.size]? = some (.cells #[.int .i64 (i : Int), .int .i64 (j : Int)] 88 (0, 0)) := by rw [hW1]; exact hbx
  have q0 : W1.cell? ⟨w.heap.size, 0, none⟩ = some (.int .i64 (i : Int)) := (cells_of hbx1 0).trans rfl
  have q1 : W1.cell? ⟨w.heap.size, 1, none⟩ = some (.int .i64 (j : Int)) := (cells_of hbx1 1).trans rfl
  obtain ⟨-, -, x2, -, -⟩ := hE1.cells
  have hk0 := Lib.hid (And.intro hW0 hW1)
  have hEh := Lib.hid (And.intro hE1 hb1)
  obtain ⟨I, hI⟩ : ∃ I : Int, I = (i : Int) := ⟨_, rfl⟩
  obtain ⟨J, hJ⟩ : ∃ J : Int, J = (j : Int) := ⟨_, rfl⟩
  rw [← hI] at q0
  rw [← hJ] at q1
  rw [← hI, ← hJ] at hR hk0 ⊢
  obtain ⟨Z, hZ⟩ : ∃ Z, layE file i j text = Z := ⟨_, rfl⟩
  rw [hZ] at hR ⊢
  have q0b : (W0.drew).cell? ⟨w.heap.size, 0, none⟩ = some (.int .i64 I) := by rw [← hW1]; exact q0
  have q1b : (W0.drew).cell? ⟨w.heap.size, 1, none⟩ = some (.int .i64 J) := by rw [← hW1]; exact q1
  have x2b : (W0.drew).cell? ⟨E, 2, none⟩ = some fv := by rw [← hW1]; exact x2
  clear hW0 hW1 hb0 hbx hb1 h h2 h2u hne hij hj hsz hE1 hbx1 hI hJ hZ q0 q1 x2
  go_enter Tryz.func58, Tryz.ntmps58
  go_upto_region 1 with fail
  rw [← hk0.out.1]
  go_region_law (go_simp; go_at_call 71; rw [← hk0.out.2]; refine hR.out.mono ?_; rintro e w2 ⟨v', rfl, ho, hbt⟩; have hE3 := hEh.out.1.setFile hbt ho; obtain ⟨A3, c3, rfl, -, -, -⟩ := own_slice ho; have y2 := (World.cell?_of_block (w := W1) (a := ⟨E, 2, none⟩) (hbt.block E hEh.out.1.lt fun k => hEh.out.1.apart k)).trans hEh.out.1.cells.2.2.1; have y2f : w2.frozen? ⟨E, 2, none⟩ = false := unfrozen_of ((hbt.block E hEh.out.1.lt fun k => hEh.out.1.apart k).trans hEh.out.1.box) 2; have hF := Lib.hid (And.intro hE3 (And.intro (hEh.out.1.below (hbt.more fun k e => .inr e)) (MapsK.but hbt fun k hk => hEh.out.1.noMap k (.inr hk)))); have hbxE : ∀ k, k = E → ∀ es cl, w2.heap[k]? ≠ some (Obj.map es cl) := (by rintro k rfl es cl hk; rw [(hbt.block _ hEh.out.1.lt fun k => hEh.out.1.apart k).trans hEh.out.1.box] at hk; cases hk); clear ho hbt hE3)
  all_goals
    have hF1 := hF.out.1
    obtain ⟨-, -, -, z3, -⟩ := hF1.cells
    have z3f := hF1.free 3
    have hfin := Lib.hid (hF1.setWr false)
    have hbel := Lib.hid ((((hEh.out.2.mono hle).trans hF.out.2.1).setCell (p := ⟨E, 2, none⟩) hlow (.slice A3 Z.length c3)).setCell (p := ⟨E, 3, none⟩) hlow (.bool false))
    have hmk := Lib.hid ((((MapsK.of_below hEh.out.2).trans hF.out.2.2).trans (MapsK.but (F := fun k => k = E) (But.setB (F := fun k => k = E) rfl 2 (.slice A3 Z.length c3)) hbxE)).trans (hF1.setK 3 (.bool false)))
    clear hF1
    go_wp2
    go_end0
    exact ⟨_, rfl, hfin.out, hbel.out, hmk.out⟩
end
end Go.Proofs.YtdfpifipkchmnaaGreatDoor
/- What the statements ask of dots.Unblock. -/
namespace Go.Proofs.YtdfpifipkchmnaaGreatDoor
open Go.RowKit
set_option linter.unusedVariables false
set_option maxRecDepth 100000

/-- The contract of dots.Unblock. -/
def DotUnblockOk : Prop := ∀ (A : Option Addr) (n c : Nat) (l : Txs) (w : World), smallD l → TxR w w.heap.size (A, n, c) l → Calls Tryz.prog 72 #[.slice A n c] w fun e w' => TxsN w w' e (unblockD [] 0 l)
end Go.Proofs.YtdfpifipkchmnaaGreatDoor
/- Proved here: the contract of slices.Clone over texts. -/
namespace Go.Proofs.YtdfpifipkchmnaaGreatDoor
open Go.RowKit
set_option linter.unusedVariables false
set_option maxRecDepth 100000

/-- Texts of the call's own, told. -/
def OwnOut (w w' : World) (e : Ending) (xs : Txs) : Prop := ∃ v, e = .returned v ∧ TxO w w' v xs

set_option maxHeartbeats 800000 in
theorem cloneT_any (A : Option Addr) (n c B : Nat) (ss : Txs) (w : World) (hn : n ≤ 1000000000) (hB : B ≤ w.heap.size) (hA : Strs w B A n ss) :
    Calls Tryz.prog 21 #[.slice A n c] w fun e w' => OwnOut w w' e ss := by
  have hl := hA.len
  obtain ⟨i0, hi, hzz⟩ := Option.map_eq_some_iff.1 infoStr
  simp only [Prod.mk.injEq] at hzz
  obtain ⟨hz0, hz1, hz2⟩ := hzz
  have hw0 : (w.alloc (.cells #[] 9)).ownsRow w.heap.size 9 1 (.slice (some ⟨w.heap.size, 0, none⟩) 0 0) 0 [] := own_empty w w.heap.size _ (Nat.le_refl _)
  have hB0 : Below w.heap.size w (w.alloc (.cells #[] 9)) := (Below.refl _ _).alloc (Nat.le_refl _) _
  have hm : Hid (0 + n ≤ maxLen ∧ (0 + n) * 16 ≤ 140737488355328) := Lib.hid ⟨by unfold maxLen; omega, by omega⟩
  cases A with
  | none =>
    have h0 : n = 0 := by
      rcases Nat.eq_zero_or_pos n with h0 | h0
      · exact h0
      · obtain ⟨_, _, h, _⟩ := hA.2 h0
        cases h
    subst h0
    obtain rfl : ss = [] := List.eq_nil_of_length_eq_zero hl
    have hq : ∀ W : World, (binOp .eql 22 (.slice none 0 c) (.slice none 0 0)).run Tryz.prog W = .ok (.bool true) W := fun W => Lib.run_eql_slice_nil W _ _ _ _ _ _ _ Tryz.underlying22
    go_enter Tryz.func21, Tryz.ntmps21
    go_wp2
    go_ret
    exact ⟨_, rfl, World.ownsRow_nil _ _ _ _, Below.refl _ _⟩
  | some p =>
    have hA0 := Lib.hid ((hA.more hB).below hB0)
    have hlh := Lib.hid hl
    clear hA hl
    have hq : ∀ W : World, (binOp .eql 22 (.slice (some p) n c) (.slice none 0 0)).run Tryz.prog W = .ok (.bool false) W := fun W => Lib.run_eql_slice_nil W _ _ _ _ _ _ _ Tryz.underlying22
    go_enter Tryz.func21, Tryz.ntmps21
    go_wp2_with (at_builtin; refine wpList_append_reads _ rfl _ _ 22 rfl w.heap.size 9 i0 (.string ByteArray.empty) 16 Tryz.underlying22 hi hz0 hz1 hz2 rfl _ 0 [] rfl hw0 w.heap.size (some p) n c _ rfl hA0.out (strs_one _) hm.out.1 hm.out.2 hB0.size ?_; intro v1 w1 hown1 hg1; have hB1 : Below w.heap.size w w1 := hB0.grown hg1 hB0.size (fun j e => (hw0.lt j e).1); rw [Nat.zero_add, List.nil_append] at hown1)
    go_ret
    exact ⟨_, rfl, by rw [hlh.out]; exact hown1, hB1⟩
end Go.Proofs.YtdfpifipkchmnaaGreatDoor
/- Proved here: the contract of the landed dots.Unblock. -/
namespace Go.Proofs.YtdfpifipkchmnaaGreatDoor
open Go.RowKit
set_option linter.unusedVariables false
set_option maxRecDepth 100000

set_option maxHeartbeats 2000000 in
theorem unblock_own (A : Option Addr) (n c : Nat) (l : Txs) (w : World) (hsm : smallD l) (hA : TxR w w.heap.size (A, n, c) l) :
    Calls Tryz.prog 72 #[.slice A n c] w fun e w' => ∃ v, e = .returned (.tuple #[v, .int .i64 ((unblockD [] 0 l).2 : Int)]) ∧ TxO w w' v (unblockD [] 0 l).1 := by
  have hl := hA.2.2.len
  dsimp only at hl
  have hn : n ≤ 100000 := by rw [← hl]; exact hsm.1
  have hAh := Lib.hid hA
  have hlh := Lib.hid hl
  have hb0 := Lib.hid (Below.refl w.heap.size w)
  obtain ⟨RR, hRR⟩ : ∃ RR, unblockD [] 0 l = RR := ⟨_, rfl⟩
  rw [hRR]
  have hRh : Hid (RR = unblockD (l.take 0) 0 (l.drop 0)) := Lib.hid hRR.symm
  clear hA hl hsm hRR
  go_enter Tryz.func72, Tryz.ntmps72
  go_wp2
  go_loop [4, 7] (fun _ i => ∃ k : Nat, k ≤ n ∧ i = .int .i64 k ∧ Hid (RR = unblockD (l.take k) k (l.drop k))) (fun _ i => n - (intOf i).toNat)
  case atStart => exact ⟨0, Nat.zero_le _, rfl, hRh⟩
  case round =>
    obtain ⟨k, hk, rfl, hm⟩ := hrel
    clear hRh
    by_cases hlt : k < n
    · obtain ⟨b, o, t, rfl, hb, ht, hc⟩ := Strs.at_ hAh.out.2.2 (k := k) hlt
      have hst := unblock_step l k t ht
      obtain ⟨S, hS⟩ : ∃ S, str t = S := ⟨_, rfl⟩
      rw [hS] at hc
      have he : (S.toList == [46, 10]) = decide (t = endD) := by
        rw [← hS, Lib.toList_data, str_data, Bool.eq_iff_iff, beq_iff_eq, decide_eq_true_eq]
        rfl
      by_cases hte : t = endD
      · have he2 : (S.toList == [46, 10]) = true := by rw [he, decide_eq_true hte]
        rw [if_pos hte] at hst
        have hRR : Hid (RR = (l.take k, k + 1)) := Lib.hid (by rw [hm.out, hst])
        obtain ⟨A', m', q', hsl, hT', hm'⟩ := slice_to (k := k) hAh.out (by omega)
        have hC := Lib.hid (cloneT_any A' m' q' w.heap.size (l.take k) w (by omega) (Nat.le_refl _) hT'.2.2)
        have hTh := Lib.hid hT'
        have hmh := Lib.hid hm'
        clear he hte hst hm ht hT' hS hm'
        go_wp2_with (go_at_call 21; refine hC.out.mono ?_; rintro e w1 ⟨v, rfl, hv⟩; have hvh := Lib.hid hv; clear hv)
        go_ret2
        rw [hRR.out]
        exact ⟨v, by simp, hvh.out⟩
      · have he2 : (S.toList == [46, 10]) = false := by rw [he, decide_eq_false hte]
        rw [if_neg hte] at hst
        have hm2 : Hid (RR = unblockD (l.take (k + 1)) (k + 1) (l.drop (k + 1))) := Lib.hid (by rw [hm.out, hst])
        clear he hte hst hm ht hS
        go_wp2
        go_round
        case rel => exact ⟨k + 1, by omega, by go_num, hm2⟩
        case measure => simp [intOf]; omega
    · obtain rfl : k = n := by omega
      have hRR : Hid (RR = ([], 0)) := Lib.hid (by
        rw [hm.out, List.drop_of_length_le (by rw [hlh.out]; exact Nat.le_refl _)]
        cases l.take k <;> rfl)
      clear hm
      go_wp2
      go_ret2
      rw [hRR.out]
      exact ⟨.slice none 0 0, rfl, World.ownsRow_nil _ _ _ _, hb0.out⟩
theorem unblock_anyL : DotUnblockOk := fun A n c l w hsm hA => (unblock_own A n c l w hsm hA).mono fun e w' h => by
  obtain ⟨v, rfl, hT⟩ := h
  obtain ⟨A2, n2, c2, e2, h2, h3⟩ := hT.out
  injection e2 with e2
  subst e2
  exact ⟨A2, n2, c2, rfl, h2, h3⟩

end Go.Proofs.YtdfpifipkchmnaaGreatDoor
/- Proved here: the landed editor's handed: the text that is handed over behind a command. -/
namespace Go.Proofs.YtdfpifipkchmnaaGreatDoor
open Go.RowKit
set_option linter.unusedVariables false
set_option maxRecDepth 100000

section
variable {B0 E r K : Nat} {w : World} {As : Option Addr} {ns cs : Nat} {fv : Value} {script file text : Txs} {wr ov : Bool}
theorem unb_small {acc l : Txs} (hs : smallD l) : (unblockD [] 0 l).1.length ≤ 100000 ∧ ∀ t ∈ (unblockD [] 0 l).1, t.length ≤ 1000000 := by
  have hm := (unblock_le (l := l) (acc := []) (i := 0)).2
  refine ⟨?_, fun t ht => (hm t ht).elim (fun h => by cases h) fun h => hs.2 t h⟩
  have key : ∀ (l acc : Txs) (i : Nat), (unblockD acc i l).1.length ≤ acc.length + l.length := by
    intro l
    induction l with
    | nil => intro acc i; simp [unblockD]
    | cons t l ih =>
      intro acc i
      unfold unblockD
      split
      · simp
      · have := ih (acc ++ [t]) (i + 1)
        simp only [List.length_append, List.length_cons, List.length_nil] at this ⊢
        omega
  have h1 := hs.1
  have h2 := key l [] 0
  simp only [List.length_nil] at h2
  omega
theorem small_drop {l : Txs} (h : smallD l) (k : Nat) : smallD (l.drop k) := ⟨by rw [List.length_drop]; have := h.1; omega, fun s hs => h.2 s (List.mem_of_mem_drop hs)⟩

set_option maxHeartbeats 4000000 in
theorem handed_none (h : EdI B0 w E (As, ns, cs) fv script (r : Int) file wr ov) (hs : smallD script) (hr : r ≤ script.length) (hu : (unblockD [] 0 (script.drop r)).2 = 0) :
    Calls Tryz.prog 59 #[.pointer (some ⟨E, 0, none⟩)] w fun e w' => e = .panicked (WR ((script.length : Int) + 1) 2) ∧ Below w.heap.size w w' := by
  have hd : EdI B0 w.drew E (As, ns, cs) fv script (r : Int) file wr ov := h.up (below_drew (Below.refl _ _))
  have hsl := h.scr.2.2.len
  dsimp only at hsl
  obtain ⟨A', m, q, hslc, hT, hm⟩ := slice_from (k := r) hd.scr (by omega)
  have hlt := h.lt
  have hlow := h.low
  have hU := unblock_own A' m q (script.drop r) w.drew (small_drop hs r) (hT.more (by show B0 ≤ w.heap.size; omega))
  rw [hu, show ((0 : Nat) : Int) = 0 from rfl] at hU
  have hUh := Lib.hid hU
  obtain ⟨x0, x1, -, -, -⟩ := hd.cells
  have hdh := Lib.hid hd
  have hslh := Lib.hid hsl
  have hmx : Hid ((ns : Int) + 1 ≤ 1000000) := Lib.hid (by have := hs.1; omega)
  have hb := Lib.hid (below_drew (Below.refl w.heap.size w))
  clear hU hT hs hr hu h hd hsl
  go_enter Tryz.func59, Tryz.ntmps59
  go_upto_region 1 with fail
  go_region_law (go_simp; go_at_call 72; refine hUh.out.mono ?_; rintro e w1 ⟨v, rfl, hT⟩; have hB1 := Lib.hid hT.below; clear hT)
  all_goals
    obtain ⟨y0, -, -, -, -⟩ := (hdh.out.up hB1.out).cells
    have hmx2 := hmx.out
    have w2 : IntKind.i64.wrap ((ns : Int) + 1) = (ns : Int) + 1 := by rw [IntKind.wrap_i64]; omega
    go_wp2
    exact ⟨rfl, by rw [hslh.out]; rfl, hb.out.trans (hB1.out.mono hb.out.size)⟩
/-- The text is not lines, or is open. -/
theorem mem_len {l : Txs} (h : ∀ t ∈ l, t.length ≤ 1000000) : ∀ t ∈ l, t.length ≤ maxLen := fun t ht => by have := h t ht; unfold maxLen; omega

set_option maxHeartbeats 4000000 in
theorem handed_bad (h : EdI B0 w E (As, ns, cs) fv script (r : Int) file wr ov) (hs : smallD script) (hr : r ≤ script.length) (hu : (unblockD [] 0 (script.drop r)).2 ≠ 0) (hbad : (mayB (unblockD [] 0 (script.drop r)).1 && !openB (unblockD [] 0 (script.drop r)).1) = false) :
    Calls Tryz.prog 59 #[.pointer (some ⟨E, 0, none⟩)] w fun e w' => e = .panicked (WR (r : Int) 2) ∧ Below w.heap.size w w' := by
  have hd : EdI B0 w.drew E (As, ns, cs) fv script (r : Int) file wr ov := h.up (below_drew (Below.refl _ _))
  have hsl := h.scr.2.2.len
  dsimp only at hsl
  obtain ⟨A', m, q, hslc, hT, hm⟩ := slice_from (k := r) hd.scr (by omega)
  have hlt := h.lt
  have hlow := h.low
  have hU := unblock_own A' m q (script.drop r) w.drew (small_drop hs r) (hT.more (by show B0 ≤ w.heap.size; omega))
  obtain ⟨hq1, hq2⟩ := unb_small (acc := []) (small_drop hs r)
  obtain ⟨X, hX⟩ : ∃ X, unblockD [] 0 (script.drop r) = X := ⟨_, rfl⟩
  rw [hX] at hU hu hbad hq1 hq2
  obtain ⟨text, K⟩ := X
  dsimp only at hU hu hbad hq1 hq2
  have hUh := Lib.hid hU
  obtain ⟨x0, x1, -, -, -⟩ := hd.cells
  have hdh := Lib.hid hd
  have hK0 : ((K : Int) == 0) = false := by rw [beq_eq_false_iff_ne]; omega
  have hb := Lib.hid (below_drew (Below.refl w.heap.size w))
  have hq := Lib.hid (And.intro hq1 hq2)
  have hbh := Lib.hid hbad
  clear hU hT hs hr h hd hsl hX hq1 hq2 hbad
  go_enter Tryz.func59, Tryz.ntmps59
  go_upto_region 1 with fail
  go_region_law (go_simp; go_at_call 72; refine hUh.out.mono ?_; rintro e w1 ⟨v, rfl, hT⟩; obtain ⟨A2, n2, c2, e2, hR2, hB2⟩ := hT.out; injection e2 with e2; subst e2; have hB1 := Lib.hid hT.below; have hRh := Lib.hid hR2; clear hT hR2 hB2)
  all_goals
    have hE1 := hdh.out.up hB1.out
    have hn2 := hRh.out.2.2.len
    have hen := Lib.hid (edEnded_any A2 n2 c2 text w1 (by dsimp only at hn2; have := hq.out.1; unfold maxLen; omega) (mem_len hq.out.2) hRh.out)
    rw [hbh.out] at hen
    have hmb := Lib.hid (must_bad E 2 (r : Int) w1 hE1.cells.2.1)
    clear hE1 hn2
    go_wp2_with (first
      | (go_at_call 19; refine hen.out.mono ?_; rintro e w' ⟨rfl, rfl⟩)
      | (go_at_call 36; refine hmb.out.mono ?_; rintro e w' ⟨rfl, rfl⟩))
    exact ⟨rfl, rfl, hb.out.trans (hB1.out.mono hb.out.size)⟩

set_option maxHeartbeats 4000000 in
theorem handed_ok (h : EdI B0 w E (As, ns, cs) fv script (r : Int) file wr ov) (hs : smallD script) (hr : r ≤ script.length) (hX : unblockD [] 0 (script.drop r) = (text, K)) (hu : K ≠ 0) (hok : (mayB text && !openB text) = true) :
    Calls Tryz.prog 59 #[.pointer (some ⟨E, 0, none⟩)] w fun e w' => ∃ v, e = .returned v ∧ EdI B0 w' E (As, ns, cs) fv script ((r + K : Nat) : Int) file wr ov ∧ w'.ownsRow w.heap.size 9 1 v text.length (txC text) ∧ But (fun j => j = E) w w' := by
  have hd : EdI B0 w.drew E (As, ns, cs) fv script (r : Int) file wr ov := h.up (below_drew (Below.refl _ _))
  have hsl := h.scr.2.2.len
  dsimp only at hsl
  obtain ⟨A', m, q, hslc, hT, hm⟩ := slice_from (k := r) hd.scr (by omega)
  have hlt := h.lt
  have hlow := h.low
  have hU := unblock_own A' m q (script.drop r) w.drew (small_drop hs r) (hT.more (by show B0 ≤ w.heap.size; omega))
  obtain ⟨hq1, hq2⟩ := unb_small (acc := []) (small_drop hs r)
  have hK1 := (unblock_le (l := script.drop r) (acc := []) (i := 0)).1
  rw [hX] at hU hq1 hq2 hK1
  dsimp only at hU hq1 hq2 hK1
  have hUh := Lib.hid hU
  obtain ⟨x0, x1, -, -, -⟩ := hd.cells
  have hdh := Lib.hid hd
  have hK0 : ((K : Int) == 0) = false := by rw [beq_eq_false_iff_ne]; omega
  have hrK : Hid ((r : Int) + (K : Int) ≤ 1000000 ∧ (r : Int) + (K : Int) = ((r + K : Nat) : Int)) := Lib.hid (by have := hs.1; rw [List.length_drop] at hK1; exact ⟨by omega, by omega⟩)
  have hb := Lib.hid (below_drew (Below.refl w.heap.size w))
  have hq := Lib.hid (And.intro hq1 hq2)
  have hbh := Lib.hid hok
  clear hU hT hs hr h hd hsl hX hq1 hq2 hok hK1
  go_enter Tryz.func59, Tryz.ntmps59
  go_upto_region 1 with fail
  go_region_law (go_simp; go_at_call 72; refine hUh.out.mono ?_; rintro e w1 ⟨v, rfl, hT⟩; obtain ⟨A2, n2, c2, e2, hR2, hB2⟩ := hT.out; injection e2 with e2; subst e2; have hB1 := Lib.hid hT; have hRh := Lib.hid hR2; clear hT hR2 hB2)
  all_goals
    have hE1 := hdh.out.up hB1.out.below
    have hn2 := hRh.out.2.2.len
    have hen := Lib.hid (edEnded_any A2 n2 c2 text w1 (by dsimp only at hn2; have := hq.out.1; unfold maxLen; omega) (mem_len hq.out.2) hRh.out)
    rw [hbh.out] at hen
    have hmb := Lib.hid (must_ok E 2 w1)
    obtain ⟨-, y1, -, -, -⟩ := hE1.cells
    have y2 := hE1.free 1
    have hfin := Lib.hid (hE1.setRd ((r : Int) + (K : Int)))
    have hown := hB1.out.own
    have hown2 : Hid ((w1.setCell ⟨E, 1, none⟩ (.int .i64 ((r : Int) + (K : Int)))).ownsRow w.heap.size 9 1 (.slice A2 n2 c2) text.length (txC text)) := Lib.hid (ownsRow_kept hown fun k e => Below.heap_setCell _ _ _ _ (fun e2 => by have := (hown.lt k e).1; have h3 : k = E := e2; have h4 : w.drew.heap.size = w.heap.size := rfl; omega))
    have hbt : Hid (But (fun j => j = E) w (w1.setCell ⟨E, 1, none⟩ (.int .i64 ((r : Int) + (K : Int))))) := Lib.hid (((But.of_below (F := fun j => j = E) (hb.out.trans (hB1.out.below.mono hb.out.size)) fun k hk _ => hk)).trans (But.setB (F := fun j => j = E) rfl 1 _) fun k e => .inl e)
    have hlim := hrK.out.1
    have ww : IntKind.i64.wrap ((r : Int) + (K : Int)) = (r : Int) + (K : Int) := by rw [IntKind.wrap_i64]; omega
    clear hE1 hn2 hown
    go_wp2_with (first
      | (go_at_call 19; refine hen.out.mono ?_; rintro e w' ⟨rfl, hww⟩; have hws := hww.symm; clear hww; subst hws)
      | (go_at_call 36; refine hmb.out.mono ?_; rintro e w' ⟨rfl, hww⟩; have hws := hww.symm; clear hww; subst hws))
    go_ret
    refine ⟨_, rfl, ?_, hown2.out, hbt.out⟩
    rw [← hrK.out.2]
    exact hfin.out
end
end Go.Proofs.YtdfpifipkchmnaaGreatDoor
