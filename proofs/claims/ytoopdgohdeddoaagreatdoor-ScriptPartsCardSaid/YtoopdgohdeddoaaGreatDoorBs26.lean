/- Proved here: texts joined: ScrLawA, Apart, AppendL, ScrPut, CatT, ConDtB, StrS, DtFn, MakeT. -/
import Derived.Test.YtoopdgohdeddoaaGreatDoorBs01
import Derived.Test.YtoopdgohdeddoaaGreatDoorBs02
import Derived.Test.YtoopdgohdeddoaaGreatDoorBs10
import Derived.Test.YtoopdgohdeddoaaGreatDoorBs11
import Derived.Test.YtoopdgohdeddoaaGreatDoorBs25
import Derived.RegionTactic
import Derived.Deep.RegionHeld3
import Derived.Laws.EntriesVeiled
import Derived.Lib.AppendZeros
import Derived.Laws.Slices
import Derived.Test.YtoopdgohdeddoaaGreatDoorChecked
import Derived.WalkKit
import Derived.RangeFuncBox
import Derived.Deep.OwnRows
/- Proved here: what the statement ScriptTells says, by the contract of package script. -/
namespace Go.Proofs.YtoopdgohdeddoaaGreatDoor
open Go.RowKit
set_option linter.unusedVariables false
set_option maxRecDepth 100000

theorem smallS_R {a b c : Txs} (h1 : smallS a) (h2 : smallS b) (h3 : smallS c) : smallR b [a, c] := by
  refine ⟨by simp, fun d hd => ?_⟩
  have k : smallS d := by
    simp only [List.mem_cons, List.not_mem_nil, or_false] at hd
    rcases hd with rfl | rfl | rfl
    · exact h2
    · exact h1
    · exact h3
  exact ⟨by have := k.1; omega, fun s hs => by have := k.2 s hs; omega⟩
section
variable (H : ScriptOk)
include H

set_option maxHeartbeats 8000000 in
theorem ScriptTells_walk (y : Nat) (A0 : Option Addr) (n0 c0 : Nat) (a : Txs) (A1 : Option Addr) (n1 c1 : Nat) (b : Txs) (A2 : Option Addr) (n2 c2 : Nat) (c : Txs) (fin : Bool) (w : World) (hy : y ≤ 255)
    (h0 : TxR w w.heap.size (A0, n0, c0) a) (h1 : TxR w w.heap.size (A1, n1, c1) b) (h2 : TxR w w.heap.size (A2, n2, c2) c) :
    Calls Tryz.prog 3 #[.int .u8 (y : Int), .agg #[.slice A0 n0 c0, .slice A1 n1 c1, .slice A2 n2 c2], .bool fin] w fun e w' => e = .returned (.bool true) ∧ Below w.heap.size w w' := by
  obtain ⟨W1, hW1⟩ : ∃ W1, W1 = w.alloc (.cells #[.slice A0 n0 c0, .slice A1 n1 c1, .slice A2 n2 c2] 23) := ⟨_, rfl⟩
  have hb1 : Below w.heap.size w W1 := by rw [hW1]; exact (Below.refl _ _).alloc (Nat.le_refl _) _
  have k1 : W1.heap[w.heap.size]? = some (.cells #[.slice A0 n0 c0, .slice A1 n1 c1, .slice A2 n2 c2] 23 (0, 0)) := by rw [hW1]; exact Go.Deep.blk_alloc_new w _
  have haw := Lib.hid (scrAwake_any H W1)
  have hlt : w.heap.size < W1.heap.size := (Array.getElem?_eq_some_iff.1 k1).1
  have hC : Hid (∀ x1, Below W1.heap.size W1 x1 → (w.heap.size < x1.heap.size ∧ Below w.heap.size w x1) ∧ x1.cell? ⟨w.heap.size, 0, none⟩ = some (.slice A0 n0 c0) ∧ x1.cell? ⟨w.heap.size, 1, none⟩ = some (.slice A1 n1 c1) ∧ x1.cell? ⟨w.heap.size, 2, none⟩ = some (.slice A2 n2 c2)) := Lib.hid (fun x1 hb => by
    have e1 := (hb.block _ hlt).trans k1
    exact ⟨⟨(Array.getElem?_eq_some_iff.1 e1).1, hb1.trans (hb.mono hb1.size)⟩, by rw [cells_of e1]; rfl, by rw [cells_of e1]; rfl, by rw [cells_of e1]; rfl⟩)
  obtain ⟨fa, hfa⟩ : ∃ fm, fewB a 16 = fm := ⟨_, rfl⟩
  obtain ⟨fb, hfb⟩ : ∃ fm, fewB b 16 = fm := ⟨_, rfl⟩
  obtain ⟨fc, hfc⟩ : ∃ fm, fewB c 16 = fm := ⟨_, rfl⟩
  have hFa : Hid (∀ W, Below w.heap.size w W → Calls Tryz.prog 9 #[.slice A0 n0 c0, .int .i64 16] W fun e w' => e = .returned (.bool fa) ∧ W = w') := Lib.hid (fun W hW => by rw [← hfa]; exact Few_any A0 n0 c0 16 W.heap.size a W (Nat.le_trans h0.1 h0.2.1) (by decide) (h0.up hW).2.2)
  have hFb : Hid (∀ W, Below w.heap.size w W → Calls Tryz.prog 9 #[.slice A1 n1 c1, .int .i64 16] W fun e w' => e = .returned (.bool fb) ∧ W = w') := Lib.hid (fun W hW => by rw [← hfb]; exact Few_any A1 n1 c1 16 W.heap.size b W (Nat.le_trans h1.1 h1.2.1) (by decide) (h1.up hW).2.2)
  have hFc : Hid (∀ W, Below w.heap.size w W → Calls Tryz.prog 9 #[.slice A2 n2 c2, .int .i64 16] W fun e w' => e = .returned (.bool fc) ∧ W = w') := Lib.hid (fun W hW => by rw [← hfc]; exact Few_any A2 n2 c2 16 W.heap.size c W (Nat.le_trans h2.1 h2.2.1) (by decide) (h2.up hW).2.2)
  have hfl := Lib.hid (fun W : World => flag_any y W hy)
  have haw2 := haw
  rw [hW1] at haw2
  have hCW := hC
  rw [hW1] at hCW
  by_cases hall : fa = true ∧ fb = true ∧ fc = true
  rotate_left
  · clear h0 h1 h2 hfa hfb hfc hb1 k1 hlt hy hC haw hW1
    rcases (by revert hall; cases fa <;> cases fb <;> cases fc <;> simp : fa = false ∨ (fa = true ∧ fb = false) ∨ (fa = true ∧ fb = true ∧ fc = false)) with rfl | ⟨rfl, rfl⟩ | ⟨rfl, rfl, rfl⟩
    all_goals
      clear hall
      go_enter Tryz.func3, Tryz.ntmps3
      go_wp2_with (first
        | (go_at_call 8; refine haw2.out.mono ?_; rintro e x1 ⟨rfl, hb⟩; obtain ⟨hB1x, q0, q1, q2⟩ := hCW.out x1 hb; have hB1 := Lib.hid hB1x.2; clear hb hB1x)
        | (go_at_call 9; refine (hFa.out _ hB1.out).mono ?_; rintro e w2 ⟨rfl, hww⟩; have hws := hww.symm; clear hww hFa; subst hws)
        | (go_at_call 9; refine (hFb.out _ hB1.out).mono ?_; rintro e w2 ⟨rfl, hww⟩; have hws := hww.symm; clear hww hFb; subst hws)
        | (go_at_call 9; refine (hFc.out _ hB1.out).mono ?_; rintro e w2 ⟨rfl, hww⟩; have hws := hww.symm; clear hww hFc; subst hws))
      go_ret
      exact ⟨rfl, hB1.out⟩
  · obtain ⟨rfl, rfl, rfl⟩ := hall
    have sa := few_S hfa
    have sb := few_S hfb
    have sc := few_S hfc
    have hS1 := Lib.hid (fun (W : World) (hW : Below w.heap.size w W) => H (flagC y) A0 n0 c0 a A1 n1 c1 b A2 n2 c2 c fin W sa sb sc (h0.up hW) (h1.up hW) (h2.up hW))
    have hS2 := Lib.hid (fun (W : World) (hW : Below w.heap.size w W) => rScript_any (flagC y) A0 n0 c0 a A1 n1 c1 b A2 n2 c2 c fin W (smallS_R sa sb sc) (h0.up hW) (h1.up hW) (h2.up hW))
    have hSm := Lib.hid same_S
    clear h0 h1 h2 hfa hfb hfc hb1 k1 hlt hy hC haw hW1 sa sb sc
    go_enter Tryz.func3, Tryz.ntmps3
    go_upto_region 4 with (first
      | (go_at_call 8; refine haw2.out.mono ?_; rintro e x1 ⟨rfl, hb⟩; obtain ⟨hB1x, q0, q1, q2⟩ := hCW.out x1 hb; have hB1 := Lib.hid hB1x.2; have hltx := hB1x.1; clear hb hB1x)
      | (go_at_call 9; refine (hFa.out _ hB1.out).mono ?_; rintro e w2 ⟨rfl, hww⟩; have hws := hww.symm; clear hww hFa; subst hws)
      | (go_at_call 9; refine (hFb.out _ hB1.out).mono ?_; rintro e w2 ⟨rfl, hww⟩; have hws := hww.symm; clear hww hFb; subst hws)
      | (go_at_call 9; refine (hFc.out _ hB1.out).mono ?_; rintro e w2 ⟨rfl, hww⟩; have hws := hww.symm; clear hww hFc; subst hws))
    have hBd := Lib.hid (below_drewN hB1.out 1)
    go_region_held3 (fun wx : World => wx.cell? ⟨w.heap.size, 0, none⟩ = some (.slice A0 n0 c0) ∧ wx.cell? ⟨w.heap.size, 1, none⟩ = some (.slice A1 n1 c1) ∧ wx.cell? ⟨w.heap.size, 2, none⟩ = some (.slice A2 n2 c2))
      (first
        | exact ⟨q0, q1, q2⟩
        | exact ⟨(hb4.cell (p := ⟨w.heap.size, 0, none⟩) hltx).trans q0, (hb4.cell (p := ⟨w.heap.size, 1, none⟩) hltx).trans q1, (hb4.cell (p := ⟨w.heap.size, 2, none⟩) hltx).trans q2⟩)
      (first
        | (go_at_call 11; refine (hfl.out _).mono ?_; rintro e w2 ⟨rfl, hww⟩; have hws := hww.symm; clear hww; subst hws)
        | (go_at_call 10; refine (hS1.out _ (by first | exact hB1.out | exact hBd.out)).mono ?_; rintro e x3 ⟨A3, n3, c3, er, x, rfl, p3, s3, hb4⟩; have hP3 := Lib.hid p3; have hs3 := Lib.hid s3; have hB3 : Hid (Below w.heap.size w x3) := Lib.hid (by first | exact hB1.out.trans (hb4.mono hB1.out.size) | exact hBd.out.trans (hb4.mono hBd.out.size)); clear p3 s3))
    rename_i hHeld
    obtain ⟨r0, r1, r2⟩ := hHeld
    have hlt3 : w.heap.size < x3.heap.size := Nat.lt_of_lt_of_le hltx hb4.size
    have hB3d := Lib.hid (below_drewN hB3.out 1)
    have hP3d := Lib.hid (hP3.out.up (below_drewN (Below.refl _ _) 1))
    clear q0 q1 q2 hb4
    go_upto_region 5 with fail
    go_region_held3 (fun wx : World => wx.cell? ⟨w.heap.size, 0, none⟩ = some (.slice A0 n0 c0) ∧ wx.cell? ⟨w.heap.size, 1, none⟩ = some (.slice A1 n1 c1) ∧ wx.cell? ⟨w.heap.size, 2, none⟩ = some (.slice A2 n2 c2))
      (first
        | exact ⟨r0, r1, r2⟩
        | exact ⟨(hb6.cell (p := ⟨w.heap.size, 0, none⟩) hlt3).trans r0, (hb6.cell (p := ⟨w.heap.size, 1, none⟩) hlt3).trans r1, (hb6.cell (p := ⟨w.heap.size, 2, none⟩) hlt3).trans r2⟩)
      (first
        | (go_at_call 11; refine (hfl.out _).mono ?_; rintro e w4 ⟨rfl, hww⟩; have hws := hww.symm; clear hww; subst hws)
        | (go_at_call 12; refine (hS2.out _ (by first | exact hB3.out | exact hB3d.out)).mono ?_; rintro e x6 ⟨A6, n6, c6, er6, x', rfl, p6, s6, hb6⟩; obtain ⟨rfl, rfl⟩ := ScriptTo.one hs3.out s6; have hP6 := Lib.hid p6; have hB6 : Hid (Below w.heap.size w x6) := Lib.hid (by first | exact hB3.out.trans (hb6.mono hB3.out.size) | exact hB3d.out.trans (hb6.mono hB3d.out.size)); have hP36 : Hid (TxR x6 x6.heap.size (A3, n3, c3) x) := Lib.hid (by first | exact hP3.out.up hb6 | exact hP3d.out.up hb6); clear p6 s6))
    clear r0 r1 r2
    go_wp2_with (go_at_call 13; refine (hSm.out _ _ _ _ _ _ _ _ hP36.out hP6.out).mono ?_; rintro e w7 ⟨rfl, q7⟩; have hB7 := Lib.hid (hB6.out.trans (q7.mono hB6.out.size)); clear q7)
    go_ret
    exact ⟨rfl, hB7.out⟩
end
end Go.Proofs.YtoopdgohdeddoaaGreatDoor
/- Proved here, without conditions: rows, and boxes, of different types lie in different blocks. -/
namespace Go.Proofs.YtoopdgohdeddoaaGreatDoor
open Go.RowKit
set_option linter.unusedVariables false

/-- Two rows of different types. -/
theorem rows_apart {w : World} {b1 b2 n m s1 s2 : Nat} {e1 e2 : TypeId} {v u : Value} {xs ys : List Value} (h : w.ownsRow b1 e1 s1 v n xs) (k : w.ownsRow b2 e2 s2 u m ys) (hne : e1 ≠ e2) : ∀ j, v.ownBlock = some j → u.ownBlock ≠ some j := by
  intro j hj e
  rcases h.2 with ⟨rfl, _⟩ | ⟨g, cap, cur, rfl, _, hg, _⟩
  · simp [Value.ownBlock] at hj
  · rcases k.2 with ⟨rfl, _⟩ | ⟨g', cap', cur', rfl, _, hg', _⟩
    · simp [Value.ownBlock] at e
    · simp only [Value.ownBlock, Option.some.injEq] at e hj
      rw [e, ← hj, hg] at hg'
      injection hg' with hg'
      simp at hg'
      exact hne hg'.2
theorem cells_not_row {W : World} {L : Nat} {C : Array Value} {t e : TypeId} (h : W.heap[L]? = some (.cells C t (0, 0))) (hte : t ≠ e) {base size k : Nat} {v : Value} {xs : List Value} (hr : W.ownsRow base e size v k xs) : v.ownBlock ≠ some L := by
  rcases hr.2 with ⟨rfl, _⟩ | ⟨g, cap, cur, rfl, _, hgb, _⟩
  · simp [Value.ownBlock]
  · intro e'
    obtain rfl : g = L := by simpa [Value.ownBlock] using e'
    have := h.symm.trans hgb
    simp at this
    exact hte this.2
theorem box_ne {W : World} {a b : Nat} {C D : Array Value} {s t : TypeId} (h : W.heap[a]? = some (.cells C s (0, 0))) (k : W.heap[b]? = some (.cells D t (0, 0))) (hne : s ≠ t) : a ≠ b := by
  rintro rfl
  have := h.symm.trans k
  simp at this
  exact hne this.2
end Go.Proofs.YtoopdgohdeddoaaGreatDoor
/- Proved here: append of what reads as a list, and where it lies then. -/
namespace Go.Proofs.YtoopdgohdeddoaaGreatDoor
open Go.RowKit
set_option linter.unusedVariables false

section
variable {P : Program} (w : World)
/-- append of what reads as a list, and where it lies then. -/
theorem run_append_readsL (base : Nat) (t ty e : TypeId) (i : TypeInfo) (z : Value) (bytes : Nat) (ht : P.underlying t = some (.slice e)) (hi : P.info? e = some i) (hz : i.zero = some z)
    (hsize : i.size = 1) (hby : i.bytes = bytes) (hzs : z.cells.size = 1)
    (v : Value) (n : Nat) (xs : List Value) (hown : w.ownsRow base e 1 v n xs)
    (B : Nat) (A : Option Addr) (m c : Nat) (news : List Value) (hr : Reads w B A m news) (h1 : ∀ u ∈ news, u.oneCell' = true)
    (h63 : n + m ≤ maxLen) (hbytes : (n + m) * bytes ≤ 140737488355328) (hbase : base ≤ w.heap.size) :
    ∃ v' w', (Builtin.append_ #[t, t] ty #[v, .slice A m c]).run P w = .ok v' w' ∧ w'.ownsRow base e 1 v' (n + m) (xs ++ news) ∧ w.grownBy w' v.ownBlock ∧ (v'.ownBlock = v.ownBlock ∨ v'.ownBlock = some w.heap.size) := by
  rcases A with _ | ad
  · have hm : m = 0 := by
      rcases Nat.eq_zero_or_pos m with h0 | h0
      · exact h0
      · obtain ⟨_, _, h, _⟩ := hr.2 h0
        cases h
    subst hm
    have hn : news = [] := List.eq_nil_of_length_eq_zero hr.1
    subst hn
    exact ⟨v, w, run_append_of_nil w base t ty e i ht hi v n xs hown c, by simpa using hown, World.grownBy.refl w _, .inl rfl⟩
  · have hcells : ∀ j u, news[j]? = some u → w.cell? (ad.add j) = some u := by
      intro j u hu
      rcases Nat.eq_zero_or_pos m with h0 | h0
      · subst h0
        have hn : news = [] := List.eq_nil_of_length_eq_zero hr.1
        subst hn
        simp at hu
      · obtain ⟨b, o, h, _, hc⟩ := hr.2 h0
        injection h with h
        subst h
        rw [show (⟨b, o, none⟩ : Addr).add j = ⟨b, o + j, none⟩ from by unfold Addr.add; split <;> simp_all]
        exact hc j u hu
    obtain ⟨v', w', hrun, h2, h3, _, h5⟩ := run_append_own_at (P := P) w base t ty e i z 1 bytes ht hi hz hsize hby hzs (by decide) v n xs hown ad m c news (by rw [hr.1, Nat.mul_one]) hcells h1 h63 hbytes hbase
    exact ⟨v', w', hrun, h2, h3, h5⟩
theorem wpList_append_readsL {ops : Array Oper} {rest : List Oper} {o : Oper} {a : Act} {Q : Exit → Act → World → Prop} (hgd : o.guard = none) (s x : Operand) (t : TypeId)
    (ho : o.op = .call { callee := .builtin .append, args := #[s, x], argTypes := #[t, t] })
    (base : Nat) (e : TypeId) (i : TypeInfo) (z : Value) (bytes : Nat) (ht : P.underlying t = some (.slice e)) (hi : P.info? e = some i) (hz : i.zero = some z)
    (hsize : i.size = 1) (hby : i.bytes = bytes) (hzs : z.cells.size = 1)
    (v : Value) (n : Nat) (xs : List Value) (hs : a.eval s = v) (hown : w.ownsRow base e 1 v n xs)
    (B : Nat) (A : Option Addr) (m c : Nat) (news : List Value) (hx : a.eval x = .slice A m c) (hr : Reads w B A m news) (h1 : ∀ u ∈ news, u.oneCell' = true)
    (h63 : n + m ≤ maxLen) (hbytes : (n + m) * bytes ≤ 140737488355328) (hbase : base ≤ w.heap.size)
    (h : ∀ v' w', w'.ownsRow base e 1 v' (n + m) (xs ++ news) → w.grownBy w' v.ownBlock → (v'.ownBlock = v.ownBlock ∨ v'.ownBlock = some w.heap.size) → wpList P ops Q rest (a.put o.dst v') w') : wpList P ops Q (o :: rest) a w :=
  wpList_plain hgd fun _ hK => by
    obtain ⟨v', w', hrun, h2, h3, h4⟩ := run_append_readsL (P := P) w base t o.type e i z bytes ht hi hz hsize hby hzs v n xs hown B A m c news hr h1 h63 hbytes hbase
    unfold Oper.wp execOp
    simp only [ho, resolve, invoke, builtin, Sem.run_bind, Sem.run_pure, Result.andThen_ok, List.map_toArray, List.map_cons, List.map_nil, hs, hx, hrun]
    exact hK _ _ (h v' w' h2 h3 h4)
end
end Go.Proofs.YtoopdgohdeddoaaGreatDoor
/- Proved here: the contract of the closure that the landed Script puts lines with. -/
namespace Go.Proofs.YtoopdgohdeddoaaGreatDoor
open Go.RowKit
set_option linter.unusedVariables false
set_option maxRecDepth 100000

/-- The box of the script: these texts, of the call's own. -/
structure Pn (w0 : World) (Bl : Nat) (wr : World) (v : Value) (xs : Txs) : Prop where
  bl : Boxed wr Bl 22 v
  own : TxO w0 wr v xs
  low : w0.heap.size ≤ Bl
/-- The closure. -/
def putFn (Bl : Nat) : Value := .func (.func 21) #[] #[.pointer (some ⟨Bl, 0, none⟩)]
/-- What putting leaves. -/
def PnPut (w0 : World) (Bl : Nat) (wr w' : World) (v : Value) (zs : Txs) : Prop :=
  ∃ v', Pn w0 Bl w' v' zs ∧ But (fun k => k = Bl ∨ v.ownBlock = some k) wr w' ∧ (v'.ownBlock = v.ownBlock ∨ ∃ k, v'.ownBlock = some k ∧ wr.heap.size ≤ k)

section
variable {w0 wr w1 w2 : World} {Bl L : Nat} {v v' : Value} {xs ys zs : Txs} {C : Array Value} {t : TypeId}
theorem Pn.up (h : Pn w0 Bl wr v xs) (hb : Below wr.heap.size wr w1) : Pn w0 Bl w1 v xs := ⟨(hb.block _ h.bl.lt).trans h.bl, h.own.call hb, h.low⟩
theorem Pn.put (h : Pn w0 Bl wr v xs) : PnPut w0 Bl wr wr v xs := ⟨v, h, But.refl _ _, .inl rfl⟩
theorem PnPut.ahead (hb : Below wr.heap.size wr w1) (h : PnPut w0 Bl w1 w2 v zs) : PnPut w0 Bl wr w2 v zs := by
  obtain ⟨v', h1, h2, h3⟩ := h
  refine ⟨v', h1, (But.of_below (F := fun k => k = Bl ∨ v.ownBlock = some k) hb fun k hk _ => hk).trans h2 fun k e => .inl e, h3.imp id ?_⟩
  rintro ⟨k, e, hk⟩
  exact ⟨k, e, Nat.le_trans hb.size hk⟩
theorem PnPut.behind (h : PnPut w0 Bl wr w1 v zs) (hb : Below w1.heap.size w1 w2) : PnPut w0 Bl wr w2 v zs := by
  obtain ⟨v', h1, h2, h3⟩ := h
  exact ⟨v', h1.up hb, h2.trans (But.of_below (F := fun k => k = Bl ∨ v.ownBlock = some k) hb fun k hk _ => hk) fun k e => .inl e, h3⟩
theorem PnPut.step (hb : But (fun k => k = Bl ∨ v.ownBlock = some k) wr w1) (hl : v'.ownBlock = v.ownBlock ∨ ∃ k, v'.ownBlock = some k ∧ wr.heap.size ≤ k) (h : PnPut w0 Bl w1 w2 v' zs) : PnPut w0 Bl wr w2 v zs := by
  obtain ⟨v2, h1, h2, h3⟩ := h
  refine ⟨v2, h1, hb.trans h2 fun k e => ?_, ?_⟩
  · rcases e with e | e
    · exact .inl (.inl e)
    · rcases hl with hl | ⟨j, e2, hj⟩
      · exact .inl (.inr (hl ▸ e))
      · rw [e2] at e
        injection e with e
        subst e
        exact .inr hj
  · rcases h3 with h3 | ⟨k, e, hk⟩
    · rw [h3]; exact hl
    · exact .inr ⟨k, e, Nat.le_trans hb.size hk⟩
/-- What lies in a block of another type stays. -/
theorem PnPut.keeps (hS : Pn w0 Bl wr v xs) (h : PnPut w0 Bl wr w1 v zs) (hL : wr.heap[L]? = some (.cells C t (0, 0))) (h1 : t ≠ 22) (h2 : t ≠ 9) : w1.heap[L]? = some (.cells C t (0, 0)) := by
  obtain ⟨v', -, hb, -⟩ := h
  refine (hb.block L (Array.getElem?_eq_some_iff.1 hL).1 ?_).trans hL
  rintro (e | e)
  · exact box_ne hL hS.bl h1 e
  · exact cells_not_row hL h2 hS.own.own e
/-- Texts that were made behind the box stay. -/
theorem PnPut.owns {wa : World} {u : Value} {l : Txs} (h : PnPut w0 Bl wr w1 v zs) (hT : TxO wa wr u l) (hB : Bl < wa.heap.size) (hv : ∀ k, v.ownBlock = some k → k < wa.heap.size) : w1.ownsRow wa.heap.size 9 1 u l.length (l.map fun s => .string (str s)) := by
  obtain ⟨v', -, hb, -⟩ := h
  refine ownsRow_kept hT.own fun k e => hb.block k (hT.own.lt k e).2 ?_
  have hk := (hT.own.lt k e).1
  rintro (e2 | e2)
  · omega
  · have := hv k e2
    omega
end

set_option maxHeartbeats 1000000 in
theorem pnPut_any (w0 : World) (Bl : Nat) (A : Option Addr) (n c B : Nat) (v : Value) (xs ys : Txs) (wr : World) (hS : Pn w0 Bl wr v xs) (hA : Strs wr B A n ys) (hm : xs.length + n ≤ 1000000000) :
    Calls Tryz.prog 21 #[.slice A n c, .pointer (some ⟨Bl, 0, none⟩)] wr fun e w' => e = .returned (.tuple #[]) ∧ PnPut w0 Bl wr w' v (xs ++ ys) := by
  obtain ⟨i0, hi, hzz⟩ := Option.map_eq_some_iff.1 infoStr
  simp only [Prod.mk.injEq] at hzz
  obtain ⟨hz0, hz1, hz2⟩ := hzz
  have hl := Lib.hid hA.len
  have hle : Hid (xs.length + n ≤ maxLen ∧ (xs.length + n) * 16 ≤ 140737488355328) := Lib.hid ⟨by unfold maxLen; omega, by omega⟩
  have x0 := hS.bl.cell
  have hown := hS.own.own
  have hsz := hS.own.below.size
  have hAh := Lib.hid hA
  have hput : Hid (∀ (v' : Value) (w2 : World), w2.ownsRow w0.heap.size 9 1 v' (xs.length + n) ((xs.map fun s => .string (str s)) ++ ys.map fun s => .string (str s)) → wr.grownBy w2 v.ownBlock → (v'.ownBlock = v.ownBlock ∨ v'.ownBlock = some wr.heap.size) →
      w2.cell? ⟨Bl, 0, none⟩ = some v ∧ w2.frozen? ⟨Bl, 0, none⟩ = false ∧ PnPut w0 Bl wr (w2.setCell ⟨Bl, 0, none⟩ v') v (xs ++ ys)) := Lib.hid (fun v' w2 hown2 hg2 hloc2 => by
    have n1 : some Bl ≠ v.ownBlock := fun e => cells_not_row hS.bl (by decide) hS.own.own e.symm
    have b2 := hS.bl.kept hg2 n1
    have hT := hS.own.put hA.len hown2 hg2
    have hs : But (fun k => k = Bl) w2 (w2.setCell ⟨Bl, 0, none⟩ v') := But.setCell (F := fun j => j = Bl) w2 (p := ⟨Bl, 0, none⟩) rfl _
    have n2 := cells_not_row b2 (by decide) hT.own
    refine ⟨b2.cell, b2.frozen, v', ⟨b2.set _, ⟨ownsRow_kept hT.own fun k e => hs.block k (hT.own.lt k e).2 (fun e' => n2 (by rw [e, e'])), hT.below.trans (hs.below hT.below.size (by rintro k rfl; exact hS.low))⟩, hS.low⟩, (But.of_grown (F := fun k => k = Bl ∨ v.ownBlock = some k) hg2 fun k e => .inr e).trans hs fun k e => .inl (.inl e), ?_⟩
    exact hloc2.imp id fun e => ⟨_, e, Nat.le_refl _⟩)
  clear hS hA hm
  go_enter Tryz.func21, Tryz.ntmps21
  go_wp2_with (at_builtin; refine wpList_append_readsL _ rfl _ _ 22 rfl w0.heap.size 9 i0 (.string ByteArray.empty) 16 Tryz.underlying22 hi hz0 hz1 hz2 rfl v xs.length _ rfl hown B A n c _ rfl hAh.out (strs_one _) hle.out.1 hle.out.2 hsz ?_; intro v' w2 hown2 hg2 hloc2; obtain ⟨x1, x2, hfin⟩ := hput.out v' w2 hown2 hg2 hloc2; have hfh := Lib.hid hfin; obtain ⟨A2, c2, rfl, -, -, -⟩ := own_slice hown2; clear hown2 hg2 hloc2 hfin x0)
  go_end0
  exact ⟨rfl, hfh.out⟩
end Go.Proofs.YtoopdgohdeddoaaGreatDoor
/- Proved here: the contract of slices.Concat (and Grow) over lists of texts: one behind the other, in a row of the call's own. -/
namespace Go.Proofs.YtoopdgohdeddoaaGreatDoor
open Go.RowKit
set_option linter.unusedVariables false
set_option maxRecDepth 100000

theorem flat_step {l : List Txs} {k : Nat} {d : Txs} (h : l[k]? = some d) : (l.take (k + 1)).flatten = (l.take k).flatten ++ d := by
  rw [take_at h, List.flatten_append]
  simp
theorem flat_le (l : List Txs) (k : Nat) : (l.take k).flatten.length ≤ l.flatten.length := by
  have h : l.flatten = (l.take k).flatten ++ (l.drop k).flatten := by rw [← List.flatten_append, List.take_append_drop]
  rw [h, List.length_append]
  omega

set_option maxHeartbeats 1000000 in
theorem growT_any (n : Nat) (w : World) (hn : n ≤ 10000000) :
    Calls Tryz.prog 116 #[.slice none 0 0, .int .i64 n] w fun e w' => OwnT w w' e [] := by
  by_cases h1 : 1 ≤ n
  rotate_left
  · obtain rfl : n = 0 := by omega
    have hfin := Lib.hid (show OwnT w w (.returned (.slice none 0 0)) [] from ⟨_, rfl, World.ownsRow_nil _ _ _ _, Below.refl _ _⟩)
    clear h1 hn
    go_enter Tryz.func116, Tryz.ntmps116
    go_wp2
    go_ret
    exact hfin.out
  obtain ⟨i0, hi, hz⟩ := Option.map_eq_some_iff.1 infoStr
  simp only [Prod.mk.injEq] at hz
  obtain ⟨hz0, hz1, hz2⟩ := hz
  have hap := Lib.run_append_nil_zeros (P := Tryz.prog) w 22 3 22 9 i0 (.string ByteArray.empty) .i64 .i64 Tryz.underlying22 Tryz.underlying3 hi hz0 n (by omega) (by rw [hz1]; decide) (by omega) (by rw [hz2]; omega)
  have hge := grownCap_ge w n 0 9
  have hle := grownCap_le_maxLen w n 0 9 (by unfold maxLen; omega)
  obtain ⟨C, hC⟩ : ∃ C, grownCap w n 0 9 = C := ⟨_, rfl⟩
  rw [hC] at hap hge hle
  obtain ⟨cs, hcs⟩ : ∃ cs, Builtin.zeroCells (Value.string ByteArray.empty).cells n ++ Builtin.zeroCells (Value.string ByteArray.empty).cells (C - n) = cs := ⟨_, rfl⟩
  have hsz : cs.size = C * 1 := by rw [← hcs]; simp [size_zeroCells, Value.cells]; omega
  rw [hcs] at hap
  have hw2 : (w.drew.alloc (.cells cs 9)).ownsRow w.heap.size 9 1 (.slice (some ⟨w.heap.size, 0, none⟩) 0 C) 0 [] :=
    ⟨rfl, .inr ⟨w.heap.size, C, cs, rfl, Nat.le_refl _, heap_alloc_new w.drew _, Nat.zero_le _, hle, hsz, by simp⟩⟩
  have hB : Below w.heap.size w (w.drew.alloc (.cells cs 9)) := (Below.refl _ _).drew.alloc (Nat.le_refl _) _
  have hfin := Lib.hid (show TxO w (w.drew.alloc (.cells cs 9)) (.slice (some ⟨w.heap.size, 0, none⟩) 0 C) [] from ⟨hw2, hB⟩)
  have hs0 : ∀ W : World, (Instr.slice 22 (.slice none 0 0) none (some (.int .i64 0)) none).run Tryz.prog W = .ok (.slice none 0 0) W := fun W => by
    rw [run_slice_h (P := Tryz.prog) W 22 none 0 0 Tryz.underlying22 .i64 0 (by omega) (by omega)]
    go_simp
  obtain ⟨G, hG⟩ : ∃ G, w.heap.size = G := ⟨_, rfl⟩
  have hs1 : ∀ W : World, (Instr.slice 22 (.slice (some ⟨G, 0, none⟩) n C) none (some (.int .i64 0)) none).run Tryz.prog W = .ok (.slice (some ⟨G, 0, none⟩) 0 C) W := fun W => by
    rw [run_slice_h (P := Tryz.prog) W 22 (some ⟨G, 0, none⟩) n C Tryz.underlying22 .i64 0 (by omega) (by omega)]
    go_simp
  rw [hG] at hap
  have hGh := Lib.hid hG
  have hn0 : (0 : Int) < (n : Int) := by omega
  have haph := Lib.hid hap
  clear hC hcs hsz hw2 hB hge hle hap hG
  go_enter Tryz.func116, Tryz.ntmps116
  go_wp2_with (at_builtin; refine Lib.wpList_append_run _ rfl _ _ _ _ rfl _ _ rfl rfl _ _ haph.out ?_)
  go_ret
  exact ⟨_, rfl, by rw [← hGh.out]; exact hfin.out⟩

set_option maxHeartbeats 2000000 in
theorem catT_any (A : Option Addr) (n c : Nat) (rows : List Slc) (lists : List Txs) (w : World) (hn : n ≤ 1000) (ht : lists.flatten.length ≤ 1000000) (hA : RowsT w w.heap.size A n rows lists) :
    Calls Tryz.prog 103 #[.slice A n c] w fun e w' => OwnT w w' e lists.flatten := by
  obtain ⟨i0, hi, hz⟩ := Option.map_eq_some_iff.1 infoStr
  simp only [Prod.mk.injEq] at hz
  obtain ⟨hz0, hz1, hz2⟩ := hz
  have hl := hA.len
  obtain ⟨N, hN⟩ : ∃ N, lists.flatten.length = N := ⟨_, rfl⟩
  have hlast : Hid (lists.take n = lists) := Lib.hid (List.take_of_length_le (by omega))
  have hG := Lib.hid (fun W => growT_any N W (by omega))
  have hAh := Lib.hid hA
  have hfl : Hid (∀ k, (lists.take k).flatten.length ≤ 1000000) := Lib.hid (fun k => Nat.le_trans (flat_le lists k) (by omega))
  have hNh := Lib.hid hN
  clear hA hN hl ht
  go_enter Tryz.func103, Tryz.ntmps103
  go_wp2
  go_loop [3, 11] (fun s i => ∃ k S : Nat, k ≤ n ∧ i = .int .i64 k ∧ s = .int .i64 S ∧ Hid ((lists.take k).flatten.length = S)) (fun _ i => n - (intOf i).toNat)
  case atStart => exact ⟨0, 0, Nat.zero_le _, rfl, rfl, Lib.hid (by simp)⟩
  case round =>
    obtain ⟨k, S, hk, rfl, rfl, hS⟩ := hrel
    by_cases hlt : k < n
    · obtain ⟨b, o, A1, n1, c1, ss, rfl, hb, hss, hrr, hc, hnc, hcm, hstr⟩ := hAh.out.at_ (k := k) hlt
      have hi1 : (0 : Int) ≤ (k : Int) := by omega
      have hi2 : (k : Int) < (n : Int) := by omega
      have hn1 : ss.length = n1 := hstr.len
      obtain ⟨S', hS'⟩ : ∃ S', S + n1 = S' := ⟨_, rfl⟩
      have hnx : Hid ((lists.take (k + 1)).flatten.length = S') := Lib.hid (by rw [flat_step hss, List.length_append, hS.out, hn1, hS'])
      have hb' : S' ≤ 1000000 := by rw [← hnx.out]; exact hfl.out _
      have hsum : (S : Int) + (n1 : Int) = (S' : Int) := by omega
      have hneg : ¬ (S' : Int) < 0 := by omega
      clear hstr hss hrr hn1 hS'
      go_wp2
      go_round
      case rel => exact ⟨k + 1, S', by omega, by go_num, rfl, hnx⟩
      case measure => simp [intOf]; omega
    · obtain rfl : k = n := by omega
      obtain rfl : S = N := by rw [← hS.out, hlast.out]; exact hNh.out
      go_wp2_with (go_at_call 116; refine (hG.out _).mono ?_; rintro e w1 ⟨v, rfl, hT0⟩; have hT0h := Lib.hid hT0; clear hT0)
      go_loopw [6, 27] (fun sv i wr => ∃ (v : Value) (j : Nat), v = sv ∧ j ≤ k ∧ i = .int .i64 j ∧ Hid (TxO w wr v (lists.take j).flatten)) (fun _ i _ => k - (intOf i).toNat)
      case atStart => exact ⟨v, 0, rfl, Nat.zero_le _, rfl, Lib.hid (by simpa using hT0h.out)⟩
      case round =>
        clear hT0h
        obtain ⟨v, j, rfl, hj, rfl, hT⟩ := hrel
        obtain ⟨wo, rfl⟩ : ∃ wo : World, wo = wr := ⟨_, rfl⟩
        by_cases hlt : j < k
        · obtain ⟨b, o, A1, n1, c1, ss, rfl, hb, hss, hrr, hc, hnc, hcm, hstr⟩ := (hAh.out.up hT.out.below).at_ (k := j) hlt
          have hi1 : (0 : Int) ≤ (j : Int) := by omega
          have hi2 : (j : Int) < (k : Int) := by omega
          have hn1 : Hid (ss.length = n1) := Lib.hid hstr.len
          obtain ⟨ys, hys⟩ : ∃ ys, (lists.take j).flatten = ys := ⟨_, rfl⟩
          have hnx : Hid ((lists.take (j + 1)).flatten = ys ++ ss) := Lib.hid (by rw [flat_step hss, hys])
          rw [hys] at hT
          have hm : Hid (ys.length + n1 ≤ maxLen ∧ (ys.length + n1) * 16 ≤ 140737488355328) := Lib.hid (by have := hfl.out (j + 1); rw [hnx.out, List.length_append, hn1.out] at this; exact ⟨by unfold maxLen; omega, by omega⟩)
          have hown := hT.out.own
          have hsz := hT.out.below.size
          have hstrh := Lib.hid hstr
          clear hstr hss hrr hys
          go_wp2_with (at_builtin; refine wpList_append_reads _ rfl _ _ 22 rfl w.heap.size 9 i0 (.string ByteArray.empty) 16 Tryz.underlying22 hi hz0 hz1 hz2 rfl v ys.length _ rfl hown wo.heap.size A1 n1 c1 _ rfl hstrh.out (strs_one _) hm.out.1 hm.out.2 hsz ?_; intro v2 w2 hown2 hg2; have hT2 := Lib.hid (hT.out.put hn1.out hown2 hg2); clear hown2 hg2)
          go_roundw
          case rel => exact ⟨v2, j + 1, rfl, by omega, by go_num, Lib.hid (by rw [hnx.out]; exact hT2.out)⟩
          case measure => simp [intOf]; omega
        · obtain rfl : j = k := by omega
          go_wp2
          go_ret
          exact ⟨v, rfl, by have := hT.out; rw [hlast.out] at this; exact this⟩
end Go.Proofs.YtoopdgohdeddoaaGreatDoor
/- What the statements ask of dots.Block. -/
namespace Go.Proofs.YtoopdgohdeddoaaGreatDoor
open Go.RowKit
set_option linter.unusedVariables false
set_option maxRecDepth 100000

/-- The contract of dots.Block. -/
def DotBlockOk : Prop := ∀ (A : Option Addr) (n c : Nat) (l : Txs) (w : World), smallD l → TxR w w.heap.size (A, n, c) l → Calls Tryz.prog 104 #[.slice A n c] w fun e w' => TxsB w w' e (blockD l, dottedB l)
end Go.Proofs.YtoopdgohdeddoaaGreatDoor
/- Proved here, without conditions: a string cut ahead, or behind. -/
namespace Go.Proofs.YtoopdgohdeddoaaGreatDoor
open Go.RowKit
set_option linter.unusedVariables false

theorem slice_str_from (t : Tx) (k : Nat) (hk : k ≤ t.length) (W : World) : (Instr.slice 9 (.string (str t)) (some (.int .i64 (k : Int))) none none).run Tryz.prog W = .ok (.string (str (t.drop k))) W := by
  rw [run_slice_string_l (P := Tryz.prog) W 9 (str t) Tryz.underlying9 .i64 (k : Int) (by omega) (by rw [str_size]; omega), Int.toNat_natCast]
  congr 2
  apply ByteArray.ext
  simp [str, ByteArray.extract, ByteArray.copySlice]
  show List.take (t.length - k) _ = _
  rw [List.take_of_length_le (by rw [List.length_drop]; exact Nat.le_refl _)]
theorem str_take (t : Tx) (k : Nat) (hk : k ≤ t.length) : (str t).extract 0 k = str (t.take k) := by
  apply ByteArray.ext
  simp [str, ByteArray.extract, ByteArray.copySlice, hk]
theorem slice_str_to (t : Tx) (k : Nat) (hk : k ≤ t.length) (W : World) : (Instr.slice 9 (.string (str t)) none (some (.int .i64 (k : Int))) none).run Tryz.prog W = .ok (.string (str (t.take k))) W := by
  rw [run_slice_string_h (P := Tryz.prog) W 9 (str t) Tryz.underlying9 .i64 (k : Int) (by omega) (by rw [str_size]; omega), Int.toNat_natCast, str_take t k hk]
end Go.Proofs.YtoopdgohdeddoaaGreatDoor
/- Proved here: the contract of strings.HasPrefix at a point, and of the closure of the landed dots.Block. -/
namespace Go.Proofs.YtoopdgohdeddoaaGreatDoor
open Go.RowKit
set_option linter.unusedVariables false
set_option maxRecDepth 100000

set_option maxHeartbeats 1000000 in
theorem prefS_any (t : Tx) (w : World) (ht : t.length ≤ 1000000) : Calls Tryz.prog 127 #[.string (str t), .string ⟨#[46]⟩] w fun e w' => e = .returned (.bool (pointB t)) ∧ w = w' := by
  have hp : (⟨#[46]⟩ : ByteArray).size = 1 := rfl
  cases t with
  | nil =>
    have hz : (str []).size = 0 := rfl
    obtain ⟨S, hS⟩ : ∃ S, str [] = S := ⟨_, rfl⟩
    rw [hS] at hz ⊢
    have hb : pointB [] = false := rfl
    rw [hb]
    clear hS
    go_enter Tryz.func127, Tryz.ntmps127
    go_wp2
    go_ret
    exact ⟨rfl, rfl⟩
  | cons c r =>
    have hz : (str (c :: r)).size = r.length + 1 := by rw [str_size]; rfl
    have hge : (1 : Int) ≤ ((str (c :: r)).size : Int) := by rw [hz]; omega
    have hsl : ∀ W, (Instr.slice 9 (.string (str (c :: r))) none (some (.int .i64 1)) none).run Tryz.prog W = .ok (.string (str [c])) W := fun W => slice_str_to (c :: r) 1 (by simp) W
    have hres : Hid (pointB (c :: r) = ((str [c]).toList == [46])) := Lib.hid (by
      rw [Lib.toList_data, str_data]
      unfold pointB
      rw [Bool.eq_iff_iff]
      simp)
    obtain ⟨S, hS⟩ : ∃ S, str (c :: r) = S := ⟨_, rfl⟩
    obtain ⟨U, hU⟩ : ∃ U, str [c] = U := ⟨_, rfl⟩
    rw [hS, hU] at hsl
    rw [hS] at hge ⊢
    rw [hU] at hres
    have hsz : ¬ (S.size : Int) < 1 := by omega
    clear hS hU hz ht
    go_enter Tryz.func127, Tryz.ntmps127
    go_wp2
    go_ret
    exact ⟨ret_bool (by rw [hres.out]), rfl⟩
theorem pref_any (t : Tx) (w : World) (ht : t.length ≤ 1000000) : Calls Tryz.prog 119 #[.string (str t), .string ⟨#[46]⟩] w fun e w' => e = .returned (.bool (pointB t)) ∧ w = w' := by
  have h := Lib.hid (prefS_any t w ht)
  go_enter Tryz.func119, Tryz.ntmps119
  go_wp2_with (go_at_call 127; refine h.out.mono ?_; rintro e w' ⟨rfl, rfl⟩)
  go_ret
  exact ⟨rfl, rfl⟩
/-- What a closure that makes a text otherwise leaves: the box Bd tells whether some began with a point. -/
def BoxB (Bd : Nat) (w w' : World) (b : Bool) : Prop := Boxed w' Bd 4 (.bool b) ∧ But (fun k => k = Bd) w w'
/-- A closure that makes each text otherwise, and notes whether it is one of those of p. -/
def ChF (g2 Bd : Nat) (f : Tx → Tx) (p : Tx → Bool) : Prop :=
  ∀ (b : Bool) (t : Tx) (w : World), t.length ≤ 1000000 → Boxed w Bd 4 (.bool b) → Calls Tryz.prog g2 #[.string (str t), .pointer (some ⟨Bd, 0, none⟩)] w fun e w' => e = .returned (.string (str (f t))) ∧ BoxB Bd w w' (b || p t)

theorem blockF_any (Bd : Nat) : ChF 118 Bd dotT pointB := by
  intro b t w ht hb
  have h := Lib.hid (pref_any t w ht)
  have c0 := hb.cell
  have c1 := hb.frozen
  have hset := Lib.hid (And.intro (hb.set (.bool true)) (But.setCell (F := fun k => k = Bd) w (p := ⟨Bd, 0, none⟩) rfl (.bool true)))
  have hsz : ¬ 9223372036854775807 < 1 + (str t).size := by rw [str_size]; omega
  obtain ⟨p, hp⟩ : ∃ p, pointB t = p := ⟨_, rfl⟩
  rw [hp] at h ⊢
  have hbh := Lib.hid hb
  cases p
  · rw [(plain_dot hp).1]
    clear hp hb
    go_enter Tryz.func118, Tryz.ntmps118
    go_wp2_with (go_at_call 119; refine h.out.mono ?_; rintro e w' ⟨rfl, rfl⟩)
    go_ret
    exact ⟨rfl, by rw [Bool.or_false]; exact hbh.out, But.refl _ _⟩
  · have hd : Hid ((⟨#[46]⟩ : ByteArray) ++ str t = str (dotT t)) := Lib.hid (by rw [str_dot]; unfold dotT; rw [if_pos hp])
    obtain ⟨D, hD⟩ : ∃ D, str (dotT t) = D := ⟨_, rfl⟩
    rw [hD] at hd ⊢
    clear hp hb hD
    go_enter Tryz.func118, Tryz.ntmps118
    go_wp2_with (go_at_call 119; refine h.out.mono ?_; rintro e w' ⟨rfl, rfl⟩)
    go_ret
    exact ⟨ret_string (by rw [← hd.out]), by rw [Bool.or_true]; exact hset.out.1, hset.out.2⟩
end Go.Proofs.YtoopdgohdeddoaaGreatDoor
/- Proved here: a slice of texts, just made; a row of texts is a slice of the call's own. -/
namespace Go.Proofs.YtoopdgohdeddoaaGreatDoor
open Go.RowKit
set_option linter.unusedVariables false
set_option maxRecDepth 100000

theorem make_txs (n : Nat) (hn : n ≤ 1000000) (w : World) : (Instr.makeSlice 22 (.int .i64 (n : Int)) (.int .i64 (n : Int))).run Tryz.prog w = .ok (.slice (some ⟨w.heap.size, 0, none⟩) n n) (w.alloc (.cells (madeCells #[.string ByteArray.empty] n) 9)) := by
  obtain ⟨i, hi, hzz⟩ := Option.map_eq_some_iff.1 infoStr
  simp only [Prod.mk.injEq] at hzz
  obtain ⟨hz, hs, hb⟩ := hzz
  have := run_make (P := Tryz.prog) w 22 9 i (.string ByteArray.empty) Tryz.underlying22 hi hz .i64 .i64 n n (by omega) (Int.le_refl _) (by rw [hb]; omega) (by omega)
  simp only [Int.toNat_natCast, hs, Nat.mul_one] at this
  exact this
/-- A row of texts is a slice of the call's own. -/
theorem row_own {w : World} {G n base : Nat} {f : Nat → Value} {xs : Txs} (h : w.rowIs G 9 n f) (hl : xs.length = n) (hm : n ≤ maxLen) (hb : base ≤ G) (hx : ∀ i t, xs[i]? = some t → f i = .string (str t)) :
    w.ownsRow base 9 1 (.slice (some ⟨G, 0, none⟩) n n) n (xs.map fun s => .string (str s)) := by
  obtain ⟨c, hh, hs, hc⟩ := h
  refine ⟨by simpa using hl, .inr ⟨G, n, c, rfl, hb, hh, Nat.le_refl _, hm, by omega, ?_⟩⟩
  rw [Nat.mul_one]
  apply List.ext_getElem?
  intro i
  by_cases hi : i < n
  · rw [List.getElem?_take, if_pos hi, Array.getElem?_toList, hc i hi, List.getElem?_map, List.getElem?_eq_getElem (by omega), Option.map_some, hx i _ (List.getElem?_eq_getElem (by omega))]
  · rw [List.getElem?_take, if_neg hi, List.getElem?_map, List.getElem?_eq_none (by omega)]
    rfl
end Go.Proofs.YtoopdgohdeddoaaGreatDoor
