/- Proved here: texts joined: PkChoose, FoTake, FoTold. -/
import Derived.Test.YtoephlkfejcadaaGreatBf20
import Derived.Test.YtoephlkfejcadaaGreatBf25
import Derived.Test.YtoephlkfejcadaaGreatBf28
import Derived.Test.YtoephlkfejcadaaGreatBf44
import Derived.Deep.DeepCutAuto
import Derived.Deep.RegionHeld3
import Derived.Outline
import Derived.Defers
import Derived.WalkSpells
/- Proved here: the contract of the landed pick.Choose. -/
namespace Go.Proofs.YtoephlkfejcadaaGreat
open Go.RowKit
set_option linter.unusedVariables false

theorem chosen_yes {z : Int} {k : Nat} (hz : z = (k : Int) + 1) (t bs : Txs) {ss : List Txs} {x : Txs} (h : ss[k]? = some x) : chosen z (true, t, bs, ss) = x := by
  subst hz
  unfold chosen
  simp only [if_true]
  rw [if_pos (by omega), show ((k : Int) + 1 - 1).toNat = k by omega, h]
  rfl
theorem chosen_none {z : Int} (t bs : Txs) {ss : List Txs} (h : ¬ (1 ≤ z ∧ z ≤ ss.length)) : chosen z (true, t, bs, ss) = [] := by
  unfold chosen
  simp only [if_true]
  split
  · rw [List.getElem?_eq_none (by omega)]
    rfl
  · rfl

set_option maxRecDepth 100000 in
set_option maxHeartbeats 4000000 in
theorem choose_ok : PickChooseOk := by
  intro A n c vs ps z w hnc hcm hn hz hsum hA
  have hl := hA.len
  obtain ⟨i0, hi, hzz⟩ := Option.map_eq_some_iff.1 infoStr
  simp only [Prod.mk.injEq] at hzz
  obtain ⟨hz0, hz1, hz2⟩ := hzz
  have hAh := Lib.hid hA
  have hsumh := Lib.hid hsum
  have hst : Hid (TxO w w (.slice none 0 0) (choose (ps.take 0) z)) := Lib.hid ⟨World.ownsRow_nil _ _ _ _, Below.refl _ _⟩
  clear hA hsum hz
  go_enter Tryz.func16, Tryz.ntmps16
  go_wp2
  go_loopw [5, 7, 8, 9, 12] (fun s5 _ _ _ s12 wr => ∃ (i : Nat) (v : Value), i ≤ n ∧ v = s5 ∧ s12 = .int .i64 i ∧ Hid (TxO w wr v (choose (ps.take i) z))) (fun _ _ _ _ s12 _ => n - (intOf s12).toNat)
  case atStart => exact ⟨0, _, Nat.zero_le _, rfl, rfl, hst⟩
  case round =>
    obtain ⟨i, v, hin, rfl, rfl, hT⟩ := hrel
    obtain ⟨wo, rfl⟩ : ∃ wo : World, wo = wr := ⟨_, rfl⟩
    clear hst
    by_cases hlt : i < n
    · obtain ⟨b, o, cf, At, nt, ct, Ab, nb, cb, As, ns, cs, t, bs, ss, rfl, hb, hv, hp, k1, k2, k3, k4, ⟨j1, j2, j3⟩, -, ⟨j4, j5, rr, j6⟩⟩ := (hAh.out.below hT.out.below).at_ (k := i) hlt
      have i1 : (0 : Int) ≤ (i : Int) := by omega
      have i2 : (i : Int) < (n : Int) := by omega
      have hsn := Lib.hid (choose_snoc z hp)
      have hpre1 := choose_pre ps z (i + 1)
      rw [choose_snoc z hp, List.length_append] at hpre1
      have hbe := hT.out.below
      have hsz := hbe.size
      have hb2 : b < wo.heap.size := by omega
      dsimp only at j1 j2 j3 j4 j5 j6
      have hown : Hid (∀ o : Obj, (wo.alloc o).ownsRow w.heap.size 9 1 v (choose (ps.take i) z).length ((choose (ps.take i) z).map fun s => .string (str s)) ∧ w.heap.size ≤ (wo.alloc o).heap.size) := Lib.hid (fun o => ⟨hT.out.own.alloc o, by simp; omega⟩)
      have hput : Hid (∀ (o : Obj) (ys : Txs) (m : Nat) (v' : Value) (w2 : World), ys.length = m → w2.ownsRow w.heap.size 9 1 v' ((choose (ps.take i) z).length + m) (((choose (ps.take i) z).map fun s => .string (str s)) ++ ys.map fun s => .string (str s)) → (wo.alloc o).grownBy w2 v.ownBlock → TxO w w2 v' (choose (ps.take i) z ++ ys)) :=
        Lib.hid (fun o ys m v' w2 h1 h2 h3 => (show TxO w (wo.alloc o) v (choose (ps.take i) z) from ⟨hT.out.own.alloc o, hbe.alloc hsz o⟩).put h1 h2 h3)
      cases cf
      · have hlt2 := j3.len
        have hch : chosen z (false, t, bs, ss) = t := rfl
        rw [hch] at hpre1
        have hsn2 : Hid (choose (ps.take (i + 1)) z = choose (ps.take i) z ++ t) := hsn
        have hle : Hid ((choose (ps.take i) z).length + nt ≤ maxLen ∧ ((choose (ps.take i) z).length + nt) * 16 ≤ 140737488355328) := Lib.hid (by have := hsumh.out; unfold maxLen; omega)
        have hlth := Lib.hid hlt2
        have hrd : Hid (∀ o : Obj, Strs (wo.alloc o) w.heap.size At nt t) := Lib.hid (fun o => Reads.keep j3 fun p hp => World.cell?_alloc_lt _ _ p (by omega))
        clear hp hv hpre1 hch hsn j3 j6 hbe
        go_wp2_with (at_builtin; refine wpList_append_reads _ rfl _ _ 22 rfl w.heap.size 9 i0 (.string ByteArray.empty) 16 Tryz.underlying22 hi hz0 hz1 hz2 rfl v (choose (ps.take i) z).length _ rfl (hown.out _).1 w.heap.size At nt ct _ rfl (hrd.out _) (strs_one _) hle.out.1 hle.out.2 (hown.out _).2 ?_; intro v' w2 hown2 hg2; have hfin := Lib.hid (hput.out _ _ _ _ _ hlth.out hown2 hg2))
        go_roundw
        case rel => exact ⟨i + 1, _, by omega, rfl, by go_num, Lib.hid (by rw [hsn2.out]; exact hfin.out)⟩
        case measure => simp [intOf]; omega
      · have hssl := j6.len
        have hRr : Hid (∀ o : Obj, RowsT (wo.alloc o) w.heap.size As ns rr ss) := Lib.hid (fun o => j6.keep fun p hp => World.cell?_alloc_lt _ _ p (by omega))
        have hnb : ns ≤ maxLen := by omega
        by_cases hzk : 1 ≤ z ∧ z ≤ ns
        · obtain ⟨k, hk⟩ : ∃ k : Nat, z = (k : Int) + 1 := ⟨(z - 1).toNat, by omega⟩
          have hkn : k < ns := by omega
          have hSd : Hid (∀ o : Obj, Calls Tryz.prog 35 #[.slice As ns cs, .int .i64 z] (wo.alloc o) fun e w' => (∃ A1 n1 c1 x, e = .returned (.tuple #[.slice A1 n1 c1, .bool true]) ∧ chosen z (true, t, bs, ss) = x ∧ TxR (wo.alloc o) w.heap.size (A1, n1, c1) x) ∧ w' = wo.alloc o) := Lib.hid (fun o => by
            rw [hk]
            refine (sideOf_yes As ns cs k rr ss w.heap.size _ hnb hkn (hRr.out o)).mono ?_
            rintro e w' ⟨⟨A1, n1, c1, x, h1, h2, h3⟩, h4⟩
            exact ⟨⟨A1, n1, c1, x, h1, chosen_yes rfl t bs h2, h3⟩, h4⟩)
          have hpre1h := Lib.hid hpre1
          clear hp hv hpre1 j6 hzk hk hkn hssl hbe
          go_wp2_with (first
            | (go_at_call 35; refine (hSd.out _).mono ?_; rintro e w1 ⟨⟨A1, n1, c1, x, rfl, hx, hTx⟩, rfl⟩; have hxh := Lib.hid hx; have hTxh := Lib.hid hTx; have hle : Hid ((choose (ps.take i) z).length + n1 ≤ maxLen ∧ ((choose (ps.take i) z).length + n1) * 16 ≤ 140737488355328) := Lib.hid (by have h1 := hsumh.out; have h2 := hpre1h.out; have h3 := hTx.2.2.len; rw [hx] at h2; unfold maxLen; dsimp only at h3; omega); clear hx hTx)
            | (at_builtin; refine wpList_append_reads _ rfl _ _ 22 rfl w.heap.size 9 i0 (.string ByteArray.empty) 16 Tryz.underlying22 hi hz0 hz1 hz2 rfl v (choose (ps.take i) z).length _ rfl (hown.out _).1 w.heap.size A1 n1 c1 _ rfl hTxh.out.2.2 (strs_one _) hle.out.1 hle.out.2 (hown.out _).2 ?_; intro v' w2 hown2 hg2; have hfin := Lib.hid (hput.out _ _ _ _ _ hTxh.out.2.2.len hown2 hg2)))
          go_roundw
          case rel => exact ⟨i + 1, _, by omega, rfl, by go_num, Lib.hid (by rw [hsn.out, hxh.out]; exact hfin.out)⟩
          case measure => simp [intOf]; omega
        · have hno : Hid (chosen z (true, t, bs, ss) = []) := Lib.hid (chosen_none t bs (by rw [hssl]; exact hzk))
          have hSd : Hid (∀ o : Obj, Calls Tryz.prog 35 #[.slice As ns cs, .int .i64 z] (wo.alloc o) fun e w' => e = .returned (.tuple #[.slice none 0 0, .bool false]) ∧ w' = wo.alloc o) := Lib.hid (fun o => sideOf_no As ns cs z _ hnb hzk)
          have hfin : Hid (∀ o : Obj, TxO w (wo.alloc o) v (choose (ps.take i) z)) := Lib.hid (fun o => ⟨hT.out.own.alloc o, hbe.alloc hsz o⟩)
          clear hp hv hpre1 j6 hzk hssl hbe
          go_wp2_with (go_at_call 35; refine (hSd.out _).mono ?_; rintro e w1 ⟨rfl, rfl⟩)
          go_roundw
          case rel => exact ⟨i + 1, v, by omega, rfl, by go_num, Lib.hid (by rw [hsn.out, hno.out, List.append_nil]; exact hfin.out _)⟩
          case measure => simp [intOf]; omega
    · obtain rfl : i = n := by omega
      go_wp2
      go_ret
      have ht : ps.take i = ps := List.take_of_length_le (by omega)
      have := hT.out.out
      rw [ht] at this
      exact this
end Go.Proofs.YtoephlkfejcadaaGreat
/- Proved here: contracts of the landed fold's walk: take, told. -/
namespace Go.Proofs.YtoephlkfejcadaaGreat
open Go.RowKit
set_option linter.unusedVariables false
set_option maxRecDepth 100000

/-- The walk's block: base, what there is, how many were merged, pieces. -/
def wkObj (rb rt : Slc) (k : Int) (rp : Slc) : Obj := .cells #[.slice rb.1 rb.2.1 rb.2.2, .slice rt.1 rt.2.1 rt.2.2, .int .i64 k, .slice rp.1 rp.2.1 rp.2.2, .int .i64 0] 50
/-- What a block of the walk holds. -/
theorem wk_at {w : World} {L : Nat} {rb rt rp : Slc} {k : Int} (h : w.heap[L]? = some (wkObj rb rt k rp)) : w.cell? ⟨L, 0, none⟩ = some (.slice rb.1 rb.2.1 rb.2.2) ∧ w.cell? ⟨L, 1, none⟩ = some (.slice rt.1 rt.2.1 rt.2.2) ∧ w.cell? ⟨L, 2, none⟩ = some (.int .i64 k) ∧ w.cell? ⟨L, 3, none⟩ = some (.slice rp.1 rp.2.1 rp.2.2) ∧ w.cell? ⟨L, 4, none⟩ = some (.int .i64 0) ∧
    w.frozen? ⟨L, 1, none⟩ = false ∧ w.frozen? ⟨L, 2, none⟩ = false ∧ w.frozen? ⟨L, 3, none⟩ = false :=
  ⟨by rw [cells_of h]; rfl, by rw [cells_of h]; rfl, by rw [cells_of h]; rfl, by rw [cells_of h]; rfl, by rw [cells_of h]; rfl, unfrozen_of h 1, unfrozen_of h 2, unfrozen_of h 3⟩
theorem wk_strs (rb rt rp : Slc) (x : Int) : ∀ (j : Nat) (s : ByteArray), (#[.slice rb.1 rb.2.1 rb.2.2, .slice rt.1 rt.2.1 rt.2.2, .int .i64 x, .slice rp.1 rp.2.1 rp.2.2, .int .i64 0] : Array Value)[j]? ≠ some (Value.string s)
  | 0, s => by simp
  | 1, s => by simp
  | 2, s => by simp
  | 3, s => by simp
  | 4, s => by simp
  | j + 5, s => by simp
/-- A merge of two, that has no error; its pieces lie in memory of its own. -/
def TwoNew (w w' : World) (e : Ending) (base t s : Txs) : Prop := ∃ A n c vs ps, e = .returned (.tuple #[.slice A n c, .int .i64 0]) ∧ (n ≤ c ∧ c ≤ maxLen ∧ n ≤ 10000 ∧ (∀ z, (choose ps z).length ≤ 1000000)) ∧ (∀ w2, But (fun k => k < w.heap.size) w' w2 → Pcs w2 w2.heap.size A n vs ps) ∧ MergesTo base [t, s] 0 false 0 ps ∧ Below w.heap.size w w'
theorem two_new' {w w' : World} {e : Ending} {base t s : Txs} {rest : List Txs} (hf : FewG base t (s :: rest)) (h : MergeNew w w' e base [t, s] 0 false) : TwoNew w w' e base t s := by
  obtain ⟨er, A, n, c, vs, ps, rfl, h1, h2, h3, h4, h5⟩ := h
  obtain ⟨rfl, -⟩ := hf.step h4
  obtain ⟨q1, q2⟩ := hf.len h4
  have hl := (h3 w' (But.refl _ _)).len
  exact ⟨A, n, c, vs, ps, rfl, ⟨h1, h2, by omega, q2⟩, h3, h4, h5⟩
theorem wTwo_call {A0 A1 A2 : Option Addr} {n0 c0 n1 c1 n2 c2 g : Nat} {base t s : Txs} {rest : List Txs} {wo W : World} (hf : FewG base t (s :: rest)) (h0 : TxR wo wo.heap.size (A0, n0, c0) base) (h1 : TxR wo wo.heap.size (A1, n1, c1) t) (h2 : TxR wo wo.heap.size (A2, n2, c2) s)
    (hb : Below wo.heap.size wo W) (hg : W.heap[g]? = some (.cells #[.slice A1 n1 c1, .slice A2 n2 c2] 22 (0, 0))) :
    Calls Tryz.prog 13 #[.slice A0 n0 c0, .slice (some ⟨g, 0, none⟩) 2 2, .agg #[.int .i64 0, .bool false]] W fun e w' => TwoNew W w' e base t s :=
  (merge_new A0 n0 c0 base _ 2 2 [(A1, n1, c1), (A2, n2, c2)] [t, s] 0 false W (Nat.le_refl _) (by decide) (by unfold inR64; omega) (hf.sm) (h0.up hb) (two_rows (r1 := (A1, n1, c1)) (r2 := (A2, n2, c2)) hb hg h1 h2)).mono fun e w' h => two_new' hf h

/-- What take tells, and what becomes of the walk. -/
def TakeOut (L : Nat) (rb rt : Slc) (k : Nat) (base t s : Txs) (w w' : World) (e : Ending) : Prop :=
  ∃ ps, MergesTo base [t, s] 0 false 0 ps ∧ But (fun j => j = L) w w' ∧
    ((cleanB ps = false ∧ e = .returned (.bool false) ∧ ∃ a n c vs, n ≤ c ∧ c ≤ maxLen ∧ w'.heap[L]? = some (wkObj rb rt k (some a, n, c)) ∧ ∀ w2, But (fun j => j < w.heap.size) w' w2 → Pcs w2 w2.heap.size (some a) n vs ps) ∨
     (cleanB ps = true ∧ e = .returned (.bool true) ∧ ∃ r, TxR w' w'.heap.size r (choose ps 0) ∧ w'.heap[L]? = some (wkObj rb r ((k + 1 : Nat) : Int) (none, 0, 0))))

set_option maxHeartbeats 4000000 in
theorem take_any (L : Nat) (A0 At A : Option Addr) (n0 c0 nt ct n c k : Nat) (base t s : Txs) (rest : List Txs) (w : World) (hL : w.heap[L]? = some (wkObj (A0, n0, c0) (At, nt, ct) k (none, 0, 0))) (hk : k ≤ 1000) (hG : FewG base t (s :: rest)) (h0 : TxR w w.heap.size (A0, n0, c0) base) (h1 : TxR w w.heap.size (At, nt, ct) t) (h2 : TxR w w.heap.size (A, n, c) s) :
    Calls Tryz.prog 22 #[.pointer (some ⟨L, 0, none⟩), .slice A n c] w fun e w' => TakeOut L (A0, n0, c0) (At, nt, ct) k base t s w w' e := by
  obtain ⟨x0, x1, x2, x3, x4, f1, f2, f3⟩ := wk_at hL
  have hLt : L < w.heap.size := (Array.getElem?_eq_some_iff.1 hL).1
  have hMg : Hid (∀ (W : World), Below w.heap.size w W → W.heap[w.heap.size]? = some (.cells #[.slice At nt ct, .slice A n c] 22 (0, 0)) → Calls Tryz.prog 13 #[.slice A0 n0 c0, .slice (some ⟨w.heap.size, 0, none⟩) 2 2, .agg #[.int .i64 0, .bool false]] W fun e w' => ∃ A n c vs ps, e = .returned (.tuple #[.slice A n c, .int .i64 0]) ∧ (n ≤ c ∧ c ≤ maxLen ∧ n ≤ 10000 ∧ (∀ z, (choose ps z).length ≤ 1000000)) ∧ (∀ w2, But (fun k => k < w.heap.size) w' w2 → Pcs w2 w2.heap.size A n vs ps) ∧ MergesTo base [t, s] 0 false 0 ps ∧ Below w.heap.size w w') := Lib.hid (fun W hW hg => by
    refine (wTwo_call hG h0 h1 h2 hW hg).mono ?_
    rintro e w' ⟨A, n, c, vs, ps, r1, r2, r3, r4, r5⟩
    exact ⟨A, n, c, vs, ps, r1, r2, fun w2 hb2 => r3 w2 (hb2.more fun k hk => by have := hW.size; omega), r4, hW.trans (r5.mono hW.size)⟩)
  have hS : Hid (∀ W, Below w.heap.size w W → W.cell? ⟨L, 0, none⟩ = some (.slice A0 n0 c0) ∧ W.cell? ⟨L, 1, none⟩ = some (.slice At nt ct)) := Lib.hid (fun W hW => ⟨(hW.cell (p := ⟨L, 0, none⟩) hLt).trans x0, (hW.cell (p := ⟨L, 1, none⟩) hLt).trans x1⟩)
  have hLh := Lib.hid hL
  have hrefl := Below.refl w.heap.size w
  clear hG h0 h1 h2 hL x0 x1 x2 x3 x4 f1 f2 f3
  go_enter Tryz.func22, Tryz.ntmps22
  go_wp2
  go_region_held3 (fun wx : World => wx.cell? ⟨L, 0, none⟩ = some (.slice A0 n0 c0) ∧ wx.cell? ⟨L, 1, none⟩ = some (.slice At nt ct))
    ((refine hS.out _ ?_; repeat (first | assumption | refine below_drew ?_ | refine below_alloc ?_ _)))
    ((go_at_call 13; refine (hMg.out _ ?_ ?_).mono ?_; (repeat (first | assumption | refine below_drew ?_ | refine below_alloc ?_ _)); exact Go.Deep.blk_alloc_new _ _; rintro e w1 ⟨A5, n5, c5, vs5, ps5, rfl, q1, q2, q3, hb1⟩))
  have e1 := (hb1.block L hLt).trans hLh.out
  obtain ⟨x0, x1, x2, x3, x4, f1, f2, f3⟩ := wk_at e1
  have hP := q2 w1 (But.refl _ _)
  have hCl := clean_ok A5 n5 c5 vs5 ps5 w1 q1.1 q1.2.1 q1.2.2.1 hP
  obtain ⟨cl, hcl⟩ : ∃ cl, cleanB ps5 = cl := ⟨_, rfl⟩
  rw [hcl] at hCl
  have hLt1 := Nat.lt_of_lt_of_le hLt hb1.size
  have hClh := Lib.hid hCl
  have hq := Lib.hid (And.intro q1 (And.intro q2 (And.intro q3 hcl)))
  have hb1h := Lib.hid hb1
  have e1h := Lib.hid e1
  have hPh := Lib.hid hP
  clear hCl hMg hS hrefl q1 q2 q3 hcl hP e1 hb1
  cases cl
  · obtain ⟨a, rfl⟩ : ∃ a, A5 = some a := by
      have hne : ps5 ≠ [] := by
        intro e
        have := hq.out.2.2.2
        rw [e] at this
        cases this
      have h1 : 1 ≤ n5 := by
        have h2 := hPh.out.len
        cases ps5 with
        | nil => exact absurd rfl hne
        | cons => simp at h2; omega
      obtain ⟨b, o, _, _, _, _, _, _, _, _, _, _, _, _, _, h2, _⟩ := hPh.out.at_ (k := 0) (by omega)
      exact ⟨_, h2⟩
    have hfin : Hid (∀ w2, Below w1.heap.size w1 w2 → TakeOut L (A0, n0, c0) (At, nt, ct) k base t s w (w2.setCell ⟨L, 3, none⟩ (.slice (some a) n5 c5)) (.returned (.bool false))) := Lib.hid (fun w2 hb2 => by
      have hbS : But (fun j => j = L) w2 (w2.setCell ⟨L, 3, none⟩ (.slice (some a) n5 c5)) := But.setCell (F := fun j => j = L) w2 (p := ⟨L, 3, none⟩) rfl _
      refine ⟨ps5, hq.out.2.2.1, (But.of_below (F := fun j => j = L) (hb1h.out.trans (hb2.mono hb1h.out.size)) fun j hj _ => hj).trans hbS fun j e => .inl e, .inl ⟨hq.out.2.2.2, rfl, a, n5, c5, vs5, hq.out.1.1, hq.out.1.2.1, ?_, fun w3 hb3 => ?_⟩⟩
      · exact heap_setCell_same w2 L 3 _ _ _ ((hb2.block L hLt1).trans e1h.out)
      · refine hq.out.2.1 w3 ((((But.of_below (F := fun j => j < w.heap.size) hb2 fun j hj _ => hj).trans hbS fun j e => .inl ?_).trans hb3 fun j e => .inl e))
        rw [e]
        exact hLt)
    clear hPh
    go_wp2_with (go_at_call 14; refine hClh.out.mono ?_; rintro e w2 ⟨rfl, hb2⟩; have z3 := (hb2.cell (p := ⟨L, 3, none⟩) hLt1).trans x3; have g3 := (unfrozen_of ((hb2.block L hLt1).trans e1h.out) 3); have hb2h := Lib.hid hb2; clear hb2)
    go_ret
    exact hfin.out _ hb2h.out
  · have hCh : Hid (∀ W, Below w1.heap.size w1 W → Calls Tryz.prog 16 #[.slice A5 n5 c5, .int .i64 0] W fun e w' => TxsOut W w' e (choose ps5 0)) := Lib.hid (fun W hW => choose_ok A5 n5 c5 vs5 ps5 0 W hq.out.1.1 hq.out.1.2.1 hq.out.1.2.2.1 (by unfold inR64; omega) (hq.out.1.2.2.2 0) (hPh.out.up hW))
    have hfin : Hid (∀ w3 A6 n6 c6, Below w1.heap.size w1 w3 → TxR w3 w3.heap.size (A6, n6, c6) (choose ps5 0) → TakeOut L (A0, n0, c0) (At, nt, ct) k base t s w ((w3.setCell ⟨L, 1, none⟩ (.slice A6 n6 c6)).setCell ⟨L, 2, none⟩ (.int .i64 ((k + 1 : Nat) : Int))) (.returned (.bool true))) := Lib.hid (fun w3 A6 n6 c6 hb3 hT => by
      have hbS : But (fun j => j = L) w3 ((w3.setCell ⟨L, 1, none⟩ (.slice A6 n6 c6)).setCell ⟨L, 2, none⟩ (.int .i64 ((k + 1 : Nat) : Int))) := (But.setCell (F := fun j => j = L) w3 (p := ⟨L, 1, none⟩) rfl _).trans (But.setCell (F := fun j => j = L) _ (p := ⟨L, 2, none⟩) rfl _) fun j e => .inl e
      have e3 := (hb3.block L hLt1).trans e1h.out
      refine ⟨ps5, hq.out.2.2.1, (But.of_below (F := fun j => j = L) (hb1h.out.trans (hb3.mono hb1h.out.size)) fun j hj _ => hj).trans hbS fun j e => .inl e, .inr ⟨hq.out.2.2.2, rfl, (A6, n6, c6), ?_, ?_⟩⟩
      · exact hT.but hbS (hT.apart e3 (wk_strs _ _ _ _))
      · exact heap_setCell_same _ L 2 _ _ _ (heap_setCell_same w3 L 1 _ _ _ e3))
    have hwr : IntKind.i64.wrap ((k : Int) + 1) = ((k + 1 : Nat) : Int) := by rw [IntWalk.i64_in _ (by omega)]; omega
    clear hPh
    go_wp2_with (first
      | (go_at_call 14; refine hClh.out.mono ?_; rintro e w2 ⟨rfl, hb2⟩; have hb2h := Lib.hid hb2; clear hb2)
      | (go_at_call 16; refine (hCh.out _ hb2h.out).mono ?_; rintro e w3 ⟨A6, n6, c6, rfl, r1, r2⟩; have hb3 := hb2h.out.trans (r2.mono hb2h.out.size); have e3 := (hb3.block L hLt1).trans e1h.out; have y1 := (hb3.cell (p := ⟨L, 1, none⟩) hLt1).trans x1; have y2 := (hb3.cell (p := ⟨L, 2, none⟩) hLt1).trans x2; have g1 := unfrozen_of e3 1; have g2 := unfrozen_of e3 2; have hT6 := Lib.hid r1; have hb3h := Lib.hid hb3; clear r1 r2 hb3 e3))
    go_ret
    exact hfin.out _ _ _ _ hb3h.out hT6.out
end Go.Proofs.YtoephlkfejcadaaGreat
/- Proved here: contracts of the landed fold's told, and of the deferred closure that calls it. -/
namespace Go.Proofs.YtoephlkfejcadaaGreat
open Go.RowKit
set_option linter.unusedVariables false
set_option maxRecDepth 100000

set_option maxHeartbeats 2000000 in
/-- A conflict's pieces. -/
theorem told_conf (L : Nat) (rb rt : Slc) (a : Addr) (n c k : Nat) (w : World) (hL : w.heap[L]? = some (wkObj rb rt k (some a, n, c))) :
    Calls Tryz.prog 21 #[.pointer (some ⟨L, 0, none⟩)] w fun e w' => e = .returned (.tuple #[.slice (some a) n c, .int .i64 k, .int .i64 0]) ∧ Below w.heap.size w w' := by
  obtain ⟨x0, x1, x2, x3, x4, f1, f2, f3⟩ := wk_at hL
  have qT : ∀ (w : World) (a : Option Addr) (n c n' c' : Nat), (binOp .neq 26 (.slice a n c) (.slice none n' c')).run Tryz.prog w = .ok (.bool (!a.isNone)) w := fun w a n c n' c' => run_neq_slice_nil_any w _ _ a n c n' c' Tryz.underlying26
  have hrefl := Below.refl w.heap.size w
  clear hL x0 x1 f1 f2 f3
  go_enter Tryz.func21, Tryz.ntmps21
  go_wp2
  go_region_held3 (fun wx : World => wx.cell? ⟨L, 3, none⟩ = some (.slice (some a) n c) ∧ wx.cell? ⟨L, 2, none⟩ = some (.int .i64 (k : Int)))
    (exact ⟨x3, x2⟩)
    (fail)
  go_wp2_with fail
  go_ret3
  exact ⟨rfl, below_drewN hrefl 1⟩

set_option maxHeartbeats 4000000 in
/-- The text that there is. -/
theorem told_text (L : Nat) (rb : Slc) (At : Option Addr) (nt ct k : Nat) (t : Txs) (w : World) (hL : w.heap[L]? = some (wkObj rb (At, nt, ct) k (none, 0, 0))) (hT : TxR w w.heap.size (At, nt, ct) t) (hl : t.length ≤ 96) :
    Calls Tryz.prog 21 #[.pointer (some ⟨L, 0, none⟩)] w fun e w' => ∃ A n c vs, e = .returned (.tuple #[.slice A n c, .int .i64 k, .int .i64 0]) ∧ n ≤ c ∧ c ≤ maxLen ∧ (∀ w2, But (fun j => j < w.heap.size) w' w2 → Pcs w2 w2.heap.size A n vs (normal [tPc t])) ∧ Below w.heap.size w w' := by
  obtain ⟨x0, x1, x2, x3, x4, f1, f2, f3⟩ := wk_at hL
  have hLt : L < w.heap.size := (Array.getElem?_eq_some_iff.1 hL).1
  have qT : ∀ (w : World) (a : Option Addr) (n c n' c' : Nat), (binOp .neq 26 (.slice a n c) (.slice none n' c')).run Tryz.prog w = .ok (.bool (!a.isNone)) w := fun w a n c n' c' => run_neq_slice_nil_any w _ _ a n c n' c' Tryz.underlying26
  have hrefl := Below.refl w.heap.size w
  have hN : Hid (∀ (W : World), Below w.heap.size w W → W.heap[w.heap.size]? = some (pcObj false ((At, nt, ct), (none, 0, 0), (none, 0, 0))) → Calls Tryz.prog 32 #[.slice (some ⟨w.heap.size, 0, none⟩) 1 1] W fun e w' => ∃ A n c vs, e = .returned (.slice A n c) ∧ (n ≤ c ∧ c ≤ maxLen ∧ ∀ w2, But (fun j => j < w.heap.size) w' w2 → Pcs w2 w2.heap.size A n vs (normal [tPc t])) ∧ Below w.heap.size w w') := Lib.hid (fun W hW hg => by
    have hP : Pcs W W.heap.size (some ⟨w.heap.size, 0, none⟩) 1 [((At, nt, ct), (none, 0, 0), (none, 0, 0))] [tPc t] := pcs_one (p := tPc t) hg (PcR.text (hT.up hW))
    refine (normal_new _ 1 1 _ [tPc t] W (Nat.le_refl _) (by decide) (by decide) (by simp [sumT, tPc]; omega) (fun p hp => by rw [List.mem_singleton.1 hp]; exact smallN_text t) hP).mono ?_
    rintro e w' ⟨A, n, c, vs, rfl, h1, h2, h3, h4⟩
    exact ⟨A, n, c, vs, rfl, ⟨h1, h2, fun w2 hb2 => h3 w2 (hb2.more fun j hj => by have := hW.size; omega)⟩, hW.trans (h4.mono hW.size)⟩)
  have hS : Hid (∀ W, Below w.heap.size w W → W.cell? ⟨L, 1, none⟩ = some (.slice At nt ct) ∧ W.cell? ⟨L, 2, none⟩ = some (.int .i64 (k : Int))) := Lib.hid (fun W hW => ⟨(hW.cell (p := ⟨L, 1, none⟩) hLt).trans x1, (hW.cell (p := ⟨L, 2, none⟩) hLt).trans x2⟩)
  clear hL x0 x1 x2 f1 f2 f3 hT hLt hl
  go_enter Tryz.func21, Tryz.ntmps21
  go_wp2
  go_region_held3 (fun wx : World => wx.cell? ⟨L, 1, none⟩ = some (.slice At nt ct) ∧ wx.cell? ⟨L, 2, none⟩ = some (.int .i64 (k : Int)))
    ((refine hS.out _ ?_; repeat (first | assumption | refine below_drew ?_ | refine below_alloc ?_ _)))
    ((go_at_call 32; refine (hN.out _ ?_ ?_).mono ?_; (repeat (first | assumption | refine below_drew ?_ | refine below_alloc ?_ _)); exact Go.Deep.blk_alloc_new _ _; rintro e w1 ⟨A5, n5, c5, vs5, rfl, q1, hb1⟩))
  go_wp2_with fail
  go_ret3
  exact ⟨A5, n5, c5, vs5, rfl, q1.1, q1.2.1, q1.2.2, hb1⟩
end Go.Proofs.YtoephlkfejcadaaGreat
