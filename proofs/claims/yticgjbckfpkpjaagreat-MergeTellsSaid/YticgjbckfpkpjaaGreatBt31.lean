/- Proved here: texts joined: MgIt, LcsRow, LcsWalk. -/
import Derived.Test.YticgjbckfpkpjaaGreatBt18
import Derived.Test.YticgjbckfpkpjaaGreatBt29
import Derived.Test.YticgjbckfpkpjaaGreatBt30
import Derived.Shelf.Abstract
import Derived.WalkKit
import Derived.OwnWalkIn
import Derived.TacticsInMore
import Derived.LoopNIn
import Derived.LoopIn
import Derived.RegionTactic
import Derived.BigRegion
import Derived.ChangeAlike
import Derived.Lib.SliceRun
/- Proved here: the contracts of the landed merge.mayResolve, pieces, and of the iterator that pieces tells. -/
namespace Go.Proofs.YticgjbckfpkpjaaGreat
open Go.RowKit Go.Shelf
set_option linter.unusedVariables false
set_option maxRecDepth 100000
attribute [local go_sem] Oper.semAt_some

/-- Whether conflicts may be resolved so. -/
def mayHow (fav : Int) (un : Bool) (n : Nat) : Bool := decide (0 ≤ fav ∧ fav ≤ n ∧ (fav = 0 ∨ un = false))
set_option maxHeartbeats 1000000 in
theorem mayHow_any (fav : Int) (un : Bool) (n : Nat) (w : World) :
    Calls Tryz.prog 37 #[.agg #[.int .i64 fav, .bool un], .int .i64 n] w fun e w' => e = .returned (.bool (mayHow fav un n)) ∧ Below w.heap.size w w' := by
  have hb : Below w.heap.size w (w.alloc (.cells #[.int .i64 fav, .bool un] 34)) := (Below.refl _ _).alloc (Nat.le_refl _) _
  have hbh := Lib.hid hb
  obtain ⟨r, hr⟩ : ∃ r, mayHow fav un n = r := ⟨_, rfl⟩
  rw [hr]
  have hrh := Lib.hid hr
  clear hb hr
  by_cases h0 : fav = 0
  · subst h0
    have hr1 : Hid (r = true) := Lib.hid (by rw [← hrh.out]; simp [mayHow])
    have e1 : ((0 : Int) != 0) = false := by decide
    go_enter Tryz.func37, Tryz.ntmps37
    go_wp2
    go_ret
    exact ⟨ret_bool (by rw [hr1.out]), hbh.out⟩
  · have e1 : (fav != 0) = true := by simpa using h0
    have e2 : ¬ fav = 0 := h0
    cases un
    · by_cases h1 : 0 ≤ fav
      · have hr1 : Hid (r = decide (fav ≤ (n : Int))) := Lib.hid (by rw [← hrh.out]; simp [mayHow, h1])
        have e3 : decide ((0 : Int) ≤ fav) = true := by simpa using h1
        clear h0
        go_enter Tryz.func37, Tryz.ntmps37
        go_wp2
        all_goals (go_ret; exact ⟨ret_bool (by rw [hr1.out]), hbh.out⟩)
      · have hr1 : Hid (r = false) := Lib.hid (by rw [← hrh.out]; simp [mayHow, h1])
        have e3 : decide ((0 : Int) ≤ fav) = false := by simpa using h1
        clear h0
        go_enter Tryz.func37, Tryz.ntmps37
        go_wp2
        all_goals (go_ret; exact ⟨ret_bool (by rw [hr1.out]), hbh.out⟩)
    · have hr1 : Hid (r = false) := Lib.hid (by rw [← hrh.out]; simp [mayHow, e2])
      clear h0
      go_enter Tryz.func37, Tryz.ntmps37
      go_wp2
      go_ret
      exact ⟨ret_bool (by rw [hr1.out]), hbh.out⟩

theorem pieces_any (Ac : Option Addr) (nc cc : Nat) (A0 : Option Addr) (n0 c0 : Nat) (A : Option Addr) (n c : Nat) (fav : Int) (un : Bool) (w : World) :
    Calls Tryz.prog 38 #[.slice Ac nc cc, .slice A0 n0 c0, .slice A n c, .agg #[.int .i64 fav, .bool un]] w fun e w' =>
      e = .returned (.func (.func 78) #[] #[.pointer (some ⟨w.heap.size, 0, none⟩), .pointer (some ⟨w.heap.size + 1, 0, none⟩), .pointer (some ⟨w.heap.size + 1 + 1, 0, none⟩), .pointer (some ⟨w.heap.size + 1 + 1 + 1, 0, none⟩)]) ∧
      w' = (((w.alloc (.cells #[.slice Ac nc cc] 26)).alloc (.cells #[.slice A0 n0 c0] 22)).alloc (.cells #[.slice A n c] 23)).alloc (.cells #[.int .i64 fav, .bool un] 34) := by
  go_enter Tryz.func38, Tryz.ntmps38
  go_wp2
  go_ret
  exact ⟨rfl, rfl⟩

/-- What the iterator yields: a piece that stands. -/
def YieldP (lo : Nat) (x : Pc) (vs : Array Value) (W0 W1 : World) : Prop := ∃ v : PcV, vs = #[pcA x.1 v] ∧ ∀ w2, But (fun k => lo ≤ k ∧ k < W0.heap.size) W1 w2 → PcR w2 w2.heap.size v x
/-- The blocks that it reads. -/
def ReadP (lo Bx r : Nat) : Prop := r < lo ∨ (Bx ≤ r ∧ r < Bx + 4)

/-- What the iterator's variables hold. -/
structure HoldsP (w : World) (lo Bx : Nat) (Ac : Option Addr) (nc cc : Nat) (cs : List Ck) (A0 : Option Addr) (n0 c0 : Nat) (base : Txs) (A : Option Addr) (n c : Nat) (rows : List Slc) (sides : List Txs) (fav : Int) (un : Bool) : Prop where
  b0 : w.heap[Bx]? = some (.cells #[.slice Ac nc cc] 26 (0, 0))
  b1 : w.heap[Bx + 1]? = some (.cells #[.slice A0 n0 c0] 22 (0, 0))
  b2 : w.heap[Bx + 2]? = some (.cells #[.slice A n c] 23 (0, 0))
  b3 : w.heap[Bx + 3]? = some (.cells #[.int .i64 fav, .bool un] 34 (0, 0))
  far : lo ≤ Bx
  cks : Cks w lo Ac nc cs
  tbase : TxR w lo (A0, n0, c0) base
  trows : RowsT w lo A n rows sides
theorem HoldsP.left {w w' : World} {lo Bx : Nat} {Ac : Option Addr} {nc cc : Nat} {cs : List Ck} {A0 : Option Addr} {n0 c0 : Nat} {base : Txs} {A : Option Addr} {n c : Nat} {rows : List Slc} {sides : List Txs} {fav : Int} {un : Bool}
    (h : HoldsP w lo Bx Ac nc cc cs A0 n0 c0 base A n c rows sides fav un) (hk : ∀ r, r < w.heap.size → ReadP lo Bx r → w'.heap[r]? = w.heap[r]?) : HoldsP w' lo Bx Ac nc cc cs A0 n0 c0 base A n c rows sides fav un := by
  have l3 := (Array.getElem?_eq_some_iff.1 h.b3).1
  have hl := h.far
  have key : ∀ p : Addr, p.block < lo → w'.cell? p = w.cell? p := fun p hp => World.cell?_of_block (hk p.block (by omega) (.inl hp))
  exact ⟨(hk _ (by omega) (.inr ⟨by omega, by omega⟩)).trans h.b0, (hk _ (by omega) (.inr ⟨by omega, by omega⟩)).trans h.b1, (hk _ (by omega) (.inr ⟨by omega, by omega⟩)).trans h.b2, (hk _ (by omega) (.inr ⟨by omega, by omega⟩)).trans h.b3, hl, h.cks.keep key, h.tbase.keep key, h.trows.keep key⟩

set_option maxHeartbeats 4000000 in
theorem pieces_iter (N : Nat) (hN : 1 ≤ N) (lo Bx : Nat) (Ac : Option Addr) (nc cc : Nat) (cs : List Ck) (A0 : Option Addr) (n0 c0 : Nat) (base : Txs) (A : Option Addr) (n c : Nat) (rows : List Slc) (sides : List Txs) (fav : Int) (un : Bool) (w : World)
    (hnc : nc ≤ 1000) (hn : n ≤ 100) (hfav : inR64 fav) (hsm : smallM base sides) (h : HoldsP w lo Bx Ac nc cc cs A0 n0 c0 base A n c rows sides fav un)
    (hp : ∀ c ∈ cs, partErr c base sides = 0 ∧ partBase c base sides = cutB c base ∧ partSides c base sides = cutsP c sides) :
    IterS Fence.wide N Tryz.prog 78 #[.pointer (some ⟨Bx, 0, none⟩), .pointer (some ⟨Bx + 1, 0, none⟩), .pointer (some ⟨Bx + 1 + 1, 0, none⟩), .pointer (some ⟨Bx + 1 + 1 + 1, 0, none⟩)] (YieldP lo) (ReadP lo Bx) 0 (cs.map (pcOf base sides fav un)) w := by
  intro l J W hbW hJ hY h0
  have hl3 := (Array.getElem?_eq_some_iff.1 h.b3).1
  have hW : HoldsP W lo Bx Ac nc cc cs A0 n0 c0 base A n c rows sides fav un := h.left fun r hr _ => hbW.block r hr
  have hWsz := hbW.size
  have hlen := hW.cks.1
  have g0 : W.cell? ⟨Bx, 0, none⟩ = some (.slice Ac nc cc) := by rw [cells_of hW.b0]; rfl
  have hWh := Lib.hid hW
  have hph := Lib.hid hp
  have hsmh := Lib.hid hsm
  have hlenh := Lib.hid hlen
  clear h hW hp hsm hlen
  refine callsIn_of_wp Tryz.func78 rfl trivial ?_ rfl
  simp only [Tryz.ntmps78, List.size_toArray, List.length_cons, List.length_nil, Nat.reduceAdd, Nat.reduceSub, Array.replicate_succ, Array.replicate_zero, List.push_toArray, List.append_toArray, List.nil_append, List.cons_append]
  gi_wp2
  gi_loopw [7, 10] (fun s7 i wr => ∃ k : Nat, k ≤ nc ∧ i = .int .i64 k ∧ J ((cs.take k).map (pcOf base sides fav un)) wr ∧ Leaves (ReadP lo Bx) W.heap.size 0 W wr)
    (fun s7 i _ => nc - (intOf i).toNat)
  case atStart => exact ⟨0, Nat.zero_le _, rfl, h0, Leaves.refl _ _ _ _⟩
  case round =>
    obtain ⟨k, hk, rfl, hJs, hlv⟩ := hrel
    obtain ⟨wo, rfl⟩ : ∃ wo : World, wo = wr := ⟨_, rfl⟩
    have hHo : HoldsP wo lo Bx Ac nc cc cs A0 n0 c0 base A n c rows sides fav un := hWh.out.left fun r hr hR => hlv.kept r hr (.inl hR)
    by_cases hlt : k < nc
    · obtain ⟨b, o, ck, A1, n1, c1, rfl, hb, hck, x0, x1, x2, x3, hn1, hc1, hS⟩ := hHo.cks.at_ (k := k) hlt
      obtain ⟨st, ⟨f, t⟩, spans⟩ := ck
      dsimp only at x0 x1 x2 hS
      have hi1 : (0 : Int) ≤ (k : Int) := by omega
      have hi2 : (k : Int) < (nc : Int) := by omega
      have hsz := hlv.size
      obtain ⟨Wa, hWa⟩ : ∃ Wa, Wa = wo.alloc (.cells #[.bool st, .int .i64 f, .int .i64 t, .slice A1 n1 c1] 48) := ⟨_, rfl⟩
      have hba : Below wo.heap.size wo Wa := by rw [hWa]; exact (Below.refl _ _).alloc (Nat.le_refl _) _
      have hHa : HoldsP Wa lo Bx (some ⟨b, o, none⟩) nc cc cs A0 n0 c0 base A n c rows sides fav un := hHo.left fun r hr _ => hba.block r hr
      have hloW : lo ≤ Wa.heap.size := by have := hHa.far; have := (Array.getElem?_eq_some_iff.1 hHa.b3).1; omega
      have hPc := Lib.hid (pieceM_any lo st f t spans A1 n1 c1 A0 n0 c0 base A n c rows sides fav un Wa hn hfav (Nat.le_trans hn1 hc1) hsmh.out hloW (((hS.keep fun p hp => World.cell?_of_block (hba.block p.block (by have := hHo.far; have := (Array.getElem?_eq_some_iff.1 hHo.b3).1; omega)))).more hloW) hHa.tbase (hHa.trows.more hloW) (hph.out _ (List.mem_of_getElem? hck)))
      have z1 : wo.cell? ⟨Bx + 1, 0, none⟩ = some (.slice A0 n0 c0) := by rw [cells_of hHo.b1]; rfl
      have z2 : wo.cell? ⟨Bx + 1 + 1, 0, none⟩ = some (.slice A n c) := by rw [cells_of hHo.b2]; rfl
      have z3 : wo.cell? ⟨Bx + 1 + 1 + 1, 0, none⟩ = some (.int .i64 fav) := by rw [cells_of hHo.b3]; rfl
      have z4 : wo.cell? ⟨Bx + 1 + 1 + 1, 1, none⟩ = some (.bool un) := by rw [cells_of hHo.b3]; rfl
      have s1 : Bx + 1 < wo.heap.size := (Array.getElem?_eq_some_iff.1 hHo.b1).1
      have s2 : Bx + 1 + 1 < wo.heap.size := (Array.getElem?_eq_some_iff.1 hHo.b2).1
      have s3 : Bx + 1 + 1 + 1 < wo.heap.size := (Array.getElem?_eq_some_iff.1 hHo.b3).1
      have hck2 := Lib.hid hck
      have hsza : wo.heap.size ≤ Wa.heap.size := hba.size
      have hYw := Lib.hid (fun (w1 : World) (v : PcV) (hst : ∀ w2, But (fun k => lo ≤ k ∧ k < Wa.heap.size) w1 w2 → PcR w2 w2.heap.size v (pcOf base sides fav un (st, (f, t), spans))) (hb1 : Below Wa.heap.size Wa w1) => hY ((cs.take k).map (pcOf base sides fav un)) (pcOf base sides fav un (st, (f, t), spans)) #[pcA (pcOf base sides fav un (st, (f, t), spans)).1 v] wo w1 hJs (by omega) (hba.trans (hb1.mono hsza)) ⟨v, rfl, fun w2 h2 => hst w2 (h2.more fun j hj => ⟨hj.1, by have := hj.2; omega⟩)⟩
        ⟨(cs.drop (k + 1)).map (pcOf base sides fav un), by rw [← List.map_cons, ← List.map_append, ← drop_at hck2.out, List.take_append_drop]⟩)
      have hnx := Lib.hid (show (cs.take (k + 1)).map (pcOf base sides fav un) = (cs.take k).map (pcOf base sides fav un) ++ [pcOf base sides fav un (st, (f, t), spans)] by rw [take_at hck2.out, List.map_append]; rfl)
      have hbah := Lib.hid hba
      have hlvh := Lib.hid hlv
      clear hck hS hHo hHa hba hloW hJs hsza
      subst hWa
      gi_wp2_with (refine ⟨trivial, ?_⟩; gi_at_call 79; refine (callsIn_wide.2 hPc.out).mono ?_; rintro e w1 ⟨v, rfl, hst, hb1⟩; obtain ⟨fn, tmps, assign, body, hy, hR⟩ := hYw.out w1 v hst hb1; have hb1h := Lib.hid hb1; clear hst hb1)
      refine hR.mono ?_
      rintro e W3 ⟨rfl, hJ3, hk3⟩
      gi_wp2
      go_roundw
      case rel => exact ⟨k + 1, by omega, by simp, by rw [hnx.out]; exact hJ3, hlvh.out.trans ((Leaves.below hbah.out).trans ((Leaves.below hb1h.out).trans hk3))⟩
      case measure => simp [intOf]; omega
    · obtain rfl : k = nc := by omega
      gi_wp2
      go_end0
      exact ⟨⟨_, rfl⟩, by rw [List.take_of_length_le (by rw [hlenh.out]; exact Nat.le_refl _)] at hJs; exact hJs⟩
end Go.Proofs.YticgjbckfpkpjaaGreat
/- Proved here: the contract of package lcs' measureRow: one row of the reckoning, out of the row behind it. -/
namespace Go.Proofs.YticgjbckfpkpjaaGreat
open Go.RowKit
set_option linter.unusedVariables false

theorem infoBool : (Tryz.prog.info? 4).map (fun i => (i.zero, i.size, i.bytes)) = some (some (.bool false), 1, 1) := by kernel_rfl

/-- Whether a's place i is what is skipped, where i and j are not the same. -/
def skipAt (a b : List Int) (i j : Nat) : Bool := decide (lcsAt a b i (j + 1) ≤ lcsAt a b (i + 1) j)

/-- One row of the reckoning, as far as it has come: from J on. -/
structure RowIn (w wr : World) (P Q n' i J : Nat) (a b : List Int) (g : Nat → Int) : Prop where
  row : wr.rowIs P 3 (n' + 1) (fun t => .int .i64 (if J ≤ t then (lcsAt a b i t : Int) else g t))
  next : wr.rowIs Q 3 (n' + 1) (fun t => .int .i64 (lcsAt a b (i + 1) t))
  skips : wr.rowIs w.heap.size 4 n' (fun t => .bool (decide (J ≤ t) && skipAt a b i t))
  but : But (fun k => k = P) w wr

section
variable {w wr : World} {P Q n' i q J : Nat} {a b : List Int} {g : Nat → Int}
theorem RowIn.drew (h : RowIn w wr P Q n' i J a b g) : RowIn w wr.drew P Q n' i J a b g := ⟨h.row, h.next, h.skips, ⟨h.but.os, h.but.tape, h.but.output, h.but.size, h.but.block⟩⟩
theorem RowIn.step (hPw : P < w.heap.size) (hQw : Q < w.heap.size) (hPQ : P ≠ Q) (h : RowIn w wr P Q n' i (q + 1) a b g) {s : Bool} {v : Nat} (hs : s = skipAt a b i q) (hv : v = lcsAt a b i q) :
    RowIn w ((wr.setCell ⟨w.heap.size, q, none⟩ (.bool s)).setCell ⟨P, q, none⟩ (.int .i64 v)) P Q n' i q a b g := by
  subst hs
  subst hv
  refine ⟨?_, ?_, ?_, ?_⟩
  · refine ((h.row.setOther (a := ⟨w.heap.size, q, none⟩) (by show P ≠ w.heap.size; omega) _).set q _).congr fun t _ => ?_
    by_cases e : t = q
    · subst e; simp
    · rw [if_neg e]
      by_cases h1 : q + 1 ≤ t
      · rw [if_pos h1, if_pos (by omega)]
      · rw [if_neg h1, if_neg (by omega)]
  · exact (h.next.setOther (a := ⟨w.heap.size, q, none⟩) (by show Q ≠ w.heap.size; omega) _).setOther (a := ⟨P, q, none⟩) (fun e => hPQ e.symm) _
  · refine ((h.skips.set q _).setOther (a := ⟨P, q, none⟩) (by show w.heap.size ≠ P; omega) _).congr fun t _ => ?_
    by_cases e : t = q
    · subst e; simp
    · rw [if_neg e]
      by_cases h1 : q + 1 ≤ t
      · simp [h1, show q ≤ t by omega]
      · simp [h1, show ¬ q ≤ t by omega]
  · have h1 := But.setCell (F := fun k => k = w.heap.size) wr (p := ⟨w.heap.size, q, none⟩) rfl (.bool (skipAt a b i q))
    have h2 := But.setCell (F := fun k => k = P) (wr.setCell ⟨w.heap.size, q, none⟩ (.bool (skipAt a b i q))) (p := ⟨P, q, none⟩) rfl (.int .i64 (lcsAt a b i q))
    exact (h.but.trans h1 fun k e => .inr (by omega)).trans h2 fun k e => .inl e
end

/-- What measureRow leaves. -/
def RowOut (w w' : World) (e : Ending) (P n' i : Nat) (a b : List Int) : Prop :=
  e = .returned (.slice (some ⟨w.heap.size, 0, none⟩) n' n') ∧ w'.rowIs P 3 (n' + 1) (fun t => .int .i64 (lcsAt a b i t)) ∧ w'.rowIs w.heap.size 4 n' (fun t => .bool (skipAt a b i t)) ∧ But (fun k => k = P) w w'

set_option maxRecDepth 100000 in
set_option maxHeartbeats 2000000 in
theorem row_any (A' : Option Addr) (n' c' B' P Q cP cQ i : Nat) (x : Int) (a b : List Int) (g : Nat → Int) (w : World) (hn' : n' ≤ 2000) (hla : a.length ≤ 2000) (hx : a[i]? = some x) (hA' : Nums w B' A' n' b) (hB' : B' ≤ P) (hPQ : P ≠ Q)
    (hP : w.rowIs P 3 (n' + 1) (fun t => .int .i64 (g t))) (hg : g n' = 0) (hQ : w.rowIs Q 3 (n' + 1) (fun t => .int .i64 (lcsAt a b (i + 1) t))) :
    Calls Tryz.prog 109 #[.int .i64 x, .slice A' n' c', .slice (some ⟨P, 0, none⟩) (n' + 1) cP, .slice (some ⟨Q, 0, none⟩) (n' + 1) cQ] w fun e w' => RowOut w w' e P n' i a b := by
  have hl' := hA'.len
  have hPw := hP.lt
  have hQw := hQ.lt
  have hmk := run_make_row' (P := Tryz.prog) 163 4 (.bool false) 1 Tryz.underlying163 infoBool rfl .i64 .i64 n' (by omega) (by omega)
  have h0 : RowIn w (w.alloc (.cells (madeCells #[.bool false] n') 4)) P Q n' i n' a b g := by
    refine ⟨(hP.alloc _).congr fun t ht => ?_, hQ.alloc _, (World.rowIs_made w (.bool false) n' 4).congr fun t ht => ?_, .alloc w _⟩
    · split
      · obtain rfl : t = n' := by omega
        rw [hg, lcsAt_end_right (by omega)]; rfl
      · rfl
    · simp [show ¬ n' ≤ t by omega]
  have h0' := Lib.hid h0
  have hPQ' := Lib.hid hPQ
  clear h0 hP hQ hg hPQ
  go_enter Tryz.func109, Tryz.ntmps109
  go_wp2
  go_loopw [10, 42, 58] (fun sj _ _ wr => ∃ J : Nat, J ≤ n' ∧ sj = .int .i64 ((J : Int) - 1) ∧ RowIn w wr P Q n' i J a b g) (fun sj _ _ _ => (intOf sj + 1).toNat)
  case atStart => exact ⟨n', Nat.le_refl _, rfl, h0'.out⟩
  case round =>
    obtain ⟨J, hJ, rfl, hR⟩ := hrel
    obtain ⟨wo, rfl⟩ : ∃ wo : World, wo = wr := ⟨_, rfl⟩
    clear h0' hmk
    rcases J with _ | q
    · go_wp2
      go_ret
      exact ⟨rfl, hR.row.congr fun t _ => by simp, hR.skips.congr fun t _ => by simp, hR.but⟩
    · have hq : q < n' := by omega
      have hiq : (((q + 1 : Nat) : Int) - 1) = (q : Int) := by omega
      rw [hiq]
      clear hiq
      have hBu := hR.but
      obtain ⟨bb, ob, y, rfl, hbb, hy, hyb⟩ := hA'.at_ (k := q) hq
      have cy0 : wo.cell? ⟨bb, ob + q, none⟩ = some (.int .i64 y) := (World.cell?_of_block (w := w) (hBu.block bb (by omega) (by omega))).trans hyb
      have c1 := hR.next.cell (i := q) (by omega)
      have c3 := hR.next.cell (i := q + 1) (by omega)
      have c2 := hR.row.cell (i := q + 1) (by omega)
      rw [if_pos (Nat.le_refl _)] at c2
      have f0 := hR.row.frozen q
      have f1 := hR.skips.frozen q
      obtain ⟨u0, cu0⟩ : ∃ u, wo.cell? ⟨P, q, none⟩ = some u := ⟨_, hR.row.cell (by omega)⟩
      obtain ⟨u1, cu1⟩ : ∃ u, wo.cell? ⟨w.heap.size, q, none⟩ = some u := ⟨_, hR.skips.cell hq⟩
      have l1 := lcsAt_le_left a b (i + 1) q
      have l2 := lcsAt_le_left a b i (q + 1)
      have l3 := lcsAt_le_left a b (i + 1) (q + 1)
      have hst := fun s v hs hv => hR.step (s := s) (v := v) hPw hQw hPQ'.out hs hv
      have hsk : skipAt a b i q = decide (lcsAt a b i (q + 1) ≤ lcsAt a b (i + 1) q) := rfl
      have hsame := fun h : x = y => lcsAt_same hx (h ▸ hy)
      have hother := lcsAt_other hx hy
      obtain ⟨v1, hv1⟩ : ∃ v, v = lcsAt a b (i + 1) q := ⟨_, rfl⟩
      obtain ⟨v2, hv2⟩ : ∃ v, v = lcsAt a b i (q + 1) := ⟨_, rfl⟩
      obtain ⟨v3, hv3⟩ : ∃ v, v = lcsAt a b (i + 1) (q + 1) := ⟨_, rfl⟩
      rw [← hv1] at c1 l1 hother hsk
      rw [← hv2] at c2 l2 hother hsk
      rw [← hv3] at c3 l3 hsame
      have hbne : bb ≠ P ∧ bb ≠ w.heap.size ∧ Q ≠ w.heap.size ∧ P ≠ w.heap.size := ⟨by omega, by omega, by omega, by omega⟩
      obtain ⟨hne1, hne2, hne3, hne4⟩ := hbne
      have hne5 := hPQ'.out
      have hne5' := hne5.symm
      have hst' := Lib.hid hst
      have hsk' := Lib.hid hsk
      have hsame' := Lib.hid hsame
      have hother' := Lib.hid hother
      have hBu' := Lib.hid hBu
      clear hv1 hv2 hv3 hyb hR hst hsk hsame hother hBu
      have i1 : (0 : Int) ≤ (q : Int) := by omega
      have i2 : (q : Int) < (n' : Int) := by omega
      by_cases hxy : x = y
      · have hb : (x == y) = true := by simpa using hxy
        have hL := Lib.hid (hsame'.out hxy)
        clear hxy
        by_cases hv : v2 ≤ v1
        · have hvi : (v2 : Int) ≤ (v1 : Int) := by omega
          go_wp2
          go_region
          go_wp2
          go_roundw
          case rel => exact ⟨q, by omega, by go_num, (by have := (hst'.out true (v3 + 1) (by rw [hsk'.out]; simp [hv]) (by rw [hL.out])).drew; push_cast at this; exact this)⟩
          case measure => simp [intOf]
        · have hvi : ¬ (v2 : Int) ≤ (v1 : Int) := by omega
          go_wp2
          go_region
          go_wp2
          go_roundw
          case rel => exact ⟨q, by omega, by go_num, (by have := (hst'.out false (v3 + 1) (by rw [hsk'.out]; simp [hv]) (by rw [hL.out])).drew; push_cast at this; exact this)⟩
          case measure => simp [intOf]
      · have hb : (x == y) = false := by simpa using hxy
        have hL := Lib.hid (hother'.out hxy)
        clear hxy
        by_cases hv : v2 ≤ v1
        · have hvi : (v2 : Int) ≤ (v1 : Int) := by omega
          go_wp2
          go_region
          go_wp2
          go_roundw
          case rel => exact ⟨q, by omega, by go_num, (hst'.out true v1 (by rw [hsk'.out]; simp [hv]) (by rw [hL.out]; omega)).drew⟩
          case measure => simp [intOf]
        · have hvi : ¬ (v2 : Int) ≤ (v1 : Int) := by omega
          go_wp2
          go_region
          go_wp2
          go_roundw
          case rel => exact ⟨q, by omega, by go_num, (hst'.out false v2 (by rw [hsk'.out]; simp [hv]) (by rw [hL.out]; omega)).drew⟩
          case measure => simp [intOf]
end Go.Proofs.YticgjbckfpkpjaaGreat
/- Proved here: the contract of package lcs' walk (the match, out of what is skipped) and of slices.Clone of numbers. -/
namespace Go.Proofs.YticgjbckfpkpjaaGreat
open Go.RowKit
set_option linter.unusedVariables false

theorem mtAt_rest {a b : List Int} {i j : Nat} (h : b.length ≤ j) : mtAt a b i j = List.replicate (a.length - i) (-1) := by
  obtain ⟨m, hm⟩ : ∃ m, m = a.length - i := ⟨_, rfl⟩
  induction m generalizing i with
  | zero => rw [mtAt_end (by omega), ← hm]; rfl
  | succ m ih => rw [mtAt_out (by omega) h, ih (i := i + 1) (by omega), ← hm, show a.length - (i + 1) = m by omega]; rfl

/-- What is skipped at each place of both lists: slices of slices of Booleans. -/
def Skips (w : World) (S : Option Addr) (n n' : Nat) (a b : List Int) : Prop :=
  ∀ i j, i < n → j < n' → ∃ g o g' o' m c, S = some ⟨g, o, none⟩ ∧ g < w.heap.size ∧ g' < w.heap.size ∧ n' ≤ m ∧ w.cell? ⟨g, o + i, none⟩ = some (.slice (some ⟨g', o', none⟩) m c) ∧ w.cell? ⟨g', o' + j, none⟩ = some (.bool (skipAt a b i j))
theorem Skips.below {w w' : World} {S : Option Addr} {n n' : Nat} {a b : List Int} (h : Skips w S n n' a b) (hb : Below w.heap.size w w') : Skips w' S n n' a b := by
  intro i j hi hj
  obtain ⟨g, o, g', o', m, c, h1, h2, h3, h4, h5, h6⟩ := h i j hi hj
  exact ⟨g, o, g', o', m, c, h1, Nat.lt_of_lt_of_le h2 hb.size, Nat.lt_of_lt_of_le h3 hb.size, h4, (hb.cell h2).trans h5, (hb.cell h3).trans h6⟩

/-- The match, as far as it has come: for a's places ahead of i. -/
structure WalkIn (w wr : World) (n : Nat) (a b : List Int) (i j : Nat) (done : List Int) : Prop where
  row : wr.rowIs w.heap.size 3 n (fun t => .int .i64 (done[t]?.getD (-1)))
  len : done.length = i
  mt : mtAt a b 0 0 = done ++ mtAt a b i j
  below : Below w.heap.size w wr

section
variable {w wr : World} {n i j : Nat} {a b done : List Int}
theorem WalkIn.drew (h : WalkIn w wr n a b i j done) : WalkIn w wr.drew n a b i j done := ⟨h.row, h.len, h.mt, ⟨h.below.os, h.below.tape, h.below.output, h.below.size, h.below.block⟩⟩
theorem WalkIn.drewN (h : WalkIn w wr n a b i j done) (k : Nat) : WalkIn w (wr.drewN k) n a b i j done := ⟨h.row.of_block rfl, h.len, h.mt, below_drewN h.below k⟩
theorem WalkIn.pair (h : WalkIn w wr n a b i j done) {x : Int} (hx : a[i]? = some x) (hy : b[j]? = some x) : WalkIn w (wr.setCell ⟨w.heap.size, i, none⟩ (.int .i64 j)) n a b (i + 1) (j + 1) (done ++ [(j : Int)]) := by
  have hl := h.len
  refine ⟨(h.row.set i _).congr fun t _ => ?_, by simp [hl], by rw [h.mt, mtAt_pair hx hy]; simp, h.below.setCell (Nat.le_refl _) _⟩
  by_cases e : t = i
  · subst e; subst hl; simp
  · rw [if_neg e]
    rcases Nat.lt_or_ge t i with h1 | h1
    · rw [List.getElem?_append_left (by omega)]
    · rw [List.getElem?_eq_none (l := done) (by omega), List.getElem?_eq_none (by simp; omega)]
theorem WalkIn.pass (h : WalkIn w wr n a b i j done) {x y : Int} (hx : a[i]? = some x) (hy : b[j]? = some y) (hne : x ≠ y) (hs : skipAt a b i j = true) : WalkIn w wr n a b (i + 1) j (done ++ [-1]) := by
  have hl := h.len
  refine ⟨h.row.congr fun t _ => ?_, by simp [hl], by rw [h.mt, mtAt_pass hx hy hne (by unfold skipAt at hs; simp at hs; omega)]; simp, h.below⟩
  rcases Nat.lt_or_ge t i with h1 | h1
  · rw [List.getElem?_append_left (by omega)]
  · rw [List.getElem?_eq_none (l := done) (by omega), List.getElem?_append_right (by omega)]
    rcases Nat.eq_or_lt_of_le h1 with h2 | h2
    · rw [hl, ← h2]; simp
    · rw [List.getElem?_eq_none (by simp; omega)]
theorem WalkIn.skip (h : WalkIn w wr n a b i j done) {x y : Int} (hx : a[i]? = some x) (hy : b[j]? = some y) (hne : x ≠ y) (hs : skipAt a b i j = false) : WalkIn w wr n a b i (j + 1) done :=
  ⟨h.row, h.len, by rw [h.mt, mtAt_skip hx hy hne (by unfold skipAt at hs; simp at hs; omega)], h.below⟩
theorem WalkIn.stop (h : WalkIn w wr n a b i j done) (hla : a.length = n) (hout : n ≤ i ∨ b.length ≤ j) : wr.rowIs w.heap.size 3 n (fun t => .int .i64 ((mtAt a b 0 0)[t]?.getD (-1))) := by
  have hl := h.len
  refine h.row.congr fun t _ => ?_
  rw [h.mt]
  rcases Nat.lt_or_ge t i with h1 | h1
  · rw [List.getElem?_append_left (by omega)]
  · rw [List.getElem?_eq_none (l := done) (by omega), List.getElem?_append_right (by omega)]
    rcases hout with h2 | h2
    · rw [mtAt_end (by omega)]; simp
    · rw [mtAt_rest h2, List.getElem?_replicate]
      split <;> rfl
end

theorem nums_of_row {w : World} {g n : Nat} {xs : List Int} (hn : xs.length = n) (h : w.rowIs g 3 n (fun t => .int .i64 (xs[t]?.getD (-1)))) : Nums w w.heap.size (some ⟨g, 0, none⟩) n xs :=
  reads_of_row h _ (by simpa using hn) fun i u hu => by
    rw [List.getElem?_map] at hu
    cases hx : xs[i]? with
    | none => rw [hx] at hu; cases hu
    | some x => rw [hx] at hu; simpa using hu

set_option maxRecDepth 100000 in
set_option maxHeartbeats 2000000 in
theorem walk_any (A A' S : Option Addr) (n n' c c' cS B B' : Nat) (a b : List Int) (w : World) (hn : n ≤ 2000) (hn' : n' ≤ 2000) (hA : Nums w B A n a) (hA' : Nums w B' A' n' b) (hB : B ≤ w.heap.size) (hB' : B' ≤ w.heap.size) (hS : Skips w S n n' a b) :
    Calls Tryz.prog 94 #[.slice A n c, .slice A' n' c', .slice S n cS] w fun e w' => e = .returned (.slice (some ⟨w.heap.size, 0, none⟩) n n) ∧ Nums w' w'.heap.size (some ⟨w.heap.size, 0, none⟩) n (mt a b 0) ∧ Below w.heap.size w w' := by
  have hl := hA.len
  have hl' := hA'.len
  have hmk := run_make_row' (P := Tryz.prog) 69 3 (.int .i64 0) 8 Tryz.underlying69 infoInt rfl .i64 .i64 n (by omega) (by omega)
  have h0 : (w.alloc (.cells (madeCells #[.int .i64 0] n) 3)).rowIs w.heap.size 3 n (fun t => .int .i64 (if t < 0 then -1 else 0)) := (World.rowIs_made w (.int .i64 0) n 3).congr fun t _ => by simp
  have hb0 : Below w.heap.size w (w.alloc (.cells (madeCells #[.int .i64 0] n) 3)) := (Below.refl _ _).alloc (Nat.le_refl _) _
  have h0' := Lib.hid (And.intro h0 hb0)
  clear h0 hb0
  go_enter Tryz.func94, Tryz.ntmps94
  go_wp2
  go_loopw [8, 16] (fun _ sk wr => ∃ k : Nat, k ≤ n ∧ sk = .int .i64 k ∧ Hid (wr.rowIs w.heap.size 3 n (fun t => .int .i64 (if t < k then -1 else 0)) ∧ Below w.heap.size w wr)) (fun _ sk _ => n - (intOf sk).toNat)
  case atStart => exact ⟨0, Nat.zero_le _, rfl, h0'⟩
  case round =>
    obtain ⟨k, hk, rfl, hR⟩ := hrel
    obtain ⟨wo, rfl⟩ : ∃ wo : World, wo = wr := ⟨_, rfl⟩
    clear h0' hmk
    by_cases hlt : k < n
    · have hki : ((k : Int) < (n : Int)) := by omega
      have hk0 : (0 : Int) ≤ (k : Int) := by omega
      have f0 := hR.out.1.frozen k
      obtain ⟨u0, cu0⟩ : ∃ u, wo.cell? ⟨w.heap.size, k, none⟩ = some u := ⟨_, hR.out.1.cell hlt⟩
      have hst : Hid ((wo.setCell ⟨w.heap.size, k, none⟩ (.int .i64 (-1))).rowIs w.heap.size 3 n (fun t => .int .i64 (if t < k + 1 then -1 else 0)) ∧ Below w.heap.size w (wo.setCell ⟨w.heap.size, k, none⟩ (.int .i64 (-1)))) := Lib.hid ⟨(hR.out.1.set k _).congr fun t _ => by
        by_cases e : t = k
        · subst e; simp
        · rw [if_neg e]
          by_cases h1 : t < k
          · rw [if_pos h1, if_pos (by omega)]
          · rw [if_neg h1, if_neg (by omega)], hR.out.2.setCell (Nat.le_refl _) _⟩
      go_wp2
      go_roundw
      case rel => exact ⟨k + 1, by omega, by go_num, hst⟩
      case measure => simp [intOf]; omega
    · obtain rfl : k = n := by omega
      have h1 : WalkIn w wo k a b 0 0 [] := ⟨hR.out.1.congr fun t ht => by simp [ht], rfl, rfl, hR.out.2⟩
      have h1' := Lib.hid h1
      clear h1 hR
      go_wp2
      go_loopw [9, 10, 35, 53] (fun si sj _ _ wr => ∃ (i j : Nat) (done : List Int), i ≤ k ∧ j ≤ n' ∧ si = .int .i64 i ∧ sj = .int .i64 j ∧ Hid (WalkIn w wr k a b i j done)) (fun si sj _ _ _ => (k - (intOf si).toNat) + (n' - (intOf sj).toNat))
      case atStart => exact ⟨0, 0, [], Nat.zero_le _, Nat.zero_le _, rfl, rfl, h1'⟩
      case round =>
        obtain ⟨i, j, done, hi, hj, rfl, rfl, hW⟩ := hrel
        obtain ⟨wp, rfl⟩ : ∃ wp : World, wp = wr := ⟨_, rfl⟩
        clear h1'
        by_cases hin : i < k
        · by_cases hjn : j < n'
          · obtain ⟨ba, oa, x, rfl, hba, hx, hxa⟩ := hA.at_ (k := i) hin
            obtain ⟨bb, ob, y, rfl, hbb, hy, hyb⟩ := hA'.at_ (k := j) hjn
            obtain ⟨g, o, g', o', m, cm, rfl, hg, hg', hm, hs1, hs2⟩ := hS i j hin hjn
            have hBe := hW.out.below
            have cx : wp.cell? ⟨ba, oa + i, none⟩ = some (.int .i64 x) := (hBe.cell (p := ⟨ba, oa + i, none⟩) (by show ba < _; omega)).trans hxa
            have cy : wp.cell? ⟨bb, ob + j, none⟩ = some (.int .i64 y) := (hBe.cell (p := ⟨bb, ob + j, none⟩) (by show bb < _; omega)).trans hyb
            have cs1 := (hBe.cell (p := ⟨g, o + i, none⟩) (by show g < _; omega)).trans hs1
            have cs2 := (hBe.cell (p := ⟨g', o' + j, none⟩) (by show g' < _; omega)).trans hs2
            have f0 := hW.out.row.frozen i
            obtain ⟨u0, cu0⟩ : ∃ u, wp.cell? ⟨w.heap.size, i, none⟩ = some u := ⟨_, hW.out.row.cell hin⟩
            have i1 : (0 : Int) ≤ (i : Int) := by omega
            have i2 : (i : Int) < (k : Int) := by omega
            have i3 : (0 : Int) ≤ (j : Int) := by omega
            have i4 : (j : Int) < (n' : Int) := by omega
            have i5 : (j : Int) < (m : Int) := by omega
            clear hxa hyb hs1 hs2 hBe
            by_cases hxy : x = y
            · have hb : (x == y) = true := by simpa using hxy
              have hst := Lib.hid (hW.out.pair hx (hxy ▸ hy))
              clear hxy
              go_wp2
              go_quiet (fail)
              obtain ⟨z1, rfl⟩ : ∃ z1, z1 = nq := ⟨_, rfl⟩
              go_wp2
              go_roundw
              case rel => exact ⟨i + 1, j + 1, _, by omega, by omega, by go_num, by go_num, Lib.hid (hst.out.drewN z1)⟩
              case measure => simp [intOf]; omega
            · have hb : (x == y) = false := by simpa using hxy
              have hp := Lib.hid (hW.out.pass hx hy hxy)
              have hsk := Lib.hid (hW.out.skip hx hy hxy)
              obtain ⟨s, hs⟩ : ∃ s, s = skipAt a b i j := ⟨_, rfl⟩
              rw [← hs] at cs2
              have hs' := Lib.hid hs
              clear hxy hs
              go_wp2
              go_quiet (fail)
              obtain ⟨z1, rfl⟩ : ∃ z1, z1 = nq := ⟨_, rfl⟩
              cases s
              · go_wp2
                go_roundw
                case rel => exact ⟨i, j + 1, _, by omega, by omega, rfl, by go_num, Lib.hid ((hsk.out hs'.out.symm).drewN z1)⟩
                case measure => simp [intOf]; omega
              · go_wp2
                go_roundw
                case rel => exact ⟨i + 1, j, _, by omega, by omega, by go_num, rfl, Lib.hid ((hp.out hs'.out.symm).drewN z1)⟩
                case measure => simp [intOf]; omega
          · have hst := hW.out.stop hl (.inr (by omega))
            have hr : Nums wp wp.heap.size (some ⟨w.heap.size, 0, none⟩) k (mt a b 0) := nums_of_row (by rw [mt_len]; exact hl) hst
            have hr' := Lib.hid hr
            have hjf : decide ((j : Int) < (n' : Int)) = false := by simp; omega
            have hb := hW.out.below
            clear hst hr
            go_wp2
            go_ret
            exact ⟨rfl, hr'.out, hb⟩
        · have hst := hW.out.stop hl (.inl (by omega))
          have hr : Nums wp wp.heap.size (some ⟨w.heap.size, 0, none⟩) k (mt a b 0) := nums_of_row (by rw [mt_len]; exact hl) hst
          have hr' := Lib.hid hr
          have hif : decide ((i : Int) < (k : Int)) = false := by simp; omega
          have hb := hW.out.below
          clear hst hr
          go_wp2
          go_ret
          exact ⟨rfl, hr'.out, hb⟩

/-- What Clone leaves: a row of the call's own. -/
def CloneOut (w w' : World) (e : Ending) (n : Nat) (a : List Int) : Prop := ∃ v, e = .returned v ∧ w'.ownsRow w.heap.size 3 1 v n (a.map fun x => .int .i64 x) ∧ Below w.heap.size w w'

set_option maxHeartbeats 400000 in
theorem clone_any (A : Option Addr) (n c B : Nat) (a : List Int) (w : World) (hn : n ≤ 2000) (hB : B ≤ w.heap.size) (hA : Nums w B A n a) :
    Calls Tryz.prog 59 #[.slice A n c] w fun e w' => CloneOut w w' e n a := by
  have hl := hA.len
  obtain ⟨i0, hi, hz0, hz1, hz2⟩ := info_parts infoInt
  have hw0 : (w.alloc (.cells #[] 3)).ownsRow w.heap.size 3 1 (.slice (some ⟨w.heap.size, 0, none⟩) 0 0) 0 [] := own_empty w w.heap.size _ (Nat.le_refl _)
  have hB0 : Below w.heap.size w (w.alloc (.cells #[] 3)) := (Below.refl _ _).alloc (Nat.le_refl _) _
  have hm : Hid (0 + n ≤ maxLen ∧ (0 + n) * 8 ≤ 140737488355328) := Lib.hid ⟨by unfold maxLen; omega, by omega⟩
  cases A with
  | none =>
    have h0 : n = 0 := by
      rcases Nat.eq_zero_or_pos n with h0 | h0
      · exact h0
      · obtain ⟨_, _, h, _⟩ := hA.2 h0
        cases h
    subst h0
    obtain rfl : a = [] := List.eq_nil_of_length_eq_zero hl
    have hq : ∀ W : World, (binOp .eql 69 (.slice none 0 c) (.slice none 0 0)).run Tryz.prog W = .ok (.bool true) W := fun W => Lib.run_eql_slice_nil W _ _ _ _ _ _ _ Tryz.underlying69
    go_enter Tryz.func59, Tryz.ntmps59
    go_wp2
    go_ret
    exact ⟨_, rfl, World.ownsRow_nil _ _ _ _, Below.refl _ _⟩
  | some p =>
    have hA0 := Lib.hid ((hA.more hB).below hB0)
    clear hA
    have hq : ∀ W : World, (binOp .eql 69 (.slice (some p) n c) (.slice none 0 0)).run Tryz.prog W = .ok (.bool false) W := fun W => Lib.run_eql_slice_nil W _ _ _ _ _ _ _ Tryz.underlying69
    go_enter Tryz.func59, Tryz.ntmps59
    go_wp2_with (at_builtin; refine wpList_append_reads _ rfl _ _ 69 rfl w.heap.size 3 i0 (.int .i64 0) 8 Tryz.underlying69 hi hz0 hz1 hz2 rfl _ 0 [] rfl hw0 w.heap.size (some p) n c _ rfl hA0.out (nums_one _) hm.out.1 hm.out.2 hB0.size ?_; intro v1 w1 hown1 hg1; have hB1 : Below w.heap.size w w1 := hB0.grown hg1 hB0.size (fun j e => (hw0.lt j e).1); rw [Nat.zero_add, List.nil_append] at hown1)
    go_ret
    exact ⟨_, rfl, hown1, hB1⟩
end Go.Proofs.YticgjbckfpkpjaaGreat
