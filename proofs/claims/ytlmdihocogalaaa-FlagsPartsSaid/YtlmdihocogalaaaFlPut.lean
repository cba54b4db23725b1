/- Proved here: the contract of the closure that the landed flags.marked puts lists with. -/
import Derived.Test.YtlmdihocogalaaaConFlags
import Derived.Test.YtlmdihocogalaaaMkPlA
import Derived.Test.YtlmdihocogalaaaApart
import Derived.Test.YtlmdihocogalaaaAppendL
import Derived.Test.YtlmdihocogalaaaLinOpen
import Derived.Laws.EntriesVeiled
import Derived.Laws.OwnMore
import Derived.RangeFuncBox
namespace Go.Proofs.Ytlmdihocogalaaa
open Go.RowKit
set_option linter.unusedVariables false
set_option maxRecDepth 100000

/-- The boxes of marked: of the list (Bl), and of what the next mark has behind its signs (Be). -/
structure Mf (w0 : World) (Bl Be : Nat) (wr : World) (v : Value) (xs : Txs) (ex : Tx) : Prop where
  bl : Boxed wr Bl 22 v
  be : Boxed wr Be 9 (.string (str ex))
  own : TxO w0 wr v xs
  ne : v.ownBlock ≠ some Be
  lowl : w0.heap.size ≤ Bl
  lowe : w0.heap.size ≤ Be
def exF (d : Txs) : Tx := if openB d = true then [33] else []

section
variable {w0 wr w1 w2 : World} {Bl Be : Nat} {v v' : Value} {xs ys : Txs} {ex ex' : Tx}
theorem Mf.up (h : Mf w0 Bl Be wr v xs ex) (hb : Below wr.heap.size wr w1) : Mf w0 Bl Be w1 v xs ex :=
  ⟨(hb.block _ h.bl.lt).trans h.bl, (hb.block _ h.be.lt).trans h.be, h.own.call hb, h.ne, h.lowl, h.lowe⟩
/-- The list is another one: what append tells, stored. -/
theorem Mf.store (h : Mf w0 Bl Be wr v xs ex) (hT : TxO w0 w2 v' ys) (hg : wr.grownBy w2 v.ownBlock) (hloc : v'.ownBlock = v.ownBlock ∨ ∃ k, v'.ownBlock = some k ∧ wr.heap.size ≤ k) :
    w2.cell? ⟨Bl, 0, none⟩ = some v ∧ w2.frozen? ⟨Bl, 0, none⟩ = false ∧ w2.cell? ⟨Be, 0, none⟩ = some (.string (str ex)) ∧ w2.frozen? ⟨Be, 0, none⟩ = false ∧ Mf w0 Bl Be (w2.setCell ⟨Bl, 0, none⟩ v') v' ys ex := by
  have n1 : some Bl ≠ v.ownBlock := fun e => cells_not_row h.bl (by decide) h.own.own e.symm
  have b2 := h.bl.kept hg n1
  have e2 := h.be.kept hg (fun e => h.ne e.symm)
  have hs : But (fun k => k = Bl) w2 (w2.setCell ⟨Bl, 0, none⟩ v') := But.setCell (F := fun j => j = Bl) w2 (p := ⟨Bl, 0, none⟩) rfl _
  have n2 := cells_not_row b2 (by decide) hT.own
  refine ⟨b2.cell, b2.frozen, e2.cell, e2.frozen, b2.set _, (hs.block _ e2.lt fun e => box_ne e2 b2 (by decide) e).trans e2, ⟨ownsRow_kept hT.own fun k e => hs.block k (hT.own.lt k e).2 (fun e' => n2 (by rw [e, e'])), hT.below.trans (hs.below hT.below.size (by rintro k rfl; exact h.lowl))⟩, ?_, h.lowl, h.lowe⟩
  rcases hloc with e | ⟨k, e, hk⟩
  · rw [e]; exact h.ne
  · rw [e]
    have := h.be.lt
    intro e3
    injection e3 with e3
    omega
theorem Mf.setE (h : Mf w0 Bl Be wr v xs ex) (ex' : Tx) : Mf w0 Bl Be (wr.setCell ⟨Be, 0, none⟩ (.string (str ex'))) v xs ex' := by
  have hs : But (fun k => k = Be) wr (wr.setCell ⟨Be, 0, none⟩ (.string (str ex'))) := But.setCell (F := fun j => j = Be) wr (p := ⟨Be, 0, none⟩) rfl _
  exact ⟨(hs.block _ h.bl.lt fun e => box_ne h.bl h.be (by decide) e).trans h.bl, h.be.set _, ⟨ownsRow_kept h.own.own fun k e => hs.block k (h.own.own.lt k e).2 (fun e' => h.ne (by rw [e, e'])), h.own.below.trans (hs.below h.own.below.size (by rintro k rfl; exact h.lowe))⟩, h.ne, h.lowl, h.lowe⟩
theorem Mf.setL {g m n cap : Nat} {u : Tx} (h : Mf w0 Bl Be wr (.slice (some ⟨g, 0, none⟩) n cap) xs ex) : Mf w0 Bl Be (wr.setCell ⟨g, m, none⟩ (.string (str u))) (.slice (some ⟨g, 0, none⟩) n cap) (xs.set m u) ex := by
  have hs : But (fun k => k = g) wr (wr.setCell ⟨g, m, none⟩ (.string (str u))) := But.setCell (F := fun j => j = g) wr (p := ⟨g, m, none⟩) rfl _
  have e0 : (Value.slice (some ⟨g, 0, none⟩) n cap).ownBlock = some g := rfl
  have hlow := (h.own.own.lt g e0).1
  have hlen : xs.length = n := by
    obtain ⟨A, c, e, -, -, -⟩ := own_slice h.own.own
    injection e with _ e2 _
    exact e2.symm
  have hown0 := h.own.own
  rw [hlen] at hown0
  have hown := (hown0.stored m (.string (str u))).1
  have hne : (Value.slice (some ⟨g, 0, none⟩) n cap).ownBlock ≠ some Be := h.ne
  exact ⟨(hs.block _ h.bl.lt fun e => cells_not_row h.bl (by decide) h.own.own (by rw [e0, e])).trans h.bl, (hs.block _ h.be.lt fun e => hne (by rw [e0, e])).trans h.be, ⟨by rw [List.length_set, hlen, List.map_set]; exact hown, h.own.below.trans (hs.below h.own.below.size (by rintro k rfl; exact hlow))⟩, h.ne, h.lowl, h.lowe⟩
end

/-- What the closure leaves. -/
def MfOut (w0 : World) (Bl Be : Nat) (w' : World) (zs : Txs) (ex : Tx) : Prop := ∃ v', Mf w0 Bl Be w' v' zs ex

set_option maxHeartbeats 4000000 in
theorem putF_any (w0 : World) (Bl Be : Nat) (S N : Tx) (A : Option Addr) (n c : Nat) (v : Value) (xs d : Txs) (ex : Tx) (wr : World) (hC : Mf w0 Bl Be wr v xs ex) (hT : TxR w0 w0.heap.size (A, n, c) d) (hd : smallX d) (hx : xs.length ≤ 100000000) (hS : S.length ≤ 1000) (hN : N.length ≤ 1000) (he : ex.length ≤ 1000) :
    Calls Try.prog 28 #[.string (str S), .string (str N), .slice A n c, .pointer (some ⟨Bl, 0, none⟩), .pointer (some ⟨Be, 0, none⟩)] wr fun e w' => e = .returned (.tuple #[]) ∧ MfOut w0 Bl Be w' (xs ++ (S ++ ex ++ N ++ [10]) :: closed d) (exF d) := by
  have hl : d.length = n := hT.2.2.len
  obtain ⟨i0, hi, hzz⟩ := Option.map_eq_some_iff.1 infoStr
  simp only [Prod.mk.injEq] at hzz
  obtain ⟨hz0, hz1, hz2⟩ := hzz
  obtain ⟨T, hTx⟩ : ∃ T : Tx, S ++ ex ++ N ++ [10] = T := ⟨_, rfl⟩
  obtain ⟨BS, hBS⟩ : ∃ BS, str S = BS := ⟨_, rfl⟩
  obtain ⟨BE, hBE⟩ : ∃ BE, str ex = BE := ⟨_, rfl⟩
  obtain ⟨BN, hBN⟩ : ∃ BN, str N = BN := ⟨_, rfl⟩
  have z1 : BS.size ≤ 1000 := by rw [← hBS, str_size]; exact hS
  have z2 : BE.size ≤ 1000 := by rw [← hBE, str_size]; exact he
  have z3 : BN.size ≤ 1000 := by rw [← hBN, str_size]; exact hN
  have hTs : Hid (BS ++ BE ++ BN ++ ⟨#[10]⟩ = str T) := Lib.hid (by rw [← hTx, ← hBS, ← hBE, ← hBN, strs_app, strs_app, str_feed])
  have s1 : ¬ 9223372036854775807 < BS.size + BE.size := by omega
  have s2 : ¬ 9223372036854775807 < BS.size + BE.size + BN.size := by omega
  have s3 : ¬ 9223372036854775807 < BS.size + BE.size + BN.size + 1 := by omega
  have x0 := hC.bl.cell
  have y0 := hC.be.cell
  have hown0 : (wr.alloc (.cells #[.string (BS ++ BE ++ BN ++ ⟨#[10]⟩)] 9)).ownsRow w0.heap.size 9 1 v xs.length (xs.map fun s => .string (str s)) := hC.own.own.alloc _
  have hbase : w0.heap.size ≤ (wr.alloc (.cells #[.string (BS ++ BE ++ BN ++ ⟨#[10]⟩)] 9)).heap.size := by have := hC.own.below.size; simp; omega
  obtain ⟨L1, hL1⟩ : ∃ L1, (xs ++ [T]).length = L1 := ⟨_, rfl⟩
  have hmax : Hid ((xs.length + 1 ≤ maxLen ∧ (xs.length + 1) * 16 ≤ 140737488355328) ∧ (L1 + n ≤ maxLen ∧ (L1 + n) * 16 ≤ 140737488355328)) := Lib.hid (by have := hd.1; rw [← hL1, List.length_append, List.length_singleton]; unfold maxLen; omega)
  have hst1 : Hid (∀ (v1 : Value) (w1 : World), w1.ownsRow w0.heap.size 9 1 v1 (xs.length + 1) ((xs.map fun s => .string (str s)) ++ [.string (BS ++ BE ++ BN ++ ⟨#[10]⟩)]) → (wr.alloc (.cells #[.string (BS ++ BE ++ BN ++ ⟨#[10]⟩)] 9)).grownBy w1 v.ownBlock → (v1.ownBlock = v.ownBlock ∨ v1.ownBlock = some (wr.alloc (.cells #[.string (BS ++ BE ++ BN ++ ⟨#[10]⟩)] 9)).heap.size) →
      w1.cell? ⟨Bl, 0, none⟩ = some v ∧ w1.frozen? ⟨Bl, 0, none⟩ = false ∧ w1.cell? ⟨Be, 0, none⟩ = some (.string (str ex)) ∧ w1.frozen? ⟨Be, 0, none⟩ = false ∧ Mf w0 Bl Be (w1.setCell ⟨Bl, 0, none⟩ v1) v1 (xs ++ [T]) ex) := Lib.hid (fun v1 w1 h1 h2 h3 => by
    rw [hTs.out] at h1 h2 h3
    refine Mf.store hC (hC.own.push h1 h2) ((World.grownBy_alloc wr _ _).trans h2) (h3.imp id fun e => ⟨_, e, by simp⟩))
  have hst2 : Hid (∀ (v1 v2 : Value) (w1 w2 : World), Mf w0 Bl Be w1 v1 (xs ++ [T]) ex → w2.ownsRow w0.heap.size 9 1 v2 (L1 + n) (((xs ++ [T]).map fun s => .string (str s)) ++ d.map fun s => .string (str s)) → w1.grownBy w2 v1.ownBlock → (v2.ownBlock = v1.ownBlock ∨ v2.ownBlock = some w1.heap.size) →
      w2.cell? ⟨Bl, 0, none⟩ = some v1 ∧ w2.frozen? ⟨Bl, 0, none⟩ = false ∧ w2.cell? ⟨Be, 0, none⟩ = some (.string (str ex)) ∧ w2.frozen? ⟨Be, 0, none⟩ = false ∧ Mf w0 Bl Be (w2.setCell ⟨Bl, 0, none⟩ v2) v2 ((xs ++ [T]) ++ d) ex) := Lib.hid (fun v1 v2 w1 w2 hM h1 h2 h3 => Mf.store hM (hM.own.put hl (by rw [hL1]; exact h1) h2) h2 (h3.imp id fun e => ⟨_, e, Nat.le_refl _⟩))
  have hA : Hid (∀ (W : World), Below w0.heap.size w0 W → Strs W w0.heap.size A n d) := Lib.hid (fun W hW => Strs.below hT.2.2 hW)
  have hO : Hid (∀ W, Below w0.heap.size w0 W → Calls Try.prog 29 #[.slice A n c] W fun e w' => e = .returned (.bool (openB d)) ∧ W = w') := Lib.hid (fun W hW => Open_any A n c w0.heap.size d W (by have := hd.1; unfold maxLen; omega) (fun s h => by have := hd.2 s h; unfold maxLen; omega) (Strs.below hT.2.2 hW))
  rw [hTx]
  obtain ⟨o, ho⟩ : ∃ o, openB d = o := ⟨_, rfl⟩
  rw [ho] at hO
  have tok1 := trivial
  have hL1h := Lib.hid hL1
  have ne1 : Bl ≠ Be := fun e => box_ne hC.bl hC.be (by decide) e
  have ne2 : Be ≠ Bl := fun e => ne1 e.symm
  cases o
  · have hfin : Hid (xs ++ T :: closed d = (xs ++ [T]) ++ d ∧ exF d = []) := Lib.hid ⟨by rw [closed_same ho, List.append_assoc]; rfl, by unfold exF; rw [ho]; rfl⟩
    rw [hBE] at y0
    rw [hBS, hBN]
    clear hL1 hC hT ho hl hd hx hS hN he hTx hBS hBE hBN z1 z2 z3
    go_enter Try.func28, Try.ntmps28
    go_wp2_with (first
      | (at_builtin; have _t := tok1; refine wpList_append_own_at _ rfl _ _ 22 rfl w0.heap.size 9 i0 (.string ByteArray.empty) 1 16 Try.underlying22 hi hz0 hz1 hz2 rfl (by decide) v xs.length _ rfl hown0 ⟨wr.heap.size, 0, none⟩ 1 1 [.string (BS ++ BE ++ BN ++ ⟨#[10]⟩)] rfl rfl (cell_one_new _ _ _) (by simp; rfl) hmax.out.1.1 hmax.out.1.2 hbase ?_; intro v1 w1 hown1 hg1 hnil1 hloc1; obtain ⟨p1, p2, -, -, hM⟩ := hst1.out v1 w1 hown1 hg1 hloc1; obtain ⟨A1, c1, rfl, -, -, -⟩ := own_slice hown1; have hM1 := Lib.hid (And.intro hM (show World.ownsRow _ w0.heap.size 9 1 _ L1 _ from by have := hM.own.own; rw [hL1h.out] at this; exact this)); have x1 := hM.bl.cell; have tok2 := trivial; clear tok1 hown1 hg1 hnil1 hloc1 hM x0 hown0 hbase)
      | (at_builtin; have _t := tok2; refine wpList_append_readsL _ rfl _ _ 22 rfl w0.heap.size 9 i0 (.string ByteArray.empty) 16 Try.underlying22 hi hz0 hz1 hz2 rfl _ L1 _ rfl hM1.out.2 w0.heap.size A n c _ rfl (hA.out _ hM1.out.1.own.below) (strs_one _) hmax.out.2.1 hmax.out.2.2 hM1.out.1.own.below.size ?_; intro v2 w2 hown2 hg2 hloc2; obtain ⟨p3, p4, p5, p6, hM⟩ := hst2.out _ v2 _ w2 hM1.out.1 hown2 hg2 hloc2; obtain ⟨A2, c2, rfl, -, -, -⟩ := own_slice hown2; have hM2 := Lib.hid hM; have hM3 := Lib.hid (hM.setE []); have y1 := hM.be.cell; have y2 := hM.be.frozen; clear p1 p2 tok2 hown2 hg2 hloc2 hM x1)
      | (go_at_call 29; refine (hO.out _ hM3.out.own.below).mono ?_; rintro e w5 ⟨rfl, hw5⟩; subst hw5))
    go_end0
    exact ⟨rfl, _, by rw [hfin.out.1, hfin.out.2]; exact hM3.out⟩
  · obtain ⟨m, rfl⟩ : ∃ m, n = m + 1 := by
      cases n with
      | zero =>
        have : d = [] := List.eq_nil_of_length_eq_zero hl
        subst this
        cases ho
      | succ m => exact ⟨m, rfl⟩
    obtain ⟨t, ht⟩ : ∃ t, d[m]? = some t := ⟨d[m]'(by omega), List.getElem?_eq_getElem _⟩
    obtain ⟨M, hM⟩ : ∃ M, L1 + m = M := ⟨_, rfl⟩
    have hcl : Hid (xs ++ T :: closed d = ((xs ++ [T]) ++ d).set M (t ++ [10]) ∧ exF d = [33] ∧ ((xs ++ [T]) ++ d)[M]? = some t ∧ ((xs ++ [T]) ++ d).length = M + 1) := Lib.hid ⟨by
      rw [closed_setO hl ht ho, ← hM, ← hL1, List.set_append_right _ _ (by omega), Nat.add_sub_cancel_left, List.append_assoc]; rfl, by unfold exF; rw [ho]; rfl, by
      rw [← hM, ← hL1, List.getElem?_append_right (by omega), Nat.add_sub_cancel_left]; exact ht, by rw [List.length_append, hl, hL1]; omega⟩
    have htl : t.length ≤ 1000000 := hd.2 t (List.mem_of_getElem? ht)
    have hsum : ¬ 9223372036854775807 < (str t).size + 1 := by rw [str_size]; omega
    obtain ⟨K, hK⟩ : ∃ K, M + 1 = K := ⟨_, rfl⟩
    obtain ⟨n, hn⟩ : ∃ n, m + 1 = n := ⟨_, rfl⟩
    have hMb : M ≤ 200000000 := by have := hd.1; rw [← hL1, List.length_append, List.length_singleton] at hM; omega
    have hKl : Hid (L1 + n = K) := Lib.hid (by omega)
    rw [hn] at hA hO hmax hst2 ⊢
    rw [hK] at hcl
    have hNi : (K : Int) - 1 = (M : Int) := by omega
    have hNw : IntKind.i64.wrap ((K : Int) - 1) = (M : Int) := by rw [hNi]; exact IntWalk.i64_in _ (by omega)
    have hmw : IntKind.i64.wrap (M : Int) = (M : Int) := IntWalk.i64_in _ (by omega)
    have i1 : (0 : Int) ≤ (M : Int) := by omega
    have i2 : (M : Int) < (K : Int) := by omega
    have hKh := Lib.hid hK
    have hshape : Hid (∀ (v1 : Value) (W : World), Mf w0 Bl Be W v1 ((xs ++ [T]) ++ d) [] → ∃ g cap, v1 = .slice (some ⟨g, 0, none⟩) K cap ∧ W.cell? ⟨g, M, none⟩ = some (.string (str t)) ∧ W.frozen? ⟨g, M, none⟩ = false) := Lib.hid (fun v1 W h => by
      have hown := h.own.own
      rw [hcl.out.2.2.2] at hown
      obtain ⟨g, cap, rfl⟩ := (show ∃ g cap, v1 = .slice (some ⟨g, 0, none⟩) K cap from by rw [← hKh.out] at hown ⊢; exact ownsRow_succ hown)
      refine ⟨g, cap, rfl, ?_, hown.frozenAt M⟩
      rw [hown.cellAt (j := M) (by omega), List.getElem?_map, hcl.out.2.2.1]
      rfl)
    rw [hBE] at y0
    rw [hBS, hBN]
    clear hL1 hC hT ho hl hd hx hS hN he hTx hBS hBE hBN z1 z2 z3 ht hK hn hM htl hMb
    go_enter Try.func28, Try.ntmps28
    go_wp2_with (first
      | (at_builtin; have _t := tok1; refine wpList_append_own_at _ rfl _ _ 22 rfl w0.heap.size 9 i0 (.string ByteArray.empty) 1 16 Try.underlying22 hi hz0 hz1 hz2 rfl (by decide) v xs.length _ rfl hown0 ⟨wr.heap.size, 0, none⟩ 1 1 [.string (BS ++ BE ++ BN ++ ⟨#[10]⟩)] rfl rfl (cell_one_new _ _ _) (by simp; rfl) hmax.out.1.1 hmax.out.1.2 hbase ?_; intro v1 w1 hown1 hg1 hnil1 hloc1; obtain ⟨p1, p2, -, -, hM⟩ := hst1.out v1 w1 hown1 hg1 hloc1; obtain ⟨A1, c1, rfl, -, -, -⟩ := own_slice hown1; have hM1 := Lib.hid (And.intro hM (show World.ownsRow _ w0.heap.size 9 1 _ L1 _ from by have := hM.own.own; rw [hL1h.out] at this; exact this)); have x1 := hM.bl.cell; have tok2 := trivial; clear tok1 hown1 hg1 hnil1 hloc1 hM x0 hown0 hbase)
      | (at_builtin; have _t := tok2; refine wpList_append_readsL _ rfl _ _ 22 rfl w0.heap.size 9 i0 (.string ByteArray.empty) 16 Try.underlying22 hi hz0 hz1 hz2 rfl _ L1 _ rfl hM1.out.2 w0.heap.size A n c _ rfl (hA.out _ hM1.out.1.own.below) (strs_one _) hmax.out.2.1 hmax.out.2.2 hM1.out.1.own.below.size ?_; intro v2 w2 hown2 hg2 hloc2; obtain ⟨p3, p4, p5, p6, hM⟩ := hst2.out _ v2 _ w2 hM1.out.1 hown2 hg2 hloc2; obtain ⟨A2, c2, rfl, -, -, -⟩ := own_slice hown2; have hM2 := Lib.hid hM; have hM3 := Lib.hid (hM.setE []); have y1 := hM.be.cell; have y2 := hM.be.frozen; clear p1 p2 tok2 hown2 hg2 hloc2 hM x1)
      | (go_at_call 29; refine (hO.out _ hM3.out.own.below).mono ?_; rintro e w5 ⟨rfl, hw5⟩; obtain ⟨w3, hw3⟩ : ∃ w3, w3 = (w2.setCell ⟨Bl, 0, none⟩ (.slice A2 (L1 + n) c2)).setCell ⟨Be, 0, none⟩ (.string (str [])) := ⟨_, rfl⟩; rw [← hw3] at hM3; have hw4 := hw5.symm.trans hw3.symm; clear hw5 hw3; subst hw4; obtain ⟨g, cap, e1, z0, z1⟩ := hshape.out _ _ hM3.out; rw [hKl.out] at e1 hM3; rw [hKl.out]; injection e1 with e1 e2 e3; subst e1; subst e3; have z2 := hM3.out.bl.cell; have hM4 := hM3.out.setL (m := M) (u := t ++ [10]); rw [← str_feed] at hM4; have y2 := hM4.be.cell; have y3 := hM4.be.frozen; have hM5 := Lib.hid (hM4.setE [33]); clear y1 hM4))
    go_end0
    exact ⟨rfl, _, by rw [hcl.out.1, hcl.out.2.1]; exact hM5.out⟩
end Go.Proofs.Ytlmdihocogalaaa
