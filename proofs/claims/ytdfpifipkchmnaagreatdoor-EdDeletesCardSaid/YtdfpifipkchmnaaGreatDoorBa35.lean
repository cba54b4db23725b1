/- Proved here: texts joined: EdCm4. -/
import Derived.Test.YtdfpifipkchmnaaGreatDoorBa17
import Derived.Test.YtdfpifipkchmnaaGreatDoorBa34
import Derived.Deep.RegionHeld3
/- Proved here: the landed editor's command strip. -/
namespace Go.Proofs.YtdfpifipkchmnaaGreatDoor
open Go.RowKit
set_option linter.unusedVariables false
set_option maxRecDepth 100000

section
variable {B0 E a n c k f t : Nat} {w : World} {As : Option Addr} {ns cs : Nat} {fv : Value} {script file : Txs} {wr : Bool} {A : Option Addr} {l : List Nat}
set_option maxHeartbeats 1000000 in
theorem strip_form (h : EdI B0 w E (As, ns, cs) fv script ((a + 1 : Nat) : Int) file wr false) (hA : Nums w w.heap.size A n (l.map fun x : Nat => (x : Int))) (h1 : n ≠ 1) (h2 : n ≠ 2) :
    Calls Tryz.prog 47 #[.pointer (some ⟨E, 0, none⟩), .slice A n c] w fun e w' => EdWrong B0 w w' e (a + 1) 2 := by
  have hat := Lib.hid (at_form (c := c) h hA h1 h2)
  have hB := h.leB
  clear h hA h1 h2
  go_enter Tryz.func47, Tryz.ntmps47
  go_wp2_with (go_at_call 60; refine hat.out.mono ?_; rintro e w' ⟨rfl, hb⟩)
  exact ⟨rfl, rfl, hb.mono hB⟩
set_option maxHeartbeats 1000000 in
theorem strip_range (h : EdI B0 w E (As, ns, cs) fv script ((a + 1 : Nat) : Int) file wr false) (hA : Nums w w.heap.size A n (l.map fun x : Nat => (x : Int))) (hl : TwoN l n f t) (hf : f < 1000000000) (ht : t < 1000000000) (hbad : ¬ (0 < f ∧ f ≤ t ∧ t ≤ file.length)) :
    Calls Tryz.prog 47 #[.pointer (some ⟨E, 0, none⟩), .slice A n c] w fun e w' => EdWrong B0 w w' e (a + 1) 3 := by
  have hat := Lib.hid (at_range (c := c) h hA hl hf ht hbad)
  have hB := h.leB
  clear h hA hl hf ht hbad
  go_enter Tryz.func47, Tryz.ntmps47
  go_wp2_with (go_at_call 60; refine hat.out.mono ?_; rintro e w' ⟨rfl, hb⟩)
  exact ⟨rfl, rfl, hb.mono hB⟩

set_option maxHeartbeats 4000000 in
theorem strip_ok (h : EdI B0 w E (As, ns, cs) fv script ((a + 1 : Nat) : Int) file wr false) (hs : smallD file) (hA : Nums w w.heap.size A n (l.map fun x : Nat => (x : Int))) (hl : TwoN l n f t) (hf : f < 1000000000) (ht : t < 1000000000) (hok : 0 < f ∧ f ≤ t ∧ t ≤ file.length) :
    Calls Tryz.prog 47 #[.pointer (some ⟨E, 0, none⟩), .slice A n c] w fun e w' => CmdO B0 E (As, ns, cs) script w w' e (a + 1) (if dottedB (partE file f t) = false then .inl (7, a + 1) else .inr (layE file (f - 1) t (stripD (partE file f t)), false, 0)) := by
  have hat := at_ok (c := c) h hA hl hf ht hok
  rw [show (f : Int) - 1 = ((f - 1 : Nat) : Int) by omega] at hat
  have hB := h.leB
  have hlow := h.low
  obtain ⟨P, hP⟩ : ∃ P, partE file f t = P := ⟨_, rfl⟩
  rw [hP]
  have hP2 : (file.drop (f - 1)).take (t - (f - 1)) = P := by
    rw [← hP, ← List.drop_take]
    unfold partE
    congr 1
    omega
  have hPs : smallD P := by
    rw [← hP2]
    exact ⟨by rw [List.length_take, List.length_drop]; have := hs.1; omega, fun s hx => hs.2 s (List.mem_of_mem_drop (List.mem_of_mem_take hx))⟩
  obtain ⟨Af, cf, rfl, hnc, hcm, -⟩ := own_slice h.own
  have hTx : TxR w w.heap.size (Af, file.length, cf) file := txr_own h.own
  obtain ⟨A', m, q, hslc, hT, hm, -⟩ := slice_mid (i := f - 1) (k := t) hTx (by omega) hok.2.2
  rw [hP2] at hT
  have hdo : Hid (∀ (V : World), Below w.heap.size w V → Calls Tryz.prog 61 #[.slice A' m q] V fun e w' => OwnB V w' e (stripD P, dottedB P)) := Lib.hid (fun V hV => strip_own A' m q P V hPs (hT.up hV))
  have hSz : World → file.length + (stripD P).length ≤ 1000000 := fun _ => by
    have := hPs.1
    have := hs.1
    have e : (stripD P).length = P.length := by simp [stripD]
    omega
  have hput : Hid (∀ (V w2 : World) (v : Value), Below w.heap.size w V → Below V.heap.size V w2 → w2.ownsRow V.heap.size 9 1 v (stripD P).length (txC (stripD P)) →
      Calls Tryz.prog 58 #[.pointer (some ⟨E, 0, none⟩), .agg #[.int .i64 ((f - 1 : Nat) : Int), .int .i64 (t : Int)], v] w2 fun e w' => EdLeft B0 E (As, ns, cs) script w2 w' e ((a + 1 : Nat) : Int) (layE file (f - 1) t (stripD P)) false false) := Lib.hid (fun V w2 v hV h2 hv => put_any (h.up (hV.trans (h2.mono hV.size))) (by omega) hok.2.2 (hSz w2) hv (fun q e e2 => by have h3 := (hv.lt q e).1; have h4 := (h.own.lt q e2).2; have := hV.size; omega))
  have hcell := Lib.hid (fun (V : World) (hV : Below w.heap.size w V) => (h.up hV).cells)
  have hath := Lib.hid hat
  have hE := h.lt
  obtain ⟨I, hI⟩ : ∃ I : Int, I = ((f - 1 : Nat) : Int) := ⟨_, rfl⟩
  obtain ⟨T, hT2⟩ : ∃ T : Int, T = (t : Int) := ⟨_, rfl⟩
  obtain ⟨Z, hZ⟩ : ∃ Z, layE file (f - 1) t (stripD P) = Z := ⟨_, rfl⟩
  obtain ⟨Y, hY⟩ : ∃ Y, stripD P = Y := ⟨_, rfl⟩
  obtain ⟨D, hD⟩ : ∃ D, dottedB P = D := ⟨_, rfl⟩
  obtain ⟨N, hN⟩ : ∃ N, file.length = N := ⟨_, rfl⟩
  rw [← hI, ← hT2] at hath hput hslc
  rw [hZ] at hput ⊢
  rw [hY] at hput hdo
  rw [hD] at hdo ⊢
  rw [hN] at hslc hcell
  clear h hA hl hf ht hok hat hI hZ hs hP hP2 hPs hTx hT hT2 hm hY hD hN hnc hcm hSz
  cases D
  all_goals
    go_enter Tryz.func47, Tryz.ntmps47
    go_upto_region 1 with (go_at_call 60; refine hath.out.mono ?_; rintro e w1 ⟨rfl, hb⟩; have hB1 := Lib.hid hb; clear hb)
    have hs1 := hB1.out.size
    have hB2 : Below w.heap.size w (w1.alloc (.cells #[.int .i64 I, .int .i64 T] 88)).drew := (below_alloc hB1.out _).trans (below_drewN (Below.refl _ _) 1)
    have hbox : (w1.alloc (.cells #[.int .i64 I, .int .i64 T] 88)).drew.heap[w1.heap.size]? = some (.cells #[.int .i64 I, .int .i64 T] 88 (0, 0)) := by
      rw [heap_drew, push_at, if_pos rfl]
    have hsz : (w1.alloc (.cells #[.int .i64 I, .int .i64 T] 88)).drew.heap.size = w1.heap.size + 1 := by
      rw [heap_drew]; simp
    have hB2h := Lib.hid hB2
    have hkp := Lib.hid (fun (w2 : World) (hb : Below (w1.alloc (.cells #[.int .i64 I, .int .i64 T] 88)).drew.heap.size (w1.alloc (.cells #[.int .i64 I, .int .i64 T] 88)).drew w2) => cells_of ((hb.block w1.heap.size (by omega)).trans hbox))
    have hce := Lib.hid (fun (w2 : World) (hb : Below (w1.alloc (.cells #[.int .i64 I, .int .i64 T] 88)).drew.heap.size (w1.alloc (.cells #[.int .i64 I, .int .i64 T] 88)).drew w2) => (hcell.out w2 (hB2h.out.trans (hb.mono hB2h.out.size))).2.1)
    have z0 := (cells_of hbox 0).trans (show _ = some (Value.int .i64 I) from rfl)
    have z1 := (cells_of hbox 1).trans (show _ = some (Value.int .i64 T) from rfl)
    obtain ⟨-, -, x2, -, -⟩ := hcell.out _ hB2
    have hk3 := Lib.hid (fun (w2 : World) (hb : Below (w1.alloc (.cells #[.int .i64 I, .int .i64 T] 88)).drew.heap.size (w1.alloc (.cells #[.int .i64 I, .int .i64 T] 88)).drew w2) => And.intro (hcell.out w2 (hB2h.out.trans (hb.mono hB2h.out.size))).2.2.1 (And.intro ((hkp.out w2 hb 0).trans (show _ = some (Value.int .i64 I) from rfl)) ((hkp.out w2 hb 1).trans (show _ = some (Value.int .i64 T) from rfl))))
    have hst := Lib.hid (hdo.out _ hB2)
    have hputW := Lib.hid (fun w2 v => hput.out _ w2 v hB2)
    clear hB2 hbox hsz hdo hput
    go_region_held3 (fun wx : World => wx.cell? ⟨E, 2, none⟩ = some (.slice Af N cf) ∧ wx.cell? ⟨w1.heap.size, 0, none⟩ = some (.int .i64 I) ∧ wx.cell? ⟨w1.heap.size, 1, none⟩ = some (.int .i64 T))
      ((first | exact ⟨x2, z0, z1⟩ | exact hk3.out _ hb2.out))
      ((go_at_call 61; refine hst.out.mono ?_; rintro e w2 ⟨v, rfl, hT⟩; have hb2 := Lib.hid hT.below; have ho2 := Lib.hid hT.own; clear hT))
  · have hmb := Lib.hid (must_bad E 7 _ w2 (hce.out w2 hb2.out))
    have hfin := Lib.hid ((hB2h.out.mono hB).trans (hb2.out.mono (Nat.le_trans hB hB2h.out.size)))
    clear hkp hce hk3 hst hputW x2 z0 z1 hcell
    go_wp2_with (go_at_call 36; refine hmb.out.mono ?_; rintro e w' ⟨rfl, hww⟩; have hws := hww.symm; clear hww; subst hws)
    exact ⟨rfl, rfl, hfin.out⟩
  · have hmb := Lib.hid (must_ok E 7 w2)
    have hfin := Lib.hid ((BmK.of hB2h.out hB).trans (BmK.of hb2.out (Nat.le_trans hB hB2h.out.size)))
    obtain ⟨-, y0, y1⟩ := hk3.out w2 hb2.out
    have hP := Lib.hid (hputW.out w2 v hb2.out ho2.out)
    clear hkp hce hk3 hst hputW x2 z0 z1 hcell
    go_wp2_with (first
      | (go_at_call 36; refine hmb.out.mono ?_; rintro e w' ⟨rfl, hww⟩; have hws := hww.symm; clear hww; subst hws)
      | (go_at_call 58; refine hP.out.mono ?_; rintro e w3 ⟨fv3, rfl, hE3, hb3⟩; have hF := Lib.hid (And.intro hE3 hb3); clear hE3 hb3))
    go_end0
    exact ⟨fv3, rfl, hF.out.1, hfin.out.trans hF.out.2⟩
end
end Go.Proofs.YtdfpifipkchmnaaGreatDoor
