/- Proved here: texts joined: MkCl, MkPart, RowSl. -/
import Derived.Test.YtcpopnhnihbofaaGreatDoorBe07
import Derived.Test.YtcpopnhnihbofaaGreatDoorBe24
import Derived.Test.YtcpopnhnihbofaaGreatDoorBe32
import Derived.Laws.EntriesVeiled
import Derived.Deep.RegionHeld3
import Derived.RangeFuncBox
/- Proved here: the closures of the landed mark's putConflict: one ends texts, one puts a part behind its mark. -/
namespace Go.Proofs.YtcpopnhnihbofaaGreatDoor
open Go.RowKit
set_option linter.unusedVariables false
set_option maxRecDepth 100000

/-- The sheet, and the boxes of putConflict: of the sheet's pointer, of the piece (q), of what the next mark has behind its signs, of the closure that ends. -/
structure Cf (w0 : World) (L Bs Be Bp : Nat) (q : Nat × Array Value) (wr : World) (long : Nat) (v : Value) (xs : Txs) (ex : Tx) : Prop where
  sh : Sh w0 L wr long v xs
  bs : Boxed wr Bs 73 (.pointer (some ⟨L, 0, none⟩))
  be : Boxed wr Be 9 (.string (str ex))
  bp : Boxed wr Bp 93 (.func (.func 80) #[] #[.pointer (some ⟨Bs, 0, none⟩), .pointer (some ⟨Be, 0, none⟩)])
  pc : wr.heap[q.1]? = some (.cells q.2 40 (0, 0))
  ne : v.ownBlock ≠ some Be
  low : w0.heap.size ≤ Be
def exT (d : Txs) : Tx := if openB d = true then [33] else []

section
variable {w0 wr w1 w2 : World} {L Bs Be Bp long : Nat} {q : Nat × Array Value} {v v' : Value} {xs ys : Txs} {ex ex' : Tx}
theorem Cf.up (h : Cf w0 L Bs Be Bp q wr long v xs ex) (hb : Below wr.heap.size wr w1) : Cf w0 L Bs Be Bp q w1 long v xs ex :=
  ⟨h.sh.up hb, (hb.block _ h.bs.lt).trans h.bs, (hb.block _ h.be.lt).trans h.be, (hb.block _ h.bp.lt).trans h.bp, (hb.block _ (Array.getElem?_eq_some_iff.1 h.pc).1).trans h.pc, h.ne, h.low⟩
theorem Cf.put (h : Cf w0 L Bs Be Bp q wr long v xs ex) (hp : ShPut w0 L wr w1 long v ys) : ∃ v', Cf w0 L Bs Be Bp q w1 long v' ys ex := by
  obtain ⟨v', h1, h2, h3⟩ := hp
  have n1 : ¬ (Bs = L ∨ v.ownBlock = some Bs) := by
    rintro (e | e)
    · exact box_ne h.bs h.sh.at_ (by decide) e
    · exact cells_not_row h.bs (by decide) h.sh.own.own e
  have n2 : ¬ (Be = L ∨ v.ownBlock = some Be) := by
    rintro (e | e)
    · exact box_ne h.be h.sh.at_ (by decide) e
    · exact h.ne e
  have n3 : ¬ (Bp = L ∨ v.ownBlock = some Bp) := by
    rintro (e | e)
    · exact box_ne h.bp h.sh.at_ (by decide) e
    · exact cells_not_row h.bp (by decide) h.sh.own.own e
  have n4 : ¬ (q.1 = L ∨ v.ownBlock = some q.1) := by
    rintro (e | e)
    · exact box_ne h.pc h.sh.at_ (by decide) e
    · exact cells_not_row h.pc (by decide) h.sh.own.own e
  refine ⟨v', h1, (h2.block _ h.bs.lt n1).trans h.bs, (h2.block _ h.be.lt n2).trans h.be, (h2.block _ h.bp.lt n3).trans h.bp, (h2.block _ (Array.getElem?_eq_some_iff.1 h.pc).1 n4).trans h.pc, ?_, h.low⟩
  rcases h3 with e | e
  · rw [e]; exact h.ne
  · rw [e]
    have := h.be.lt
    intro e2
    injection e2 with e2
    omega
theorem Cf.setE (h : Cf w0 L Bs Be Bp q wr long v xs ex) (ex' : Tx) : Cf w0 L Bs Be Bp q (wr.setCell ⟨Be, 0, none⟩ (.string (str ex'))) long v xs ex' := by
  have hs : But (fun k => k = Be) wr (wr.setCell ⟨Be, 0, none⟩ (.string (str ex'))) := But.setCell (F := fun j => j = Be) wr (p := ⟨Be, 0, none⟩) rfl _
  refine ⟨h.sh.but hs (fun e => box_ne h.be h.sh.at_ (by decide) e.symm) (fun k e e2 => h.ne (by rw [e, e2])) (by rintro k rfl; exact h.low), (hs.block _ h.bs.lt fun e => box_ne h.bs h.be (by decide) e).trans h.bs, h.be.set _, (hs.block _ h.bp.lt fun e => box_ne h.bp h.be (by decide) e).trans h.bp, (hs.block _ (Array.getElem?_eq_some_iff.1 h.pc).1 fun e => box_ne h.pc h.be (by decide) e).trans h.pc, h.ne, h.low⟩
theorem Cf.setL {g m n cap : Nat} {u : Tx} (h : Cf w0 L Bs Be Bp q wr long (.slice (some ⟨g, 0, none⟩) n cap) xs ex) : Cf w0 L Bs Be Bp q (wr.setCell ⟨g, m, none⟩ (.string (str u))) long (.slice (some ⟨g, 0, none⟩) n cap) (xs.set m u) ex := by
  have hs : But (fun k => k = g) wr (wr.setCell ⟨g, m, none⟩ (.string (str u))) := But.setCell (F := fun j => j = g) wr (p := ⟨g, m, none⟩) rfl _
  have e0 : (Value.slice (some ⟨g, 0, none⟩) n cap).ownBlock = some g := rfl
  have hlow := (h.sh.own.own.lt g e0).1
  have hn := h.sh.own.own.1
  have hlen : xs.length = n := by
    obtain ⟨A, c, e, -, -, -⟩ := own_slice h.sh.own.own
    injection e with _ e2 _
    exact e2.symm
  have hown0 := h.sh.own.own
  rw [hlen] at hown0
  have hown := (hown0.stored m (.string (str u))).1
  have hne : (Value.slice (some ⟨g, 0, none⟩) n cap).ownBlock ≠ some Be := h.ne
  refine ⟨⟨(hs.block L (Array.getElem?_eq_some_iff.1 h.sh.at_).1 fun e => cells_not_row h.sh.at_ (by decide) h.sh.own.own (by rw [e0, e])).trans h.sh.at_, ⟨by rw [List.length_set, hlen, List.map_set]; exact hown, h.sh.own.below.trans (hs.below h.sh.own.below.size (by rintro k rfl; exact hlow))⟩, h.sh.low⟩, (hs.block _ h.bs.lt fun e => cells_not_row h.bs (by decide) h.sh.own.own (by rw [e0, e])).trans h.bs, (hs.block _ h.be.lt fun e => hne (by rw [e0, e])).trans h.be, (hs.block _ h.bp.lt fun e => cells_not_row h.bp (by decide) h.sh.own.own (by rw [e0, e])).trans h.bp, (hs.block _ (Array.getElem?_eq_some_iff.1 h.pc).1 fun e => cells_not_row h.pc (by decide) h.sh.own.own (by rw [e0, e])).trans h.pc, h.ne, h.low⟩
end

/-- What a closure leaves: more texts, and what the next mark has. -/
def CfOut (w0 : World) (L Bs Be Bp : Nat) (q : Nat × Array Value) (w' : World) (long : Nat) (zs : Txs) (ex : Tx) : Prop := ∃ v', Cf w0 L Bs Be Bp q w' long v' zs ex

set_option maxHeartbeats 4000000 in
theorem putEnded_any (w0 : World) (L Bs Be Bp long : Nat) (q : Nat × Array Value) (A : Option Addr) (n c : Nat) (v : Value) (xs d : Txs) (ex : Tx) (wr : World) (hC : Cf w0 L Bs Be Bp q wr long v xs ex) (hT : TxR w0 w0.heap.size (A, n, c) d) (hd : d.length ≤ 100000) (hs : ∀ s ∈ d, s.length ≤ 1000000) (hx : xs.length ≤ 100000000) :
    Calls Tryz.prog 80 #[.slice A n c, .pointer (some ⟨Bs, 0, none⟩), .pointer (some ⟨Be, 0, none⟩)] wr fun e w' => e = .returned (.tuple #[]) ∧ CfOut w0 L Bs Be Bp q w' long (xs ++ closed d) (exT d) := by
  have hl : d.length = n := hT.2.2.len
  have x0 := hC.bs.cell
  have hP := Lib.hid (shPut_any w0 L long A n c w0.heap.size v xs d wr hC.sh (Strs.below hT.2.2 hC.sh.own.below) (by omega))
  have hO : Hid (∀ W, Below w0.heap.size w0 W → Calls Tryz.prog 49 #[.slice A n c] W fun e w' => e = .returned (.bool (openB d)) ∧ W = w') := Lib.hid (fun W hW => Open_any A n c w0.heap.size d W (by unfold maxLen; omega) (fun s h => by have := hs s h; unfold maxLen; omega) (Strs.below hT.2.2 hW))
  obtain ⟨o, ho⟩ : ∃ o, openB d = o := ⟨_, rfl⟩
  rw [ho] at hO
  have hCh := Lib.hid hC
  cases o
  · have hfin : Hid (closed d = d ∧ exT d = []) := Lib.hid ⟨closed_same ho, by unfold exT; rw [ho]; rfl⟩
    clear hC hT ho hs hl
    go_enter Tryz.func80, Tryz.ntmps80
    go_wp2_with (first
      | (go_at_call 53; refine hP.out.mono ?_; rintro e w1 ⟨rfl, hp⟩; obtain ⟨v1, hC1⟩ := hCh.out.put hp; have hC1h := Lib.hid hC1; have hC2h := Lib.hid (hC1.setE []); have y0 := hC1.be.cell; have y1 := hC1.be.frozen; clear hp hC1 x0)
      | (go_at_call 49; refine (hO.out _ hC2h.out.sh.own.below).mono ?_; rintro e w2 ⟨rfl, hw2⟩; subst hw2))
    go_end0
    exact ⟨rfl, v1, by rw [hfin.out.1, hfin.out.2]; exact hC2h.out⟩
  · obtain ⟨m, rfl⟩ : ∃ m, n = m + 1 := by
      cases n with
      | zero =>
        have : d = [] := List.eq_nil_of_length_eq_zero hl
        subst this
        cases ho
      | succ m => exact ⟨m, rfl⟩
    obtain ⟨t, ht⟩ : ∃ t, d[m]? = some t := ⟨d[m]'(by omega), List.getElem?_eq_getElem _⟩
    obtain ⟨M, hM⟩ : ∃ M, xs.length + m = M := ⟨_, rfl⟩
    have hcl : Hid (xs ++ closed d = (xs ++ d).set M (t ++ [10]) ∧ exT d = [33] ∧ (xs ++ d)[M]? = some t ∧ (xs ++ d).length = M + 1) := Lib.hid ⟨by
      rw [closed_setO hl ht ho, ← hM, List.set_append_right _ _ (by omega), Nat.add_sub_cancel_left], by unfold exT; rw [ho]; rfl, by
      rw [← hM, List.getElem?_append_right (by omega), Nat.add_sub_cancel_left]; exact ht, by rw [List.length_append, hl]; omega⟩
    have htl : t.length ≤ 1000000 := hs t (List.mem_of_getElem? ht)
    have hsum : ¬ 9223372036854775807 < (str t).size + 1 := by rw [str_size]; omega
    obtain ⟨N, hN⟩ : ∃ N, M + 1 = N := ⟨_, rfl⟩
    obtain ⟨N', hN'⟩ : ∃ N', m + 1 = N' := ⟨_, rfl⟩
    rw [hN'] at hP hO ⊢
    rw [hN] at hcl
    have hMb : M ≤ 200000000 := by omega
    have hNi : (N : Int) - 1 = (M : Int) := by omega
    have hNw : IntKind.i64.wrap ((N : Int) - 1) = (M : Int) := by rw [hNi]; exact IntWalk.i64_in _ (by omega)
    have hmw : IntKind.i64.wrap (M : Int) = (M : Int) := IntWalk.i64_in _ (by omega)
    have i1 : (0 : Int) ≤ (M : Int) := by omega
    have i2 : (M : Int) < (N : Int) := by omega
    have hNh := Lib.hid hN
    have hshape : Hid (∀ (v1 : Value) (W : World), Cf w0 L Bs Be Bp q W long v1 (xs ++ d) [] → ∃ g cap, v1 = .slice (some ⟨g, 0, none⟩) N cap ∧ W.cell? ⟨g, M, none⟩ = some (.string (str t)) ∧ W.frozen? ⟨g, M, none⟩ = false) := Lib.hid (fun v1 W h => by
      have hown := h.sh.own.own
      rw [hcl.out.2.2.2] at hown
      obtain ⟨g, cap, rfl⟩ := (show ∃ g cap, v1 = .slice (some ⟨g, 0, none⟩) N cap from by rw [← hNh.out] at hown ⊢; exact ownsRow_succ hown)
      refine ⟨g, cap, rfl, ?_, hown.frozenAt M⟩
      rw [hown.cellAt (j := M) (by omega), List.getElem?_map, hcl.out.2.2.1]
      rfl)
    clear hC hT ho hs hl ht hN hN' hM htl hMb hx hd
    go_enter Tryz.func80, Tryz.ntmps80
    go_wp2_with (first
      | (go_at_call 53; refine hP.out.mono ?_; rintro e w1 ⟨rfl, hp⟩; obtain ⟨v1, hC1⟩ := hCh.out.put hp; have hC2h := Lib.hid (hC1.setE []); have y0 := hC1.be.cell; have y1 := hC1.be.frozen; clear hp hC1 x0)
      | (go_at_call 49; refine (hO.out _ hC2h.out.sh.own.below).mono ?_; rintro e w2 ⟨rfl, hw2⟩; obtain ⟨w3, hw3⟩ : ∃ w3, w3 = w1.setCell ⟨Be, 0, none⟩ (.string (str [])) := ⟨_, rfl⟩; rw [← hw3] at hC2h; have hw4 := hw2.symm.trans hw3.symm; clear hw2 hw3; subst hw4; obtain ⟨g, cap, rfl, z0, z1⟩ := hshape.out v1 _ hC2h.out; have z2 := hC2h.out.sh.txs_at; have z3 := hC2h.out.bs.cell; have hC3 := hC2h.out.setL (m := M) (u := t ++ [10]); rw [← str_feed] at hC3; have y2 := hC3.be.cell; have y3 := hC3.be.frozen; have hC4h := Lib.hid ((hC3.up (below_drewN (Below.refl _ _) 1)).setE [33]); clear y0 y1 hC3))
    go_region
    go_wp2
    go_end0
    exact ⟨rfl, _, by rw [hcl.out.1, hcl.out.2.1]; exact hC4h.out⟩
end Go.Proofs.YtcpopnhnihbofaaGreatDoor
/- Proved here: the closure of the landed mark's putConflict that puts a part behind its mark. -/
namespace Go.Proofs.YtcpopnhnihbofaaGreatDoor
open Go.RowKit
set_option linter.unusedVariables false
set_option maxRecDepth 100000

theorem mark_str (sg : UInt8) (long : Nat) (ex name : Tx) : str (List.replicate long sg) ++ (str ex ++ ⟨#[32]⟩ ++ str name) ++ str [10] = str (List.replicate long sg ++ ex ++ (32 :: name) ++ [10]) := by
  show str (List.replicate long sg) ++ (str ex ++ str [32] ++ str name) ++ str [10] = _
  rw [strs_app, strs_app, strs_app, strs_app]
  simp

set_option maxHeartbeats 4000000 in
theorem putPart_any (w0 : World) (L Bs Be Bp long : Nat) (q : Nat × Array Value) (sg : UInt8) (name : Tx) (A : Option Addr) (n c : Nat) (v : Value) (xs d : Txs) (ex : Tx) (wr : World) (hlong : long ≤ 4096) (hnm : name.length ≤ 100) (hex : ex.length ≤ 1) (hC : Cf w0 L Bs Be Bp q wr long v xs ex) (hT : TxR w0 w0.heap.size (A, n, c) d) (hd : d.length ≤ 100000) (hs : ∀ s ∈ d, s.length ≤ 1000000) (hx : xs.length ≤ 50000000) :
    Calls Tryz.prog 81 #[.string (str [sg]), .string (str name), .slice A n c, .pointer (some ⟨Bs, 0, none⟩), .pointer (some ⟨Be, 0, none⟩), .pointer (some ⟨Bp, 0, none⟩)] wr fun e w' => e = .returned (.tuple #[]) ∧ CfOut w0 L Bs Be Bp q w' long (xs ++ [List.replicate long sg ++ ex ++ (32 :: name) ++ [10]] ++ closed d) (exT d) := by
  obtain ⟨M0, hM0⟩ : ∃ M0, List.replicate long sg ++ ex ++ (32 :: name) ++ [10] = M0 := ⟨_, rfl⟩
  have hms := mark_str sg long ex name
  rw [hM0] at hms ⊢
  obtain ⟨E, hE⟩ : ∃ E, str ex = E := ⟨_, rfl⟩
  obtain ⟨NM, hNM⟩ : ∃ NM, str name = NM := ⟨_, rfl⟩
  have hEs : E.size ≤ 1 := by rw [← hE, str_size]; exact hex
  have hNs : NM.size ≤ 100 := by rw [← hNM, str_size]; exact hnm
  have hDs : (E ++ ⟨#[32]⟩ ++ NM).size ≤ 1000000 := by
    rw [ByteArray.size_append, ByteArray.size_append]
    show E.size + 1 + NM.size ≤ _
    omega
  have h1 : ¬ 9223372036854775807 < E.size + 1 := by omega
  have h2 : ¬ 9223372036854775807 < E.size + 1 + NM.size := by omega
  have hMk : Hid (∀ W, Below wr.heap.size wr W → Calls Tryz.prog 82 #[.agg #[.int .i64 (long : Int)], .string (str [sg]), .string (E ++ ⟨#[32]⟩ ++ NM)] W fun e w' => e = .returned (.string (str M0)) ∧ Below wr.heap.size wr w') := Lib.hid (fun W hW => by
    have h := lMark_any sg long (E ++ ⟨#[32]⟩ ++ NM) W hlong hDs
    rw [← hE, ← hNM, hms] at h
    rw [← hE, ← hNM]
    exact h.mono fun e w' h => ⟨h.1, hW.trans (h.2.mono hW.size)⟩)
  have hPut : Hid (∀ W, Below wr.heap.size wr W → Calls Tryz.prog 53 #[.pointer (some ⟨L, 0, none⟩), .slice (some ⟨W.heap.size, 0, none⟩) 1 1] (W.alloc (.cells #[.string (str M0)] 9)) fun e w' => e = .returned (.tuple #[]) ∧ CfOut w0 L Bs Be Bp q w' long (xs ++ [M0]) ex) := Lib.hid (fun W hW => by
    have hb := below_alloc hW (.cells #[.string (str M0)] 9)
    have hC1 := hC.up hb
    have hR : TxR (W.alloc (.cells #[.string (str M0)] 9)) (W.alloc (.cells #[.string (str M0)] 9)).heap.size (some ⟨W.heap.size, 0, none⟩, 1, 1) [M0] := txr_of (one_a W _) rfl rfl (by decide)
    exact (shPut_any w0 L long (some ⟨W.heap.size, 0, none⟩) 1 1 _ v xs [M0] _ hC1.sh hR.2.2 (by omega)).mono fun e w' h => ⟨h.1, hC1.put h.2⟩)
  have hEnd : Hid (∀ (v1 : Value) (W : World), Cf w0 L Bs Be Bp q W long v1 (xs ++ [M0]) ex → Calls Tryz.prog 80 #[.slice A n c, .pointer (some ⟨Bs, 0, none⟩), .pointer (some ⟨Be, 0, none⟩)] W fun e w' => e = .returned (.tuple #[]) ∧ CfOut w0 L Bs Be Bp q w' long (xs ++ [M0] ++ closed d) (exT d)) := Lib.hid (fun v1 W h => putEnded_any w0 L Bs Be Bp long q A n c v1 (xs ++ [M0]) d ex W h hT hd hs (by simp; omega))
  have b0 := hC.bs.cell
  have b1 := hC.sh.long_at
  have b2 := hC.be.cell
  rw [hE] at b2
  have hS : Hid (∀ W, Below wr.heap.size wr W → W.cell? ⟨Bs, 0, none⟩ = some (.pointer (some ⟨L, 0, none⟩)) ∧ W.cell? ⟨L, 0, none⟩ = some (.int .i64 (long : Int)) ∧ W.cell? ⟨Be, 0, none⟩ = some (.string E)) := Lib.hid (fun W hW => by
    have h := hC.up hW
    have h2 := h.be.cell
    rw [hE] at h2
    exact ⟨h.bs.cell, h.sh.long_at, h2⟩)
  have hS2 : Hid (∀ (v1 : Value) (W : World), Cf w0 L Bs Be Bp q W long v1 (xs ++ [M0]) ex → W.cell? ⟨Bs, 0, none⟩ = some (.pointer (some ⟨L, 0, none⟩)) ∧ W.cell? ⟨L, 0, none⟩ = some (.int .i64 (long : Int)) ∧ W.cell? ⟨Be, 0, none⟩ = some (.string E)) := Lib.hid (fun v1 W h => by
    have h2 := h.be.cell
    rw [hE] at h2
    exact ⟨h.bs.cell, h.sh.long_at, h2⟩)
  obtain ⟨S, hSS⟩ : ∃ S, str [sg] = S := ⟨_, rfl⟩
  rw [hSS] at hMk
  rw [hSS]
  have hrefl := Below.refl wr.heap.size wr
  rw [hNM]
  clear hC hT hs hd hx hM0 hms hE hNM hDs hSS hlong hnm hex
  go_enter Tryz.func81, Tryz.ntmps81
  go_upto_region 0 with fail
  go_region_held3 (fun wx : World => wx.cell? ⟨Bs, 0, none⟩ = some (.pointer (some ⟨L, 0, none⟩)) ∧ wx.cell? ⟨L, 0, none⟩ = some (.int .i64 (long : Int)) ∧ wx.cell? ⟨Be, 0, none⟩ = some (.string E))
    ((first | exact hst | (refine hS.out _ ?_; repeat (first | assumption | refine below_drew ?_ | refine below_alloc ?_ _))))
    ((first
      | (go_at_call 82; refine (hMk.out _ ?_).mono ?_; (repeat (first | assumption | refine below_drew ?_ | refine below_alloc ?_ _)); rintro e w5 ⟨rfl, hb5⟩)
      | (go_at_call 53; refine (hPut.out _ ?_).mono ?_; (repeat (first | assumption | refine below_drew ?_ | refine below_alloc ?_ _)); rintro e w6 ⟨rfl, v6, hC6⟩; have hst := hS2.out v6 w6 hC6; have hC6h := Lib.hid hC6; clear hC6)))
  have bx := hC6h.out.bp.cell
  clear hst
  go_wp2_with (go_at_call 80; refine (hEnd.out v6 _ hC6h.out).mono ?_; rintro e w7 ⟨rfl, hC7⟩; have hC7h := Lib.hid hC7; clear hC7)
  go_end0
  exact ⟨rfl, hC7h.out⟩
end Go.Proofs.YtcpopnhnihbofaaGreatDoor
/- Proved here: a slice of slices of texts cut by one bound alone, ahead or behind. -/
namespace Go.Proofs.YtcpopnhnihbofaaGreatDoor
open Go.RowKit
set_option linter.unusedVariables false
set_option maxRecDepth 100000

/-- 's[:k]'. -/
theorem rows_to {w : World} {B n c : Nat} {A : Option Addr} {rs : List Slc} {ds : List (List (List UInt8))} {k : Nat} (h : RowsT w B A n rs ds) (hnc : n ≤ c) (hcm : c ≤ maxLen) (hk : k ≤ n) :
    ∃ A' m q, (∀ W : World, (Instr.slice 38 (.slice A n c) none (some (.int .i64 (k : Int))) none).run Tryz.prog W = .ok (.slice A' m q) W) ∧ m ≤ q ∧ q ≤ maxLen ∧ m = k ∧ RowsT w B A' m (rs.take k) (ds.take k) := by
  have hl := h.len
  have hr := h.rlen
  obtain ⟨h1, h2, h3⟩ := h
  refine ⟨(if c = 0 then A else A.map (·.add 0)), k, c, fun W => ?_, by omega, hcm, rfl, ⟨by rw [List.length_map, List.length_take]; omega, fun hn => ?_⟩, by rw [List.length_take, List.length_take, h2], fun i r ss a b => ?_⟩
  · rw [run_slice_h (P := Tryz.prog) W 38 A n c Tryz.underlying38 .i64 (k : Int) (by omega) (by omega)]
    go_simp
  · obtain ⟨b, o, rfl, hb, hcell⟩ := h1.2 (by omega)
    refine ⟨b, o, by rw [if_neg (by omega)]; rfl, hb, fun j u hu => ?_⟩
    refine hcell j u ?_
    rw [← hu, List.map_take, List.getElem?_take]
    have hj := (List.getElem?_eq_some_iff.1 hu).1
    simp at hj
    rw [if_pos (by omega)]
  · rw [List.getElem?_take] at a b
    split at a
    · rename_i hi
      rw [if_pos hi] at b
      exact h3 i r ss a b
    · cases a
/-- 's[k:]'. -/
theorem rows_from {w : World} {B n c : Nat} {A : Option Addr} {rs : List Slc} {ds : List (List (List UInt8))} {k : Nat} (h : RowsT w B A n rs ds) (hnc : n ≤ c) (hcm : c ≤ maxLen) (hk : k ≤ n) :
    ∃ A' m q, (∀ W : World, (Instr.slice 38 (.slice A n c) (some (.int .i64 (k : Int))) none none).run Tryz.prog W = .ok (.slice A' m q) W) ∧ m ≤ q ∧ q ≤ maxLen ∧ m + k = n ∧ RowsT w B A' m (rs.drop k) (ds.drop k) := by
  have hl := h.len
  have hr := h.rlen
  obtain ⟨h1, h2, h3⟩ := h
  refine ⟨(if c = k then A else A.map (·.add k)), n - k, c - k, fun W => ?_, by omega, by omega, by omega, ⟨by rw [List.length_map, List.length_drop]; omega, fun hn => ?_⟩, by rw [List.length_drop, List.length_drop, h2], fun i r ss a b => ?_⟩
  · rw [run_slice_l (P := Tryz.prog) W 38 A n c Tryz.underlying38 .i64 (k : Int) (by omega) (by omega)]
    go_simp
  · obtain ⟨b, o, rfl, hb, hcell⟩ := h1.2 (by omega)
    refine ⟨b, o + k, by rw [if_neg (by omega)]; simp only [Option.map_some]; unfold Addr.add; split <;> simp_all, hb, fun j u hu => ?_⟩
    rw [Nat.add_assoc]
    refine hcell (k + j) u ?_
    rw [← hu, List.map_drop, List.getElem?_drop]
  · rw [List.getElem?_drop] at a b
    exact h3 (k + i) r ss a b
end Go.Proofs.YtcpopnhnihbofaaGreatDoor
