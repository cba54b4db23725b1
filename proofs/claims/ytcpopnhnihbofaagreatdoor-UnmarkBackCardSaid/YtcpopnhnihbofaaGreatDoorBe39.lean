/- Proved here: texts joined: ZlAsk. -/
import Derived.Test.YtcpopnhnihbofaaGreatDoorBe13
import Derived.Test.YtcpopnhnihbofaaGreatDoorBe34
import Derived.Test.YtcpopnhnihbofaaGreatDoorBe35
import Derived.Test.YtcpopnhnihbofaaGreatDoorBe38
import Derived.RangeFuncBox
import Derived.Shelf.Abstract
import Derived.Deep.DeepCutAuto
import Derived.Outline
/- Proved here: contracts of the landed package zeal's small functions: the closures that tell a side's line, shortest, alike, allSame. -/
namespace Go.Proofs.YtcpopnhnihbofaaGreatDoor
open Go.RowKit
set_option linter.unusedVariables false
set_option maxRecDepth 100000

/-- A function that tells a list's line of a number, as far as most. -/
def LineF (g2 : Nat) (g : Txs → Nat → Tx) (most : Nat) (rows : List Slc) (ds : List Txs) (w : World) : Prop :=
  ∀ (q k i : Nat) (A1 : Option Addr) (n1 c1 : Nat) (d : Txs), i < most → rows[k]? = some (A1, n1, c1) → ds[k]? = some d → Calls Tryz.prog g2 #[.slice A1 n1 c1, .int .i64 (i : Int)] (w.drewN q) fun e w' => e = .returned (.string (str (g d i))) ∧ ∃ z, w' = (w.drewN q).drewN z

set_option maxHeartbeats 400000 in
theorem fromBegin_any (A : Option Addr) (n c B i : Nat) (d : Txs) (w : World) (hn : n ≤ 1000000) (hi : i < n) (hA : Strs w B A n d) :
    Calls Tryz.prog 97 #[.slice A n c, .int .i64 (i : Int)] w fun e w' => e = .returned (.string (str (begAt d i))) ∧ ∃ z, w' = w.drewN z := by
  obtain ⟨b, o, t, rfl, hb, ht, hc⟩ := hA.at_ (k := i) hi
  rw [begAt_at ht]
  have i1 : (0 : Int) ≤ (i : Int) := by omega
  have i2 : (i : Int) < (n : Int) := by omega
  clear hA ht
  go_enter Tryz.func97, Tryz.ntmps97
  go_wp2
  go_ret
  exact ⟨rfl, 0, rfl⟩
set_option maxHeartbeats 400000 in
theorem fromEnd_any (A : Option Addr) (n c B i : Nat) (d : Txs) (w : World) (hn : n ≤ 1000000) (hi : i < n) (hA : Strs w B A n d) :
    Calls Tryz.prog 98 #[.slice A n c, .int .i64 (i : Int)] w fun e w' => e = .returned (.string (str (endAt d i))) ∧ ∃ z, w' = w.drewN z := by
  have hl := hA.len
  obtain ⟨m, hm⟩ : ∃ m, n - 1 - i = m := ⟨_, rfl⟩
  obtain ⟨b, o, t, rfl, hb, ht, hc⟩ := hA.at_ (k := m) (by omega)
  rw [endAt_at (t := t) (by rw [hl, hm]; exact ht)]
  have e1 : (n : Int) - 1 - (i : Int) = (m : Int) := by omega
  have e2 : IntKind.i64.wrap ((n : Int) - 1 - (i : Int)) = (m : Int) := by rw [IntWalk.i64_in _ (by omega)]; exact e1
  have e3 : IntKind.i64.wrap (m : Int) = (m : Int) := IntWalk.i64_in _ (by omega)
  have i1 : (0 : Int) ≤ (m : Int) := by omega
  have i2 : (m : Int) < (n : Int) := by omega
  clear hA ht hl hm
  go_enter Tryz.func98, Tryz.ntmps98
  go_wp2
  go_ret
  exact ⟨rfl, 0, rfl⟩

set_option maxHeartbeats 800000 in
theorem shortest_any (A : Option Addr) (n c B : Nat) (rows : List Slc) (ds : List Txs) (w : World) (hn : n ≤ 1000) (hn1 : 0 < n) (hA : RowsT w B A n rows ds) :
    Calls Tryz.prog 99 #[.slice A n c] w fun e w' => (∃ m : Nat, e = .returned (.int .i64 m) ∧ MinL ds m) ∧ w' = w := by
  have hl := hA.len
  obtain ⟨b, o, A0, n0, c0, f, rfl, hb, hf, hr, hc, hnc, hcm, hst⟩ := hA.at_ (k := 0) hn1
  have hfl : f.length = n0 := hst.len
  have hAh := Lib.hid hA
  have hlh := Lib.hid hl
  have hfh := Lib.hid (List.mem_of_getElem? hf)
  have hflh := Lib.hid hfl
  have hc' : w.cell? ⟨b, o, none⟩ = some (.slice A0 n0 c0) := hc
  have i1 : (0 : Int) < (n : Int) := by omega
  have hn0 : n0 ≤ 9223372036854775807 := by unfold maxLen at hcm; omega
  clear hA hl hf hr hst hfl hc hnc hcm
  go_enter Tryz.func99, Tryz.ntmps99
  go_wp2
  go_loop [3, 5, 12] (fun s3 _ s12 => ∃ j m : Nat, j ≤ n ∧ s12 = .int .i64 j ∧ s3 = .int .i64 m ∧ Hid ((∀ d ∈ ds.take j, m ≤ d.length) ∧ (∃ d ∈ ds, d.length = m)) ∧ m ≤ 9223372036854775807) (fun _ _ s12 => n - (intOf s12).toNat)
  case atStart => exact ⟨0, n0, Nat.zero_le _, rfl, rfl, Lib.hid ⟨fun d hd => by simp at hd, f, hfh.out, hflh.out⟩, hn0⟩
  case round =>
    obtain ⟨j, m, hj, rfl, rfl, hq, hm⟩ := hrel
    by_cases hlt : j < n
    · obtain ⟨b1, o1, A1, n1, c1, d, e1, hb1, hd, hr, hc, hnc, hcm, hst⟩ := hAh.out.at_ (k := j) hlt
      injection e1 with e1
      injection e1 with e11 e12
      subst e11
      subst e12
      have i3 : (0 : Int) ≤ (j : Int) := by omega
      have i2 : (j : Int) < (n : Int) := by omega
      have hdl : d.length = n1 := hst.len
      have hn1b : n1 ≤ 9223372036854775807 := by unfold maxLen at hcm; omega
      obtain ⟨m2, hm2⟩ : ∃ m2, min m n1 = m2 := ⟨_, rfl⟩
      have hnx := Lib.hid (show (∀ d ∈ ds.take (j + 1), m2 ≤ d.length) ∧ (∃ d ∈ ds, d.length = m2) from by
        refine ⟨fun x hx => ?_, ?_⟩
        · rw [take_at hd, List.mem_append, List.mem_singleton] at hx
          rcases hx with hx | rfl
          · have := hq.out.1 x hx; omega
          · omega
        · rcases Nat.le_total m n1 with h | h
          · obtain ⟨x, hx, hxl⟩ := hq.out.2
            exact ⟨x, hx, by omega⟩
          · exact ⟨d, List.mem_of_getElem? hd, by omega⟩)
      have hmi : (if n1 < m then (n1 : Int) else (m : Int)) = (m2 : Int) := by split <;> omega
      have hm2b : m2 ≤ 9223372036854775807 := by omega
      clear hd hr hst hdl hm2
      go_wp2
      go_round
      case rel => exact ⟨j + 1, m2, by omega, by go_num, by first | (rw [← hmi]; done) | (rw [← hmi]; congr 1; split <;> omega), hnx, by omega⟩
      case measure => simp [intOf]; omega
    · obtain rfl : j = n := by omega
      have hfin : Hid (MinL ds m) := Lib.hid (by have := hq.out; rw [List.take_of_length_le (by rw [hlh.out]; exact Nat.le_refl _)] at this; exact this)
      go_wp2
      go_ret
      exact ⟨⟨m, rfl, hfin.out⟩, rfl⟩

/-- What alike's closure tells: whether a list's line differs from the first one's. -/
def difB (g : Txs → Nat → Tx) (f : Txs) (i : Nat) (d : Txs) : Bool := decide (g d i ≠ g f i)
theorem dif_yes {s t : Tx} {r : Bool} (h : (!(str s).toList == (str t).toList) = r) : decide (s ≠ t) = r := by
  rw [ByteArray.toList_eq, ByteArray.toList_eq, str_data, str_data] at h
  subst h
  by_cases e : s = t <;> simp [e]

set_option maxHeartbeats 2000000 in
theorem differs_any (g2 : Nat) (g : Txs → Nat → Tx) (A : Option Addr) (n c B most i L1 L2 L3 k n1 c1 : Nat) (A1 : Option Addr) (rows : List Slc) (ds : List Txs) (f d : Txs) (w : World) (hn : n ≤ 1000) (him : i < most) (hmo : most ≤ 1000000) (hA : RowsT w B A n rows ds) (hf : ds[0]? = some f) (hd : ds[k]? = some d) (hr : rows[k]? = some (A1, n1, c1))
    (hent : ∀ args w, (callFunc g2 args).run Tryz.prog w = .ok (.enter g2 args) w) (hX : LineF g2 g most rows ds w)
    (h1 : w.cell? ⟨L1, 0, none⟩ = some (.func (.func g2) #[] #[])) (h2 : w.cell? ⟨L2, 0, none⟩ = some (.int .i64 (i : Int))) (h3 : w.cell? ⟨L3, 0, none⟩ = some (.slice A n c)) :
    Calls Tryz.prog 107 #[.slice A1 n1 c1, .pointer (some ⟨L1, 0, none⟩), .pointer (some ⟨L2, 0, none⟩), .pointer (some ⟨L3, 0, none⟩)] w fun e w' => e = .returned (.bool (difB g f i d)) ∧ ∃ z, w' = w.drewN z := by
  have hl := hA.len
  have hn1 : 0 < n := by have := (List.getElem?_eq_some_iff.1 hf).1; omega
  obtain ⟨b, o, A0, n0, c0, f', rfl, hb, hf', hr0, hc, hnc, hcm, hst⟩ := hA.at_ (k := 0) hn1
  have hff : f' = f := by rw [hf] at hf'; injection hf' with e; exact e.symm
  subst hff
  have hc' : w.cell? ⟨b, o, none⟩ = some (.slice A0 n0 c0) := hc
  have i1 : (0 : Int) < (n : Int) := by omega
  have hD := Lib.hid (fun q => hX q k i A1 n1 c1 d him hr hd)
  have hF := Lib.hid (fun q => hX q 0 i A0 n0 c0 f' him hr0 hf')
  obtain ⟨s, hs⟩ : ∃ s, g d i = s := ⟨_, rfl⟩
  obtain ⟨t, ht⟩ : ∃ t, g f' i = t := ⟨_, rfl⟩
  have hdb : difB g f' i d = decide (s ≠ t) := by unfold difB; rw [hs, ht]
  rw [hs] at hD
  rw [ht] at hF
  rw [hdb]
  clear hX hA hf hd hr hr0 hf' hst hl hnc hcm hc hs ht hdb
  go_enter Tryz.func107, Tryz.ntmps107
  go_wp2
  go_quiet (first | with_reducible exact Calls.quiet_of (hD.out _) | with_reducible exact Calls.quiet_of (hF.out _))
  go_wp2
  go_ret
  exact ⟨ret_bool (dif_yes rfl).symm, nq, rfl⟩

set_option maxHeartbeats 2000000 in
theorem alike_any (g2 : Nat) (g : Txs → Nat → Tx) (A : Option Addr) (n c most : Nat) (rows : List Slc) (ds : List Txs) (f : Txs) (w : World) (hn : n ≤ 1000) (hmo : most ≤ 1000000) (hA : RowsT w w.heap.size A n rows ds) (hf : ds[0]? = some f)
    (hent : ∀ args w, (callFunc g2 args).run Tryz.prog w = .ok (.enter g2 args) w) (hX : ∀ W, Below w.heap.size w W → LineF g2 g most rows ds W) :
    Calls Tryz.prog 100 #[.int .i64 (most : Int), .func (.func g2) #[] #[], .slice A n c] w fun e w' => (∃ r : Nat, e = .returned (.int .i64 r) ∧ AlikeN g f ds most r) ∧ Below w.heap.size w w' := by
  obtain ⟨W0, hW0⟩ : ∃ W0, W0 = (w.alloc (.cells #[.func (.func g2) #[] #[]] 108)).alloc (.cells #[.slice A n c] 38) := ⟨_, rfl⟩
  have hb0 : Below w.heap.size w W0 := by rw [hW0]; exact below_alloc (below_alloc (Below.refl _ _) _) _
  have k0 := (two_a w (.cells #[.func (.func g2) #[] #[]] 108) (.cells #[.slice A n c] 38)).1
  have k1 := (two_a w (.cells #[.func (.func g2) #[] #[]] 108) (.cells #[.slice A n c] 38)).2
  rw [← hW0] at k0 k1
  have hlt : w.heap.size + 1 < W0.heap.size := (Array.getElem?_eq_some_iff.1 k1).1
  have hcells : Hid (∀ W, Below W0.heap.size W0 W → W.cell? ⟨w.heap.size, 0, none⟩ = some (.func (.func g2) #[] #[]) ∧ W.cell? ⟨w.heap.size + 1, 0, none⟩ = some (.slice A n c)) := Lib.hid (fun W hW => by
    have e0 := (hW.block w.heap.size (by omega)).trans k0
    have e1 := (hW.block (w.heap.size + 1) hlt).trans k1
    exact ⟨by rw [cells_of e0]; rfl, by rw [cells_of e1]; rfl⟩)
  have hlth := Lib.hid hlt
  have hb0h := Lib.hid hb0
  have hAh := Lib.hid hA
  have hfh := Lib.hid hf
  have hXh := Lib.hid hX
  have hW0h := Lib.hid hW0
  have henth := Lib.hid hent
  clear hA hf hX hW0 k0 k1 hb0 hlt hent
  go_enter Tryz.func100, Tryz.ntmps100
  go_upto_region 1 with fail
  rw [← hW0h.out]
  go_wp2
  go_loopw [7, 8, 10] (fun _ _ s10 wr => ∃ i : Nat, i ≤ most ∧ s10 = .int .i64 i ∧ Hid (∀ j, j < i → ∀ d ∈ ds, g d j = g f j) ∧ Hid (Below W0.heap.size W0 wr)) (fun _ _ s10 _ => most - (intOf s10).toNat)
  case atStart => exact ⟨0, Nat.zero_le _, rfl, Lib.hid (fun j h => absurd h (by omega)), Lib.hid (Below.refl _ _)⟩
  case round =>
    obtain ⟨i, hi, rfl, hq, hB⟩ := hrel
    obtain ⟨wo, rfl⟩ : ∃ wo : World, wo = wr := ⟨_, rfl⟩
    by_cases hlt : i < most
    · have i2 : (i : Int) < (most : Int) := by omega
      obtain ⟨Wn, hWn⟩ : ∃ Wn, Wn = wo.alloc (.cells #[.int .i64 (i : Int)] 3) := ⟨_, rfl⟩
      have hbn : Below W0.heap.size W0 Wn := by rw [hWn]; exact below_alloc hB.out _
      have kn : Wn.heap[wo.heap.size]? = some (.cells #[.int .i64 (i : Int)] 3) := by rw [hWn]; exact one_a wo _
      obtain ⟨x0, x1⟩ := hcells.out Wn hbn
      have xi : Wn.cell? ⟨wo.heap.size, 0, none⟩ = some (.int .i64 (i : Int)) := by rw [cells_of kn]; rfl
      have hbw : Below w.heap.size w Wn := hb0h.out.trans (hbn.mono hb0h.out.size)
      have hC := containsF_any 107 #[.pointer (some ⟨w.heap.size, 0, none⟩), .pointer (some ⟨wo.heap.size, 0, none⟩), .pointer (some ⟨w.heap.size + 1, 0, none⟩)] (difB g f i) A n c Wn.heap.size rows ds Wn (by unfold maxLen; omega) (hAh.out.up hbw) (enters_of Tryz.func107 (by kernel_rfl) rfl)
        (fun q k A1 n1 c1 d hr hd => differs_any g2 g A n c Wn.heap.size most i w.heap.size wo.heap.size (w.heap.size + 1) k n1 c1 A1 rows ds f d (Wn.drewN q) hn hlt hmo ((hAh.out.up hbw).drewN q) hfh.out hd hr henth.out (hXh.out _ (below_drewN hbw q)) x0 xi x1)
      obtain ⟨r, hr⟩ : ∃ r, ds.any (difB g f i) = r := ⟨_, rfl⟩
      rw [hr] at hC
      have hCh := Lib.hid hC
      have hrh := Lib.hid hr
      have hbnh := Lib.hid hbn
      obtain ⟨y1, -⟩ := hcells.out wo hB.out
      clear hC hr hbn kn hbw
      subst hWn
      cases r
      · have hnx := Lib.hid (show ∀ j, j < i + 1 → ∀ d ∈ ds, g d j = g f j from fun j hj d hd => by
          rcases Nat.lt_or_ge j i with h | h
          · exact hq.out j h d hd
          · obtain rfl : j = i := by omega
            have := List.any_eq_false.1 hrh.out d hd
            simpa [difB] using this)
        go_wp2_with (go_at_call 47; refine hCh.out.mono ?_; rintro e w1 ⟨rfl, q, hw1⟩; have hB1 : Hid (Below W0.heap.size W0 w1) := Lib.hid (by rw [hw1]; exact below_drewN hbnh.out q); clear hw1)
        go_roundw
        case rel => exact ⟨i + 1, by omega, by go_num, hnx, hB1⟩
        case measure => simp [intOf]; omega
      · have hyes := Lib.hid (show ∃ d ∈ ds, g d i ≠ g f i from by
          obtain ⟨d, hd, h⟩ := List.any_eq_true.1 hrh.out
          exact ⟨d, hd, by simpa [difB] using h⟩)
        go_wp2_with (go_at_call 47; refine hCh.out.mono ?_; rintro e w1 ⟨rfl, q, rfl⟩)
        go_ret
        exact ⟨⟨i, rfl, by omega, hq.out, fun _ => hyes.out⟩, hb0h.out.trans ((below_drewN hbnh.out q).mono hb0h.out.size)⟩
    · obtain rfl : i = most := by omega
      go_wp2
      go_ret
      exact ⟨⟨i, rfl, Nat.le_refl _, hq.out, fun h => absurd h (by omega)⟩, hb0h.out.trans (hB.out.mono hb0h.out.size)⟩

/-- What allSame's closure tells: whether a list isn't the first one. -/
def notB (f d : Txs) : Bool := !decide (d = f)
set_option maxHeartbeats 800000 in
theorem isOther_any (A : Option Addr) (n c B L k n1 c1 : Nat) (A1 : Option Addr) (rows : List Slc) (ds : List Txs) (f d : Txs) (w : World) (hn : n ≤ 1000) (hA : RowsT w B A n rows ds) (hf : ds[0]? = some f) (hd : ds[k]? = some d) (hr : rows[k]? = some (A1, n1, c1))
    (h1 : w.cell? ⟨L, 0, none⟩ = some (.slice A n c)) :
    Calls Tryz.prog 96 #[.slice A1 n1 c1, .pointer (some ⟨L, 0, none⟩)] w fun e w' => e = .returned (.bool (notB f d)) ∧ ∃ z, w' = w.drewN z := by
  have hl := hA.len
  have hn1 : 0 < n := by have := (List.getElem?_eq_some_iff.1 hf).1; omega
  obtain ⟨b, o, A0, n0, c0, f', rfl, hb, hf', hr0, hc, hnc, hcm, hst⟩ := hA.at_ (k := 0) hn1
  have hff : f' = f := by rw [hf] at hf'; injection hf' with e; exact e.symm
  subst hff
  have hc' : w.cell? ⟨b, o, none⟩ = some (.slice A0 n0 c0) := hc
  have i1 : (0 : Int) < (n : Int) := by omega
  have hE := equal_any A1 A0 n1 n0 c1 c0 B B d f' w (Nat.le_trans (hA.2.2 k _ _ hr hd).1 (hA.2.2 k _ _ hr hd).2.1) (Nat.le_trans hnc hcm) (hA.2.2 k _ _ hr hd).2.2 hst
  obtain ⟨r, hr2⟩ : ∃ r, decide (d = f') = r := ⟨_, rfl⟩
  have hnb : notB f' d = !r := by unfold notB; rw [hr2]
  rw [hr2] at hE
  rw [hnb]
  have hEh := Lib.hid hE
  clear hA hf hd hr hr0 hf' hst hl hnc hcm hc hE hr2 hnb
  go_enter Tryz.func96, Tryz.ntmps96
  go_wp2_with (go_at_call 92; refine hEh.out.mono ?_; rintro e w1 ⟨rfl, q, rfl⟩)
  go_ret
  exact ⟨rfl, q, rfl⟩

set_option maxHeartbeats 800000 in
theorem allSame_any (A : Option Addr) (n c : Nat) (rows : List Slc) (ds : List Txs) (f : Txs) (w : World) (hn : n ≤ 1000) (hA : RowsT w w.heap.size A n rows ds) (hf : ds[0]? = some f) :
    Calls Tryz.prog 78 #[.slice A n c] w fun e w' => (∃ r : Bool, e = .returned (.bool r) ∧ (r = true ↔ ∀ d ∈ ds, d = f)) ∧ Below w.heap.size w w' := by
  obtain ⟨W0, hW0⟩ : ∃ W0, W0 = w.alloc (.cells #[.slice A n c] 38) := ⟨_, rfl⟩
  have hb0 : Below w.heap.size w W0 := by rw [hW0]; exact below_alloc (Below.refl _ _) _
  have k0 : W0.heap[w.heap.size]? = some (.cells #[.slice A n c] 38) := by rw [hW0]; exact one_a w _
  have x0 : W0.cell? ⟨w.heap.size, 0, none⟩ = some (.slice A n c) := by rw [cells_of k0]; rfl
  have hC := containsF_any 96 #[.pointer (some ⟨w.heap.size, 0, none⟩)] (notB f) A n c W0.heap.size rows ds W0 (by unfold maxLen; omega) (hA.up hb0) (enters_of Tryz.func96 (by kernel_rfl) rfl)
    (fun q k A1 n1 c1 d hr hd => isOther_any A n c W0.heap.size w.heap.size k n1 c1 A1 rows ds f d (W0.drewN q) hn ((hA.up hb0).drewN q) hf hd hr x0)
  obtain ⟨r, hr⟩ : ∃ r, ds.any (notB f) = r := ⟨_, rfl⟩
  rw [hr] at hC
  have hCh := Lib.hid hC
  have hfin := Lib.hid (show (!r) = true ↔ ∀ d ∈ ds, d = f from by
    rw [← hr]
    simp [notB])
  have hb0h := Lib.hid hb0
  clear hC hr k0 hA hf hb0
  subst hW0
  go_enter Tryz.func78, Tryz.ntmps78
  go_wp2_with (go_at_call 47; refine hCh.out.mono ?_; rintro e w1 ⟨rfl, q, rfl⟩)
  go_ret
  exact ⟨⟨!r, rfl, hfin.out⟩, below_drewN hb0h.out q⟩
end Go.Proofs.YtcpopnhnihbofaaGreatDoor
