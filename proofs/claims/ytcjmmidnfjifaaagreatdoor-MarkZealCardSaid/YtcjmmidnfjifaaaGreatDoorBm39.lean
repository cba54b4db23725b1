/- Proved here: texts joined: ZlPl, ZlAsk. -/
import Derived.Test.YtcjmmidnfjifaaaGreatDoorBm06
import Derived.Test.YtcjmmidnfjifaaaGreatDoorBm12
import Derived.Test.YtcjmmidnfjifaaaGreatDoorBm32
import Derived.Test.YtcjmmidnfjifaaaGreatDoorBm34
import Derived.RangeFuncBox
import Derived.Shelf.Abstract
import Derived.Deep.DeepCutAuto
import Derived.Outline
/- Proved here, without a word of the program: how many lines all begin, and end, with, asked line by line as far as the shortest goes. -/
namespace Go.Proofs.YtcjmmidnfjifaaaGreatDoor
set_option linter.unusedVariables false

/-- A list's line, from its begin; from its end. -/
def begAt (d : Txs) (i : Nat) : Tx := (d[i]?).getD []
def endAt (d : Txs) (i : Nat) : Tx := (d[d.length - 1 - i]?).getD []
/-- How far all are the same, as it is told. -/
def AlikeN (g : Txs → Nat → Tx) (f : Txs) (ds : List Txs) (most r : Nat) : Prop := r ≤ most ∧ (∀ i, i < r → ∀ d ∈ ds, g d i = g f i) ∧ (r < most → ∃ d ∈ ds, g d r ≠ g f r)
/-- The length of the shortest. -/
def MinL (ds : List Txs) (m : Nat) : Prop := (∀ d ∈ ds, m ≤ d.length) ∧ ∃ d ∈ ds, d.length = m
section
variable {f : Txs} {ds : List Txs} {m a b : Nat}
theorem begAt_at {d : Txs} {i : Nat} {t : Tx} (h : d[i]? = some t) : begAt d i = t := by unfold begAt; rw [h]; rfl
theorem endAt_at {d : Txs} {i : Nat} {t : Tx} (h : d[d.length - 1 - i]? = some t) : endAt d i = t := by unfold endAt; rw [h]; rfl
theorem get_of_getD {d e : Txs} {i j : Nat} (hi : i < d.length) (hj : j < e.length) (h : (d[i]?).getD [] = (e[j]?).getD []) : d[i]? = e[j]? := by
  rw [List.getElem?_eq_getElem hi, List.getElem?_eq_getElem hj] at h ⊢
  simpa using h
theorem alike_beg (hf : f ∈ ds) (hm : MinL ds m) (h : AlikeN begAt f ds m a) : begN f ds = a := by
  obtain ⟨h1, d0, hd0, hl0⟩ := hm
  obtain ⟨k1, k2, k3⟩ := h
  refine begN_is hf (begB_iff.2 fun d hd => ⟨by have := h1 d hd; omega, ?_⟩) ?_
  · apply List.ext_getElem?
    intro i
    rw [List.getElem?_take, List.getElem?_take]
    split
    · rename_i hi
      exact get_of_getD (by have := h1 d hd; omega) (by have := h1 f hf; omega) (k2 i hi d hd)
    · rfl
  · cases hb : begB f ds (a + 1) with
    | false => rfl
    | true =>
      rcases Nat.lt_or_ge a m with hlt | hge
      · obtain ⟨d, hd, hne⟩ := k3 hlt
        have := (begB_iff.1 hb d hd).2
        have := congrArg (fun l => l[a]?) this
        simp only [List.getElem?_take, Nat.lt_succ_self, if_true] at this
        exact absurd (by unfold begAt; rw [this]) hne
      · have := (begB_iff.1 hb d0 hd0).1
        omega
theorem alike_tail (hf : f ∈ ds) (hm : MinL ds m) (ha : a ≤ m) (h : AlikeN endAt f ds (m - a) b) : tailN (f.drop a) (ds.map fun d => d.drop a) = b := by
  obtain ⟨h1, d0, hd0, hl0⟩ := hm
  obtain ⟨k1, k2, k3⟩ := h
  have hfm : f.drop a ∈ ds.map fun d => d.drop a := List.mem_map.2 ⟨f, hf, rfl⟩
  have hfl := h1 f hf
  refine tailN_is hfm (tailB_iff.2 fun e he => ?_) ?_
  · obtain ⟨d, hd, rfl⟩ := List.mem_map.1 he
    have hdl := h1 d hd
    refine ⟨by rw [List.length_drop]; omega, ?_⟩
    rw [List.drop_drop, List.drop_drop, List.length_drop, List.length_drop]
    apply List.ext_getElem?
    intro i
    rw [List.getElem?_drop, List.getElem?_drop]
    rcases Nat.lt_or_ge i b with hi | hi
    · have := k2 (b - 1 - i) (by omega) d hd
      unfold endAt at this
      have := get_of_getD (by omega) (by omega) this
      rw [show d.length - 1 - (b - 1 - i) = a + (d.length - a - b) + i by omega, show f.length - 1 - (b - 1 - i) = a + (f.length - a - b) + i by omega] at this
      exact this
    · rw [List.getElem?_eq_none (by omega), List.getElem?_eq_none (by omega)]
  · cases hb : tailB (f.drop a) (ds.map fun d => d.drop a) (b + 1) with
    | false => rfl
    | true =>
      rcases Nat.lt_or_ge b (m - a) with hlt | hge
      · obtain ⟨d, hd, hne⟩ := k3 hlt
        have hdl := h1 d hd
        have := (tailB_iff.1 hb (d.drop a) (List.mem_map.2 ⟨d, hd, rfl⟩)).2
        have := congrArg (fun l => l[0]?) this
        simp only [List.getElem?_drop, List.length_drop] at this
        rw [show a + (d.length - a - (b + 1) + 0) = d.length - 1 - b by omega, show a + (f.length - a - (b + 1) + 0) = f.length - 1 - b by omega] at this
        exact absurd (by unfold endAt; rw [this]) hne
      · have := (tailB_iff.1 hb (d0.drop a) (List.mem_map.2 ⟨d0, hd0, rfl⟩)).1
        rw [List.length_drop] at this
        omega
/-- What trimL is, where not all sides are the same. -/
theorem trimL_is {base : Txs} (hf : f ∈ ds) (hm : MinL ds m) (ha : AlikeN begAt f ds m a) (hb : AlikeN endAt f ds (m - a) b) (hne : ¬ ∀ d ∈ ds, d = f) :
    trimL base f ds = [tPc (f.take a), cPc base (ds.map (leftD a b)), tPc (f.drop (f.length - b))] := by
  have e1 := alike_beg hf hm ha
  have e2 := alike_tail hf hm ha.1 hb
  unfold trimL
  dsimp only
  rw [if_neg (fun h => hne ((all_same hf).1 h)), e1, e2]
theorem trimL_same {base : Txs} (hf : f ∈ ds) (h : ∀ d ∈ ds, d = f) : trimL base f ds = [tPc f] := by
  unfold trimL
  dsimp only
  rw [if_pos ((all_same hf).2 h)]
/-- All is within each side. -/
theorem alike_within (hm : MinL ds m) (ha : AlikeN begAt f ds m a) (hb : AlikeN endAt f ds (m - a) b) : ∀ d ∈ ds, a + b ≤ d.length := fun d hd => by
  have h1 := hm.1 d hd
  have h2 := ha.1
  have h3 := hb.1
  omega
end
end Go.Proofs.YtcjmmidnfjifaaaGreatDoor
/- Proved here: contracts of the landed package zeal's small functions: the closures that tell a side's line, shortest, alike, allSame. -/
namespace Go.Proofs.YtcjmmidnfjifaaaGreatDoor
open Go.RowKit
set_option linter.unusedVariables false
set_option maxRecDepth 100000

/-- A function that tells a list's line of a number, as far as most. -/
def LineF (g2 : Nat) (g : Txs → Nat → Tx) (most : Nat) (rows : List Slc) (ds : List Txs) (w : World) : Prop :=
  ∀ (q k i : Nat) (A1 : Option Addr) (n1 c1 : Nat) (d : Txs), i < most → rows[k]? = some (A1, n1, c1) → ds[k]? = some d → Calls Tryz.prog g2 #[.slice A1 n1 c1, .int .i64 (i : Int)] (w.drewN q) fun e w' => e = .returned (.string (str (g d i))) ∧ ∃ z, w' = (w.drewN q).drewN z

set_option maxHeartbeats 400000 in
theorem fromBegin_any (A : Option Addr) (n c B i : Nat) (d : Txs) (w : World) (hn : n ≤ 1000000) (hi : i < n) (hA : Strs w B A n d) :
    Calls Tryz.prog 85 #[.slice A n c, .int .i64 (i : Int)] w fun e w' => e = .returned (.string (str (begAt d i))) ∧ ∃ z, w' = w.drewN z := by
  obtain ⟨b, o, t, rfl, hb, ht, hc⟩ := hA.at_ (k := i) hi
  rw [begAt_at ht]
  have i1 : (0 : Int) ≤ (i : Int) := by omega
  have i2 : (i : Int) < (n : Int) := by omega
  clear hA ht
  go_enter Tryz.func85, Tryz.ntmps85
  go_wp2
  go_ret
  exact ⟨rfl, 0, rfl⟩
set_option maxHeartbeats 400000 in
theorem fromEnd_any (A : Option Addr) (n c B i : Nat) (d : Txs) (w : World) (hn : n ≤ 1000000) (hi : i < n) (hA : Strs w B A n d) :
    Calls Tryz.prog 86 #[.slice A n c, .int .i64 (i : Int)] w fun e w' => e = .returned (.string (str (endAt d i))) ∧ ∃ z, w' = w.drewN z := by
  have hl := hA.len
  obtain ⟨m, hm⟩ : ∃ m, n - 1 - i = m := ⟨_, rfl⟩
  obtain ⟨b, o, t, rfl, hb, ht, hc⟩ := hA.at_ (k := m) (by omega)
  rw [endAt_at (t := t) (by rw [hl, hm]; exact ht)]
  have e1 : (n : Int) - 1 - (i : Int) = (m : Int) := by omega
  have e2 : IntKind.i64.wrap ((n : Int) - 1 - (i : Int)) = (m : Int) := by rw [IntWalk.i64_in _ (by omega)]; exact e1
  have e3 : IntKind.i64.wrap (m : Int) = (m : Int) := IntWalk.i64_in _ (by omega)
  have i1 : (0 : Int) ≤ (m : Int) := by omega
  have i2 : (m : Int) < (n : Int) := by omega
  clear hA ht hl hm
  go_enter Tryz.func86, Tryz.ntmps86
  go_wp2
  go_ret
  exact ⟨rfl, 0, rfl⟩

set_option maxHeartbeats 800000 in
theorem shortest_any (A : Option Addr) (n c B : Nat) (rows : List Slc) (ds : List Txs) (w : World) (hn : n ≤ 1000) (hn1 : 0 < n) (hA : RowsT w B A n rows ds) :
    Calls Tryz.prog 87 #[.slice A n c] w fun e w' => (∃ m : Nat, e = .returned (.int .i64 m) ∧ MinL ds m) ∧ w' = w := by
  have hl := hA.len
  obtain ⟨b, o, A0, n0, c0, f, rfl, hb, hf, hr, hc, hnc, hcm, hst⟩ := hA.at_ (k := 0) hn1
  have hfl : f.length = n0 := hst.len
  have hAh := Lib.hid hA
  have hlh := Lib.hid hl
  have hfh := Lib.hid (List.mem_of_getElem? hf)
  have hflh := Lib.hid hfl
  have hc' : w.cell? ⟨b, o, none⟩ = some (.slice A0 n0 c0) := hc
  have i1 : (0 : Int) < (n : Int) := by omega
  have hn0 : n0 ≤ 9223372036854775807 := by unfold maxLen at hcm; omega
  clear hA hl hf hr hst hfl hc hnc hcm
  go_enter Tryz.func87, Tryz.ntmps87
  go_wp2
  go_loop [3, 5, 12] (fun s3 _ s12 => ∃ j m : Nat, j ≤ n ∧ s12 = .int .i64 j ∧ s3 = .int .i64 m ∧ Hid ((∀ d ∈ ds.take j, m ≤ d.length) ∧ (∃ d ∈ ds, d.length = m)) ∧ m ≤ 9223372036854775807) (fun _ _ s12 => n - (intOf s12).toNat)
  case atStart => exact ⟨0, n0, Nat.zero_le _, rfl, rfl, Lib.hid ⟨fun d hd => by simp at hd, f, hfh.out, hflh.out⟩, hn0⟩
  case round =>
    obtain ⟨j, m, hj, rfl, rfl, hq, hm⟩ := hrel
    by_cases hlt : j < n
    · obtain ⟨b1, o1, A1, n1, c1, d, e1, hb1, hd, hr, hc, hnc, hcm, hst⟩ := hAh.out.at_ (k := j) hlt
      injection e1 with e1
      injection e1 with e11 e12
      subst e11
      subst e12
      have i3 : (0 : Int) ≤ (j : Int) := by omega
      have i2 : (j : Int) < (n : Int) := by omega
      have hdl : d.length = n1 := hst.len
      have hn1b : n1 ≤ 9223372036854775807 := by unfold maxLen at hcm; omega
      obtain ⟨m2, hm2⟩ : ∃ m2, min m n1 = m2 := ⟨_, rfl⟩
      have hnx := Lib.hid (show (∀ d ∈ ds.take (j + 1), m2 ≤ d.length) ∧ (∃ d ∈ ds, d.length = m2) from by
        refine ⟨fun x hx => ?_, ?_⟩
        · rw [take_at hd, List.mem_append, List.mem_singleton] at hx
          rcases hx with hx | rfl
          · have := hq.out.1 x hx; omega
          · omega
        · rcases Nat.le_total m n1 with h | h
          · obtain ⟨x, hx, hxl⟩ := hq.out.2
            exact ⟨x, hx, by omega⟩
          · exact ⟨d, List.mem_of_getElem? hd, by omega⟩)
      have hmi : (if n1 < m then (n1 : Int) else (m : Int)) = (m2 : Int) := by split <;> omega
      have hm2b : m2 ≤ 9223372036854775807 := by omega
      clear hd hr hst hdl hm2
      go_wp2
      go_round
      case rel => exact ⟨j + 1, m2, by omega, by go_num, by first | (rw [← hmi]; done) | (rw [← hmi]; congr 1; split <;> omega), hnx, by omega⟩
      case measure => simp [intOf]; omega
    · obtain rfl : j = n := by omega
      have hfin : Hid (MinL ds m) := Lib.hid (by have := hq.out; rw [List.take_of_length_le (by rw [hlh.out]; exact Nat.le_refl _)] at this; exact this)
      go_wp2
      go_ret
      exact ⟨⟨m, rfl, hfin.out⟩, rfl⟩

/-- What alike's closure tells: whether a list's line differs from the first one's. -/
def difB (g : Txs → Nat → Tx) (f : Txs) (i : Nat) (d : Txs) : Bool := decide (g d i ≠ g f i)
theorem dif_yes {s t : Tx} {r : Bool} (h : (!(str s).toList == (str t).toList) = r) : decide (s ≠ t) = r := by
  rw [ByteArray.toList_eq, ByteArray.toList_eq, str_data, str_data] at h
  subst h
  by_cases e : s = t <;> simp [e]

set_option maxHeartbeats 2000000 in
theorem differs_any (g2 : Nat) (g : Txs → Nat → Tx) (A : Option Addr) (n c B most i L1 L2 L3 k n1 c1 : Nat) (A1 : Option Addr) (rows : List Slc) (ds : List Txs) (f d : Txs) (w : World) (hn : n ≤ 1000) (him : i < most) (hmo : most ≤ 1000000) (hA : RowsT w B A n rows ds) (hf : ds[0]? = some f) (hd : ds[k]? = some d) (hr : rows[k]? = some (A1, n1, c1))
    (hent : ∀ args w, (callFunc g2 args).run Tryz.prog w = .ok (.enter g2 args) w) (hX : LineF g2 g most rows ds w)
    (h1 : w.cell? ⟨L1, 0, none⟩ = some (.func (.func g2) #[] #[])) (h2 : w.cell? ⟨L2, 0, none⟩ = some (.int .i64 (i : Int))) (h3 : w.cell? ⟨L3, 0, none⟩ = some (.slice A n c)) :
    Calls Tryz.prog 94 #[.slice A1 n1 c1, .pointer (some ⟨L1, 0, none⟩), .pointer (some ⟨L2, 0, none⟩), .pointer (some ⟨L3, 0, none⟩)] w fun e w' => e = .returned (.bool (difB g f i d)) ∧ ∃ z, w' = w.drewN z := by
  have hl := hA.len
  have hn1 : 0 < n := by have := (List.getElem?_eq_some_iff.1 hf).1; omega
  obtain ⟨b, o, A0, n0, c0, f', rfl, hb, hf', hr0, hc, hnc, hcm, hst⟩ := hA.at_ (k := 0) hn1
  have hff : f' = f := by rw [hf] at hf'; injection hf' with e; exact e.symm
  subst hff
  have hc' : w.cell? ⟨b, o, none⟩ = some (.slice A0 n0 c0) := hc
  have i1 : (0 : Int) < (n : Int) := by omega
  have hD := Lib.hid (fun q => hX q k i A1 n1 c1 d him hr hd)
  have hF := Lib.hid (fun q => hX q 0 i A0 n0 c0 f' him hr0 hf')
  obtain ⟨s, hs⟩ : ∃ s, g d i = s := ⟨_, rfl⟩
  obtain ⟨t, ht⟩ : ∃ t, g f' i = t := ⟨_, rfl⟩
  have hdb : difB g f' i d = decide (s ≠ t) := by unfold difB; rw [hs, ht]
  rw [hs] at hD
  rw [ht] at hF
  rw [hdb]
  clear hX hA hf hd hr hr0 hf' hst hl hnc hcm hc hs ht hdb
  go_enter Tryz.func94, Tryz.ntmps94
  go_wp2
  go_quiet (first | with_reducible exact Calls.quiet_of (hD.out _) | with_reducible exact Calls.quiet_of (hF.out _))
  go_wp2
  go_ret
  exact ⟨ret_bool (dif_yes rfl).symm, nq, rfl⟩

set_option maxHeartbeats 2000000 in
theorem alike_any (g2 : Nat) (g : Txs → Nat → Tx) (A : Option Addr) (n c most : Nat) (rows : List Slc) (ds : List Txs) (f : Txs) (w : World) (hn : n ≤ 1000) (hmo : most ≤ 1000000) (hA : RowsT w w.heap.size A n rows ds) (hf : ds[0]? = some f)
    (hent : ∀ args w, (callFunc g2 args).run Tryz.prog w = .ok (.enter g2 args) w) (hX : ∀ W, Below w.heap.size w W → LineF g2 g most rows ds W) :
    Calls Tryz.prog 88 #[.int .i64 (most : Int), .func (.func g2) #[] #[], .slice A n c] w fun e w' => (∃ r : Nat, e = .returned (.int .i64 r) ∧ AlikeN g f ds most r) ∧ Below w.heap.size w w' := by
  obtain ⟨W0, hW0⟩ : ∃ W0, W0 = (w.alloc (.cells #[.func (.func g2) #[] #[]] 92)).alloc (.cells #[.slice A n c] 34) := ⟨_, rfl⟩
  have hb0 : Below w.heap.size w W0 := by rw [hW0]; exact below_alloc (below_alloc (Below.refl _ _) _) _
  have k0 := (two_a w (.cells #[.func (.func g2) #[] #[]] 92) (.cells #[.slice A n c] 34)).1
  have k1 := (two_a w (.cells #[.func (.func g2) #[] #[]] 92) (.cells #[.slice A n c] 34)).2
  rw [← hW0] at k0 k1
  have hlt : w.heap.size + 1 < W0.heap.size := (Array.getElem?_eq_some_iff.1 k1).1
  have hcells : Hid (∀ W, Below W0.heap.size W0 W → W.cell? ⟨w.heap.size, 0, none⟩ = some (.func (.func g2) #[] #[]) ∧ W.cell? ⟨w.heap.size + 1, 0, none⟩ = some (.slice A n c)) := Lib.hid (fun W hW => by
    have e0 := (hW.block w.heap.size (by omega)).trans k0
    have e1 := (hW.block (w.heap.size + 1) hlt).trans k1
    exact ⟨by rw [cells_of e0]; rfl, by rw [cells_of e1]; rfl⟩)
  have hlth := Lib.hid hlt
  have hb0h := Lib.hid hb0
  have hAh := Lib.hid hA
  have hfh := Lib.hid hf
  have hXh := Lib.hid hX
  have hW0h := Lib.hid hW0
  have henth := Lib.hid hent
  clear hA hf hX hW0 k0 k1 hb0 hlt hent
  go_enter Tryz.func88, Tryz.ntmps88
  go_upto_region 1 with fail
  rw [← hW0h.out]
  go_wp2
  go_loopw [7, 8, 10] (fun _ _ s10 wr => ∃ i : Nat, i ≤ most ∧ s10 = .int .i64 i ∧ Hid (∀ j, j < i → ∀ d ∈ ds, g d j = g f j) ∧ Hid (Below W0.heap.size W0 wr)) (fun _ _ s10 _ => most - (intOf s10).toNat)
  case atStart => exact ⟨0, Nat.zero_le _, rfl, Lib.hid (fun j h => absurd h (by omega)), Lib.hid (Below.refl _ _)⟩
  case round =>
    obtain ⟨i, hi, rfl, hq, hB⟩ := hrel
    obtain ⟨wo, rfl⟩ : ∃ wo : World, wo = wr := ⟨_, rfl⟩
    by_cases hlt : i < most
    · have i2 : (i : Int) < (most : Int) := by omega
      obtain ⟨Wn, hWn⟩ : ∃ Wn, Wn = wo.alloc (.cells #[.int .i64 (i : Int)] 3) := ⟨_, rfl⟩
      have hbn : Below W0.heap.size W0 Wn := by rw [hWn]; exact below_alloc hB.out _
      have kn : Wn.heap[wo.heap.size]? = some (.cells #[.int .i64 (i : Int)] 3) := by rw [hWn]; exact one_a wo _
      obtain ⟨x0, x1⟩ := hcells.out Wn hbn
      have xi : Wn.cell? ⟨wo.heap.size, 0, none⟩ = some (.int .i64 (i : Int)) := by rw [cells_of kn]; rfl
      have hbw : Below w.heap.size w Wn := hb0h.out.trans (hbn.mono hb0h.out.size)
      have hC := containsF_any 94 #[.pointer (some ⟨w.heap.size, 0, none⟩), .pointer (some ⟨wo.heap.size, 0, none⟩), .pointer (some ⟨w.heap.size + 1, 0, none⟩)] (difB g f i) A n c Wn.heap.size rows ds Wn (by unfold maxLen; omega) (hAh.out.up hbw) (enters_of Tryz.func94 (by kernel_rfl) rfl)
        (fun q k A1 n1 c1 d hr hd => differs_any g2 g A n c Wn.heap.size most i w.heap.size wo.heap.size (w.heap.size + 1) k n1 c1 A1 rows ds f d (Wn.drewN q) hn hlt hmo ((hAh.out.up hbw).drewN q) hfh.out hd hr henth.out (hXh.out _ (below_drewN hbw q)) x0 xi x1)
      obtain ⟨r, hr⟩ : ∃ r, ds.any (difB g f i) = r := ⟨_, rfl⟩
      rw [hr] at hC
      have hCh := Lib.hid hC
      have hrh := Lib.hid hr
      have hbnh := Lib.hid hbn
      obtain ⟨y1, -⟩ := hcells.out wo hB.out
      clear hC hr hbn kn hbw
      subst hWn
      cases r
      · have hnx := Lib.hid (show ∀ j, j < i + 1 → ∀ d ∈ ds, g d j = g f j from fun j hj d hd => by
          rcases Nat.lt_or_ge j i with h | h
          · exact hq.out j h d hd
          · obtain rfl : j = i := by omega
            have := List.any_eq_false.1 hrh.out d hd
            simpa [difB] using this)
        go_wp2_with (go_at_call 46; refine hCh.out.mono ?_; rintro e w1 ⟨rfl, q, hw1⟩; have hB1 : Hid (Below W0.heap.size W0 w1) := Lib.hid (by rw [hw1]; exact below_drewN hbnh.out q); clear hw1)
        go_roundw
        case rel => exact ⟨i + 1, by omega, by go_num, hnx, hB1⟩
        case measure => simp [intOf]; omega
      · have hyes := Lib.hid (show ∃ d ∈ ds, g d i ≠ g f i from by
          obtain ⟨d, hd, h⟩ := List.any_eq_true.1 hrh.out
          exact ⟨d, hd, by simpa [difB] using h⟩)
        go_wp2_with (go_at_call 46; refine hCh.out.mono ?_; rintro e w1 ⟨rfl, q, rfl⟩)
        go_ret
        exact ⟨⟨i, rfl, by omega, hq.out, fun _ => hyes.out⟩, hb0h.out.trans ((below_drewN hbnh.out q).mono hb0h.out.size)⟩
    · obtain rfl : i = most := by omega
      go_wp2
      go_ret
      exact ⟨⟨i, rfl, Nat.le_refl _, hq.out, fun h => absurd h (by omega)⟩, hb0h.out.trans (hB.out.mono hb0h.out.size)⟩

/-- What allSame's closure tells: whether a list isn't the first one. -/
def notB (f d : Txs) : Bool := !decide (d = f)
set_option maxHeartbeats 800000 in
theorem isOther_any (A : Option Addr) (n c B L k n1 c1 : Nat) (A1 : Option Addr) (rows : List Slc) (ds : List Txs) (f d : Txs) (w : World) (hn : n ≤ 1000) (hA : RowsT w B A n rows ds) (hf : ds[0]? = some f) (hd : ds[k]? = some d) (hr : rows[k]? = some (A1, n1, c1))
    (h1 : w.cell? ⟨L, 0, none⟩ = some (.slice A n c)) :
    Calls Tryz.prog 84 #[.slice A1 n1 c1, .pointer (some ⟨L, 0, none⟩)] w fun e w' => e = .returned (.bool (notB f d)) ∧ ∃ z, w' = w.drewN z := by
  have hl := hA.len
  have hn1 : 0 < n := by have := (List.getElem?_eq_some_iff.1 hf).1; omega
  obtain ⟨b, o, A0, n0, c0, f', rfl, hb, hf', hr0, hc, hnc, hcm, hst⟩ := hA.at_ (k := 0) hn1
  have hff : f' = f := by rw [hf] at hf'; injection hf' with e; exact e.symm
  subst hff
  have hc' : w.cell? ⟨b, o, none⟩ = some (.slice A0 n0 c0) := hc
  have i1 : (0 : Int) < (n : Int) := by omega
  have hE := equal_any A1 A0 n1 n0 c1 c0 B B d f' w (Nat.le_trans (hA.2.2 k _ _ hr hd).1 (hA.2.2 k _ _ hr hd).2.1) (Nat.le_trans hnc hcm) (hA.2.2 k _ _ hr hd).2.2 hst
  obtain ⟨r, hr2⟩ : ∃ r, decide (d = f') = r := ⟨_, rfl⟩
  have hnb : notB f' d = !r := by unfold notB; rw [hr2]
  rw [hr2] at hE
  rw [hnb]
  have hEh := Lib.hid hE
  clear hA hf hd hr hr0 hf' hst hl hnc hcm hc hE hr2 hnb
  go_enter Tryz.func84, Tryz.ntmps84
  go_wp2_with (go_at_call 80; refine hEh.out.mono ?_; rintro e w1 ⟨rfl, q, rfl⟩)
  go_ret
  exact ⟨rfl, q, rfl⟩

set_option maxHeartbeats 800000 in
theorem allSame_any (A : Option Addr) (n c : Nat) (rows : List Slc) (ds : List Txs) (f : Txs) (w : World) (hn : n ≤ 1000) (hA : RowsT w w.heap.size A n rows ds) (hf : ds[0]? = some f) :
    Calls Tryz.prog 71 #[.slice A n c] w fun e w' => (∃ r : Bool, e = .returned (.bool r) ∧ (r = true ↔ ∀ d ∈ ds, d = f)) ∧ Below w.heap.size w w' := by
  obtain ⟨W0, hW0⟩ : ∃ W0, W0 = w.alloc (.cells #[.slice A n c] 34) := ⟨_, rfl⟩
  have hb0 : Below w.heap.size w W0 := by rw [hW0]; exact below_alloc (Below.refl _ _) _
  have k0 : W0.heap[w.heap.size]? = some (.cells #[.slice A n c] 34) := by rw [hW0]; exact one_a w _
  have x0 : W0.cell? ⟨w.heap.size, 0, none⟩ = some (.slice A n c) := by rw [cells_of k0]; rfl
  have hC := containsF_any 84 #[.pointer (some ⟨w.heap.size, 0, none⟩)] (notB f) A n c W0.heap.size rows ds W0 (by unfold maxLen; omega) (hA.up hb0) (enters_of Tryz.func84 (by kernel_rfl) rfl)
    (fun q k A1 n1 c1 d hr hd => isOther_any A n c W0.heap.size w.heap.size k n1 c1 A1 rows ds f d (W0.drewN q) hn ((hA.up hb0).drewN q) hf hd hr x0)
  obtain ⟨r, hr⟩ : ∃ r, ds.any (notB f) = r := ⟨_, rfl⟩
  rw [hr] at hC
  have hCh := Lib.hid hC
  have hfin := Lib.hid (show (!r) = true ↔ ∀ d ∈ ds, d = f from by
    rw [← hr]
    simp [notB])
  have hb0h := Lib.hid hb0
  clear hC hr k0 hA hf hb0
  subst hW0
  go_enter Tryz.func71, Tryz.ntmps71
  go_wp2_with (go_at_call 46; refine hCh.out.mono ?_; rintro e w1 ⟨rfl, q, rfl⟩)
  go_ret
  exact ⟨⟨!r, rfl, hfin.out⟩, below_drewN hb0h.out q⟩
end Go.Proofs.YtcjmmidnfjifaaaGreatDoor
