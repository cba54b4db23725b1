/- Proved here: texts joined: MgPair, MgUp, MgLoop, LinOpen, IdxB, LinMay. -/
import Derived.Test.YtoopdgohdeddoaaGreatDoorBs01
import Derived.Test.YtoopdgohdeddoaaGreatDoorBs02
import Derived.Test.YtoopdgohdeddoaaGreatDoorBs19
import Derived.Test.YtoopdgohdeddoaaGreatDoorBs21
import Derived.Test.YtoopdgohdeddoaaGreatDoorBs35
import Derived.Deep.OwnRows
import Derived.Test.YtoopdgohdeddoaaGreatDoorChecked
import Derived.Lib.Bytealg
import Derived.WalkLawsBesides
import Derived.Lib.Hide
import Derived.Deep.QuietTactic
import Derived.BigQuiet
/- Proved here: pairs of lists that lie in blocks of their own; the contracts of the landed lcs.New and Match, with where things lie. -/
namespace Go.Proofs.YtoopdgohdeddoaaGreatDoor
open Go.RowKit
set_option linter.unusedVariables false
set_option maxRecDepth 100000

/-- Block T is the pair of a and b, whatever becomes of the blocks that aren't from lo up to hi. -/
structure PairK (w : World) (T lo hi : Nat) (a b : List Int) : Prop where
  le : lo ≤ T
  lt : T < hi
  top : hi ≤ w.heap.size
  pair : ∀ w2 : World, w.heap.size ≤ w2.heap.size → (∀ k, lo ≤ k → k < hi → w2.heap[k]? = w.heap[k]?) → PairIs w2 T (fun k => k = T) a b
theorem PairK.keep {w w' : World} {T lo hi : Nat} {a b : List Int} (h : PairK w T lo hi a b) (hs : w.heap.size ≤ w'.heap.size) (hk : ∀ k, lo ≤ k → k < hi → w'.heap[k]? = w.heap[k]?) : PairK w' T lo hi a b :=
  ⟨h.le, h.lt, Nat.le_trans h.top hs, fun w2 h2 k2 => h.pair w2 (Nat.le_trans hs h2) fun k e1 e2 => (k2 k e1 e2).trans (hk k e1 e2)⟩
theorem PairK.is {w : World} {T lo hi : Nat} {a b : List Int} (h : PairK w T lo hi a b) : PairIs w T (fun k => k = T) a b := h.pair w (Nat.le_refl _) fun _ _ _ => rfl

/-- What New tells of two lists that may be, with where the pair lies. -/
def NewK (w w' : World) (e : Ending) (a b : List Int) : Prop := ∃ T, e = .returned (.tuple #[.pointer (some ⟨T, 0, none⟩), .int .i64 0]) ∧ PairK w' T w.heap.size w'.heap.size a b ∧ Below w.heap.size w w'

theorem nums_in {w w2 : World} {lo hi n : Nat} {A : Option Addr} {xs : List Int} (h : Nums w w.heap.size A n xs) (hq : ∀ q o, A = some ⟨q, o, none⟩ → lo ≤ q ∧ q < hi) (hs : w.heap.size ≤ w2.heap.size) (hk : ∀ k, lo ≤ k → k < hi → w2.heap[k]? = w.heap[k]?) : Nums w2 w2.heap.size A n xs := by
  refine ⟨h.1, fun hn => ?_⟩
  obtain ⟨b, o, rfl, hlt, hc⟩ := h.2 hn
  obtain ⟨q1, q2⟩ := hq b o rfl
  exact ⟨b, o, rfl, by omega, fun j u hu => (World.cell?_of_block (w := w) (hk b q1 q2)).trans (hc j u hu)⟩

theorem newk_fin {w w1 w2 : World} {A A' : Option Addr} {c c' : Nat} {a b : List Int} (hla : a.length ≤ 2000) (hlb : b.length ≤ 2000) (hA : Nums w1 w1.heap.size A a.length a) (hA' : Nums w2 w2.heap.size A' b.length b) (h1 : Below w.heap.size w w1) (h2 : Below w1.heap.size w1 w2)
    (hq : ∀ q o, A = some ⟨q, o, none⟩ → w.heap.size ≤ q ∧ q < w2.heap.size) (hq' : ∀ q o, A' = some ⟨q, o, none⟩ → w.heap.size ≤ q ∧ q < w2.heap.size) :
    NewK w (w2.alloc (.cells #[.slice A a.length c, .slice A' b.length c', .int .u32 0, .int .i32 0, .int .u32 0, .int .i64 0, .slice none 0 0] 114)) (.returned (.tuple #[.pointer (some ⟨w2.heap.size, 0, none⟩), .int .i64 0])) a b := by
  have hs : w.heap.size ≤ w2.heap.size := Nat.le_trans h1.size h2.size
  have hb2 : Below w.heap.size w w2 := h1.trans (h2.mono h1.size)
  have hA2 := (hA.below h2).more h2.size
  have hal : Below w2.heap.size w2 (w2.alloc (.cells #[.slice A a.length c, .slice A' b.length c', .int .u32 0, .int .i32 0, .int .u32 0, .int .i64 0, .slice none 0 0] 114)) := (Below.refl _ _).alloc (Nat.le_refl _) _
  have hz : (w2.alloc (.cells #[.slice A a.length c, .slice A' b.length c', .int .u32 0, .int .i32 0, .int .u32 0, .int .i64 0, .slice none 0 0] 114)).heap.size = w2.heap.size + 1 := by simp
  refine ⟨w2.heap.size, rfl, ⟨hs, by rw [hz]; omega, Nat.le_refl _, fun w3 h3 k3 => ⟨fun k => Iff.rfl, hla, hlb, .inl ⟨A, c, A', c', .int .i64 0, .slice none 0 0, ?_, ?_, ?_, ?_, ?_⟩⟩⟩, hb2.alloc hs _⟩
  · rw [k3 _ hs (by rw [hz]; omega)]
    exact Go.Deep.blk_alloc_new _ _
  · exact nums_in ((hA2.below hal).more hal.size) (fun q o e => ⟨(hq q o e).1, by have := (hq q o e).2; rw [hz]; omega⟩) h3 k3
  · exact nums_in ((hA'.below hal).more hal.size) (fun q o e => ⟨(hq' q o e).1, by have := (hq' q o e).2; rw [hz]; omega⟩) h3 k3
  · intro q o e h
    have := (hq q o e).2
    omega
  · intro q o e h
    have := (hq' q o e).2
    omega

theorem own_from {w : World} {base n : Nat} {e : TypeId} {A : Option Addr} {c : Nat} {xs : List Value} (h : w.ownsRow base e 1 (.slice A n c) n xs) : ∀ q o, A = some ⟨q, o, none⟩ → base ≤ q ∧ q < w.heap.size := by
  rintro q o rfl
  exact h.lt q rfl

set_option maxHeartbeats 800000 in
theorem newK_any (A A' : Option Addr) (n n' c c' : Nat) (a b : List Int) (w : World) (hn : n ≤ 2000) (hn' : n' ≤ 2000) (hA : Nums w w.heap.size A n a) (hA' : Nums w w.heap.size A' n' b) :
    Calls Tryz.prog 59 #[.slice A n c, .slice A' n' c'] w fun e w' => NewK w w' e a b := by
  have hl := hA.len
  have hl' := hA'.len
  subst hl
  subst hl'
  have hc1 := Lib.hid (clone_any A a.length c w.heap.size a w hn (Nat.le_refl _) hA)
  have hA'' := Lib.hid hA'
  have h1 : decide ((2000 : Int) < (a.length : Int)) = false := by simp; omega
  have h2 : ¬ ((2000 : Int) < (b.length : Int)) := by omega
  have tok1 := trivial
  clear hA hA'
  go_enter Tryz.func59, Tryz.ntmps59
  go_wp2_with (go_at_call 64; first
    | (have _t := tok1; refine hc1.out.mono ?_; rintro e w1 ⟨v1, rfl, hown1, hb1⟩; obtain ⟨A1, c1, rfl, -, -, k1⟩ := nums_of_own hown1; have hc2 := Lib.hid (clone_any A' b.length c' w.heap.size b w1 hn' hb1.size (hA''.out.below hb1)); clear tok1)
    | (refine hc2.out.mono ?_; rintro e w2 ⟨v2, rfl, hown2, hb2⟩; obtain ⟨A2, c2, rfl, -, -, k2⟩ := nums_of_own hown2))
  go_ret2
  exact newk_fin hn hn' k1 k2 hb1 hb2 (fun q o e => ⟨(own_from hown1 q o e).1, Nat.lt_of_lt_of_le (own_from hown1 q o e).2 hb2.size⟩) (fun q o e => ⟨Nat.le_trans hb1.size (own_from hown2 q o e).1, (own_from hown2 q o e).2⟩)

/-- What Match tells, with where the match lies. -/
def MatchK (w w' : World) (e : Ending) (T : Nat) (a b : List Int) : Prop :=
  ∃ A c, e = .returned (.slice A a.length c) ∧ a.length ≤ c ∧ c ≤ maxLen ∧ Nums w' w'.heap.size A a.length (mt a b 0) ∧ (∀ q o, A = some ⟨q, o, none⟩ → w.heap.size ≤ q) ∧ But (fun k => k = T) w w'

set_option maxHeartbeats 400000 in
theorem matchK_any (T : Nat) (a b : List Int) (w : World) (h : PairIs w T (fun k => k = T) a b) :
    Calls Tryz.prog 38 #[.pointer (some ⟨T, 0, none⟩)] w fun e w' => MatchK w w' e T a b := by
  have hd := Lib.hid (pair_do T _ a b w h)
  have hh := Lib.hid h
  have hla := h.2.1
  clear h
  go_enter Tryz.func38, Tryz.ntmps38
  go_wp2_with (first
    | (go_at_call 62; refine hd.out.mono ?_; rintro e w1 ⟨rfl, hD, hb⟩; have hD' := Lib.hid hD; have hlt := hD.lt; obtain ⟨M, cM, hT, hN, hne⟩ := hD; have c6 : w1.cell? ⟨T, 6, none⟩ = some (.slice M a.length cM) := (by rw [cells_of hT]; rfl); have hcl := Lib.hid (clone_any M a.length cM w1.heap.size (mt a b 0) w1 hla (Nat.le_refl _) hN); clear hT hN hne)
    | (go_at_call 64; refine hcl.out.mono ?_; rintro e w2 ⟨v, rfl, hown, hb2⟩; obtain ⟨Ao, co, rfl, k1, k2, k3⟩ := nums_of_own hown))
  go_ret
  refine ⟨Ao, co, rfl, k1, k2, k3, fun q o e => Nat.le_trans hb.size (own_from hown q o e).1, (hb.trans (But.of_below hb2 fun k hk _ => hk) (F' := fun k => k = T) fun k e => .inl e)⟩
end Go.Proofs.YtoopdgohdeddoaaGreatDoor
/- Proved here: the contract of the landed merge.pairUp: the first list is paired with each other one. -/
namespace Go.Proofs.YtoopdgohdeddoaaGreatDoor
open Go.RowKit
set_option linter.unusedVariables false
set_option maxRecDepth 100000

/-- All but the first list. -/
theorem slice1_nums {w : World} {B n c : Nat} {A : Option Addr} {r : Option Addr × Nat × Nat} {rows : List (Option Addr × Nat × Nat)} {xs : List Int} {xss : List (List Int)} (h : RowsN w B A n (r :: rows) (xs :: xss)) (hn : n ≤ c) (hc : c ≤ maxLen) :
    ∃ A' m k, (∀ W : World, (Instr.slice 73 (.slice A n c) (some (.int .i64 1)) none none).run Tryz.prog W = .ok (.slice A' m k) W) ∧ RowsN w B A' m rows xss := by
  have hl := h.len
  rw [List.length_cons] at hl
  have hrl := h.2.1
  simp only [List.length_cons] at hrl
  refine ⟨(if c = 1 then A else A.map (·.add 1)), n - 1, c - 1, fun W => ?_, ⟨⟨by rw [List.length_map]; omega, fun hn1 => ?_⟩, by omega, fun k r' ss' h1 h2 => h.2.2 (k + 1) r' ss' (by simpa using h1) (by simpa using h2)⟩⟩
  · rw [run_slice_l (P := Tryz.prog) W 73 A n c Tryz.underlying73 .i64 1 (by omega) (by omega)]
    go_simp
  · obtain ⟨b, o, rfl, hb, hcell⟩ := h.1.2 (by omega)
    rw [if_neg (by omega)]
    refine ⟨b, o + 1, ?_, hb, fun j u hu => ?_⟩
    · simp only [Option.map_some]
      unfold Addr.add
      split
      · rename_i h
        cases h
      · rfl
    · rw [Nat.add_assoc, Nat.add_comm 1 j]
      exact hcell (j + 1) u (by simpa using hu)

/-- The pairs of a with all lists, in turn. -/
structure PairsK (w : World) (G n : Nat) (T lo hi : Nat → Nat) (a : List Int) (bs : List (List Int)) (k : Nat) : Prop where
  row : w.rowIs G 76 n (fun i => if i < k then .pointer (some ⟨T i, 0, none⟩) else .pointer none)
  pair : ∀ i b, i < k → bs[i]? = some b → PairK w (T i) (lo i) (hi i) a b ∧ G < lo i
  apart : ∀ i j, i < j → j < k → hi i ≤ lo j

theorem pairs_step {w w1 : World} {G n k T0 : Nat} {T lo hi : Nat → Nat} {a b : List Int} {bs : List (List Int)} (hn : bs.length = n) (h : PairsK w G n T lo hi a bs k) (hk : bs[k]? = some b) (hP : PairK w1 T0 w.heap.size w1.heap.size a b) (hB : Below w.heap.size w w1) :
    w1.rowIs G 76 n (fun i => if i < k then .pointer (some ⟨T i, 0, none⟩) else .pointer none) ∧
    PairsK (w1.setCell ⟨G, k, none⟩ (.pointer (some ⟨T0, 0, none⟩))) G n (fun i => if i = k then T0 else T i) (fun i => if i = k then w.heap.size else lo i) (fun i => if i = k then w1.heap.size else hi i) a bs (k + 1) := by
  have hG := h.row.lt
  have hrow := h.row.of_block (hB.block G hG)
  have hset : ∀ j, j ≠ G → (w1.setCell ⟨G, k, none⟩ (.pointer (some ⟨T0, 0, none⟩))).heap[j]? = w1.heap[j]? := fun j hj => Below.heap_setCell _ _ _ _ hj
  have hsz : (w1.setCell ⟨G, k, none⟩ (.pointer (some ⟨T0, 0, none⟩))).heap.size = w1.heap.size := by simp [World.setCell]
  refine ⟨hrow, ?_, ?_, ?_⟩
  · refine (hrow.set k _).congr fun j hj => ?_
    rcases Nat.lt_trichotomy j k with h | rfl | h
    · rw [if_neg (by omega), if_pos h, if_pos (by omega)]; (try dsimp only); rw [if_neg (by omega)]
    · rw [if_pos rfl, if_pos (by omega)]; (try dsimp only); rw [if_pos rfl]
    · rw [if_neg (by omega), if_neg (by omega), if_neg (by omega)]
  · intro i b' hi hb'
    by_cases e : i = k
    · subst e
      rw [hk] at hb'
      injection hb' with hb'
      subst hb'
      try dsimp only
      rw [if_pos rfl, if_pos rfl, if_pos rfl]
      exact ⟨hP.keep (by omega) (fun j j1 j2 => hset j (by omega)), hG⟩
    · try dsimp only
      rw [if_neg e, if_neg e, if_neg e]
      obtain ⟨p1, p2⟩ := h.pair i b' (by omega) hb'
      have := p1.top
      have := hB.size
      exact ⟨p1.keep (by omega) (fun j j1 j2 => (hset j (by omega)).trans (hB.block j (by omega))), p2⟩
  · intro i j hij hj
    try dsimp only
    by_cases e : j = k
    · subst e
      rw [if_neg (by omega), if_pos rfl]
      have hb' : bs[i]? = some (bs[i]'(by have := (List.getElem?_eq_some_iff.1 hk).1; omega)) := List.getElem?_eq_getElem _
      exact (h.pair i _ hij hb').1.top
    · rw [if_neg (by omega), if_neg e]
      exact h.apart i j hij (by omega)

/-- What pairUp tells of lists that may be. -/
def PairsOut (w w' : World) (e : Ending) (a : List Int) (bs : List (List Int)) : Prop :=
  ∃ G n T lo hi, e = .returned (.tuple #[.slice (some ⟨G, 0, none⟩) n n, .int .i64 0]) ∧ n = bs.length ∧ PairsK w' G n T lo hi a bs n ∧ w.heap.size ≤ G ∧ Below w.heap.size w w'

theorem infoPair : (Tryz.prog.info? 76).map (fun i => (i.zero, i.size, i.bytes)) = some (some (.pointer none), 1, 8) := by kernel_rfl

set_option maxHeartbeats 1000000 in
theorem pairUp_any (A : Option Addr) (n0 c : Nat) (r : Option Addr × Nat × Nat) (rows : List (Option Addr × Nat × Nat)) (a : List Int) (bs : List (List Int)) (w : World) (hc : n0 ≤ c) (hcm : c ≤ maxLen) (hn : n0 ≤ 1000) (ha : a.length ≤ 2000) (hb : ∀ b ∈ bs, b.length ≤ 2000) (hA : RowsN w w.heap.size A n0 (r :: rows) (a :: bs)) :
    Calls Tryz.prog 36 #[.slice A n0 c] w fun e w' => PairsOut w w' e a bs := by
  have hl := hA.len
  rw [List.length_cons] at hl
  obtain ⟨n, hnl⟩ : ∃ n, bs.length = n := ⟨_, rfl⟩
  obtain ⟨A1, m, k1, hs, hR⟩ := slice1_nums hA hc hcm
  obtain rfl : m = n := by have := hR.len; omega
  obtain ⟨g, o, A0, na, ca, xs, rfl, hg, hx, hc0, hN0⟩ := hA.at_ (k := 0) (by omega)
  obtain rfl : a = xs := by simpa using hx
  have hna := hN0.len
  have hRh := Lib.hid hR
  have hN0h := Lib.hid hN0
  have hbh := Lib.hid hb
  have hnlh := Lib.hid hnl
  rw [Nat.add_zero] at hc0
  have hmk := run_make_row' (P := Tryz.prog) 70 76 (.pointer none) 8 Tryz.underlying70 infoPair rfl .i64 .i64 m (by omega) (by omega)
  have hsub : (n0 : Int) - 1 = (m : Int) := by omega
  have h0n : ¬ (n0 : Int) ≤ 0 := by omega
  have hB0 : Below w.heap.size w (w.alloc (.cells (madeCells #[.pointer none] m) 76)) := (Below.refl _ _).alloc (Nat.le_refl _) _
  have hrow0 : (w.alloc (.cells (madeCells #[.pointer none] m) 76)).rowIs w.heap.size 76 m (fun i => .pointer none) := World.rowIs_made w (.pointer none) m _
  have hst : Hid (PairsK (w.alloc (.cells (madeCells #[.pointer none] m) 76)) w.heap.size m (fun _ => 0) (fun _ => 0) (fun _ => 0) a bs 0) :=
    Lib.hid ⟨hrow0.congr fun j _ => by rw [if_neg (by omega)], fun i b hi => by omega, fun i j _ hj => by omega⟩
  have hB0h := Lib.hid hB0
  clear hA hR hb hN0 hx hnl hrow0 hB0
  go_enter Tryz.func36, Tryz.ntmps36
  go_wp2
  go_loopw [16] (fun i wr => ∃ k : Nat, k ≤ m ∧ i = .int .i64 k ∧ Hid (∃ T lo hi, PairsK wr w.heap.size m T lo hi a bs k) ∧ Below w.heap.size w wr) (fun i _ => m - (intOf i).toNat)
  case atStart => exact ⟨0, Nat.zero_le _, rfl, Lib.hid ⟨_, _, _, hst.out⟩, hB0h.out⟩
  case round =>
    obtain ⟨k, hk, rfl, hP, hB⟩ := hrel
    obtain ⟨wo, rfl⟩ : ∃ wo : World, wo = wr := ⟨_, rfl⟩
    by_cases hlt : k < m
    · obtain ⟨b1, o1, A2, n2, c2, ys, rfl, hb1, hy, hc1, hN1⟩ := (hRh.out.below hB).at_ (k := k) hlt
      have hc0' := (hB.cell (p := ⟨g, o, none⟩) hg).trans hc0
      have hn2 := hN1.len
      have hy2 := hbh.out ys (List.mem_of_getElem? hy)
      have hsz := hB.size
      have hC := Lib.hid (newK_any A0 A2 na n2 ca c2 a ys wo (by omega) (by omega) ((hN0h.out.below hB).more hsz) (hN1.more hsz))
      obtain ⟨T, lo, hi, hPK⟩ := hP.out
      have hstep := Lib.hid (fun w1 T0 => pairs_step (w1 := w1) (T0 := T0) hnlh.out hPK hy)
      have hBh := Lib.hid hB
      have hk1 : (0 : Int) ≤ (k : Int) := by omega
      have hk2 : (k : Int) < (m : Int) := by omega
      clear hP hPK hy hN1 hB
      go_wp2_with (go_at_call 59; refine hC.out.mono ?_; rintro e w1 ⟨T0, rfl, hP0, hb1⟩; have hs2 := Lib.hid (hstep.out w1 T0 hP0 hb1); have hck : w1.cell? ⟨w.heap.size, k, none⟩ = some (.pointer none) := (by rw [hs2.out.1.cell (i := k) hlt]; simp); have hfk := hs2.out.1.frozen k; have hBn := Lib.hid ((hBh.out.trans (hb1.mono hBh.out.size)).setCell (p := ⟨w.heap.size, k, none⟩) (Nat.le_refl _) (.pointer (some ⟨T0, 0, none⟩))); clear hP0 hb1)
      go_roundw
      case rel => exact ⟨k + 1, by omega, by go_num, Lib.hid ⟨_, _, _, hs2.out.2⟩, hBn.out⟩
      case measure => simp [intOf]; omega
    · obtain rfl : k = m := by omega
      go_wp2
      go_ret2
      obtain ⟨T, lo, hi, hPK⟩ := hP.out
      exact ⟨_, _, T, lo, hi, rfl, hnlh.out.symm, hPK, Nat.le_refl _, hB⟩
end Go.Proofs.YtoopdgohdeddoaaGreatDoor
/- Proved here: how far the landed merge.Chunks has come in its loop: sizes and matches, side by side. -/
namespace Go.Proofs.YtoopdgohdeddoaaGreatDoor
open Go.RowKit
set_option linter.unusedVariables false
set_option maxRecDepth 100000

abbrev SlcN := Option Addr × Nat × Nat
def slcN (r : SlcN) : Value := .slice r.1 r.2.1 r.2.2

/-- What stays as it was when the loop began: pairs, and the blocks of sizes and matches. -/
structure ReadyK (w0 : World) (Gs Gm G n : Nat) (T lo hi : Nat → Nat) (a : List Int) (bs : List (List Int)) : Prop where
  pairs : PairsK w0 G n T lo hi a bs n
  gs : Gs < w0.heap.size
  gm : Gm < w0.heap.size
  ne : Gs ≠ Gm
  top : ∀ i, i < n → hi i ≤ Gs ∧ hi i ≤ Gm
  g : G < Gs ∧ G < Gm
  len : bs.length = n

/-- How far the loop has come. -/
structure LoopK (w0 wr : World) (Gs Gm n : Nat) (T : Nat → Nat) (a : List Int) (bs : List (List Int)) (sz : List Int) (M : Nat → SlcN) (k : Nat) : Prop where
  rs : wr.rowIs Gs 3 n (fun i => .int .i64 (if i < k then sz.getD i 0 else 0))
  rm : wr.rowIs Gm 75 n (fun i => if i < k then slcN (M i) else .slice none 0 0)
  mat : ∀ i b, i < k → bs[i]? = some b → (M i).2.1 = a.length ∧ (M i).2.1 ≤ (M i).2.2 ∧ (M i).2.2 ≤ maxLen ∧ Nums wr wr.heap.size (M i).1 (M i).2.1 (mt a b 0) ∧ ∀ q o, (M i).1 = some ⟨q, o, none⟩ → w0.heap.size ≤ q
  but : But (fun j => j = Gs ∨ j = Gm ∨ ∃ i, i < k ∧ j = T i) w0 wr

section
variable {w0 wo w1 : World} {Gs Gm G n k : Nat} {T lo hi : Nat → Nat} {a b : List Int} {bs : List (List Int)} {sz : List Int} {M : Nat → SlcN}
theorem ReadyK.at_ (h : ReadyK w0 Gs Gm G n T lo hi a bs) (i : Nat) (hi' : i < n) : ∃ b, bs[i]? = some b ∧ PairK w0 (T i) (lo i) (hi i) a b ∧ G < lo i ∧ T i < w0.heap.size ∧ T i ≠ Gs ∧ T i ≠ Gm ∧ T i ≠ G := by
  have hb : bs[i]? = some (bs[i]'(by have := h.len; omega)) := List.getElem?_eq_getElem _
  obtain ⟨p1, p2⟩ := h.pairs.pair i _ hi' hb
  have := p1.lt
  have := p1.top
  have := p1.le
  obtain ⟨t1, t2⟩ := h.top i hi'
  exact ⟨_, hb, p1, p2, by omega, by omega, by omega, by omega⟩
/-- The pair that comes next is as it was. -/
theorem LoopK.pair (hr : ReadyK w0 Gs Gm G n T lo hi a bs) (h : LoopK w0 wo Gs Gm n T a bs sz M k) (hk : k < n) (hb : bs[k]? = some b) : PairIs wo (T k) (fun j => j = T k) a b := by
  obtain ⟨p1, p2⟩ := hr.pairs.pair k b hk hb
  obtain ⟨t1, t2⟩ := hr.top k hk
  have pt := p1.top
  refine p1.pair wo h.but.size fun j j1 j2 => h.but.block j (by omega) ?_
  rintro (e | e | ⟨i, hi', e⟩)
  · omega
  · omega
  · obtain ⟨b', hb', q1, -⟩ := hr.at_ i (by omega)
    have := q1.lt
    have := hr.pairs.apart i k hi' hk
    omega
theorem LoopK.gcell (hr : ReadyK w0 Gs Gm G n T lo hi a bs) (h : LoopK w0 wo Gs Gm n T a bs sz M k) (hkn : k < n) : wo.cell? ⟨G, k, none⟩ = some (.pointer (some ⟨T k, 0, none⟩)) := by
  have hc := hr.pairs.row.cell hkn
  rw [if_pos hkn] at hc
  rw [← hc]
  obtain ⟨g1, g2⟩ := hr.g
  refine World.cell?_of_block (w := w0) (h.but.block G (by have := hr.gs; omega) ?_)
  rintro (e | e | ⟨i, hi', e⟩)
  · omega
  · omega
  · obtain ⟨b', hb', q1, q2, q3, q4, q5, q6⟩ := hr.at_ i (by omega)
    exact q6 e.symm
/-- One more match. -/
theorem LoopK.step (hr : ReadyK w0 Gs Gm G n T lo hi a bs) (h : LoopK w0 wo Gs Gm n T a bs sz M k) (hk : k < n) (hb : bs[k]? = some b) {A : Option Addr} {c : Nat} {z : Int} (hz : sz[k]? = some z) (hc1 : a.length ≤ c) (hc2 : c ≤ maxLen)
    (hN : Nums w1 w1.heap.size A a.length (mt a b 0)) (hA : ∀ q o, A = some ⟨q, o, none⟩ → wo.heap.size ≤ q) (hbut : But (fun j => j = T k) wo w1) :
    (w1.cell? ⟨Gs, k, none⟩ = some (.int .i64 0) ∧ w1.frozen? ⟨Gs, k, none⟩ = false ∧ w1.cell? ⟨Gm, k, none⟩ = some (.slice none 0 0) ∧ w1.frozen? ⟨Gm, k, none⟩ = false) ∧
    LoopK w0 ((w1.setCell ⟨Gs, k, none⟩ (.int .i64 z)).setCell ⟨Gm, k, none⟩ (.slice A a.length c)) Gs Gm n T a bs sz (fun i => if i = k then (A, a.length, c) else M i) (k + 1) := by
  obtain ⟨b', hb', -, -, t1, t2, t3, -⟩ := hr.at_ k hk
  have hs0 := h.but.size
  have hs1 := hbut.size
  have hgs := hr.gs
  have hgm := hr.gm
  have hne := hr.ne
  have rs1 := h.rs.of_block (hbut.block Gs (by omega) (fun e => t2 e.symm))
  have rm1 := h.rm.of_block (hbut.block Gm (by omega) (fun e => t3 e.symm))
  have rs2 := rs1.set k (.int .i64 z)
  have rm2 := rm1.setOther (show Gm ≠ (⟨Gs, k, none⟩ : Addr).block from fun e => hne e.symm) (.int .i64 z)
  have rs3 := rs2.setOther (show Gs ≠ (⟨Gm, k, none⟩ : Addr).block from hne) (.slice A a.length c)
  have rm3 := rm2.set k (.slice A a.length c)
  have hsz : ((w1.setCell ⟨Gs, k, none⟩ (.int .i64 z)).setCell ⟨Gm, k, none⟩ (.slice A a.length c)).heap.size = w1.heap.size := by simp [World.setCell]
  have hblk : ∀ j, j ≠ Gs → j ≠ Gm → ((w1.setCell ⟨Gs, k, none⟩ (.int .i64 z)).setCell ⟨Gm, k, none⟩ (.slice A a.length c)).heap[j]? = w1.heap[j]? := fun j j1 j2 => (Below.heap_setCell _ _ _ _ j2).trans (Below.heap_setCell _ _ _ _ j1)
  have keep : ∀ {A' : Option Addr} {m : Nat} {xs : List Int}, Nums w1 w1.heap.size A' m xs → (∀ q o, A' = some ⟨q, o, none⟩ → w0.heap.size ≤ q) → Nums ((w1.setCell ⟨Gs, k, none⟩ (.int .i64 z)).setCell ⟨Gm, k, none⟩ (.slice A a.length c)) ((w1.setCell ⟨Gs, k, none⟩ (.int .i64 z)).setCell ⟨Gm, k, none⟩ (.slice A a.length c)).heap.size A' m xs := by
    intro A' m xs hx hq
    refine ⟨hx.1, fun hm => ?_⟩
    obtain ⟨q, o, rfl, hlt, hc⟩ := hx.2 hm
    have := hq q o rfl
    exact ⟨q, o, rfl, by omega, fun j u hu => (World.cell?_of_block (w := w1) (hblk q (by omega) (by omega))).trans (hc j u hu)⟩
  refine ⟨⟨?_, rs1.frozen k, ?_, rm1.frozen k⟩, ⟨?_, ?_, ?_, ?_⟩⟩
  · rw [rs1.cell hk, if_neg (by omega)]
  · rw [rm1.cell hk, if_neg (by omega)]
  · refine rs3.congr fun i hi' => ?_
    rcases Nat.lt_trichotomy i k with e | rfl | e
    · rw [if_neg (by omega), if_pos e, if_pos (by omega)]
    · rw [if_pos rfl, if_pos (by omega), List.getD_eq_getElem?_getD, hz]; rfl
    · rw [if_neg (by omega), if_neg (by omega), if_neg (by omega)]
  · refine rm3.congr fun i hi' => ?_
    rcases Nat.lt_trichotomy i k with e | rfl | e
    · rw [if_neg (by omega), if_pos e, if_pos (by omega)]; (try dsimp only); rw [if_neg (by omega)]
    · rw [if_pos rfl, if_pos (by omega)]; (try dsimp only); rw [if_pos rfl]; rfl
    · rw [if_neg (by omega), if_neg (by omega), if_neg (by omega)]
  · intro i b2 hi' hb2
    by_cases e : i = k
    · subst e
      rw [hb] at hb2
      injection hb2 with hb2
      subst hb2
      (try dsimp only)
      rw [if_pos rfl]
      exact ⟨rfl, hc1, hc2, keep hN (fun q o e => by have := hA q o e; omega), fun q o e => by have := hA q o e; omega⟩
    · (try dsimp only)
      rw [if_neg e]
      obtain ⟨m1, m2, m3, m4, m5⟩ := h.mat i b2 (by omega) hb2
      have m4' : Nums w1 w1.heap.size (M i).1 (M i).2.1 (mt a b2 0) := by
        refine ⟨m4.1, fun hm => ?_⟩
        obtain ⟨q, o, e1, hlt, hc⟩ := m4.2 hm
        have := m5 q o e1
        exact ⟨q, o, e1, by omega, fun j u hu => (World.cell?_of_block (w := wo) (hbut.block q hlt (by omega))).trans (hc j u hu)⟩
      exact ⟨m1, m2, m3, keep m4' m5, m5⟩
  · have s0 : But (fun j => j = Gs ∨ j = Gm ∨ ∃ i, i < k + 1 ∧ j = T i) w0 wo := h.but.more fun j hj => by
      rcases hj with e | e | ⟨i, i1, i2⟩
      · exact .inl e
      · exact .inr (.inl e)
      · exact .inr (.inr ⟨i, by omega, i2⟩)
    have s1 : But (fun j => j = Gs ∨ j = Gm ∨ ∃ i, i < k + 1 ∧ j = T i) w0 w1 := s0.trans hbut fun j e => .inl (.inr (.inr ⟨k, by omega, e⟩))
    have s2 := s1.trans (But.setCell (F := fun j => j = Gs) w1 (p := ⟨Gs, k, none⟩) rfl (.int .i64 z)) fun j e => .inl (.inl e)
    exact s2.trans (But.setCell (F := fun j => j = Gm) (w1.setCell ⟨Gs, k, none⟩ (.int .i64 z)) (p := ⟨Gm, k, none⟩) rfl (.slice A a.length c)) fun j e => .inl (.inr (.inl e))
/-- At the end: sizes and matches, as they are read. -/
theorem LoopK.fin (hr : ReadyK w0 Gs Gm G n T lo hi a bs) (h : LoopK w0 wo Gs Gm n T a bs sz M n) (hsz : sz.length = n) :
    Nums wo wo.heap.size (some ⟨Gs, 0, none⟩) n sz ∧ RowsN wo wo.heap.size (some ⟨Gm, 0, none⟩) n ((List.range n).map M) (msOf a bs) := by
  refine ⟨reads_of_row h.rs _ (by simpa using hsz) fun i u hu => ?_, ⟨reads_of_row h.rm _ (by simp) fun i u hu => ?_, by simp [msOf, hr.len], fun k r xs h1 h2 => ?_⟩⟩
  · have hi' : i < n := by have := (List.getElem?_eq_some_iff.1 hu).1; simp at this; omega
    rw [if_pos hi', List.getD_eq_getElem?_getD]
    rw [List.getElem?_map] at hu
    cases hs : sz[i]? with
    | none => rw [hs] at hu; cases hu
    | some z => rw [hs] at hu; simpa using hu
  · have hi' : i < n := by have := (List.getElem?_eq_some_iff.1 hu).1; simpa using this
    rw [if_pos hi', ← Option.some_inj, ← hu]
    simp [hi', slcN]
  · have hk : k < n := by have := (List.getElem?_eq_some_iff.1 h1).1; simpa using this
    simp [hk] at h1
    subst h1
    unfold msOf at h2
    rw [List.getElem?_map] at h2
    cases hb : bs[k]? with
    | none => rw [hb] at h2; cases h2
    | some b =>
      rw [hb] at h2
      injection h2 with h2
      subst h2
      obtain ⟨m1, m2, m3, m4, m5⟩ := h.mat k b hk hb
      exact m4
end
end Go.Proofs.YtoopdgohdeddoaaGreatDoor
/- Proved here: contracts of the landed package lines: ended, Open (each for strings of at most maxLen bytes); for stages behind the first: NOT beside stage 1's Lines, which has the same names. -/
namespace Go.Proofs.YtoopdgohdeddoaaGreatDoor
open Go.RowKit
set_option linter.unusedVariables false

set_option maxHeartbeats 400000 in
theorem ended_any (s : ByteArray) (w : World) (hs : s.size ≤ maxLen) :
    Calls Tryz.prog 75 #[.string s] w fun e w' => e = .returned (.bool (endedB s.data.toList)) ∧ w = w' := by
  unfold maxLen at hs
  by_cases h : s.toList = []
  · go_enter Tryz.func75, Tryz.ntmps75
    go_wp2
    go_ret
    exact ⟨ret_bool (by rw [data_nil h]; rfl), rfl⟩
  · have h1 := size_pos h
    have h2 : (!s.toList.isEmpty) = true := by simpa using h
    go_enter Tryz.func75, Tryz.ntmps75
    go_wp2
    go_ret
    exact ⟨ret_bool (by rw [last_byte s h1 _ rfl (by omega)]), rfl⟩

set_option maxHeartbeats 400000 in
theorem Open_any (A : Option Addr) (n c B : Nat) (ss : List (List UInt8)) (w : World) (hn : n ≤ maxLen) (hs : ∀ s ∈ ss, s.length ≤ maxLen) (hA : Strs w B A n ss) :
    Calls Tryz.prog 41 #[.slice A n c] w fun e w' => e = .returned (.bool (openB ss)) ∧ w = w' := by
  unfold maxLen at hn
  have hl := hA.len
  by_cases h0 : n = 0
  · subst h0
    have hd : decide ((0 : Int) < ((0 : Nat) : Int)) = false := by decide
    go_enter Tryz.func41, Tryz.ntmps41
    go_wp2
    go_ret
    obtain rfl : ss = [] := List.eq_nil_of_length_eq_zero hl
    exact ⟨rfl, rfl⟩
  · obtain ⟨b, o, t, rfl, _, ht, hc⟩ := hA.at_ (k := n - 1) (by omega)
    have htl : t.length ≤ maxLen := hs t (List.mem_of_getElem? ht)
    have hres : Hid ((!endedB (str t).data.toList) = openB ss) := Lib.hid <| by
      rw [str_data]; unfold openB; rw [List.getLast?_eq_getElem?, hl, ht]
    have h1 : (1 : Int) ≤ n := by omega
    have hd : decide ((0 : Int) < (n : Int)) = true := by simp; omega
    go_enter Tryz.func41, Tryz.ntmps41
    go_wp2_with (go_at_call 75; refine (ended_any (str t) _ (by rw [str_size]; exact htl)).mono ?_; rintro e w' ⟨rfl, rfl⟩)
    go_ret
    exact ⟨ret_bool hres.out, rfl⟩
end Go.Proofs.YtoopdgohdeddoaaGreatDoor
/- Proved here: contracts of the library's internal/stringslite.IndexByte and strings.IndexByte, by the external internal/bytealg.IndexByteString. -/
namespace Go.Proofs.YtoopdgohdeddoaaGreatDoor
open Go.RowKit
set_option linter.unusedVariables false

set_option maxRecDepth 100000 in
set_option maxHeartbeats 400000 in
theorem indexByteL_any (s : ByteArray) (c : Int) (w : World) :
    Calls Tryz.prog 120 #[.string s, .int .u8 c] w fun e w' => e = .returned (.int .i64 (Lib.indexByte s.data.toList c.toNat.toUInt8)) ∧ w' = w := by
  go_enter Tryz.func120, Tryz.ntmps120
  go_wp2
  rw [run_callFunc_extern Tryz.func128 (by kernel_rfl) (by kernel_rfl) (by kernel_rfl) (e := Extern.BytealgIndexByte.indexByte) (by kernel_rfl), Lib.run_indexByteString]
  simp only [Result.andThen]
  rw [Oper.upon_value]
  go_wp2
  go_ret
  exact ⟨rfl, rfl⟩
set_option maxRecDepth 100000 in
set_option maxHeartbeats 400000 in
theorem indexByte_any (s : ByteArray) (c : Int) (w : World) :
    Calls Tryz.prog 108 #[.string s, .int .u8 c] w fun e w' => e = .returned (.int .i64 (Lib.indexByte s.data.toList c.toNat.toUInt8)) ∧ w' = w := by
  go_enter Tryz.func108, Tryz.ntmps108
  go_wp2_with (go_at_call 120; refine (indexByteL_any _ _ _).mono ?_; rintro e w' ⟨rfl, rfl⟩)
  go_ret
  exact ⟨rfl, rfl⟩
end Go.Proofs.YtoopdgohdeddoaaGreatDoor
/- Proved here: contracts of the landed package lines: firstEnd, May (each for strings of at most maxLen bytes); for stages behind the first: NOT beside stage 1's Lines, which has the same names. -/
namespace Go.Proofs.YtoopdgohdeddoaaGreatDoor
open Go.RowKit
set_option linter.unusedVariables false

set_option maxRecDepth 100000 in
set_option maxHeartbeats 400000 in
theorem firstEnd_any (s : ByteArray) (w : World) (hs : s.size ≤ maxLen) :
    Calls Tryz.prog 94 #[.string s] w fun e w' => e = .returned (.int .i64 (fe s.data.toList)) ∧ w = w' := by
  unfold maxLen at hs
  have hf := fe_le s.data.toList
  have hx := fe_index s.data.toList
  have hz : s.data.toList.length = s.size := (Lib.size_eq s).symm
  obtain ⟨i, hi⟩ : ∃ i, i = Lib.indexByte s.data.toList 10 := ⟨_, rfl⟩
  rw [← hi, hz] at hx
  rw [hz] at hf
  have hi' := Lib.hid hi
  have hb : i ≤ s.size ∧ -1 ≤ i := by
    have := Lib.indexByte_ge s.data.toList 10
    split at hx <;> omega
  obtain ⟨f, hf'⟩ : ∃ f, f = fe s.data.toList := ⟨_, rfl⟩
  rw [← hf'] at hx hf ⊢
  by_cases h0 : 0 ≤ i
  · rw [if_pos h0] at hx
    have hib : i + 1 ≤ s.size := by omega
    have hh := Lib.hid hx
    clear hi hx hf'
    go_enter Tryz.func94, Tryz.ntmps94
    go_wp2_with (go_at_call 108; refine (indexByte_any _ _ _).mono ?_; rintro e w' ⟨rfl, rfl⟩; rw [show Lib.indexByte s.data.toList (10 : Int).toNat.toUInt8 = i from hi'.out.symm])
    go_ret
    exact ⟨ret_int (by rw [hh.out]), rfl⟩
  · rw [if_neg h0] at hx
    have hh := Lib.hid hx
    clear hi hx hf'
    go_enter Tryz.func94, Tryz.ntmps94
    go_wp2_with (go_at_call 108; refine (indexByte_any _ _ _).mono ?_; rintro e w' ⟨rfl, rfl⟩; rw [show Lib.indexByte s.data.toList (10 : Int).toNat.toUInt8 = i from hi'.out.symm])
    go_ret
    exact ⟨ret_int (by rw [hh.out]), rfl⟩
section
variable {ss : List (List UInt8)} {k n : Nat} {t : List UInt8}
theorem may_a (hm : mayB ss = mayB (ss.drop k)) (hd : ss.drop k = t :: ss.drop (k + 1)) (h : (str t).toList = []) : false = mayB ss := by
  have := data_nil h
  rw [str_data] at this
  subst this
  rw [hm, hd]; rfl
theorem may_b (hm : mayB ss = mayB (ss.drop k)) (hd : ss.drop k = t :: ss.drop (k + 1)) (h : (str t).toList.isEmpty = true ∨ fe (str t).data.toList < (str t).size) : false = mayB ss := by
  rw [ByteArray.toList_eq, str_data, str_size] at h
  rw [hm, hd, mayB]
  rcases h with h | h <;> simp [h]
theorem may_c (hl : ss.length = n) (hm : mayB ss = mayB (ss.drop k)) (hd : ss.drop k = t :: ss.drop (k + 1)) (h2 : (k : Int) < (n : Int) - 1) (h : (!endedB (str t).data.toList) = true) : false = mayB ss := by
  rw [str_data] at h
  have h' : endedB t = false := by simpa using h
  have hne : (ss.drop (k + 1)).isEmpty = false := by
    rw [Bool.eq_false_iff, ne_eq, List.isEmpty_iff]
    intro e
    have := congrArg List.length e
    rw [List.length_drop] at this
    simp at this
    omega
  rw [hm, hd, mayB, h', hne]
  simp
theorem may_go (hm : mayB ss = mayB (ss.drop k)) (hd : ss.drop k = t :: ss.drop (k + 1)) (h1 : (str t).toList.isEmpty = false ∧ ¬ fe (str t).data.toList < (str t).size) (he : (ss.drop (k + 1)).isEmpty = true ∨ endedB t = true) : mayB ss = mayB (ss.drop (k + 1)) := by
  rw [ByteArray.toList_eq, str_data, str_size] at h1
  rw [hm, hd, mayB]
  rcases he with he | he <;> simp [h1.1, h1.2, he]
end

set_option maxRecDepth 100000 in
set_option maxHeartbeats 400000 in
theorem lMay_any (A : Option Addr) (n c B : Nat) (ss : List (List UInt8)) (w : World) (hn : n ≤ maxLen) (hs : ∀ s ∈ ss, s.length ≤ maxLen) (hA : Strs w B A n ss) :
    Calls Tryz.prog 58 #[.slice A n c] w fun e w' => e = .returned (.bool (mayB ss)) ∧ w = w' := by
  unfold maxLen at hn
  have hl := hA.len
  go_enter Tryz.func58, Tryz.ntmps58
  go_wp2
  go_loop [11] (fun i => ∃ k : Nat, k ≤ n ∧ i = .int .i64 k ∧ Hid (mayB ss = mayB (ss.drop k))) (fun i => n - (intOf i).toNat)
  case atStart => exact ⟨0, Nat.zero_le _, rfl, Lib.hid rfl⟩
  case round =>
    obtain ⟨k, hk, rfl, hm⟩ := hrel
    by_cases hlt : k < n
    · obtain ⟨b, o, t, rfl, _, ht, hc⟩ := hA.at_ (k := k) hlt
      have htl : t.length ≤ maxLen := hs t (List.mem_of_getElem? ht)
      have hd := Lib.hid (drop_at ht)
      go_wp2_with (first
        | (go_at_call 94; refine (firstEnd_any (str t) _ (by rw [str_size]; exact htl)).mono ?_; rintro e w' ⟨rfl, rfl⟩)
        | (go_at_call 75; refine (ended_any (str t) _ (by rw [str_size]; exact htl)).mono ?_; rintro e w' ⟨rfl, rfl⟩))
      · go_ret; exact ⟨ret_bool (may_a hm.out hd.out ‹_›), rfl⟩
      · go_ret; exact ⟨ret_bool (may_b hm.out hd.out ‹_›), rfl⟩
      · go_ret; exact ⟨ret_bool (may_c hl hm.out hd.out ‹_› ‹_›), rfl⟩
      · have h1 : (str t).toList.isEmpty = false ∧ ¬fe (str t).data.toList < (str t).size := by assumption
        have h2 : (!endedB (str t).data.toList) = false := by assumption
        go_round
        case rel => exact ⟨k + 1, by omega, by go_num, Lib.hid (may_go hm.out hd.out h1 (.inr (by rw [str_data] at h2; simpa using h2)))⟩
        case measure => simp [intOf]; omega
      · have h1 : (str t).toList.isEmpty = false ∧ ¬fe (str t).data.toList < (str t).size := by assumption
        go_round
        case rel => exact ⟨k + 1, by omega, by go_num, Lib.hid (may_go hm.out hd.out h1 (.inl (by rw [List.drop_of_length_le (by omega)]; rfl)))⟩
        case measure => simp [intOf]; omega
    · go_wp2
      go_ret
      have : k = n := by omega
      subst this
      exact ⟨ret_bool (by rw [hm.out, List.drop_of_length_le (by omega)]; rfl), rfl⟩
end Go.Proofs.YtoopdgohdeddoaaGreatDoor
