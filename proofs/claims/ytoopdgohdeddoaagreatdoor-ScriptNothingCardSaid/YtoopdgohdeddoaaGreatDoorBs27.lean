/- Proved here: texts joined: DtOth, StepOwn, DtBl, ScrNum, ScrHand. -/
import Derived.Test.YtoopdgohdeddoaaGreatDoorBs01
import Derived.Test.YtoopdgohdeddoaaGreatDoorBs07
import Derived.Test.YtoopdgohdeddoaaGreatDoorBs26
import Derived.Deep.OwnRows
import Derived.Shelf.Abstract
import Derived.Deep.RegionLaw
import Derived.Maps.AppendAt
import Derived.Deep.DeepCutAuto
import Derived.Test.YtoopdgohdeddoaaGreatDoorShelf
import Derived.Lib.ItoaNum
/- Proved here: the contract of the landed dots.otherwise, for whatever closure makes a text otherwise and notes it in a box. -/
namespace Go.Proofs.YtoopdgohdeddoaaGreatDoor
open Go.RowKit
set_option linter.unusedVariables false
set_option maxRecDepth 100000

/-- The cells of texts that are made one by one. -/
def cellO (xs : Txs) (i : Nat) : Value := if i < xs.length then .string (str (xs.getD i [])) else .string ByteArray.empty
/-- What lies there behind some rounds: the new row G, the box. -/
structure OthIn (w wr : World) (n G Bd : Nat) (xs : Txs) (b : Bool) : Prop where
  row : wr.rowIs G 9 n (cellO xs)
  box : Boxed wr Bd 4 (.bool b)
  but : But (fun k => k = Bd) w wr
section
variable {w wr w1 : World} {n G Bd : Nat} {xs : Txs} {b b1 : Bool} {t : Tx}
theorem OthIn.start (hb : Boxed w Bd 4 (.bool b)) : OthIn w (w.alloc (.cells (madeCells #[.string ByteArray.empty] n) 9)) n w.heap.size Bd [] b :=
  ⟨(World.rowIs_made w _ _ _).congr fun i _ => rfl, hb.alloc _, But.alloc _ _⟩
theorem OthIn.put (h : OthIn w wr n w.heap.size Bd xs b) (hk : xs.length < n) (hlt : Bd < w.heap.size) (h1 : BoxB Bd wr w1 b1) :
    w1.cell? ⟨w.heap.size, xs.length, none⟩ = some (.string ByteArray.empty) ∧ w1.frozen? ⟨w.heap.size, xs.length, none⟩ = false ∧ OthIn w (w1.setCell ⟨w.heap.size, xs.length, none⟩ (.string (str t))) n w.heap.size Bd (xs ++ [t]) b1 := by
  have hne : w.heap.size ≠ Bd := by omega
  have hrow : w1.rowIs w.heap.size 9 n (cellO xs) := h.row.of_block (h1.2.block _ h.row.lt (by omega))
  refine ⟨by rw [hrow.cell hk]; unfold cellO; rw [if_neg (by omega)], hrow.frozen _, (hrow.set xs.length (.string (str t))).congr fun i hi => ?_, ?_, ?_⟩
  · unfold cellO
    rw [List.length_append, List.length_singleton]
    by_cases e : i = xs.length
    · subst e
      simp
    · rw [if_neg e]
      rcases Nat.lt_or_ge i xs.length with h2 | h2
      · rw [if_pos h2, if_pos (by omega), List.getD_eq_getElem?_getD, List.getD_eq_getElem?_getD, List.getElem?_append_left h2]
      · rw [if_neg (by omega), if_neg (by omega)]
  · exact ((But.setCell (F := fun k => k = w.heap.size) w1 (p := ⟨w.heap.size, xs.length, none⟩) rfl _).block Bd h1.1.lt (by omega)).trans h1.1
  · exact (h.but.trans h1.2 (fun k hk => .inl hk)).trans (But.setCell (F := fun k => k = w.heap.size) w1 (p := ⟨w.heap.size, xs.length, none⟩) rfl _) (fun k hk => .inr (by omega))
theorem OthIn.cell {B b0 o : Nat} {v : Value} (h : OthIn w wr n G Bd xs b) (hb : b0 < B) (hB : B ≤ Bd) (hlt : Bd < w.heap.size) (hc : w.cell? ⟨b0, o, none⟩ = some v) : wr.cell? ⟨b0, o, none⟩ = some v :=
  (World.cell?_of_block (w := w) (h.but.block b0 (by omega) (by omega))).trans hc
end
/-- What otherwise tells. -/
def OthOut (w w' : World) (e : Ending) (Bd : Nat) (ys : Txs) (b : Bool) : Prop :=
  ∃ G n, e = .returned (.slice (some ⟨G, 0, none⟩) n n) ∧ ys.length = n ∧ w.heap.size ≤ G ∧ w'.ownsRow w.heap.size 9 1 (.slice (some ⟨G, 0, none⟩) n n) n (ys.map fun s => .string (str s)) ∧ Boxed w' Bd 4 (.bool b) ∧ But (fun k => k = Bd) w w'

set_option maxHeartbeats 2000000 in
theorem oth_any (g2 Bd : Nat) (f : Tx → Tx) (p : Tx → Bool) (A : Option Addr) (n c B : Nat) (l : Txs) (w : World) (hsm : smallD l) (hA : Strs w B A n l) (hB : B ≤ Bd) (hb : Boxed w Bd 4 (.bool false))
    (hent : ∀ args w, (callFunc g2 args).run Tryz.prog w = .ok (.enter g2 args) w) (hch : ChF g2 Bd f p) :
    Calls Tryz.prog 117 #[.slice A n c, .func (.func g2) #[] #[.pointer (some ⟨Bd, 0, none⟩)]] w fun e w' => OthOut w w' e Bd (l.map f) (l.any p) := by
  have hl := hA.len
  have hn : n ≤ 100000 := by rw [← hl]; exact hsm.1
  have hAh := Lib.hid hA
  have hlh := Lib.hid hl
  have hsh := Lib.hid hsm.2
  have hchh := Lib.hid hch
  have hltb := hb.lt
  have hmk := make_txs n (by omega)
  have hst := Lib.hid (OthIn.start (n := n) hb)
  clear hA hl hsm hch hb
  go_enter Tryz.func117, Tryz.ntmps117
  go_wp2
  go_loopw [6, 7, 13] (fun _ _ i wr => ∃ (k : Nat) (b : Bool), k ≤ n ∧ i = .int .i64 k ∧ Hid ((l.take k).any p = b) ∧ Hid (OthIn w wr n w.heap.size Bd ((l.take k).map f) b)) (fun _ _ i _ => n - (intOf i).toNat)
  case atStart => exact ⟨0, false, Nat.zero_le _, rfl, Lib.hid rfl, hst⟩
  case round =>
    obtain ⟨k, b, hk, rfl, hm, hI⟩ := hrel
    obtain ⟨wo, rfl⟩ : ∃ wo : World, wo = wr := ⟨_, rfl⟩
    clear hst
    by_cases hlt : k < n
    · obtain ⟨b0, o, t, rfl, hb0, ht, hc⟩ := Strs.at_ hAh.out (k := k) hlt
      have xc := hI.out.cell hb0 hB hltb hc
      have hC := Lib.hid (hchh.out b t wo (hsh.out t (List.mem_of_getElem? ht)) hI.out.box)
      have i1 : (0 : Int) ≤ (k : Int) := by omega
      have i2 : (k : Int) < (n : Int) := by omega
      have hlk : ((l.take k).map f).length = k := by rw [List.length_map, List.length_take]; have := hlh.out; omega
      have hput : Hid (∀ w1, BoxB Bd wo w1 (b || p t) → w1.cell? ⟨w.heap.size, k, none⟩ = some (.string ByteArray.empty) ∧ w1.frozen? ⟨w.heap.size, k, none⟩ = false ∧ OthIn w (w1.setCell ⟨w.heap.size, k, none⟩ (.string (str (f t)))) n w.heap.size Bd ((l.take (k + 1)).map f) (b || p t)) := Lib.hid (fun w1 h1 => by
        have := hI.out.put (t := f t) (by rw [hlk]; exact hlt) hltb h1
        rw [hlk] at this
        rw [take_at ht, List.map_append]
        exact this)
      have hm2 : Hid ((l.take (k + 1)).any p = (b || p t)) := Lib.hid (by rw [take_at ht, List.any_append, hm.out]; simp)
      obtain ⟨S, hS⟩ : ∃ S, str t = S := ⟨_, rfl⟩
      obtain ⟨R, hR⟩ : ∃ R, str (f t) = R := ⟨_, rfl⟩
      obtain ⟨q, hq⟩ : ∃ q, (b || p t) = q := ⟨_, rfl⟩
      rw [hS] at xc hC
      rw [hR] at hC hput
      rw [hq] at hC hput hm2
      have hkn : Hid (k + 1 ≤ n) := Lib.hid (by omega)
      clear ht hc hb0 hlk hS hR hq hm
      go_wp2_with (refine hC.out.mono ?_; rintro e w1 ⟨rfl, hbx⟩; obtain ⟨y0, y1, hI2⟩ := hput.out w1 hbx; have hI2h := Lib.hid hI2; clear hbx hI2)
      go_roundw
      case rel => exact ⟨k + 1, q, hkn.out, by go_num, hm2, hI2h⟩
      case measure => simp [intOf]; have := hkn.out; omega
    · obtain rfl : k = n := by omega
      have hfin : Hid (OthIn w wo k w.heap.size Bd (l.map f) (l.any p)) := Lib.hid (by
        have h1 := hI.out
        rw [List.take_of_length_le (by rw [hlh.out]; exact Nat.le_refl _)] at h1
        have h2 := hm.out
        rw [List.take_of_length_le (by rw [hlh.out]; exact Nat.le_refl _)] at h2
        rw [h2]
        exact h1)
      clear hI hm
      go_wp2
      go_ret
      have hf := hfin.out
      have hlk : (l.map f).length = k := by rw [List.length_map]; exact hlh.out
      exact ⟨_, _, rfl, hlk, Nat.le_refl _, row_own hf.row hlk (by unfold maxLen; omega) (Nat.le_refl _) (fun i t ht => by
        unfold cellO
        have hi := (List.getElem?_eq_some_iff.1 ht).1
        rw [if_pos hi, List.getD_eq_getElem?_getD, ht]
        rfl), hf.box, hf.but⟩
end Go.Proofs.YtoopdgohdeddoaaGreatDoor
/- Proved here, without conditions: append onto a row of the call's own, as one step of a region that draws its order. -/
namespace Go.Proofs.YtoopdgohdeddoaaGreatDoor
open Go.RowKit
set_option linter.unusedVariables false

/-- append onto a row of the call's own, as one step of a region that draws. -/
theorem step_append_own {P : Program} {ops : Array Oper} {o : Oper} {a : Act} {w : World} {K : Act → World → Prop} {Q : Exit → Act → World → Prop} {G : Prop}
    (hg : o.guard = none) (s x : Operand) (t : TypeId) (hop : o.op = Op.call { callee := Callee.builtin Builtin.append, args := #[s, x], argTypes := #[t, t] })
    (base : Nat) (e : TypeId) (i : TypeInfo) (z : Value) (size bytes : Nat) (h1 : P.underlying t = some (.slice e)) (h2 : P.info? e = some i) (h3 : i.zero = some z) (h4 : i.size = size) (h5 : i.bytes = bytes) (h6 : z.cells.size = size) (h7 : 0 < size)
    (v : Value) (n : Nat) (xs : List Value) (hs : a.eval s = v) (hown : w.ownsRow base e size v n xs)
    (ad : Addr) (m c : Nat) (news : List Value) (hx : a.eval x = .slice (some ad) m c) (hn : news.length = m * size) (hc : ∀ j u, news[j]? = some u → w.cell? (ad.add j) = some u) (h1c : ∀ u ∈ news, u.oneCell' = true)
    (b1 : n + m ≤ maxLen) (b2 : (n + m) * bytes ≤ 140737488355328) (hbase : base ≤ w.heap.size)
    (hK : ∀ v' w', w'.ownsRow base e size v' (n + m) (xs ++ news) → w.grownBy w' v.ownBlock → (v'.ownBlock = v.ownBlock ∨ v'.ownBlock = some w.heap.size) → K (a.put o.dst v') w') :
    if Region.wanted o (yielded ops a.tmps) = true then Oper.wp P o a w K Q else G := by
  have hw : Region.wanted o (yielded ops a.tmps) = true := by simp [Region.wanted, hg]
  rw [if_pos hw]
  obtain ⟨v', w', hrun, r1, r2, _, r4⟩ := run_append_own_at (P := P) w base t o.type e i z size bytes h1 h2 h3 h4 h5 h6 h7 v n xs hown ad m c news hn hc h1c b1 b2 hbase
  unfold Oper.wp
  simp [execOp, hop, resolve, invoke, builtin, hs, hx, hrun, Result.andThen]
  exact hK v' w' r1 r2 r4

end Go.Proofs.YtoopdgohdeddoaaGreatDoor
/- Proved here: the contract of the landed dots.Block. -/
namespace Go.Proofs.YtoopdgohdeddoaaGreatDoor
open Go.RowKit
set_option linter.unusedVariables false
set_option maxRecDepth 100000

/-- What otherwise tells, of a box that the caller has just made. -/
theorem OthOut.fin {w w1 : World} {e : Ending} {ys : Txs} {b : Bool} {v : Value} (h : OthOut (w.alloc (.cells #[v] 4)) w1 e w.heap.size ys b) :
    ∃ G n, e = .returned (.slice (some ⟨G, 0, none⟩) n n) ∧ ys.length = n ∧ w.heap.size < G ∧ TxO w w1 (.slice (some ⟨G, 0, none⟩) n n) ys ∧ Boxed w1 w.heap.size 4 (.bool b) := by
  obtain ⟨G, n, rfl, hl, hG, hown, hbx, hbt⟩ := h
  have hs : (w.alloc (.cells #[v] 4)).heap.size = w.heap.size + 1 := push_size _ _
  rw [hs] at hG hown
  refine ⟨G, n, rfl, hl, by omega, ⟨by rw [hl]; exact own_lower hown (by omega), ?_⟩, hbx⟩
  have h1 : Below w.heap.size (w.alloc (.cells #[v] 4)) w1 := hbt.below (by rw [hs]; omega) (fun k hk => by omega)
  exact (below_alloc (Below.refl _ _) _).trans h1
theorem TxO.toB {w w2 : World} {v : Value} {xs : Txs} {b : Bool} (h : TxO w w2 v xs) : TxsB w w2 (.returned (.tuple #[v, .bool b])) (xs, b) := by
  obtain ⟨A, n, c, e, h1, h2⟩ := h.out
  injection e with e
  subst e
  exact ⟨A, n, c, rfl, h1, h2⟩

/-- Texts of the call's own, and a bool. -/
def OwnB (w w' : World) (e : Ending) (x : Txs × Bool) : Prop := ∃ v, e = .returned (.tuple #[v, .bool x.2]) ∧ TxO w w' v x.1
theorem OwnB.out {w w' : World} {e : Ending} {x : Txs × Bool} (h : OwnB w w' e x) : TxsB w w' e x := by
  obtain ⟨v, rfl, h⟩ := h
  exact h.toB

set_option maxHeartbeats 2000000 in
theorem block_own (A : Option Addr) (n c : Nat) (l : Txs) (w : World) (hsm : smallD l) (hA : TxR w w.heap.size (A, n, c) l) : Calls Tryz.prog 104 #[.slice A n c] w fun e w' => OwnB w w' e (blockD l, dottedB l) := by
  obtain ⟨i0, hi, hzz⟩ := Option.map_eq_some_iff.1 infoStr
  simp only [Prod.mk.injEq] at hzz
  obtain ⟨hz0, hz1, hz2⟩ := hzz
  obtain ⟨W0, hW0⟩ : ∃ W0, W0 = w.alloc (.cells #[.bool false] 4) := ⟨_, rfl⟩
  have hB0 : Below w.heap.size w W0 := by rw [hW0]; exact below_alloc (Below.refl _ _) _
  have hbox : Boxed W0 w.heap.size 4 (.bool false) := by rw [hW0]; exact Boxed.new _ _ _
  have hO := oth_any 118 w.heap.size dotT pointB A n c w.heap.size l W0 hsm (hA.2.2.below hB0) (Nat.le_refl _) hbox (enters_of Tryz.func118 (by kernel_rfl) rfl) (blockF_any _)
  have hlen : l.length ≤ 100000 := hsm.1
  have hOh : Hid (Calls Tryz.prog 117 #[.slice A n c, .func (.func 118) #[] #[.pointer (some ⟨w.heap.size, 0, none⟩)]] W0 fun e w1 => ∃ G m, e = .returned (.slice (some ⟨G, 0, none⟩) m m) ∧ (l.map dotT).length = m ∧ w.heap.size < G ∧ TxO w w1 (.slice (some ⟨G, 0, none⟩) m m) (l.map dotT) ∧ Boxed w1 w.heap.size 4 (.bool (dottedB l))) := Lib.hid (hO.mono fun e w1 h => by rw [hW0] at h; exact OthOut.fin h)
  have hbl : Hid (l.map dotT ++ [endD] = blockD l) := Lib.hid rfl
  have hml : (l.map dotT).length ≤ 100000 := by rw [List.length_map]; exact hlen
  obtain ⟨xs, hxs⟩ : ∃ xs, l.map dotT = xs := ⟨_, rfl⟩
  obtain ⟨b, hb⟩ : ∃ b, dottedB l = b := ⟨_, rfl⟩
  obtain ⟨R, hR⟩ : ∃ R, blockD l = R := ⟨_, rfl⟩
  rw [hxs] at hOh hbl hml
  rw [hb] at hOh ⊢
  rw [hR] at hbl ⊢
  have hW0h := Lib.hid hW0
  have hmlh := Lib.hid hml
  clear hO hA hsm hW0 hB0 hbox hxs hb hR hlen hml
  go_enter Tryz.func104, Tryz.ntmps104
  go_upto_region 2 with fail
  rw [← hW0h.out]
  go_upto_region 3 with (go_at_call 117; refine hOh.out.mono ?_; rintro e w1 ⟨G, m, rfl, hl, hG, hT, hbx⟩; have hlh := Lib.hid hl; have hTh := Lib.hid hT; have hbxh := Lib.hid hbx; have hGh := Lib.hid hG; clear hl hT hbx hG)
  have x0 := hbxh.out.cell
  have x1 : (w1.alloc (.cells #[.string ⟨#[46, 10]⟩] 9)).cell? ⟨w.heap.size, 0, none⟩ = some (.bool b) := (hbxh.out.alloc _).cell
  have hTd : TxO w w1.drew (.slice (some ⟨G, 0, none⟩) m m) xs := hTh.out.call (below_drew (Below.refl _ _))
  have hown : (w1.drew.alloc (.cells #[.string ⟨#[46, 10]⟩] 9)).ownsRow w.heap.size 9 1 (.slice (some ⟨G, 0, none⟩) m m) m (xs.map fun s => .string (str s)) := by
    have := hTd.own.alloc (.cells #[.string ⟨#[46, 10]⟩] 9)
    rw [hlh.out] at this
    exact this
  have hcell : Hid (∀ (W : World) (S : ByteArray) j x, ([.string S] : List Value)[j]? = some x → (W.alloc (.cells #[.string S] 9)).cell? ((⟨W.heap.size, 0, none⟩ : Addr).add j) = some x) := Lib.hid (fun W S j x hx => by
    rw [show (⟨W.heap.size, 0, none⟩ : Addr).add j = ⟨W.heap.size, j, none⟩ from by unfold Addr.add; split <;> simp_all, cells_of (one_a W _)]
    simpa using hx)
  have hmax : Hid (m + 1 ≤ maxLen ∧ (m + 1) * 16 ≤ 140737488355328) := Lib.hid (by have := hmlh.out; have := hlh.out; exact ⟨by unfold maxLen; omega, by omega⟩)
  have hbase : w.heap.size ≤ (w1.drew.alloc (.cells #[.string ⟨#[46, 10]⟩] 9)).heap.size := by have := hTd.below.size; simp at this ⊢; omega
  have hfin : Hid (∀ (v' : Value) (w2 : World), w2.ownsRow w.heap.size 9 1 v' (m + 1) ((xs.map fun s => .string (str s)) ++ [.string ⟨#[46, 10]⟩]) → (w1.drew.alloc (.cells #[.string ⟨#[46, 10]⟩] 9)).grownBy w2 (some G) →
      w2.cell? ⟨w.heap.size, 0, none⟩ = some (.bool b) ∧ TxO w w2 v' R) := Lib.hid (fun v' w2 h1 h2 => by
    refine ⟨?_, ?_⟩
    · have hb2 : Boxed (w1.drew.alloc (.cells #[.string ⟨#[46, 10]⟩] 9)) w.heap.size 4 (.bool b) := Boxed.alloc (W := w1.drew) hbxh.out _
      exact (hb2.kept h2 (by have := hGh.out; intro e; injection e with e; omega)).cell
    · rw [← hbl.out]
      exact hTd.push (s := endD) (by rw [hlh.out]; exact h1) h2)
  have hbase2 := hbase
  clear hTd
  go_region_law (refine step_append_own rfl (.tmp 9) (.tmp 10) 22 rfl w.heap.size 9 i0 (.string ByteArray.empty) 1 16 Tryz.underlying22 hi hz0 hz1 hz2 rfl (by decide) (.slice (some ⟨G, 0, none⟩) m m) m _ (by simp [Act.eval]) hown ⟨w1.heap.size, 0, none⟩ 1 1 [.string ⟨#[46, 10]⟩] (by simp [Act.eval]) rfl (hcell.out w1.drew _) (by simp; rfl) hmax.out.1 hmax.out.2 hbase ?_; intro v' w2 hown2 hg2 hloc2; obtain ⟨x2, hT2⟩ := hfin.out v' w2 hown2 hg2; have hT2h := Lib.hid hT2; clear hown2 hg2 hloc2 hT2)
  all_goals
    go_wp2
    go_ret2
    exact ⟨v', rfl, hT2h.out⟩
theorem block_anyL : DotBlockOk := fun A n c l w hsm hA => (block_own A n c l w hsm hA).mono fun e w' h => h.out
end Go.Proofs.YtoopdgohdeddoaaGreatDoor
/- Proved here: contracts of the landed script's numbers, handOver, putBehind. -/
namespace Go.Proofs.YtoopdgohdeddoaaGreatDoor
open Go.RowKit
set_option linter.unusedVariables false
set_option maxRecDepth 100000

theorem dec_fig (n : Nat) : Lib.decDigits n = figD n := by
  induction n using Nat.strongRecOn with
  | _ n ih =>
    unfold Lib.decDigits figD
    by_cases h : n < 10
    · rw [dif_pos h, if_pos h]
    · rw [dif_neg h, if_neg h, ih (n / 10) (by omega)]
theorem itoa_fig (n : Nat) (h : n < 100) (W : World) : Calls Tryz.prog 102 #[.int .i64 (n : Int)] W fun e w' => e = .returned (.string (str (figD n))) ∧ w' = W := by
  have := Tryz.strconv_Itoa_small n h W
  rw [dec_fig] at this
  exact this
theorem fig_small (n : Nat) (h : n < 100) : (figD n).length ≤ 2 := by
  rw [figD]
  split
  · simp
  · rw [List.length_append, figD, if_pos (by omega)]
    simp

set_option maxHeartbeats 1000000 in
theorem scNum_any (f t : Nat) (w : World) (hf : f < 99) (ht : t < 100) :
    Calls Tryz.prog 80 #[.agg #[.int .i64 (f : Int), .int .i64 (t : Int)]] w fun e w' => e = .returned (.string (str (linesD (f + 1) t))) ∧ Below w.heap.size w w' := by
  have hb := Lib.hid (below_alloc (Below.refl w.heap.size w) (.cells #[.int .i64 (f : Int), .int .i64 (t : Int)] 48))
  have hI := Lib.hid (fun W => itoa_fig t ht W)
  have hJ := Lib.hid (fun W => itoa_fig (f + 1) (by omega) W)
  have s1 := fig_small t ht
  have s2 := fig_small (f + 1) (by omega)
  obtain ⟨g, hg⟩ : ∃ g, f + 1 = g := ⟨_, rfl⟩
  have hgi : (f : Int) + 1 = (g : Int) := by omega
  have hgw : IntKind.i64.wrap ((f : Int) + 1) = (g : Int) := by rw [hgi]; exact IntWalk.i64_in _ (by omega)
  have hgx : IntKind.i64.wrap (g : Int) = (g : Int) := IntWalk.i64_in _ (by omega)
  rw [hg] at hJ s2 ⊢
  have hres : Hid (linesD g t = if g = t then figD g else figD g ++ 44 :: figD t) := Lib.hid rfl
  obtain ⟨L, hL⟩ : ∃ L, linesD g t = L := ⟨_, rfl⟩
  rw [hL] at hres ⊢
  obtain ⟨a, ha⟩ : ∃ a, figD g = a := ⟨_, rfl⟩
  obtain ⟨b, hbb⟩ : ∃ b, figD t = b := ⟨_, rfl⟩
  rw [ha] at hres hJ s2
  rw [hbb] at hres hI s1
  have tok1 := trivial
  by_cases h : g = t
  · subst h
    have hLb : Hid (L = b) := Lib.hid (by rw [hres.out, if_pos rfl]; exact ha.symm.trans hbb)
    clear hL ha hbb hres hg hJ s1 s2
    have he : ((g : Int) == (g : Int)) = true := by simp
    go_enter Tryz.func80, Tryz.ntmps80
    go_wp2_with (go_at_call 102; refine (hI.out _).mono ?_; rintro e w1 ⟨rfl, hww⟩; have hws := hww.symm; clear hww; subst hws)
    go_ret
    exact ⟨by rw [hLb.out]; rfl, hb.out⟩
  · have hne : ((g : Int) == (t : Int)) = false := by rw [beq_eq_false_iff_ne]; omega
    have hLb : Hid (str L = str a ++ ⟨#[44]⟩ ++ str b) := Lib.hid (by
      rw [hres.out, if_neg h]
      apply ByteArray.ext
      simp [str])
    obtain ⟨BA, hBA⟩ : ∃ BA, str a = BA := ⟨_, rfl⟩
    obtain ⟨BB, hBB⟩ : ∃ BB, str b = BB := ⟨_, rfl⟩
    have z1 : BA.size ≤ 2 := by rw [← hBA, str_size]; exact s2
    have z2 : BB.size ≤ 2 := by rw [← hBB, str_size]; exact s1
    have s3 : ¬ 9223372036854775807 < BA.size + 1 := by omega
    have s4 : ¬ 9223372036854775807 < BA.size + 1 + BB.size := by omega
    rw [hBA] at hLb hJ
    rw [hBB] at hLb hI
    clear hL ha hbb hres hg h s1 s2 hBA hBB z1 z2
    go_enter Tryz.func80, Tryz.ntmps80
    go_wp2_with (first
      | (go_at_call 102; have _t := tok1; refine (hI.out _).mono ?_; rintro e w1 ⟨rfl, hww⟩; have hws := hww.symm; clear hww; subst hws; have tok2 := trivial; clear tok1)
      | (go_at_call 102; have _t := tok2; refine (hJ.out _).mono ?_; rintro e w2 ⟨rfl, hww⟩; have hws := hww.symm; clear hww; subst hws; clear tok2))
    go_ret
    exact ⟨by rw [hLb.out]; rfl, hb.out⟩
end Go.Proofs.YtoopdgohdeddoaaGreatDoor
/- Proved here: contracts of the landed script's handOver, putBehind. -/
namespace Go.Proofs.YtoopdgohdeddoaaGreatDoor
open Go.RowKit
set_option linter.unusedVariables false
set_option maxRecDepth 100000

/-- Lists that are handed over as one text. -/
structure HandIn (wr : World) (A : Option Addr) (n : Nat) (T : Txs) : Prop where
  rows : ∃ rows lists, RowsT wr wr.heap.size A n rows lists ∧ lists.flatten = T
  few : n ≤ 100
  len : T.length ≤ 60
  small : ∀ s ∈ T, s.length ≤ 1000

section
variable {wr w1 : World} {A : Option Addr} {n : Nat} {T : Txs}
theorem HandIn.up (h : HandIn wr A n T) (hb : Below wr.heap.size wr w1) : HandIn w1 A n T := by
  obtain ⟨rows, lists, h1, h2⟩ := h.rows
  exact ⟨⟨rows, lists, h1.up hb, h2⟩, h.few, h.len, h.small⟩
end
theorem strs_one_lit (w : World) (S : ByteArray) (t : Tx) (h : S = str t) : Strs (w.alloc (.cells #[.string S] 9)) (w.heap.size + 1) (some ⟨w.heap.size, 0, none⟩) 1 [t] := by
  have := (txr_of (one_a w (.cells #[.string S] 9)) (n := 1) (ss := [t]) (by rw [h]; rfl) rfl (by decide)).2.2
  rw [push_size] at this
  exact this

set_option maxHeartbeats 4000000 in
theorem scHand_any (w0 : World) (Bl : Nat) (cmd : Tx) (ahead : Nat) (A : Option Addr) (n c : Nat) (T : Txs) (v : Value) (xs : Txs) (wr : World) (hS : Pn w0 Bl wr v xs) (hA : HandIn wr A n T) (ha : ahead + T.length < 99) (hc : cmd.length ≤ 100) (hx : xs.length ≤ 100000000) :
    Calls Tryz.prog 82 #[putFn Bl, .string (str cmd), .int .i64 (ahead : Int), .slice A n c] wr fun e w' => e = .returned (.tuple #[]) ∧ PnPut w0 Bl wr w' v (xs ++ (cmd ++ [10]) :: overD T (ahead + 1)) := by
  obtain ⟨rows, lists, hR, hfl⟩ := hA.rows
  have hCat := Lib.hid (catT_any A n c rows lists wr (by have := hA.few; omega) (by rw [hfl]; have := hA.len; omega) hR)
  rw [hfl] at hCat
  have hTl := hA.len
  have hBlk : Hid (∀ (A1 : Option Addr) (c1 : Nat) (W : World), TxO wr W (.slice A1 T.length c1) T → Calls Tryz.prog 104 #[.slice A1 T.length c1] W fun e w' => OwnB W w' e (blockD T, dottedB T)) := Lib.hid (fun A1 c1 W h => by
    obtain ⟨A2, c2, e, k1, k2, k3⟩ := own_slice h.own
    injection e with e1 _ e3
    subst e1
    subst e3
    exact block_own A1 T.length c1 T W ⟨by omega, fun s hs => by have := hA.small s hs; omega⟩ ⟨k1, k2, k3⟩)
  have hNum := Lib.hid (fun W => scNum_any ahead (ahead + T.length) W (by omega) (by omega))
  have hbl : Hid ((blockD T).length ≤ 61) := Lib.hid (by rw [block_len]; omega)
  have hov : Hid (overD T (ahead + 1) = blockD T ++ if dottedB T = true then [linesD (ahead + 1) (ahead + T.length) ++ subT] else []) := Lib.hid (by unfold overD; rw [show ahead + 1 + T.length - 1 = ahead + T.length from by omega])
  obtain ⟨S, hSS⟩ : ∃ S, str cmd = S := ⟨_, rfl⟩
  have hSz : S.size ≤ 100 := by rw [← hSS, str_size]; exact hc
  have s1 : ¬ 9223372036854775807 < S.size + 1 := by omega
  have hSf : Hid (S ++ ⟨#[10]⟩ = str (cmd ++ [10])) := Lib.hid (by rw [← hSS, str_feed])
  obtain ⟨c1t, hc1t⟩ : ∃ t, cmd ++ [10] = t := ⟨_, rfl⟩
  rw [hc1t] at hSf
  have hlow : Hid (Bl < wr.heap.size ∧ ∀ k, v.ownBlock = some k → k < wr.heap.size) := Lib.hid ⟨hS.bl.lt, fun k e => (hS.own.own.lt k e).2⟩
  have hP1 : Hid (∀ W, Below wr.heap.size wr W → Calls Tryz.prog 21 #[.slice (some ⟨W.heap.size, 0, none⟩) 1 1, .pointer (some ⟨Bl, 0, none⟩)] (W.alloc (.cells #[.string (S ++ ⟨#[10]⟩)] 9)) fun e w' => e = .returned (.tuple #[]) ∧ PnPut w0 Bl (W.alloc (.cells #[.string (S ++ ⟨#[10]⟩)] 9)) w' v (xs ++ [c1t])) := Lib.hid (fun W hW =>
    pnPut_any w0 Bl _ 1 1 _ v xs [c1t] _ (hS.up (below_alloc hW _)) (strs_one_lit W _ _ hSf.out) (by omega))
  obtain ⟨p, hp⟩ : ∃ p, dottedB T = p := ⟨_, rfl⟩
  obtain ⟨bs, hbs⟩ : ∃ bs, blockD T = bs := ⟨_, rfl⟩
  obtain ⟨ls, hls⟩ : ∃ ls, linesD (ahead + 1) (ahead + T.length) = ls := ⟨_, rfl⟩
  obtain ⟨O, hO⟩ : ∃ O, overD T (ahead + 1) = O := ⟨_, rfl⟩
  rw [hp, hbs] at hBlk hov
  rw [hbs] at hbl
  rw [hls] at hNum hov
  rw [hO] at hov
  rw [hc1t, hSS, hO]
  obtain ⟨N, hN⟩ : ∃ N, T.length = N := ⟨_, rfl⟩
  rw [hN] at hBlk hNum ha hTl
  have hNh := Lib.hid hN
  have hlsz : Hid ((str ls).size ≤ 10) := Lib.hid (by
    rw [str_size, ← hls]
    have h1 := fig_small (ahead + 1) (by omega)
    have h2 := fig_small (ahead + N) (by omega)
    unfold linesD
    rw [hN]
    split
    · omega
    · rw [List.length_append, List.length_cons]; omega)
  obtain ⟨BL, hBL⟩ : ∃ BL, str ls = BL := ⟨_, rfl⟩
  rw [hBL] at hNum hlsz
  have hsub : Hid (BL ++ ⟨#[115, 47, 94, 92, 46, 47, 47]⟩ ++ ⟨#[10]⟩ = str (ls ++ subT)) := Lib.hid (by
    rw [← hBL]
    apply ByteArray.ext
    simp [str, subT])
  have hBLz := hlsz.out
  have s2 : ¬ 9223372036854775807 < BL.size + 7 := by omega
  have s3 : ¬ 9223372036854775807 < BL.size + 7 + 1 := by omega
  have hw1 : IntKind.i64.wrap ((ahead : Int) + (N : Int)) = (ahead : Int) + (N : Int) := IntWalk.i64_in _ (by omega)
  obtain ⟨ls2, hls2⟩ : ∃ t, ls ++ subT = t := ⟨_, rfl⟩
  rw [hls2] at hsub hov
  have tok1 := trivial
  have hxh := Lib.hid hx
  have hShid := Lib.hid hS
  have e0 : ((ahead + N : Nat) : Int) = (ahead : Int) + (N : Int) := by omega
  rw [e0] at hNum
  clear hR hfl hA hTl hS hc hSS hc1t hp hbs hls hO hN hBL hls2 ha hx hSz e0
  unfold putFn
  cases p
  · have hovn : Hid (O = bs) := Lib.hid (by rw [hov.out, if_neg (by decide), List.append_nil])
    clear hov hNum
    go_enter Tryz.func82, Tryz.ntmps82
    go_wp2_with (first
      | (go_at_call 103; refine hCat.out.mono ?_; rintro e w1 ⟨v1, rfl, q1⟩; obtain ⟨A1, c1, rfl, -, -, -⟩ := own_slice q1.own; have hT1 := Lib.hid q1; have hT1n : Hid (TxO wr w1 (.slice A1 N c1) T) := Lib.hid (by rw [← hNh.out]; exact q1); rw [hNh.out]; clear q1 hCat hT1)
      | (go_at_call 104; refine (hBlk.out _ _ _ hT1n.out).mono ?_; rintro e w2 ⟨v2, rfl, q2⟩; obtain ⟨A2, c2, rfl, -, -, -⟩ := own_slice q2.own; have hT2 := Lib.hid q2; have hb2 := Lib.hid (hT1n.out.below.trans (q2.below.mono hT1n.out.below.size)); clear q2)
      | (go_at_call 21; have _t := tok1; refine (hP1.out _ hb2.out).mono ?_; rintro e w3 ⟨rfl, q3⟩; have hQ3 := Lib.hid q3; have hown3 := q3.owns (hT2.out.call (below_alloc (Below.refl _ _) _)) (Nat.lt_of_lt_of_le hlow.out.1 hT1n.out.below.size) (fun k e => Nat.lt_of_lt_of_le (hlow.out.2 k e) hT1n.out.below.size); have hr3 := Lib.hid (show Strs w3 w3.heap.size A2 bs.length bs from by obtain ⟨A4, c4, e, -, -, k3⟩ := own_slice hown3; injection e with e1; subst e1; exact k3); obtain ⟨v3, hS3, hbt3, hlc3⟩ := q3; have hS3h := Lib.hid hS3; have hst := Lib.hid (fun (w4 : World) (h : PnPut w0 Bl w3 w4 v3 (xs ++ [c1t] ++ bs)) => (PnPut.step hbt3 hlc3 h).ahead (below_alloc hb2.out _)); have tok2 := trivial; clear tok1 hown3 hS3 hbt3 hlc3)
      | (go_at_call 21; have _t := tok2; refine (pnPut_any w0 Bl _ _ _ _ v3 _ bs _ hS3h.out hr3.out (by have := hxh.out; have := hbl.out; simp; omega)).mono ?_; rintro e w4 ⟨rfl, q4⟩; have hQ4 := Lib.hid (hst.out _ q4); clear q4 tok2))
    go_end0
    exact ⟨rfl, by have := hQ4.out; rw [hovn.out]; simpa using this⟩
  · have hovn : Hid (O = bs ++ [ls2]) := Lib.hid (by rw [hov.out, if_pos rfl])
    clear hov
    go_enter Tryz.func82, Tryz.ntmps82
    go_wp2_with (first
      | (go_at_call 103; refine hCat.out.mono ?_; rintro e w1 ⟨v1, rfl, q1⟩; obtain ⟨A1, c1, rfl, -, -, -⟩ := own_slice q1.own; have hT1 := Lib.hid q1; have hT1n : Hid (TxO wr w1 (.slice A1 N c1) T) := Lib.hid (by rw [← hNh.out]; exact q1); rw [hNh.out]; clear q1 hCat hT1)
      | (go_at_call 104; refine (hBlk.out _ _ _ hT1n.out).mono ?_; rintro e w2 ⟨v2, rfl, q2⟩; obtain ⟨A2, c2, rfl, -, -, -⟩ := own_slice q2.own; have hT2 := Lib.hid q2; have hb2 := Lib.hid (hT1n.out.below.trans (q2.below.mono hT1n.out.below.size)); clear q2)
      | (go_at_call 21; have _t := tok1; refine (hP1.out _ hb2.out).mono ?_; rintro e w3 ⟨rfl, q3⟩; have hQ3 := Lib.hid q3; have hown3 := q3.owns (hT2.out.call (below_alloc (Below.refl _ _) _)) (Nat.lt_of_lt_of_le hlow.out.1 hT1n.out.below.size) (fun k e => Nat.lt_of_lt_of_le (hlow.out.2 k e) hT1n.out.below.size); have hr3 := Lib.hid (show Strs w3 w3.heap.size A2 bs.length bs from by obtain ⟨A4, c4, e, -, -, k3⟩ := own_slice hown3; injection e with e1; subst e1; exact k3); obtain ⟨v3, hS3, hbt3, hlc3⟩ := q3; have hS3h := Lib.hid hS3; have hst := Lib.hid (fun (w4 : World) (zs : Txs) (h : PnPut w0 Bl w3 w4 v3 zs) => (PnPut.step hbt3 hlc3 h).ahead (below_alloc hb2.out _)); have tok2 := trivial; clear tok1 hown3 hS3 hbt3 hlc3)
      | (go_at_call 21; have _t := tok2; refine (pnPut_any w0 Bl _ _ _ _ v3 _ bs _ hS3h.out hr3.out (by have := hxh.out; have := hbl.out; simp; omega)).mono ?_; rintro e w4 ⟨rfl, q4⟩; obtain ⟨v4, hS4, hbt4, hlc4⟩ := q4; have hS4h := Lib.hid hS4; have hst4 := Lib.hid (fun (w5 : World) (zs : Txs) (h : PnPut w0 Bl w4 w5 v4 zs) => hst.out _ _ (PnPut.step hbt4 hlc4 h)); have tok3 := trivial; clear tok2 hS4 hbt4 hlc4)
      | (go_at_call 80; refine (hNum.out _).mono ?_; rintro e w5 ⟨rfl, q5⟩; have hb5 := Lib.hid q5; clear q5)
      | (go_at_call 21; have _t := tok3; refine (pnPut_any w0 Bl _ 1 1 _ v4 _ [ls2] _ (hS4h.out.up (below_alloc hb5.out _)) (strs_one_lit w5 _ _ hsub.out) (by have := hxh.out; have := hbl.out; simp; omega)).mono ?_; rintro e w6 ⟨rfl, q6⟩; have hQ6 := Lib.hid (hst4.out _ _ (q6.ahead (below_alloc hb5.out _))); clear q6 tok3))
    go_end0
    exact ⟨rfl, by have := hQ6.out; rw [hovn.out]; simpa using this⟩

set_option maxHeartbeats 1000000 in
theorem scBeh_any (w0 : World) (Bl : Nat) (k : Nat) (A : Option Addr) (n c : Nat) (T : Txs) (v : Value) (xs : Txs) (wr : World) (hS : Pn w0 Bl wr v xs) (hA : HandIn wr A n T) (ha : k + T.length < 99) (hx : xs.length ≤ 100000000) :
    Calls Tryz.prog 81 #[putFn Bl, .int .i64 (k : Int), .slice A n c] wr fun e w' => e = .returned (.tuple #[]) ∧ PnPut w0 Bl wr w' v (xs ++ (figD k ++ [97, 10]) :: overD T (k + 1)) := by
  have hI := Lib.hid (fun W => itoa_fig k (by omega) W)
  have hz := fig_small k (by omega)
  have hH := Lib.hid (scHand_any w0 Bl (figD k ++ [97]) k A n c T v xs wr hS hA ha (by rw [List.length_append]; simp; omega) hx)
  have hF : Hid (str (figD k) ++ ⟨#[97]⟩ = str (figD k ++ [97])) := Lib.hid (by apply ByteArray.ext; simp [str])
  have hz2 : ¬ 9223372036854775807 < (str (figD k)).size + 1 := by rw [str_size]; omega
  obtain ⟨S, hSS⟩ : ∃ S, str (figD k) = S := ⟨_, rfl⟩
  rw [← hF.out, hSS] at hH
  rw [hSS] at hI hz2
  have e : (figD k ++ [97]) ++ [10] = figD k ++ [97, 10] := by simp
  rw [e] at hH
  clear hS hA ha hx hz hSS hF e
  unfold putFn at hH ⊢
  go_enter Tryz.func81, Tryz.ntmps81
  go_wp2_with (first
    | (go_at_call 102; refine (hI.out _).mono ?_; rintro e w1 ⟨rfl, hww⟩; have hws := hww.symm; clear hww; subst hws)
    | (go_at_call 82; refine hH.out.mono ?_; rintro e w2 ⟨rfl, q⟩; have hq := Lib.hid q; clear q))
  go_end0
  exact ⟨rfl, hq.out⟩
end Go.Proofs.YtoopdgohdeddoaaGreatDoor
