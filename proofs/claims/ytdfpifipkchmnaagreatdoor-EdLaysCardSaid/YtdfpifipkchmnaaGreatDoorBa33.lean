/- Proved here: texts joined: DtFn, MakeT, DtOth, StepOwn, DtOwn, DtCut, DtSt. -/
import Derived.Test.YtdfpifipkchmnaaGreatDoorBa02
import Derived.Test.YtdfpifipkchmnaaGreatDoorBa14
import Derived.Test.YtdfpifipkchmnaaGreatDoorBa16
import Derived.Test.YtdfpifipkchmnaaGreatDoorBa17
import Derived.Test.YtdfpifipkchmnaaGreatDoorBa32
import Derived.RangeFuncBox
import Derived.Deep.OwnRows
import Derived.Shelf.Abstract
import Derived.Deep.RegionLaw
import Derived.Maps.AppendAt
import Derived.Deep.DeepCutAuto
/- Proved here: the contract of strings.HasPrefix at a point, and of the closure of the landed dots.Block. -/
namespace Go.Proofs.YtdfpifipkchmnaaGreatDoor
open Go.RowKit
set_option linter.unusedVariables false
set_option maxRecDepth 100000

set_option maxHeartbeats 1000000 in
theorem prefS_any (t : Tx) (w : World) (ht : t.length ≤ 1000000) : Calls Tryz.prog 41 #[.string (str t), .string ⟨#[46]⟩] w fun e w' => e = .returned (.bool (pointB t)) ∧ w = w' := by
  have hp : (⟨#[46]⟩ : ByteArray).size = 1 := rfl
  cases t with
  | nil =>
    have hz : (str []).size = 0 := rfl
    obtain ⟨S, hS⟩ : ∃ S, str [] = S := ⟨_, rfl⟩
    rw [hS] at hz ⊢
    have hb : pointB [] = false := rfl
    rw [hb]
    clear hS
    go_enter Tryz.func41, Tryz.ntmps41
    go_wp2
    go_ret
    exact ⟨rfl, rfl⟩
  | cons c r =>
    have hz : (str (c :: r)).size = r.length + 1 := by rw [str_size]; rfl
    have hge : (1 : Int) ≤ ((str (c :: r)).size : Int) := by rw [hz]; omega
    have hsl : ∀ W, (Instr.slice 9 (.string (str (c :: r))) none (some (.int .i64 1)) none).run Tryz.prog W = .ok (.string (str [c])) W := fun W => slice_str_to (c :: r) 1 (by simp) W
    have hres : Hid (pointB (c :: r) = ((str [c]).toList == [46])) := Lib.hid (by
      rw [Lib.toList_data, str_data]
      unfold pointB
      rw [Bool.eq_iff_iff]
      simp)
    obtain ⟨S, hS⟩ : ∃ S, str (c :: r) = S := ⟨_, rfl⟩
    obtain ⟨U, hU⟩ : ∃ U, str [c] = U := ⟨_, rfl⟩
    rw [hS, hU] at hsl
    rw [hS] at hge ⊢
    rw [hU] at hres
    have hsz : ¬ (S.size : Int) < 1 := by omega
    clear hS hU hz ht
    go_enter Tryz.func41, Tryz.ntmps41
    go_wp2
    go_ret
    exact ⟨ret_bool (by rw [hres.out]), rfl⟩
theorem pref_any (t : Tx) (w : World) (ht : t.length ≤ 1000000) : Calls Tryz.prog 30 #[.string (str t), .string ⟨#[46]⟩] w fun e w' => e = .returned (.bool (pointB t)) ∧ w = w' := by
  have h := Lib.hid (prefS_any t w ht)
  go_enter Tryz.func30, Tryz.ntmps30
  go_wp2_with (go_at_call 41; refine h.out.mono ?_; rintro e w' ⟨rfl, rfl⟩)
  go_ret
  exact ⟨rfl, rfl⟩
/-- What a closure that makes a text otherwise leaves: the box Bd tells whether some began with a point. -/
def BoxB (Bd : Nat) (w w' : World) (b : Bool) : Prop := Boxed w' Bd 4 (.bool b) ∧ But (fun k => k = Bd) w w'
/-- A closure that makes each text otherwise, and notes whether it is one of those of p. -/
def ChF (g2 Bd : Nat) (f : Tx → Tx) (p : Tx → Bool) : Prop :=
  ∀ (b : Bool) (t : Tx) (w : World), t.length ≤ 1000000 → Boxed w Bd 4 (.bool b) → Calls Tryz.prog g2 #[.string (str t), .pointer (some ⟨Bd, 0, none⟩)] w fun e w' => e = .returned (.string (str (f t))) ∧ BoxB Bd w w' (b || p t)
end Go.Proofs.YtdfpifipkchmnaaGreatDoor
/- Proved here: a slice of texts, just made; a row of texts is a slice of the call's own. -/
namespace Go.Proofs.YtdfpifipkchmnaaGreatDoor
open Go.RowKit
set_option linter.unusedVariables false
set_option maxRecDepth 100000

theorem make_txs (n : Nat) (hn : n ≤ 1000000) (w : World) : (Instr.makeSlice 22 (.int .i64 (n : Int)) (.int .i64 (n : Int))).run Tryz.prog w = .ok (.slice (some ⟨w.heap.size, 0, none⟩) n n) (w.alloc (.cells (madeCells #[.string ByteArray.empty] n) 9)) := by
  obtain ⟨i, hi, hzz⟩ := Option.map_eq_some_iff.1 infoStr
  simp only [Prod.mk.injEq] at hzz
  obtain ⟨hz, hs, hb⟩ := hzz
  have := run_make (P := Tryz.prog) w 22 9 i (.string ByteArray.empty) Tryz.underlying22 hi hz .i64 .i64 n n (by omega) (Int.le_refl _) (by rw [hb]; omega) (by omega)
  simp only [Int.toNat_natCast, hs, Nat.mul_one] at this
  exact this
/-- A row of texts is a slice of the call's own. -/
theorem row_own {w : World} {G n base : Nat} {f : Nat → Value} {xs : Txs} (h : w.rowIs G 9 n f) (hl : xs.length = n) (hm : n ≤ maxLen) (hb : base ≤ G) (hx : ∀ i t, xs[i]? = some t → f i = .string (str t)) :
    w.ownsRow base 9 1 (.slice (some ⟨G, 0, none⟩) n n) n (xs.map fun s => .string (str s)) := by
  obtain ⟨c, hh, hs, hc⟩ := h
  refine ⟨by simpa using hl, .inr ⟨G, n, c, rfl, hb, hh, Nat.le_refl _, hm, by omega, ?_⟩⟩
  rw [Nat.mul_one]
  apply List.ext_getElem?
  intro i
  by_cases hi : i < n
  · rw [List.getElem?_take, if_pos hi, Array.getElem?_toList, hc i hi, List.getElem?_map, List.getElem?_eq_getElem (by omega), Option.map_some, hx i _ (List.getElem?_eq_getElem (by omega))]
  · rw [List.getElem?_take, if_neg hi, List.getElem?_map, List.getElem?_eq_none (by omega)]
    rfl
end Go.Proofs.YtdfpifipkchmnaaGreatDoor
/- Proved here: the contract of the landed dots.otherwise, for whatever closure makes a text otherwise and notes it in a box. -/
namespace Go.Proofs.YtdfpifipkchmnaaGreatDoor
open Go.RowKit
set_option linter.unusedVariables false
set_option maxRecDepth 100000

/-- The cells of texts that are made one by one. -/
def cellO (xs : Txs) (i : Nat) : Value := if i < xs.length then .string (str (xs.getD i [])) else .string ByteArray.empty
/-- What lies there behind some rounds: the new row G, the box. -/
structure OthIn (w wr : World) (n G Bd : Nat) (xs : Txs) (b : Bool) : Prop where
  row : wr.rowIs G 9 n (cellO xs)
  box : Boxed wr Bd 4 (.bool b)
  but : But (fun k => k = Bd) w wr
section
variable {w wr w1 : World} {n G Bd : Nat} {xs : Txs} {b b1 : Bool} {t : Tx}
theorem OthIn.start (hb : Boxed w Bd 4 (.bool b)) : OthIn w (w.alloc (.cells (madeCells #[.string ByteArray.empty] n) 9)) n w.heap.size Bd [] b :=
  ⟨(World.rowIs_made w _ _ _).congr fun i _ => rfl, hb.alloc _, But.alloc _ _⟩
theorem OthIn.put (h : OthIn w wr n w.heap.size Bd xs b) (hk : xs.length < n) (hlt : Bd < w.heap.size) (h1 : BoxB Bd wr w1 b1) :
    w1.cell? ⟨w.heap.size, xs.length, none⟩ = some (.string ByteArray.empty) ∧ w1.frozen? ⟨w.heap.size, xs.length, none⟩ = false ∧ OthIn w (w1.setCell ⟨w.heap.size, xs.length, none⟩ (.string (str t))) n w.heap.size Bd (xs ++ [t]) b1 := by
  have hne : w.heap.size ≠ Bd := by omega
  have hrow : w1.rowIs w.heap.size 9 n (cellO xs) := h.row.of_block (h1.2.block _ h.row.lt (by omega))
  refine ⟨by rw [hrow.cell hk]; unfold cellO; rw [if_neg (by omega)], hrow.frozen _, (hrow.set xs.length (.string (str t))).congr fun i hi => ?_, ?_, ?_⟩
  · unfold cellO
    rw [List.length_append, List.length_singleton]
    by_cases e : i = xs.length
    · subst e
      simp
    · rw [if_neg e]
      rcases Nat.lt_or_ge i xs.length with h2 | h2
      · rw [if_pos h2, if_pos (by omega), List.getD_eq_getElem?_getD, List.getD_eq_getElem?_getD, List.getElem?_append_left h2]
      · rw [if_neg (by omega), if_neg (by omega)]
  · exact ((But.setCell (F := fun k => k = w.heap.size) w1 (p := ⟨w.heap.size, xs.length, none⟩) rfl _).block Bd h1.1.lt (by omega)).trans h1.1
  · exact (h.but.trans h1.2 (fun k hk => .inl hk)).trans (But.setCell (F := fun k => k = w.heap.size) w1 (p := ⟨w.heap.size, xs.length, none⟩) rfl _) (fun k hk => .inr (by omega))
theorem OthIn.cell {B b0 o : Nat} {v : Value} (h : OthIn w wr n G Bd xs b) (hb : b0 < B) (hB : B ≤ Bd) (hlt : Bd < w.heap.size) (hc : w.cell? ⟨b0, o, none⟩ = some v) : wr.cell? ⟨b0, o, none⟩ = some v :=
  (World.cell?_of_block (w := w) (h.but.block b0 (by omega) (by omega))).trans hc
end
/-- What otherwise tells. -/
def OthOut (w w' : World) (e : Ending) (Bd : Nat) (ys : Txs) (b : Bool) : Prop :=
  ∃ G n, e = .returned (.slice (some ⟨G, 0, none⟩) n n) ∧ ys.length = n ∧ w.heap.size ≤ G ∧ w'.ownsRow w.heap.size 9 1 (.slice (some ⟨G, 0, none⟩) n n) n (ys.map fun s => .string (str s)) ∧ Boxed w' Bd 4 (.bool b) ∧ But (fun k => k = Bd) w w'

set_option maxHeartbeats 2000000 in
theorem oth_any (g2 Bd : Nat) (f : Tx → Tx) (p : Tx → Bool) (A : Option Addr) (n c B : Nat) (l : Txs) (w : World) (hsm : smallD l) (hA : Strs w B A n l) (hB : B ≤ Bd) (hb : Boxed w Bd 4 (.bool false))
    (hent : ∀ args w, (callFunc g2 args).run Tryz.prog w = .ok (.enter g2 args) w) (hch : ChF g2 Bd f p) :
    Calls Tryz.prog 28 #[.slice A n c, .func (.func g2) #[] #[.pointer (some ⟨Bd, 0, none⟩)]] w fun e w' => OthOut w w' e Bd (l.map f) (l.any p) := by
  have hl := hA.len
  have hn : n ≤ 100000 := by rw [← hl]; exact hsm.1
  have hAh := Lib.hid hA
  have hlh := Lib.hid hl
  have hsh := Lib.hid hsm.2
  have hchh := Lib.hid hch
  have hltb := hb.lt
  have hmk := make_txs n (by omega)
  have hst := Lib.hid (OthIn.start (n := n) hb)
  clear hA hl hsm hch hb
  go_enter Tryz.func28, Tryz.ntmps28
  go_wp2
  go_loopw [6, 7, 13] (fun _ _ i wr => ∃ (k : Nat) (b : Bool), k ≤ n ∧ i = .int .i64 k ∧ Hid ((l.take k).any p = b) ∧ Hid (OthIn w wr n w.heap.size Bd ((l.take k).map f) b)) (fun _ _ i _ => n - (intOf i).toNat)
  case atStart => exact ⟨0, false, Nat.zero_le _, rfl, Lib.hid rfl, hst⟩
  case round =>
    obtain ⟨k, b, hk, rfl, hm, hI⟩ := hrel
    obtain ⟨wo, rfl⟩ : ∃ wo : World, wo = wr := ⟨_, rfl⟩
    clear hst
    by_cases hlt : k < n
    · obtain ⟨b0, o, t, rfl, hb0, ht, hc⟩ := Strs.at_ hAh.out (k := k) hlt
      have xc := hI.out.cell hb0 hB hltb hc
      have hC := Lib.hid (hchh.out b t wo (hsh.out t (List.mem_of_getElem? ht)) hI.out.box)
      have i1 : (0 : Int) ≤ (k : Int) := by omega
      have i2 : (k : Int) < (n : Int) := by omega
      have hlk : ((l.take k).map f).length = k := by rw [List.length_map, List.length_take]; have := hlh.out; omega
      have hput : Hid (∀ w1, BoxB Bd wo w1 (b || p t) → w1.cell? ⟨w.heap.size, k, none⟩ = some (.string ByteArray.empty) ∧ w1.frozen? ⟨w.heap.size, k, none⟩ = false ∧ OthIn w (w1.setCell ⟨w.heap.size, k, none⟩ (.string (str (f t)))) n w.heap.size Bd ((l.take (k + 1)).map f) (b || p t)) := Lib.hid (fun w1 h1 => by
        have := hI.out.put (t := f t) (by rw [hlk]; exact hlt) hltb h1
        rw [hlk] at this
        rw [take_at ht, List.map_append]
        exact this)
      have hm2 : Hid ((l.take (k + 1)).any p = (b || p t)) := Lib.hid (by rw [take_at ht, List.any_append, hm.out]; simp)
      obtain ⟨S, hS⟩ : ∃ S, str t = S := ⟨_, rfl⟩
      obtain ⟨R, hR⟩ : ∃ R, str (f t) = R := ⟨_, rfl⟩
      obtain ⟨q, hq⟩ : ∃ q, (b || p t) = q := ⟨_, rfl⟩
      rw [hS] at xc hC
      rw [hR] at hC hput
      rw [hq] at hC hput hm2
      have hkn : Hid (k + 1 ≤ n) := Lib.hid (by omega)
      clear ht hc hb0 hlk hS hR hq hm
      go_wp2_with (refine hC.out.mono ?_; rintro e w1 ⟨rfl, hbx⟩; obtain ⟨y0, y1, hI2⟩ := hput.out w1 hbx; have hI2h := Lib.hid hI2; clear hbx hI2)
      go_roundw
      case rel => exact ⟨k + 1, q, hkn.out, by go_num, hm2, hI2h⟩
      case measure => simp [intOf]; have := hkn.out; omega
    · obtain rfl : k = n := by omega
      have hfin : Hid (OthIn w wo k w.heap.size Bd (l.map f) (l.any p)) := Lib.hid (by
        have h1 := hI.out
        rw [List.take_of_length_le (by rw [hlh.out]; exact Nat.le_refl _)] at h1
        have h2 := hm.out
        rw [List.take_of_length_le (by rw [hlh.out]; exact Nat.le_refl _)] at h2
        rw [h2]
        exact h1)
      clear hI hm
      go_wp2
      go_ret
      have hf := hfin.out
      have hlk : (l.map f).length = k := by rw [List.length_map]; exact hlh.out
      exact ⟨_, _, rfl, hlk, Nat.le_refl _, row_own hf.row hlk (by unfold maxLen; omega) (Nat.le_refl _) (fun i t ht => by
        unfold cellO
        have hi := (List.getElem?_eq_some_iff.1 ht).1
        rw [if_pos hi, List.getD_eq_getElem?_getD, ht]
        rfl), hf.box, hf.but⟩
end Go.Proofs.YtdfpifipkchmnaaGreatDoor
/- Proved here, without conditions: append onto a row of the call's own, as one step of a region that draws its order. -/
namespace Go.Proofs.YtdfpifipkchmnaaGreatDoor
open Go.RowKit
set_option linter.unusedVariables false

/-- append onto a row of the call's own, as one step of a region that draws. -/
theorem step_append_own {P : Program} {ops : Array Oper} {o : Oper} {a : Act} {w : World} {K : Act → World → Prop} {Q : Exit → Act → World → Prop} {G : Prop}
    (hg : o.guard = none) (s x : Operand) (t : TypeId) (hop : o.op = Op.call { callee := Callee.builtin Builtin.append, args := #[s, x], argTypes := #[t, t] })
    (base : Nat) (e : TypeId) (i : TypeInfo) (z : Value) (size bytes : Nat) (h1 : P.underlying t = some (.slice e)) (h2 : P.info? e = some i) (h3 : i.zero = some z) (h4 : i.size = size) (h5 : i.bytes = bytes) (h6 : z.cells.size = size) (h7 : 0 < size)
    (v : Value) (n : Nat) (xs : List Value) (hs : a.eval s = v) (hown : w.ownsRow base e size v n xs)
    (ad : Addr) (m c : Nat) (news : List Value) (hx : a.eval x = .slice (some ad) m c) (hn : news.length = m * size) (hc : ∀ j u, news[j]? = some u → w.cell? (ad.add j) = some u) (h1c : ∀ u ∈ news, u.oneCell' = true)
    (b1 : n + m ≤ maxLen) (b2 : (n + m) * bytes ≤ 140737488355328) (hbase : base ≤ w.heap.size)
    (hK : ∀ v' w', w'.ownsRow base e size v' (n + m) (xs ++ news) → w.grownBy w' v.ownBlock → (v'.ownBlock = v.ownBlock ∨ v'.ownBlock = some w.heap.size) → K (a.put o.dst v') w') :
    if Region.wanted o (yielded ops a.tmps) = true then Oper.wp P o a w K Q else G := by
  have hw : Region.wanted o (yielded ops a.tmps) = true := by simp [Region.wanted, hg]
  rw [if_pos hw]
  obtain ⟨v', w', hrun, r1, r2, _, r4⟩ := run_append_own_at (P := P) w base t o.type e i z size bytes h1 h2 h3 h4 h5 h6 h7 v n xs hown ad m c news hn hc h1c b1 b2 hbase
  unfold Oper.wp
  simp [execOp, hop, resolve, invoke, builtin, hs, hx, hrun, Result.andThen]
  exact hK v' w' r1 r2 r4

end Go.Proofs.YtdfpifipkchmnaaGreatDoor
/- Proved here: what otherwise tells, of a box that the caller has just made; texts of the call's own, and a bool. -/
namespace Go.Proofs.YtdfpifipkchmnaaGreatDoor
open Go.RowKit
set_option linter.unusedVariables false
set_option maxRecDepth 100000

/-- What otherwise tells, of a box that the caller has just made. -/
theorem OthOut.fin {w w1 : World} {e : Ending} {ys : Txs} {b : Bool} {v : Value} (h : OthOut (w.alloc (.cells #[v] 4)) w1 e w.heap.size ys b) :
    ∃ G n, e = .returned (.slice (some ⟨G, 0, none⟩) n n) ∧ ys.length = n ∧ w.heap.size < G ∧ TxO w w1 (.slice (some ⟨G, 0, none⟩) n n) ys ∧ Boxed w1 w.heap.size 4 (.bool b) := by
  obtain ⟨G, n, rfl, hl, hG, hown, hbx, hbt⟩ := h
  have hs : (w.alloc (.cells #[v] 4)).heap.size = w.heap.size + 1 := push_size _ _
  rw [hs] at hG hown
  refine ⟨G, n, rfl, hl, by omega, ⟨by rw [hl]; exact own_lower hown (by omega), ?_⟩, hbx⟩
  have h1 : Below w.heap.size (w.alloc (.cells #[v] 4)) w1 := hbt.below (by rw [hs]; omega) (fun k hk => by omega)
  exact (below_alloc (Below.refl _ _) _).trans h1
theorem TxO.toB {w w2 : World} {v : Value} {xs : Txs} {b : Bool} (h : TxO w w2 v xs) : TxsB w w2 (.returned (.tuple #[v, .bool b])) (xs, b) := by
  obtain ⟨A, n, c, e, h1, h2⟩ := h.out
  injection e with e
  subst e
  exact ⟨A, n, c, rfl, h1, h2⟩

/-- Texts of the call's own, and a bool. -/
def OwnB (w w' : World) (e : Ending) (x : Txs × Bool) : Prop := ∃ v, e = .returned (.tuple #[v, .bool x.2]) ∧ TxO w w' v x.1
theorem OwnB.out {w w' : World} {e : Ending} {x : Txs × Bool} (h : OwnB w w' e x) : TxsB w w' e x := by
  obtain ⟨v, rfl, h⟩ := h
  exact h.toB
end Go.Proofs.YtdfpifipkchmnaaGreatDoor
/- Proved here: the contract of strings.CutPrefix at a point, and of the closure of the landed dots.Strip. -/
namespace Go.Proofs.YtdfpifipkchmnaaGreatDoor
open Go.RowKit
set_option linter.unusedVariables false
set_option maxRecDepth 100000

set_option maxHeartbeats 1000000 in
theorem cutS_any (t : Tx) (w : World) (ht : t.length ≤ 1000000) : Calls Tryz.prog 91 #[.string (str t), .string ⟨#[46]⟩] w fun e w' => e = .returned (.tuple #[.string (str (bareT t)), .bool (pointB t)]) ∧ w = w' := by
  have h := Lib.hid (prefS_any t w ht)
  have hp : (⟨#[46]⟩ : ByteArray).size = 1 := rfl
  obtain ⟨p, hpt⟩ : ∃ p, pointB t = p := ⟨_, rfl⟩
  rw [hpt] at h ⊢
  cases p
  · have hb : bareT t = t := (plain_dot hpt).2
    rw [hb]
    clear hb hpt
    go_enter Tryz.func91, Tryz.ntmps91
    go_wp2_with (go_at_call 41; refine h.out.mono ?_; rintro e w' ⟨rfl, rfl⟩)
    go_ret2
    exact ⟨rfl, rfl⟩
  · have hne : 1 ≤ t.length := by
      cases t with
      | nil => cases hpt
      | cons => simp
    have hsl := slice_str_from t 1 hne
    have e : bareT t = t.drop 1 := by unfold bareT; rw [hpt, if_pos rfl, List.drop_one]
    rw [← e] at hsl
    obtain ⟨R, hR⟩ : ∃ R, str (bareT t) = R := ⟨_, rfl⟩
    rw [hR] at hsl ⊢
    clear e hR hpt
    have hsl2 : ∀ W, (Instr.slice 9 (.string (str t)) (some (.int .i64 1)) none none).run Tryz.prog W = .ok (.string R) W := hsl
    clear hsl
    go_enter Tryz.func91, Tryz.ntmps91
    go_wp2_with (go_at_call 41; refine h.out.mono ?_; rintro e w' ⟨rfl, rfl⟩)
    go_ret2
    exact ⟨rfl, rfl⟩
theorem cut_any46 (t : Tx) (w : World) (ht : t.length ≤ 1000000) : Calls Tryz.prog 74 #[.string (str t), .string ⟨#[46]⟩] w fun e w' => e = .returned (.tuple #[.string (str (bareT t)), .bool (pointB t)]) ∧ w = w' := by
  have h := Lib.hid (cutS_any t w ht)
  obtain ⟨R, hR⟩ : ∃ R, str (bareT t) = R := ⟨_, rfl⟩
  rw [hR] at h ⊢
  clear hR
  go_enter Tryz.func74, Tryz.ntmps74
  go_wp2_with (go_at_call 91; refine h.out.mono ?_; rintro e w' ⟨rfl, rfl⟩)
  go_ret2
  exact ⟨rfl, rfl⟩

theorem stripF_any (Bd : Nat) : ChF 73 Bd bareT pointB := by
  intro b t w ht hb
  have h := Lib.hid (cut_any46 t w ht)
  have c0 := hb.cell
  have c1 := hb.frozen
  have hset := Lib.hid (fun u => And.intro (hb.set u) (But.setCell (F := fun k => k = Bd) w (p := ⟨Bd, 0, none⟩) rfl u))
  obtain ⟨R, hR⟩ : ∃ R, str (bareT t) = R := ⟨_, rfl⟩
  obtain ⟨p, hp⟩ : ∃ p, pointB t = p := ⟨_, rfl⟩
  rw [hR, hp] at h ⊢
  clear hb hR hp
  cases b <;> cases p
  all_goals
    go_enter Tryz.func73, Tryz.ntmps73
    go_wp2_with (go_at_call 74; refine h.out.mono ?_; rintro e w' ⟨rfl, rfl⟩)
    go_ret
    exact ⟨rfl, hset.out _⟩
end Go.Proofs.YtdfpifipkchmnaaGreatDoor
/- Proved here: the contract of the landed dots.Strip. -/
namespace Go.Proofs.YtdfpifipkchmnaaGreatDoor
open Go.RowKit
set_option linter.unusedVariables false
set_option maxRecDepth 100000

set_option maxHeartbeats 2000000 in
theorem strip_own (A : Option Addr) (n c : Nat) (l : Txs) (w : World) (hsm : smallD l) (hA : TxR w w.heap.size (A, n, c) l) :
    Calls Tryz.prog 61 #[.slice A n c] w fun e w' => OwnB w w' e (stripD l, dottedB l) := by
  obtain ⟨W0, hW0⟩ : ∃ W0, W0 = w.alloc (.cells #[.bool false] 4) := ⟨_, rfl⟩
  have hB0 : Below w.heap.size w W0 := by rw [hW0]; exact below_alloc (Below.refl _ _) _
  have hbox : Boxed W0 w.heap.size 4 (.bool false) := by rw [hW0]; exact Boxed.new _ _ _
  have hO := oth_any 73 w.heap.size bareT pointB A n c w.heap.size l W0 hsm (hA.2.2.below hB0) (Nat.le_refl _) hbox (enters_of Tryz.func73 (by kernel_rfl) rfl) (stripF_any _)
  have hOh : Hid (Calls Tryz.prog 28 #[.slice A n c, .func (.func 73) #[] #[.pointer (some ⟨w.heap.size, 0, none⟩)]] W0 fun e w1 => ∃ G m, e = .returned (.slice (some ⟨G, 0, none⟩) m m) ∧ (l.map bareT).length = m ∧ w.heap.size < G ∧ TxO w w1 (.slice (some ⟨G, 0, none⟩) m m) (l.map bareT) ∧ Boxed w1 w.heap.size 4 (.bool (dottedB l))) := Lib.hid (hO.mono fun e w1 h => by rw [hW0] at h; exact OthOut.fin h)
  have hW0h := Lib.hid hW0
  clear hO hA hsm hW0 hB0 hbox
  go_enter Tryz.func61, Tryz.ntmps61
  go_upto_region 2 with fail
  rw [← hW0h.out]
  go_upto_region 3 with (go_at_call 28; refine hOh.out.mono ?_; rintro e w1 ⟨G, m, rfl, hl, hG, hT, hbx⟩; have hTh := Lib.hid hT; have hbxh := Lib.hid hbx; clear hl hT hbx hG)
  have x0 := hbxh.out.cell
  go_region
  all_goals
    go_wp2
    go_ret2
    exact ⟨_, rfl, hTh.out.call (below_drew (Below.refl _ _))⟩
theorem strip_anyL : DotStripOk := fun A n c l w hsm hA => (strip_own A n c l w hsm hA).mono fun e w' h => h.out

end Go.Proofs.YtdfpifipkchmnaaGreatDoor
