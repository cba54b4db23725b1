/- Proved here: texts joined: PkConf, NmPure, PkPile, MkSh. -/
import Derived.Test.YtcpopnhnihbofaaGreatDoorBe03
import Derived.Test.YtcpopnhnihbofaaGreatDoorBe13
import Derived.Test.YtcpopnhnihbofaaGreatDoorBe23
import Derived.Test.YtcpopnhnihbofaaGreatDoorBe31
import Derived.Laws.EntriesVeiled
import Derived.RangeFuncBox
import Derived.Test.YtcpopnhnihbofaaGreatDoorShelf
/- Proved here: the contract of the landed package pick's conflict: a copy of the call's own. -/
namespace Go.Proofs.YtcpopnhnihbofaaGreatDoor
open Go.RowKit
set_option linter.unusedVariables false

/-- What a call has made stands, whatever becomes of what lay ahead of it. -/
theorem TxO.stay {F : Nat → Prop} {w w1 w2 : World} {A : Option Addr} {n c : Nat} {xs : Txs} (h : TxO w w1 (.slice A n c) xs) (hb : But F w1 w2) (hF : ∀ k, F k → k < w.heap.size) : TxR w2 w2.heap.size (A, n, c) xs := by
  have h1 := ownsRow_kept h.own (w' := w2) fun k e => hb.block k (h.own.lt k e).2 (fun hf => by have := hF k hf; have := (h.own.lt k e).1; omega)
  obtain ⟨A', c', e, r1, r2, r3⟩ := own_slice h1
  injection e with e1 e2 e3
  subst e1
  subst e2
  subst e3
  exact ⟨r1, r2, r3⟩

/-- A conflict of the call's own, told. -/
def ConfOut (w w' : World) (e : Ending) (b : Txs) (s : List Txs) : Prop := ∃ Ab nb cb As ns cs, e = .returned (.agg #[.bool true, .slice none 0 0, .slice Ab nb cb, .slice As ns cs]) ∧
  (∀ w2, But (fun k => k < w.heap.size) w' w2 → PcR w2 w2.heap.size ((none, 0, 0), (Ab, nb, cb), (As, ns, cs)) (cPc b s)) ∧ Below w.heap.size w w'

/-- How far the copies have come. -/
structure ConfIn (w wr : World) (n G k : Nat) (ps : List Txs) (rs : List Slc) : Prop where
  box : wr.heap[w.heap.size]? = some (.cells #[.bool false, .slice none 0 0, .slice none 0 0, .slice none 0 0] 40 (0, 0))
  row : wr.rowIs G 25 n (rowF rs)
  far : G = w.heap.size + 1
  len : rs.length = k
  below : Below w.heap.size w wr
  each : ∀ (i : Nat) (r : Slc) (l : Txs), rs[i]? = some r → ps[i]? = some l → ∀ w2, But (fun k => k ≤ G) wr w2 → TxR w2 w2.heap.size r l
section
variable {w W0 wr w1 : World} {n G k : Nat} {ps : List Txs} {rs : List Slc}
theorem ConfIn.start (hW : W0 = w.alloc (.cells #[.bool false, .slice none 0 0, .slice none 0 0, .slice none 0 0] 40)) : ConfIn w (W0.alloc (.cells (madeCells #[.slice none 0 0] n) 25)) n W0.heap.size 0 ps [] := by
  have hb : Below w.heap.size w W0 := by rw [hW]; exact (Below.refl _ w).alloc (Nat.le_refl _) _
  have hs : W0.heap.size = w.heap.size + 1 := by rw [hW]; simp
  refine ⟨?_, (World.rowIs_made W0 _ _ _).congr fun i _ => rfl, hs, rfl, hb.alloc hb.size _, fun i r l h => by simp at h⟩
  rw [push_at, if_neg (by omega), hW]
  exact Go.Deep.blk_alloc_new w _
theorem ConfIn.put {A : Option Addr} {m c : Nat} {l : Txs} (h : ConfIn w wr n G k ps rs) (hl : ps[k]? = some l) (hT : TxO wr w1 (.slice A m c) l) : w1.rowIs G 25 n (rowF rs) ∧ ConfIn w (w1.setCell ⟨G, k, none⟩ (.slice A m c)) n G (k + 1) ps (rs ++ [(A, m, c)]) := by
  have hb1 : But (fun j => j = G) w1 (w1.setCell ⟨G, k, none⟩ (.slice A m c)) := But.setCell (F := fun j => j = G) w1 (p := ⟨G, k, none⟩) rfl _
  have hrow : w1.rowIs G 25 n (rowF rs) := h.row.of_block (hT.below.block _ h.row.lt)
  have hw := (Array.getElem?_eq_some_iff.1 h.box).1
  have hG := h.row.lt
  have hs := hT.below.size
  have hf := h.far
  have hb2 : But (fun j => j = G) wr (w1.setCell ⟨G, k, none⟩ (.slice A m c)) := (But.of_below (F := fun j => j = G) hT.below fun q hq _ => hq).trans hb1 fun q e => .inl e
  refine ⟨hrow, (hb2.block _ hw (by omega)).trans h.box, rowF_set (r := (A, m, c)) hrow h.len, hf, by simp [h.len], h.below.trans (hb2.below h.below.size (by rintro q rfl; omega)), fun i r l' h1 h2 w2 h3 => ?_⟩
  have hlen := h.len
  rcases Nat.lt_or_ge i rs.length with hi | hi
  · rw [List.getElem?_append_left hi] at h1
    exact h.each i r l' h1 h2 w2 ((hb2.more (F' := fun k => k ≤ G) (by rintro q rfl; exact Nat.le_refl _)).trans h3 fun q e => .inl e)
  · rw [List.getElem?_append_right hi] at h1
    have hik : i = k := by
      have := (List.getElem?_eq_some_iff.1 h1).1
      simp at this
      omega
    subst hik
    simp [hlen] at h1
    rw [hl] at h2
    injection h2 with h2
    subst h1
    subst h2
    exact hT.stay ((hb1.more (F' := fun k => k ≤ G) (by rintro q rfl; exact Nat.le_refl _)).trans h3 fun q e => .inl e) (by intro q hq; omega)
theorem ConfIn.done {Ab : Option Addr} {nb cb : Nat} {base : Txs} (h : ConfIn w wr n G n ps rs) (hps : ps.length = n) (hn : n ≤ maxLen) (hT : TxO wr w1 (.slice Ab nb cb) base) (u0 u1 u2 u3 : Value) :
    ConfOut w ((((w1.setCell ⟨w.heap.size, 0, none⟩ u0).setCell ⟨w.heap.size, 1, none⟩ u1).setCell ⟨w.heap.size, 2, none⟩ u2).setCell ⟨w.heap.size, 3, none⟩ u3) (.returned (.agg #[.bool true, .slice none 0 0, .slice Ab nb cb, .slice (some ⟨G, 0, none⟩) n n])) base ps := by
  have hG := h.row.lt
  have hf := h.far
  have hB := But.piece w1 w.heap.size u0 u1 u2 u3
  refine ⟨Ab, nb, cb, _, n, n, rfl, fun w2 h2 => ?_, (h.below.trans (hT.below.mono h.below.size)).trans (hB.below (Nat.le_trans h.below.size hT.below.size) (by rintro k rfl; exact Nat.le_refl _))⟩
  have hb1 : But (fun k => k ≤ w.heap.size) w1 w2 := (hB.more (F' := fun k => k ≤ w.heap.size) (by rintro q rfl; exact Nat.le_refl _)).trans h2 fun q (e : q < w.heap.size) => .inl (by omega)
  have hb2 : But (fun k => k ≤ w.heap.size) wr w2 := (But.of_below (F := fun k => k ≤ w.heap.size) hT.below fun q hq _ => hq).trans hb1 fun q e => .inl e
  refine PcR.conf (hT.stay hb1 (by intro q hq; omega)) ⟨Nat.le_refl _, hn, rs, ?_, by rw [hps]; exact h.len, fun k r ss a b => h.each k r ss a b w2 (hb2.more fun q (hq : q ≤ w.heap.size) => by omega)⟩
  refine reads_of_row (h.row.of_block (hb2.block G hG (by omega))) _ (by rw [List.length_map]; exact h.len) fun i u hu => ?_
  rw [List.getElem?_map] at hu
  unfold rowF
  rw [List.getD_eq_getElem?_getD]
  cases h : rs[i]? with
  | none => rw [h] at hu; cases hu
  | some r => rw [h] at hu; simpa using hu
end

set_option maxRecDepth 100000 in
set_option maxHeartbeats 2000000 in
theorem conflict_any (A0 : Option Addr) (n0 c0 : Nat) (base : Txs) (A : Option Addr) (n c : Nat) (rows : List Slc) (ps : List Txs) (w : World) (hn : n ≤ 1000) (hsm : ∀ d ∈ base :: ps, d.length ≤ 1000000) (hA0 : TxR w w.heap.size (A0, n0, c0) base) (hA : RowsT w w.heap.size A n rows ps) :
    Calls Tryz.prog 74 #[.slice A0 n0 c0, .slice A n c] w fun e w' => ConfOut w w' e base ps := by
  obtain ⟨W0, hW0⟩ : ∃ W0, W0 = w.alloc (.cells #[.bool false, .slice none 0 0, .slice none 0 0, .slice none 0 0] 40) := ⟨_, rfl⟩
  have hl := hA.len
  have hlh := Lib.hid hl
  have hsmh := Lib.hid hsm
  have hAh := Lib.hid hA
  have hA0h := Lib.hid hA0
  have hst := Lib.hid (ConfIn.start (n := n) (ps := ps) hW0)
  have hmk := make_rows n (by omega)
  have hW0h := Lib.hid hW0
  clear hA hA0 hsm hW0 hl
  go_enter Tryz.func74, Tryz.ntmps74
  go_upto_region 1 with fail
  rw [← hW0h.out]
  go_wp2
  obtain ⟨G, hG⟩ : ∃ G, W0.heap.size = G := ⟨_, rfl⟩
  rw [hG] at hst ⊢
  clear hG
  go_loopw [6, 7, 13] (fun _ _ s13 wr => ∃ (k : Nat) (rs : List Slc), k ≤ n ∧ s13 = .int .i64 k ∧ Hid (ConfIn w wr n G k ps rs)) (fun _ _ s13 _ => n - (intOf s13).toNat)
  case atStart => exact ⟨0, [], Nat.zero_le _, rfl, hst⟩
  case round =>
    obtain ⟨k, rs, hkn, rfl, hP⟩ := hrel
    obtain ⟨wo, rfl⟩ : ∃ wo : World, wo = wr := ⟨_, rfl⟩
    clear hst
    by_cases hlt : k < n
    · obtain ⟨b, o, A2, n2, c2, l, rfl, hb, hll, hrow, hc, hnc, hcm, hSt⟩ := (hAh.out.below hP.out.below).at_ (k := k) hlt
      have i1 : (0 : Int) ≤ (k : Int) := by omega
      have i2 : (k : Int) < (n : Int) := by omega
      have hln : n2 ≤ 1000000000 := by have := hsmh.out l (List.mem_cons_of_mem _ (List.mem_of_getElem? hll)); have := hSt.len; omega
      have hC := Lib.hid (cloneT_any A2 n2 c2 w.heap.size l wo hln hP.out.below.size hSt)
      have hllh := Lib.hid hll
      clear hll hrow hSt hln hnc hcm
      go_wp2_with (go_at_call 94; refine hC.out.mono ?_; rintro e w1 ⟨v, rfl, hT⟩; obtain ⟨A3, c3, rfl, r1, r2, r3⟩ := own_slice hT.own; have hP2 := Lib.hid (hP.out.put hllh.out hT); have z1 := hP2.out.1.cell hlt; have z2 := hP2.out.1.frozen k; clear hT r1 r2 r3)
      go_roundw
      case rel => exact ⟨k + 1, _, by omega, by go_num, Lib.hid hP2.out.2⟩
      case measure => simp [intOf]; omega
    · obtain rfl : k = n := by omega
      have hln : n0 ≤ 1000000000 := by have := hsmh.out base (List.mem_cons_self ..); have := hA0h.out.2.2.len; dsimp only at this; omega
      have hC := Lib.hid (cloneT_any A0 n0 c0 w.heap.size base wo hln hP.out.below.size (hA0h.out.below hP.out.below).2.2)
      clear hln
      go_wp2_with (go_at_call 94; refine hC.out.mono ?_; rintro e w1 ⟨v, rfl, hT⟩; obtain ⟨A3, c3, rfl, r1, r2, r3⟩ := own_slice hT.own; have k1 : w1.heap[w.heap.size]? = _ := ((hT.below.block _ (Array.getElem?_eq_some_iff.1 hP.out.box).1).trans hP.out.box); obtain ⟨e0, e1, e2, e3, z0, z1, z2, z3⟩ := piece_at k1; have hTh := Lib.hid hT; clear hT r1 r2 r3 k1)
      refine bodyPost_ret (v := .agg #[.bool true, .slice none 0 0, .slice A3 base.length c3, .slice (some ⟨G, 0, none⟩) k k]) (by simp [results, Tryz.results74, go_sem, World.cell?_setCell_same', e0, e1, e2, e3]) rfl ?_
      exact hP.out.done hlh.out (by unfold maxLen; omega) hTh.out _ _ _ _
end Go.Proofs.YtcpopnhnihbofaaGreatDoor
/- Proved here, without conditions: plain facts on pieces that are put behind others, as the landed Normal does it. -/
namespace Go.Proofs.YtcpopnhnihbofaaGreatDoor
set_option linter.unusedVariables false

/-- One more piece behind pieces that are put together. -/
def pushT (l : List Pc) (t : Txs) : List Pc := match l.getLast? with
  | some (false, x, b, s) => l.dropLast ++ [(false, x ++ t, b, s)]
  | _ => l ++ [tPc t]
def pushP (l : List Pc) (p : Pc) : List Pc := if p.1 = true then l ++ [cPc p.2.2.1 p.2.2.2] else if p.2.1 = [] then l else pushT l p.2.1
theorem pushT_cons (x : Pc) {l : List Pc} (t : Txs) (h : l ≠ [] ∨ x.1 = true) : pushT (x :: l) t = x :: pushT l t := by
  unfold pushT
  cases l with
  | nil =>
    obtain ⟨c, a, b, s⟩ := x
    rcases h with h | h
    · exact absurd rfl h
    · simp at h
      subst h
      rfl
  | cons y l =>
    rw [List.getLast?_cons_cons]
    cases hl : (y :: l).getLast? with
    | none => simp at hl
    | some q =>
      obtain ⟨c, a, b, s⟩ := q
      cases c
      · simp
      · simp
theorem push_cons (x : Pc) {l : List Pc} (p : Pc) (h : l ≠ [] ∨ x.1 = true) : pushP (x :: l) p = x :: pushP l p := by
  unfold pushP
  split
  · rfl
  · split
    · rfl
    · exact pushT_cons x _ h
theorem join_push (t : Txs) (p : Pc) : ∀ l : List Pc, joinT t (pushP l p) = pushP (joinT t l) p
  | [] => by
    obtain ⟨c, x, b, s⟩ := p
    cases c
    · by_cases hx : x = []
      · subst hx
        simp [pushP]
      · by_cases ht : t = [] <;> simp [pushP, pushT, joinT, hx, ht, tPc]
    · by_cases ht : t = [] <;> simp [pushP, joinT, ht, cPc, tPc]
  | (true, x, b, s) :: r => by
    rw [push_cons _ _ (.inr rfl)]
    show (if t = [] then (true, x, b, s) :: pushP r p else tPc t :: (true, x, b, s) :: pushP r p) = pushP (if t = [] then (true, x, b, s) :: r else tPc t :: (true, x, b, s) :: r) p
    by_cases ht : t = []
    · rw [if_pos ht, if_pos ht, push_cons _ _ (.inr rfl)]
    · rw [if_neg ht, if_neg ht, push_cons _ _ (.inl (by simp)), push_cons _ _ (.inr rfl)]
  | [(false, x, b, s)] => by
    obtain ⟨c, y, b', s'⟩ := p
    cases c
    · by_cases hy : y = []
      · subst hy
        simp [pushP]
      · simp [pushP, pushT, joinT, hy]
    · simp [pushP, joinT]
  | (false, x, b, s) :: y :: r => by
    rw [push_cons (false, x, b, s) (l := y :: r) p (.inl (by simp))]
    show (false, t ++ x, b, s) :: pushP (y :: r) p = pushP ((false, t ++ x, b, s) :: y :: r) p
    rw [push_cons (false, t ++ x, b, s) (l := y :: r) p (.inl (by simp))]
theorem normal_snoc (p : Pc) : ∀ l : List Pc, normal (l ++ [p]) = pushP (normal l) p
  | [] => by
    obtain ⟨c, x, b, s⟩ := p
    cases c
    · by_cases hx : x = [] <;> simp [normal, pushP, pushT, joinT, hx, tPc]
    · simp [normal, pushP, cPc]
  | (true, x, b, s) :: l => by
    rw [List.cons_append, normal, normal_snoc p l, normal, push_cons _ _ (.inr rfl)]
  | (false, x, b, s) :: l => by
    rw [List.cons_append, normal, normal_snoc p l, normal, join_push]
theorem normal_take {ps : List Pc} {i : Nat} {p : Pc} (h : ps[i]? = some p) : normal (ps.take (i + 1)) = pushP (normal (ps.take i)) p := by
  rw [take_at h, normal_snoc]
theorem push_conf (l : List Pc) (t b : Txs) (s : List Txs) : pushP l (true, t, b, s) = l ++ [cPc b s] := rfl
theorem push_empty (l : List Pc) (b : Txs) (s : List Txs) : pushP l (false, [], b, s) = l := rfl
theorem push_text (l : List Pc) {t : Txs} (b : Txs) (s : List Txs) (h : t ≠ []) : pushP l (false, t, b, s) = pushT l t := by simp [pushP, h]
theorem pushT_new {l : List Pc} (t : Txs) (h : ∀ q, l.getLast? = some q → q.1 = true) : pushT l t = l ++ [tPc t] := by
  unfold pushT
  cases hl : l.getLast? with
  | none => rfl
  | some q =>
    obtain ⟨c, x, b, s⟩ := q
    have := h _ hl
    simp at this
    subst this
    rfl
theorem pushT_old (l : List Pc) (x t b : Txs) (s : List Txs) : pushT (l ++ [(false, x, b, s)]) t = l ++ [(false, x ++ t, b, s)] := by
  unfold pushT
  simp
end Go.Proofs.YtcpopnhnihbofaaGreatDoor
/- Proved here: the pile of pieces of the landed package pick: what was put last, one more piece. -/
namespace Go.Proofs.YtcpopnhnihbofaaGreatDoor
open Go.RowKit
set_option linter.unusedVariables false

section
variable {P : Program} (w : World)
/-- append of what reads as a list, and where it lies then. -/
theorem run_append_readsL (base : Nat) (t ty e : TypeId) (i : TypeInfo) (z : Value) (bytes : Nat) (ht : P.underlying t = some (.slice e)) (hi : P.info? e = some i) (hz : i.zero = some z)
    (hsize : i.size = 1) (hby : i.bytes = bytes) (hzs : z.cells.size = 1)
    (v : Value) (n : Nat) (xs : List Value) (hown : w.ownsRow base e 1 v n xs)
    (B : Nat) (A : Option Addr) (m c : Nat) (news : List Value) (hr : Reads w B A m news) (h1 : ∀ u ∈ news, u.oneCell' = true)
    (h63 : n + m ≤ maxLen) (hbytes : (n + m) * bytes ≤ 140737488355328) (hbase : base ≤ w.heap.size) :
    ∃ v' w', (Builtin.append_ #[t, t] ty #[v, .slice A m c]).run P w = .ok v' w' ∧ w'.ownsRow base e 1 v' (n + m) (xs ++ news) ∧ w.grownBy w' v.ownBlock ∧ (v'.ownBlock = v.ownBlock ∨ v'.ownBlock = some w.heap.size) := by
  rcases A with _ | ad
  · have hm : m = 0 := by
      rcases Nat.eq_zero_or_pos m with h0 | h0
      · exact h0
      · obtain ⟨_, _, h, _⟩ := hr.2 h0
        cases h
    subst hm
    have hn : news = [] := List.eq_nil_of_length_eq_zero hr.1
    subst hn
    exact ⟨v, w, run_append_of_nil w base t ty e i ht hi v n xs hown c, by simpa using hown, World.grownBy.refl w _, .inl rfl⟩
  · have hcells : ∀ j u, news[j]? = some u → w.cell? (ad.add j) = some u := by
      intro j u hu
      rcases Nat.eq_zero_or_pos m with h0 | h0
      · subst h0
        have hn : news = [] := List.eq_nil_of_length_eq_zero hr.1
        subst hn
        simp at hu
      · obtain ⟨b, o, h, _, hc⟩ := hr.2 h0
        injection h with h
        subst h
        rw [show (⟨b, o, none⟩ : Addr).add j = ⟨b, o + j, none⟩ from by unfold Addr.add; split <;> simp_all]
        exact hc j u hu
    obtain ⟨v', w', hrun, h2, h3, _, h5⟩ := run_append_own_at (P := P) w base t ty e i z 1 bytes ht hi hz hsize hby hzs (by decide) v n xs hown ad m c news (by rw [hr.1, Nat.mul_one]) hcells h1 h63 hbytes hbase
    exact ⟨v', w', hrun, h2, h3, h5⟩
theorem wpList_append_readsL {ops : Array Oper} {rest : List Oper} {o : Oper} {a : Act} {Q : Exit → Act → World → Prop} (hgd : o.guard = none) (s x : Operand) (t : TypeId)
    (ho : o.op = .call { callee := .builtin .append, args := #[s, x], argTypes := #[t, t] })
    (base : Nat) (e : TypeId) (i : TypeInfo) (z : Value) (bytes : Nat) (ht : P.underlying t = some (.slice e)) (hi : P.info? e = some i) (hz : i.zero = some z)
    (hsize : i.size = 1) (hby : i.bytes = bytes) (hzs : z.cells.size = 1)
    (v : Value) (n : Nat) (xs : List Value) (hs : a.eval s = v) (hown : w.ownsRow base e 1 v n xs)
    (B : Nat) (A : Option Addr) (m c : Nat) (news : List Value) (hx : a.eval x = .slice A m c) (hr : Reads w B A m news) (h1 : ∀ u ∈ news, u.oneCell' = true)
    (h63 : n + m ≤ maxLen) (hbytes : (n + m) * bytes ≤ 140737488355328) (hbase : base ≤ w.heap.size)
    (h : ∀ v' w', w'.ownsRow base e 1 v' (n + m) (xs ++ news) → w.grownBy w' v.ownBlock → (v'.ownBlock = v.ownBlock ∨ v'.ownBlock = some w.heap.size) → wpList P ops Q rest (a.put o.dst v') w') : wpList P ops Q (o :: rest) a w :=
  wpList_plain hgd fun _ hK => by
    obtain ⟨v', w', hrun, h2, h3, h4⟩ := run_append_readsL (P := P) w base t o.type e i z bytes ht hi hz hsize hby hzs v n xs hown B A m c news hr h1 h63 hbytes hbase
    unfold Oper.wp execOp
    simp only [ho, resolve, invoke, builtin, Sem.run_bind, Sem.run_pure, Result.andThen_ok, List.map_toArray, List.map_cons, List.map_nil, hs, hx, hrun]
    exact hK _ _ (h v' w' h2 h3 h4)
end

/-- What was put last, where nothing was. -/
theorem pileLastP_none (L c : Nat) (A : Option Addr) (w : World) (hL : Boxed w L 88 (.slice A 0 c)) :
    Calls Tryz.prog 70 #[.pointer (some ⟨L, 0, none⟩)] w fun e w' => e = .returned (.pointer none) ∧ w' = w := by
  have x0 := hL.cell
  clear hL
  go_enter Tryz.func70, Tryz.ntmps70
  go_wp2
  go_ret
  exact ⟨rfl, rfl⟩
set_option maxRecDepth 100000 in
set_option maxHeartbeats 1000000 in
theorem pileLastP_any (g m N cap : Nat) (w : World) (L : Nat) (hm : m < maxLen) (hN : m + 1 = N) (hL : Boxed w L 88 (.slice (some ⟨g, 0, none⟩) N cap)) :
    Calls Tryz.prog 70 #[.pointer (some ⟨L, 0, none⟩)] w fun e w' => e = .returned (.pointer (some ⟨g, m * 4, none⟩)) ∧ ∃ q, w' = w.drewN q := by
  unfold maxLen at hm
  have x0 := hL.cell
  have e0 : ((N : Int) == 0) = false := by simp; omega
  have e1 : (N : Int) - 1 = (m : Int) := by omega
  have e2 : IntKind.i64.wrap ((N : Int) - 1) = (m : Int) := by rw [e1]; exact IntWalk.i64_in _ (by omega)
  have i1 : (0 : Int) ≤ (m : Int) := by omega
  have i2 : (m : Int) < (N : Int) := by omega
  clear hL hN
  go_enter Tryz.func70, Tryz.ntmps70
  go_wp2
  go_quiet (fail)
  go_wp2
  go_ret
  exact ⟨by simp, nq, rfl⟩

set_option maxRecDepth 100000 in
set_option maxHeartbeats 1000000 in
/-- One more piece, that lies in a block of its own. -/
theorem pilePutP_any (L base n h : Nat) (v : Value) (cells : List Value) (cf : Bool) (r : PcV) (w : World) (hn : n ≤ 1000000) (hL : Boxed w L 88 v) (hown : w.ownsRow base 40 4 v n cells) (hbase : base ≤ w.heap.size) (hh : w.heap[h]? = some (pcObj cf r)) :
    Calls Tryz.prog 72 #[.pointer (some ⟨L, 0, none⟩), .slice (some ⟨h, 0, none⟩) 1 1] w fun e w' => e = .returned (.tuple #[]) ∧ ∃ v' w2, w' = w2.setCell ⟨L, 0, none⟩ v' ∧
      w2.ownsRow base 40 4 v' (n + 1) (cells ++ pcC cf r) ∧ w.grownBy w2 v.ownBlock ∧ (v'.ownBlock = v.ownBlock ∨ v'.ownBlock = some w.heap.size) := by
  obtain ⟨j0, hj, hyy⟩ := Option.map_eq_some_iff.1 infoPc
  simp only [Prod.mk.injEq] at hyy
  obtain ⟨hy0, hy1, hy2⟩ := hyy
  have hmax : Hid (n + 1 ≤ maxLen ∧ (n + 1) * 80 ≤ 140737488355328) := Lib.hid ⟨by unfold maxLen; omega, by omega⟩
  have hcell : Hid (∀ j u, (pcC cf r)[j]? = some u → w.cell? ((⟨h, 0, none⟩ : Addr).add j) = some u) := Lib.hid (fun j u hu => by
    rw [addr_add, cells_of (t := 40) hh]
    simpa [pcC, slcV] using hu)
  have x0 := hL.cell
  have hLh := Lib.hid hL
  clear hL hn hh
  go_enter Tryz.func72, Tryz.ntmps72
  go_wp2_with (at_builtin; refine wpList_append_own_at _ rfl _ _ 22 rfl base 40 j0 (.agg #[.bool false, .slice none 0 0, .slice none 0 0, .slice none 0 0]) 4 80 Tryz.underlying22 hj hy0 hy1 hy2 rfl (by decide) v n _ rfl hown ⟨h, 0, none⟩ 1 1 (pcC cf r) rfl rfl hcell.out (pcC_one _ _) hmax.out.1 hmax.out.2 hbase ?_; intro v' w2 hown2 hg2 hnil2 hloc2; clear hnil2; obtain ⟨g2, c2, rfl⟩ := ownsRow_succ hown2; have hbx : Boxed w2 L 88 v := hLh.out.kept hg2 (Boxed.not_row hLh.out (by decide) hown); have x1 := hbx.cell; have x2 := hbx.frozen; have hfin := Lib.hid (And.intro hown2 (And.intro hg2 hloc2)); clear hbx x0 hown2 hg2 hloc2)
  go_end0
  exact ⟨rfl, _, w2, rfl, hfin.out.1, hfin.out.2.1, hfin.out.2.2⟩
end Go.Proofs.YtcpopnhnihbofaaGreatDoor
/- Proved here: the sheet of the landed mark: what lies in its block; one more line of it (put), a mark's text (mark). -/
namespace Go.Proofs.YtcpopnhnihbofaaGreatDoor
open Go.RowKit
set_option linter.unusedVariables false
set_option maxRecDepth 100000

theorem cells_set1 {W : World} {L : Nat} {a b : Value} {t : TypeId} (v' : Value) (h : W.heap[L]? = some (.cells #[a, b] t (0, 0))) : (W.setCell ⟨L, 1, none⟩ v').heap[L]? = some (.cells #[a, v'] t (0, 0)) := by
  obtain ⟨hlt, hk⟩ := Array.getElem?_eq_some_iff.1 h
  show (W.heap.modify L _)[L]? = _
  rw [Array.getElem?_eq_getElem (by rw [Array.size_modify]; exact hlt), Array.getElem_modify_self, hk]
  rfl

/-- The sheet in block L: marks so long, and these texts, of the call's own. -/
structure Sh (w0 : World) (L : Nat) (wr : World) (long : Nat) (v : Value) (xs : Txs) : Prop where
  at_ : wr.heap[L]? = some (.cells #[.int .i64 (long : Int), v] 53 (0, 0))
  own : TxO w0 wr v xs
  low : w0.heap.size ≤ L
section
variable {w0 wr w1 w2 : World} {L long : Nat} {v v' : Value} {xs ys : Txs}
theorem Sh.up (h : Sh w0 L wr long v xs) (hb : Below wr.heap.size wr w1) : Sh w0 L w1 long v xs :=
  ⟨(hb.block L (Array.getElem?_eq_some_iff.1 h.at_).1).trans h.at_, h.own.call hb, h.low⟩
theorem Sh.but {F : Nat → Prop} (h : Sh w0 L wr long v xs) (hb : But F wr w1) (hL : ¬ F L) (hv : ∀ k, v.ownBlock = some k → ¬ F k) (hF : ∀ k, F k → w0.heap.size ≤ k) : Sh w0 L w1 long v xs :=
  ⟨(hb.block L (Array.getElem?_eq_some_iff.1 h.at_).1 hL).trans h.at_, ⟨ownsRow_kept h.own.own fun k e => hb.block k (h.own.own.lt k e).2 (hv k e), h.own.below.trans (hb.below h.own.below.size hF)⟩, h.low⟩
theorem Sh.long_at (h : Sh w0 L wr long v xs) : wr.cell? ⟨L, 0, none⟩ = some (.int .i64 (long : Int)) := (cells_of h.at_ 0).trans rfl
theorem Sh.txs_at (h : Sh w0 L wr long v xs) : wr.cell? ⟨L, 1, none⟩ = some v := (cells_of h.at_ 1).trans rfl
end

/-- What put leaves. -/
def ShPut (w0 : World) (L : Nat) (wr w' : World) (long : Nat) (v : Value) (zs : Txs) : Prop :=
  ∃ v', Sh w0 L w' long v' zs ∧ But (fun k => k = L ∨ v.ownBlock = some k) wr w' ∧ (v'.ownBlock = v.ownBlock ∨ v'.ownBlock = some wr.heap.size)

set_option maxHeartbeats 1000000 in
theorem shPut_any (w0 : World) (L long : Nat) (A : Option Addr) (n c B : Nat) (v : Value) (xs ys : Txs) (wr : World) (hS : Sh w0 L wr long v xs) (hA : Strs wr B A n ys) (hm : xs.length + n ≤ 1000000000) :
    Calls Tryz.prog 53 #[.pointer (some ⟨L, 0, none⟩), .slice A n c] wr fun e w' => e = .returned (.tuple #[]) ∧ ShPut w0 L wr w' long v (xs ++ ys) := by
  obtain ⟨i0, hi, hzz⟩ := Option.map_eq_some_iff.1 infoStr
  simp only [Prod.mk.injEq] at hzz
  obtain ⟨hz0, hz1, hz2⟩ := hzz
  have hl := Lib.hid hA.len
  have hle : Hid (xs.length + n ≤ maxLen ∧ (xs.length + n) * 16 ≤ 140737488355328) := Lib.hid ⟨by unfold maxLen; omega, by omega⟩
  have x0 := hS.txs_at
  have hown := hS.own.own
  have hsz := hS.own.below.size
  have hSh := Lib.hid hS
  have hAh := Lib.hid hA
  have hput : Hid (∀ (v' : Value) (w2 : World), w2.ownsRow w0.heap.size 9 1 v' (xs.length + n) ((xs.map fun s => .string (str s)) ++ ys.map fun s => .string (str s)) → wr.grownBy w2 v.ownBlock → (v'.ownBlock = v.ownBlock ∨ v'.ownBlock = some wr.heap.size) →
      w2.cell? ⟨L, 1, none⟩ = some v ∧ w2.frozen? ⟨L, 1, none⟩ = false ∧ ShPut w0 L wr (w2.setCell ⟨L, 1, none⟩ v') long v (xs ++ ys)) := Lib.hid (fun v' w2 hown2 hg2 hloc2 => by
    have hlt := (Array.getElem?_eq_some_iff.1 hS.at_).1
    have hne := cells_not_row hS.at_ (by decide) hS.own.own
    have h2 : w2.heap[L]? = some (.cells #[.int .i64 (long : Int), v] 53 (0, 0)) := (hg2.block L hlt (fun e => hne e.symm)).trans hS.at_
    have hT := hS.own.put hA.len hown2 hg2
    have hs : But (fun k => k = L) w2 (w2.setCell ⟨L, 1, none⟩ v') := But.setCell (F := fun j => j = L) w2 (p := ⟨L, 1, none⟩) rfl _
    have hne2 := cells_not_row h2 (by decide) hT.own
    refine ⟨(cells_of h2 1).trans rfl, unfrozen_of h2 1, v', ⟨cells_set1 v' h2, ⟨ownsRow_kept hT.own fun k e => hs.block k (hT.own.lt k e).2 (fun e' => hne2 (by rw [e, e'])), hT.below.trans (hs.below hT.below.size (by rintro k rfl; exact hS.low))⟩, hS.low⟩, (But.of_grown (F := fun k => k = L ∨ v.ownBlock = some k) hg2 fun k e => .inr e).trans hs fun k e => .inl (.inl e), hloc2⟩)
  clear hS hA hm
  go_enter Tryz.func53, Tryz.ntmps53
  go_wp2_with (at_builtin; refine wpList_append_readsL _ rfl _ _ 25 rfl w0.heap.size 9 i0 (.string ByteArray.empty) 16 Tryz.underlying25 hi hz0 hz1 hz2 rfl v xs.length _ rfl hown B A n c _ rfl hAh.out (strs_one _) hle.out.1 hle.out.2 hsz ?_; intro v' w2 hown2 hg2 hloc2; obtain ⟨x1, x2, hfin⟩ := hput.out v' w2 hown2 hg2 hloc2; have hfh := Lib.hid hfin; obtain ⟨A2, c2, rfl, -, -, -⟩ := own_slice hown2; clear hown2 hg2 hloc2 hfin x0)
  go_end0
  exact ⟨rfl, hfh.out⟩

theorem repeat_one (sg : UInt8) (c : Nat) : (⟨(Lib.repeatL (str [sg]).data.toList c).toArray⟩ : ByteArray) = str (List.replicate c sg) := by
  have h : (str [sg]).data.toList = List.replicate 1 sg := rfl
  rw [h, Lib.repeatL_replicate, Nat.mul_one]
  rfl
set_option maxHeartbeats 1000000 in
theorem lMark_any (sg : UInt8) (long : Nat) (D : ByteArray) (w : World) (hlong : long ≤ 4096) (hD : D.size ≤ 1000000) :
    Calls Tryz.prog 82 #[.agg #[.int .i64 (long : Int)], .string (str [sg]), .string D] w fun e w' => e = .returned (.string (str (List.replicate long sg) ++ D ++ str [10])) ∧ Below w.heap.size w w' := by
  have hR : Hid (∀ W, Below w.heap.size w W → Calls Tryz.prog 101 #[.string (str [sg]), .int .i64 (long : Int)] W fun e w' => e = .returned (.string (str (List.replicate long sg))) ∧ Below w.heap.size w w') := Lib.hid (fun W hW => by
    have h := Tryz.strings_Repeat (str [sg]) long W (by omega) (by show 1 * long ≤ _; omega)
    rw [repeat_one] at h
    exact h.mono fun e w' h => ⟨h.1, hW.trans (h.2.mono hW.size)⟩)
  obtain ⟨S, hS⟩ : ∃ S, str [sg] = S := ⟨_, rfl⟩
  obtain ⟨R, hRR⟩ : ∃ R, str (List.replicate long sg) = R := ⟨_, rfl⟩
  have hRs : R.size ≤ 4096 := by rw [← hRR, str_size, List.length_replicate]; exact hlong
  rw [hS, hRR] at hR
  rw [hS, hRR]
  have h1 : ¬ 9223372036854775807 < R.size + D.size := by omega
  have h2 : ¬ 9223372036854775807 < R.size + D.size + 1 := by omega
  have h0 := Lib.hid (below_alloc (Below.refl w.heap.size w) (.cells #[.int .i64 (long : Int)] 51))
  clear hS hRR hlong
  go_enter Tryz.func82, Tryz.ntmps82
  go_wp2_with (go_at_call 101; refine (hR.out _ h0.out).mono ?_; rintro e w1 ⟨rfl, hb1⟩; have hB1 := Lib.hid hb1; clear hb1)
  go_ret
  exact ⟨rfl, hB1.out⟩
end Go.Proofs.YtcpopnhnihbofaaGreatDoor
