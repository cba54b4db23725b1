/- Proved here: texts joined: UmOpen, StepOwn, UmEnd. -/
import Derived.Test.YtcpopnhnihbofaaGreatDoorBe01
import Derived.Test.YtcpopnhnihbofaaGreatDoorBe24
import Derived.Deep.RegionLaw
import Derived.Maps.AppendAt
/- Proved here: the landed reader's openPart. -/
namespace Go.Proofs.YtcpopnhnihbofaaGreatDoor
open Go.RowKit
set_option linter.unusedVariables false
set_option maxRecDepth 100000

section
variable {w wr : World} {L long : Nat} {st : Int} {nx vp vq u : Value} {qs : List (PcV × Pc)} {ps : List (Slc × Txs)} {tx cf : Bool} {cur : Txs}
/-- The parts' row: where the last one stands. -/
theorem Rd.last_part (h : Rd w wr L long st nx vp vq u qs ps tx true cur) {m : Nat} (hm : ps.length = m) : ∃ G cap, vq = .slice (some ⟨G, 0, none⟩) (m + 1) cap ∧ wr.cell? ⟨G, m, none⟩ = some u := by
  have hq := h.qown
  rw [show ps.length + nB true = m + 1 by rw [hm]; rfl] at hq
  obtain ⟨G, cap, rfl⟩ := ownsRow_succ hq
  refine ⟨G, cap, rfl, ?_⟩
  rw [hq.cellAt _ (by omega), List.getElem?_append_right (by simp [hm])]
  simp [hm, cC]
theorem open_last {t : Tx} {k : Nat} (hk : cur.length = k + 1) (ht : cur[k]? = some t) (hl : lnB t = true) : (openT true cur = none ∧ t = [10]) ∨ (∃ x, x ≠ [] ∧ t = x ++ [10] ∧ openT true cur = some (cur.set k x)) := by
  obtain ⟨x, rfl, -⟩ := line_of hl
  have hg : cur.getLast? = some (x ++ [10]) := by rw [List.getLast?_eq_getElem?, hk]; exact ht
  have ho : openT true cur = if (x ++ [10]).length < 2 then none else some (cur.dropLast ++ [(x ++ [10]).dropLast]) := by
    unfold openT
    rw [if_pos rfl, hg]
  rw [ho]
  cases x with
  | nil => exact .inl ⟨rfl, rfl⟩
  | cons c x =>
    refine .inr ⟨c :: x, by simp, rfl, ?_⟩
    rw [if_neg (by simp), List.dropLast_concat]
    have hd : cur = cur.dropLast ++ [c :: x ++ [10]] := by
      have hne : cur ≠ [] := by rintro rfl; simp at hk
      rw [List.getLast?_eq_some_getLast hne] at hg
      injection hg with hg
      rw [← hg, List.dropLast_concat_getLast hne]
    have hdl : cur.dropLast.length = k := by rw [List.length_dropLast, hk]; rfl
    congr 1
    conv => rhs; rw [hd]
    rw [List.set_append_right _ _ (by omega), hdl, Nat.sub_self]
    rfl

/-- The last line of what was begun last is another one, and blocks that are new since change. -/
theorem Rd.reopen {w5 : World} {g N c k : Nat} {x : Tx} (h : Rd w wr L long st nx vp vq (.slice (some ⟨g, 0, none⟩) N c) qs ps tx cf cur) (hb : But (fun b => b = g) wr w5) (hu : w5.ownsRow w.heap.size 9 1 (.slice (some ⟨g, 0, none⟩) N c) (cur.set k x).length ((cur.set k x).map fun s => .string (str s))) : Rd w w5 L long st nx vp vq (.slice (some ⟨g, 0, none⟩) N c) qs ps tx cf (cur.set k x) := by
  have e0 : (Value.slice (some ⟨g, 0, none⟩) N c).ownBlock = some g := rfl
  refine h.step (hb.more fun k e => .inr (.inr (.inr (by rw [e0, e])))) (fun k e => .inl e) ((hb.block L h.lt (by rintro rfl; exact h.uL e0)).trans h.at_) ?_ ?_ hu (fun q hq => .inl hq) fun p hp => .inl hp
  · exact ownsRow_kept h.pown fun k e => hb.block k (h.pown.lt k e).2 (by rintro rfl; exact h.pu _ e e0)
  · exact ownsRow_kept h.qown fun k e => hb.block k (h.qown.lt k e).2 (by rintro rfl; exact h.qu _ e e0)

set_option maxHeartbeats 4000000 in
theorem openPart_any {wr0 : World} (h0 : Rd w wr0 L long st nx vp vq u qs ps false true cur) (hb0 : Below wr0.heap.size wr0 wr) (h : Rd w wr L long st nx vp vq u qs ps false true cur) (hl : ∀ t ∈ cur, lnB t = true) (hs : ∀ t ∈ cur, t.length ≤ 1000000) (hp : ps.length ≤ 1000) (hc : cur.length ≤ 100000000) :
    Calls Tryz.prog 59 #[.pointer (some ⟨L, 0, none⟩)] wr fun e w' => e = .returned (.bool (openT true cur).isSome) ∧ Below w.heap.size w w' ∧ But (fun k => k < wr0.heap.size) wr w' ∧ ∀ q, openT true cur = some q → ∀ w5, But (fun k => wr0.heap.size ≤ k) w' w5 → Rd w w5 L long st nx vp vq u qs ps false true q := by
  obtain ⟨m, hm⟩ : ∃ m, ps.length = m := ⟨_, rfl⟩
  obtain ⟨N, hN⟩ : ∃ N, m + 1 = N := ⟨_, rfl⟩
  obtain ⟨G, cap, rfl, xg⟩ := h.last_part hm
  have x2 := h.cells.2.2.1
  rw [hN] at x2
  have e1 : (N : Int) - 1 = (m : Int) := by omega
  have e2 : IntKind.i64.wrap ((N : Int) - 1) = (m : Int) := by rw [e1]; exact IntWalk.i64_in _ (by omega)
  have e3 : IntKind.i64.wrap (m : Int) = (m : Int) := IntWalk.i64_in _ (by omega)
  have i1 : (0 : Int) ≤ (m : Int) := by omega
  have i2 : (m : Int) < (N : Int) := by omega
  have hh := Lib.hid h
  have hbel : Hid (∀ q, Below w.heap.size w (wr.drewN q) ∧ But (fun k => k < wr0.heap.size) wr (wr.drewN q)) := Lib.hid (fun q => ⟨below_drewN h.below q, ⟨rfl, rfl, rfl, Nat.le_refl _, fun _ _ _ => rfl⟩⟩)
  rcases Nat.eq_zero_or_pos cur.length with hc0 | hc0
  · clear h0 hb0
    obtain rfl : cur = [] := List.eq_nil_of_length_eq_zero hc0
    obtain ⟨A, c, hu, -⟩ := h.open_
    rw [show ([] : Txs).length = 0 from rfl] at hu
    subst hu
    clear hl hs hp hc hN hm h hc0
    go_enter Tryz.func59, Tryz.ntmps59
    go_upto_region 1 with fail
    go_quiet (fail)
    go_wp2
    go_ret
    exact ⟨rfl, (hbel.out _).1, (hbel.out _).2, fun q h => by cases h⟩
  · obtain ⟨k, hk⟩ : ∃ k, cur.length = k + 1 := ⟨cur.length - 1, by omega⟩
    obtain ⟨K, hK⟩ : ∃ K, k + 1 = K := ⟨_, rfl⟩
    have huo := h.uown
    rw [hk] at huo
    obtain ⟨g, cg, rfl⟩ := ownsRow_succ huo
    obtain ⟨t, ht⟩ : ∃ t, cur[k]? = some t := ⟨cur[k]'(by omega), List.getElem?_eq_getElem _⟩
    have hln := hl t (List.mem_of_getElem? ht)
    have htl := hs t (List.mem_of_getElem? ht)
    have xt : wr.cell? ⟨g, k, none⟩ = some (.string (str t)) := by
      rw [huo.cellAt _ (by omega), List.getElem?_map, ht]
      rfl
    have xf : wr.frozen? ⟨g, k, none⟩ = false := huo.frozenAt k
    have j0 : ((K : Int) == 0) = false := by simp; omega
    have j1 : (K : Int) - 1 = (k : Int) := by omega
    have j2 : IntKind.i64.wrap ((K : Int) - 1) = (k : Int) := by rw [j1]; exact IntWalk.i64_in _ (by omega)
    have j3 : IntKind.i64.wrap (k : Int) = (k : Int) := IntWalk.i64_in _ (by omega)
    have j4 : (0 : Int) ≤ (k : Int) := by omega
    have j5 : (k : Int) < (K : Int) := by omega
    have hcase := open_last hk ht hln
    rw [hK] at xg ⊢
    have hKh := Lib.hid hK
    rcases hcase with ⟨ho, rfl⟩ | ⟨x, hx, rfl, ho⟩
    · rw [ho]
      clear h0 hb0
      obtain ⟨S, hS⟩ : ∃ S, str [10] = S := ⟨_, rfl⟩
      have hne : (S.toList == [10]) = true := by
        rw [← hS, Lib.toList_data, str_data]
        rfl
      rw [hS] at xt
      clear hl hs hp hc hN hm h hc0 hk hK huo ht hln htl ho hS
      go_enter Tryz.func59, Tryz.ntmps59
      go_upto_region 1 with fail
      go_quiet (fail)
      go_wp2
      go_ret
      exact ⟨rfl, (hbel.out _).1, (hbel.out _).2, fun q h => by cases h⟩
    · rw [ho]
      obtain ⟨S, hS⟩ : ∃ S, str (x ++ [10]) = S := ⟨_, rfl⟩
      have hne : (S.toList == [10]) = false := by
        rw [← hS, Lib.toList_data, str_data]
        cases x with
        | nil => exact absurd rfl hx
        | cons c x => simp
      have hTr := Lib.hid (fun W => Tryz.strings_TrimSuffix S ⟨#[10]⟩ W (by rw [← hS, str_size]; omega))
      have htr : (⟨(Lib.trimSuffix S.data.toList (ByteArray.mk #[10]).data.toList).toArray⟩ : ByteArray) = str x := by
        rw [← hS, str_data]
        show str (Lib.trimSuffix (x ++ [10]) [10]) = str x
        congr 1
        unfold Lib.trimSuffix Lib.hasSuffix
        simp
      rw [htr] at hTr
      have hR : Hid (∀ q, Below w.heap.size w ((wr.drewN q).setCell ⟨g, k, none⟩ (.string (str x))) ∧ But (fun k => k < wr0.heap.size) wr ((wr.drewN q).setCell ⟨g, k, none⟩ (.string (str x))) ∧ ∀ w5, But (fun k => wr0.heap.size ≤ k) ((wr.drewN q).setCell ⟨g, k, none⟩ (.string (str x))) w5 → Rd w w5 L long st nx vp (.slice (some ⟨G, 0, none⟩) (m + 1) cap) (.slice (some ⟨g, 0, none⟩) (k + 1) cg) qs ps false true (cur.set k x)) := Lib.hid (fun q => by
        have hR1 := (h.up (below_drewN (Below.refl _ _) q)).last k x
        have hg0 := (h0.uown.lt g rfl).2
        have hbs : But (fun b => b = g) (wr.drewN q) ((wr.drewN q).setCell ⟨g, k, none⟩ (.string (str x))) := But.setL (F := fun b => b = g) rfl _ _
        have hbr : But (fun b => b = g) wr (wr.drewN q) := ⟨rfl, rfl, rfl, Nat.le_refl _, fun _ _ _ => rfl⟩
        refine ⟨hR1.below, (hbr.trans hbs fun k e => .inl e).more fun k e => by omega, fun w5 h5 => ?_⟩
        refine h0.reopen (((But.of_below (F := fun b => b = g) hb0 fun k hk _ => hk).trans (hbr.trans hbs fun k e => .inl e) fun k e => .inl e).trans h5 fun k e => .inr e) ?_
        exact ownsRow_kept hR1.uown fun k e => h5.block k (hR1.uown.lt k e).2 (fun e2 => by
          have : g = k := by simpa [Value.ownBlock] using e
          omega))
      rw [hS] at xt
      clear hl hs hp hc hN hm h h0 hb0 hc0 hk hK huo ht hln htl ho hS htr hx
      go_enter Tryz.func59, Tryz.ntmps59
      go_upto_region 1 with fail
      go_quiet (fail)
      go_wp2_with (go_at_call 87; refine (hTr.out _).mono ?_; rintro e w1 ⟨rfl, rfl⟩)
      go_ret
      obtain rfl := hKh.out
      refine ⟨rfl, (hR.out _).1, (hR.out _).2.1, fun q h => ?_⟩
      injection h with h
      subst h
      exact (hR.out _).2.2
end
end Go.Proofs.YtcpopnhnihbofaaGreatDoor
/- Proved here, without conditions: append onto a row of the call's own, as one step of a region that draws its order. -/
namespace Go.Proofs.YtcpopnhnihbofaaGreatDoor
open Go.RowKit
set_option linter.unusedVariables false

/-- append onto a row of the call's own, as one step of a region that draws. -/
theorem step_append_own {P : Program} {ops : Array Oper} {o : Oper} {a : Act} {w : World} {K : Act → World → Prop} {Q : Exit → Act → World → Prop} {G : Prop}
    (hg : o.guard = none) (s x : Operand) (t : TypeId) (hop : o.op = Op.call { callee := Callee.builtin Builtin.append, args := #[s, x], argTypes := #[t, t] })
    (base : Nat) (e : TypeId) (i : TypeInfo) (z : Value) (size bytes : Nat) (h1 : P.underlying t = some (.slice e)) (h2 : P.info? e = some i) (h3 : i.zero = some z) (h4 : i.size = size) (h5 : i.bytes = bytes) (h6 : z.cells.size = size) (h7 : 0 < size)
    (v : Value) (n : Nat) (xs : List Value) (hs : a.eval s = v) (hown : w.ownsRow base e size v n xs)
    (ad : Addr) (m c : Nat) (news : List Value) (hx : a.eval x = .slice (some ad) m c) (hn : news.length = m * size) (hc : ∀ j u, news[j]? = some u → w.cell? (ad.add j) = some u) (h1c : ∀ u ∈ news, u.oneCell' = true)
    (b1 : n + m ≤ maxLen) (b2 : (n + m) * bytes ≤ 140737488355328) (hbase : base ≤ w.heap.size)
    (hK : ∀ v' w', w'.ownsRow base e size v' (n + m) (xs ++ news) → w.grownBy w' v.ownBlock → (v'.ownBlock = v.ownBlock ∨ v'.ownBlock = some w.heap.size) → K (a.put o.dst v') w') :
    if Region.wanted o (yielded ops a.tmps) = true then Oper.wp P o a w K Q else G := by
  have hw : Region.wanted o (yielded ops a.tmps) = true := by simp [Region.wanted, hg]
  rw [if_pos hw]
  obtain ⟨v', w', hrun, r1, r2, _, r4⟩ := run_append_own_at (P := P) w base t o.type e i z size bytes h1 h2 h3 h4 h5 h6 h7 v n xs hown ad m c news hn hc h1c b1 b2 hbase
  unfold Oper.wp
  simp [execOp, hop, resolve, invoke, builtin, hs, hx, hrun, Result.andThen]
  exact hK v' w' r1 r2 r4

end Go.Proofs.YtcpopnhnihbofaaGreatDoor
/- Proved here: the landed reader's end: a conflict becomes a piece. -/
namespace Go.Proofs.YtcpopnhnihbofaaGreatDoor
open Go.RowKit
set_option linter.unusedVariables false
set_option maxRecDepth 100000

section
variable {w wr : World} {L long : Nat} {st : Int} {nx vp vq u : Value} {qs : List (PcV × Pc)} {ps : List (Slc × Txs)} {tx cf : Bool} {cur : Txs}
/-- The parts that were read stand, whatever becomes of the reader, and of the rows of pieces and parts. -/
theorem Rd.parts {r : Slc} (h : Rd w wr L long st nx vp vq u qs ps false true cur) (hu : u = slcV r) : ∀ w2, But (fun k => k = L ∨ vp.ownBlock = some k ∨ vq.ownBlock = some k) wr w2 → ∀ p ∈ psF ps true r cur, TxR w2 w2.heap.size p.1 p.2 := by
  intro w2 hb p hp
  rcases List.mem_append.1 hp with hp | hp
  · exact h.prow w2 (hb.more fun k e => Or.elim e .inl fun e => .inr (Or.elim e .inl fun e => .inr (.inl e))) p hp
  · rw [List.mem_singleton.1 hp]
    obtain ⟨A, c, e, hst⟩ := h.open_
    have : r = (A, cur.length, c) := by
      rw [hu] at e
      obtain ⟨r1, r2, r3⟩ := r
      unfold slcV at e
      injection e with e1 e2 e3
      dsimp only at e1 e2 e3
      rw [e1, e2, e3]
    rw [this]
    refine hst _ w2 (fun k e hk => ?_) hb
    rcases hk with hk | hk | hk
    · exact h.uL (by rw [← hk]; exact e)
    · exact h.pu k hk e
    · exact h.qu k hk e
theorem slc_row {F : Nat → Prop} {W1 w3 : World} {G n c : Nat} {sides : List (Slc × Txs)} (hn : sides.length = n) (hnc : n ≤ c) (hcm : c ≤ maxLen) (hG : G < W1.heap.size) (hF : ¬ F G) (hb : But F W1 w3) (hcells : ∀ j x, (sides.map fun p => slcV p.1)[j]? = some x → W1.cell? ⟨G, j, none⟩ = some x)
    (heach : ∀ p ∈ sides, TxR w3 w3.heap.size p.1 p.2) : SlcR w3 w3.heap.size (some ⟨G, 0, none⟩, n, c) (sides.map fun p => p.2) := by
  refine ⟨hnc, hcm, sides.map fun p => p.1, ⟨by simp [hn], fun h0 => ⟨G, 0, rfl, Nat.lt_of_lt_of_le hG hb.size, fun j x hx => ?_⟩⟩, by simp, fun k r ss a b => ?_⟩
  · rw [List.map_map] at hx
    rw [Nat.zero_add]
    exact (World.cell?_of_block (w := W1) (hb.block G hG hF)).trans (hcells j x hx)
  · rw [List.getElem?_map] at a b
    cases hp : sides[k]? with
    | none => rw [hp] at a; cases a
    | some p =>
      rw [hp] at a b
      simp at a b
      rw [← a, ← b]
      exact heach p (List.mem_of_getElem? hp)
theorem Rd.end_at {W1 w2 : World} {vp' : Value} {G N cap n : Nat} {base : Slc × Txs} {sides : List (Slc × Txs)} {r : Slc} (h : Rd w wr L long st nx vp (.slice (some ⟨G, 0, none⟩) N cap) u qs ps false true cur) (nx' : Value) (hb1 : But (fun k => k = G) wr W1) (hn : sides.length = n) (hnN : n ≤ N)
    (hcells : ∀ j x, (sides.map fun p => slcV p.1)[j]? = some x → W1.cell? ⟨G, j, none⟩ = some x) (hu : u = slcV r) (hbase : base = ((none, 0, 0), []) ∨ base ∈ psF ps true r cur) (hsides : ∀ p ∈ sides, p ∈ psF ps true r cur)
    (hown : w2.ownsRow w.heap.size 40 4 vp' (qs.length + 1) (pcCs qs ++ pcC true ((none, 0, 0), base.1, (some ⟨G, 0, none⟩, n, cap)))) (hg : W1.grownBy w2 vp.ownBlock) (hloc : vp'.ownBlock = vp.ownBlock ∨ vp'.ownBlock = some W1.heap.size) :
    (∀ k, w2.frozen? ⟨L, k, none⟩ = false) ∧ ((∃ x, w2.cell? ⟨L, 1, none⟩ = some x) ∧ (∃ x, w2.cell? ⟨L, 2, none⟩ = some x) ∧ (∃ x, w2.cell? ⟨L, 4, none⟩ = some x)) ∧ Rd w (((w2.setCell ⟨L, 1, none⟩ vp').setCell ⟨L, 2, none⟩ (.slice none 0 0)).setCell ⟨L, 4, none⟩ nx') L long st nx' vp' (.slice none 0 0) (.slice none 0 0) (qs ++ [(((none, 0, 0), base.1, (some ⟨G, 0, none⟩, n, cap)), cPc base.2 (sides.map fun p => p.2))]) [] false false [] := by
  have e0 : (Value.slice (some ⟨G, 0, none⟩) N cap).ownBlock = some G := rfl
  obtain ⟨A', c', e', k1, k2, -⟩ := own_slice h.qown
  injection e' with _ e2 e3
  rw [← e2, ← e3] at k1
  rw [← e3] at k2
  have hGl := (h.qown.lt G e0).2
  have hb1' : But (fun k => (Value.slice (some ⟨G, 0, none⟩) N cap).ownBlock = some k) wr W1 := hb1.more fun k e => by rw [e0, e]
  refine h.end_ (p := cPc base.2 (sides.map fun p => p.2)) nx' hb1' (fun w3 h3 => ?_) hown hg hloc
  have hb3 : But (fun k => k = L ∨ vp.ownBlock = some k ∨ (Value.slice (some ⟨G, 0, none⟩) N cap).ownBlock = some k) wr w3 := (hb1'.more (F' := fun k => k = L ∨ vp.ownBlock = some k ∨ (Value.slice (some ⟨G, 0, none⟩) N cap).ownBlock = some k) fun k e => .inr (.inr e)).trans h3 fun k e => .inl (Or.elim e .inl fun e => .inr (.inl e))
  have hall := h.parts hu w3 hb3
  refine PcR.conf ?_ (slc_row hn (by omega) k2 (Nat.lt_of_lt_of_le hGl hb1.size) (fun e => Or.elim e (fun e => h.qL (by rw [e0, e])) fun e => h.pq G e e0) h3 hcells fun p hp => hall p (hsides p hp))
  rcases hbase with hb | hb
  · rw [hb]
    exact TxR.nil _ _
  · exact hall base hb

theorem cell_new4 (w : World) (a b c d : Value) (t : TypeId) : ∀ j u, [a, b, c, d][j]? = some u → (w.alloc (.cells #[a, b, c, d] t)).cell? ((⟨w.heap.size, 0, none⟩ : Addr).add j) = some u := by
  intro j u hu
  rw [addr_add, cells_of (one_a w _)]
  simpa using hu
set_option maxHeartbeats 4000000 in
theorem end_plain (h : Rd w wr L long st nx vp vq u qs ps false true cur) (hst : st ≠ 2) (hqs : qs.length ≤ 100000000) :
    Calls Tryz.prog 103 #[.pointer (some ⟨L, 0, none⟩)] wr fun e w' => e = .returned (.tuple #[]) ∧ ∃ vp' r, Rd w w' L long st (mvR 28 L) vp' (.slice none 0 0) (.slice none 0 0) (qs ++ [(r, cPc [] ((ps.map fun p => p.2) ++ [cur]))]) [] false false [] := by
  obtain ⟨j0, hj, hyy⟩ := Option.map_eq_some_iff.1 infoPc
  simp only [Prod.mk.injEq] at hyy
  obtain ⟨hy0, hy1, hy2⟩ := hyy
  obtain ⟨M, hM⟩ : ∃ M, qs.length = M := ⟨_, rfl⟩
  have hmax : Hid (M + 1 ≤ maxLen ∧ (M + 1) * 80 ≤ 140737488355328) := Lib.hid ⟨by unfold maxLen; omega, by omega⟩
  obtain ⟨m, hm⟩ : ∃ m, ps.length = m := ⟨_, rfl⟩
  obtain ⟨N, hN⟩ : ∃ N, m + 1 = N := ⟨_, rfl⟩
  obtain ⟨G, cap, rfl, -⟩ := h.last_part hm
  rw [hN] at h
  obtain ⟨A, c, hu, -⟩ := h.open_
  have x2 := h.cells.2.2.1
  have x3 := h.cells.2.2.2.1
  have x1 := h.cells.2.1
  have hs : (st == 2) = false := by rw [beq_eq_false_iff_ne]; exact hst
  obtain ⟨W0, hW0⟩ : ∃ W0, W0 = wr.alloc (.cells #[.bool true, .slice none 0 0, .slice none 0 0, .slice (some ⟨G, 0, none⟩) N cap] 40) := ⟨_, rfl⟩
  have hB0 : Below wr.heap.size wr W0 := by rw [hW0]; exact below_alloc (Below.refl _ _) _
  obtain ⟨y0, y1, y2, y3, -⟩ : W0.cell? ⟨wr.heap.size, 0, none⟩ = some (.bool true) ∧ W0.cell? ⟨wr.heap.size, 1, none⟩ = some (.slice none 0 0) ∧ W0.cell? ⟨wr.heap.size, 2, none⟩ = some (.slice none 0 0) ∧ W0.cell? ⟨wr.heap.size, 3, none⟩ = some (.slice (some ⟨G, 0, none⟩) N cap) ∧ True := by
    have hw : W0.heap[wr.heap.size]? = some (.cells #[.bool true, .slice none 0 0, .slice none 0 0, .slice (some ⟨G, 0, none⟩) N cap] 40 (0, 0)) := by rw [hW0]; exact one_a wr _
    exact ⟨(cells_of hw 0).trans rfl, (cells_of hw 1).trans rfl, (cells_of hw 2).trans rfl, (cells_of hw 3).trans rfl, trivial⟩
  have z1 : W0.cell? ⟨L, 1, none⟩ = some vp := (h.up hB0).cells.2.1
  have z3 : W0.cell? ⟨L, 3, none⟩ = some (.int .i64 st) := (h.up hB0).cells.2.2.2.1
  have hB1 : Below wr.heap.size wr (W0.drew.alloc (.cells #[.bool true, .slice none 0 0, .slice none 0 0, .slice (some ⟨G, 0, none⟩) N cap] 40)) := below_alloc (below_drew hB0) _
  have hownd : W0.drew.ownsRow w.heap.size 40 4 vp M (pcCs qs) := by
    have := (h.up (below_drew hB0)).pown
    rw [show qs.length + nB false = M from hM, show pcCs qs ++ tC false u = pcCs qs from List.append_nil _] at this
    exact this
  have hso : w.heap.size ≤ W0.heap.size := by have := h.below.size; have := hB0.size; omega
  have hLl : L < W0.heap.size := Nat.lt_of_lt_of_le h.lt hB0.size
  have hfin : Hid (∀ (v' : Value) (w2 : World), w2.ownsRow w.heap.size 40 4 v' (M + 1) (pcCs qs ++ pcC true ((none, 0, 0), (none, 0, 0), (some ⟨G, 0, none⟩, N, cap))) → (W0.drew.alloc (.cells #[.bool true, .slice none 0 0, .slice none 0 0, .slice (some ⟨G, 0, none⟩) N cap] 40)).grownBy w2 vp.ownBlock → (v'.ownBlock = vp.ownBlock ∨ v'.ownBlock = some (W0.drew.alloc (.cells #[.bool true, .slice none 0 0, .slice none 0 0, .slice (some ⟨G, 0, none⟩) N cap] 40)).heap.size) →
      (w2.frozen? ⟨L, 1, none⟩ = false ∧ w2.frozen? ⟨L, 2, none⟩ = false ∧ w2.frozen? ⟨L, 4, none⟩ = false) ∧ ((∃ x, w2.cell? ⟨L, 1, none⟩ = some x) ∧ (∃ x, w2.cell? ⟨L, 2, none⟩ = some x) ∧ (∃ x, w2.cell? ⟨L, 4, none⟩ = some x)) ∧
      ∃ r, Rd w (((w2.setCell ⟨L, 1, none⟩ v').setCell ⟨L, 2, none⟩ (.slice none 0 0)).setCell ⟨L, 4, none⟩ (mvR 28 L)) L long st (mvR 28 L) v' (.slice none 0 0) (.slice none 0 0) (qs ++ [(r, cPc [] ((ps.map fun p => p.2) ++ [cur]))]) [] false false []) := Lib.hid (fun v' w2 h1 h2 h3 => by
    rw [← hM] at h1
    have hsl : (psF ps true (A, cur.length, c) cur).length = N := by rw [(psF_cells _).2, hm, ← hN]; rfl
    have hq := (h.up hB1).qown
    rw [show ps.length + nB true = N by rw [hm, ← hN]; rfl] at hq
    obtain ⟨k1, k2, k3⟩ := h.end_at (base := ((none, 0, 0), [])) (sides := psF ps true (A, cur.length, c) cur) (r := (A, cur.length, c)) (mvR 28 L) (But.of_below hB1 fun k hk _ => hk) hsl (Nat.le_refl _) (fun j x hx => by
      rw [(psF_cells _).1] at hx
      rw [hq.cellAt j (by have := (List.getElem?_eq_some_iff.1 hx).1; simp [cC, hm] at this; omega), hu]
      exact hx) hu (.inl rfl) (fun p hp => hp) h1 h2 h3
    have e : (psF ps true (A, cur.length, c) cur).map (fun p => p.2) = (ps.map fun p => p.2) ++ [cur] := by simp [psF]
    rw [e] at k3
    exact ⟨⟨k1 1, k1 2, k1 4⟩, k2, _, k3⟩)
  have hW0h := Lib.hid hW0
  clear h hst hqs hM hm hN hu hW0 hB0 hB1
  unfold mvR at hfin ⊢
  go_enter Tryz.func103, Tryz.ntmps103
  go_upto_region 1 with fail
  rw [← hW0h.out]
  go_upto_region 4 with fail
  go_region_law (refine step_append_own rfl (.tmp 30) (.tmp 32) 22 rfl w.heap.size 40 j0 (.agg #[.bool false, .slice none 0 0, .slice none 0 0, .slice none 0 0]) 4 80 Tryz.underlying22 hj hy0 hy1 hy2 rfl (by decide) vp M _ (by simp [Act.eval]) (hownd.alloc _) ⟨W0.heap.size, 0, none⟩ 1 1 (pcC true ((none, 0, 0), (none, 0, 0), (some ⟨G, 0, none⟩, N, cap))) (by simp [Act.eval]) rfl (cell_new4 _ _ _ _ _ _) (pcC_one _ _) hmax.out.1 hmax.out.2 (by simp; omega) ?_; intro v' w2 hown2 hg2 hloc2; obtain ⟨⟨f1, f2, f4⟩, ⟨⟨g1, a1⟩, ⟨g2, a2⟩, ⟨g4, a4⟩⟩, r, hR⟩ := hfin.out v' w2 hown2 hg2 hloc2; have hRh := Lib.hid hR; obtain ⟨g9, c9, rfl⟩ := ownsRow_succ hown2; clear hown2 hg2 hloc2 hR)
  all_goals
    go_wp2
    go_end0
    exact ⟨rfl, _, r, hRh.out⟩
end
end Go.Proofs.YtcpopnhnihbofaaGreatDoor
