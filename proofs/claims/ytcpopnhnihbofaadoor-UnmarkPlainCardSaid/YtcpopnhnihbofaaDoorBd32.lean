/- Proved here: texts joined: UmPut, UmOpen, StepOwn. -/
import Derived.Test.YtcpopnhnihbofaaDoorBd02
import Derived.Test.YtcpopnhnihbofaaDoorBd31
import Derived.BigQuiet
import Derived.Deep.RegionLaw
import Derived.Maps.AppendAt
/- Proved here: the landed reader's begin and put. -/
namespace Go.Proofs.YtcpopnhnihbofaaDoor
open Go.RowKit
set_option linter.unusedVariables false
set_option maxRecDepth 100000

/-- A method of the reader, as a function value. -/
def mvR (k L : Nat) : Value := .func (.func k) #[.pointer (some ⟨L, 0, none⟩)] #[]
section
variable {w wr : World} {L long : Nat} {st : Int} {nx vp vq u : Value} {qs : List (PcV × Pc)} {ps : List (Slc × Txs)} {tx cf : Bool} {cur : Txs}

set_option maxHeartbeats 1000000 in
theorem begin_any (h : Rd w wr L long st nx vp vq u qs ps tx cf cur) (hp : ps.length ≤ 1000) (k : Nat) :
    Calls Tryd.prog 29 #[.pointer (some ⟨L, 0, none⟩), mvR k L] wr fun e w' => e = .returned (.tuple #[]) ∧ ∃ vq' r, u = slcV r ∧ Rd w w' L long st (mvR k L) vp vq' (.slice none 0 0) (qsF qs tx r cur) (psF ps cf r cur) false true [] := by
  obtain ⟨i0, hi, hzz⟩ := Option.map_eq_some_iff.1 infoTxs
  simp only [Prod.mk.injEq] at hzz
  obtain ⟨hz0, hz1, hz2⟩ := hzz
  obtain ⟨N, hN⟩ : ∃ N, ps.length + nB cf = N := ⟨_, rfl⟩
  have hNb : N ≤ 1001 := by rw [← hN]; unfold nB; split <;> omega
  have hmax : Hid (N + 1 ≤ maxLen ∧ (N + 1) * 24 ≤ 140737488355328) := Lib.hid ⟨by unfold maxLen; omega, by omega⟩
  have hcell : Hid (∀ j x, ([.slice none 0 0] : List Value)[j]? = some x → (wr.alloc (.cells #[.slice none 0 0] 22)).cell? ((⟨wr.heap.size, 0, none⟩ : Addr).add j) = some x) := Lib.hid (fun j x hx => by
    rw [addr_add, cells_of (one_a wr _)]
    simpa using hx)
  have hown : Hid ((wr.alloc (.cells #[.slice none 0 0] 22)).ownsRow w.heap.size 22 1 vq N ((ps.map fun p => slcV p.1) ++ cC cf u)) := Lib.hid (by rw [← hN]; exact h.qown.alloc _)
  have hbase : Hid (w.heap.size ≤ (wr.alloc (.cells #[.slice none 0 0] 22)).heap.size) := Lib.hid (by have := h.below.size; simp; omega)
  have hfin : Hid (∀ (v' : Value) (w2 : World), w2.ownsRow w.heap.size 22 1 v' (N + 1) (((ps.map fun p => slcV p.1) ++ cC cf u) ++ [.slice none 0 0]) → (wr.alloc (.cells #[.slice none 0 0] 22)).grownBy w2 vq.ownBlock → (v'.ownBlock = vq.ownBlock ∨ v'.ownBlock = some (wr.alloc (.cells #[.slice none 0 0] 22)).heap.size) →
      (w2.frozen? ⟨L, 2, none⟩ = false ∧ w2.frozen? ⟨L, 4, none⟩ = false) ∧ (∃ x, w2.cell? ⟨L, 2, none⟩ = some x) ∧ (∃ x, w2.cell? ⟨L, 4, none⟩ = some x) ∧ ∃ r, u = slcV r ∧ Rd w ((w2.setCell ⟨L, 2, none⟩ v').setCell ⟨L, 4, none⟩ (mvR k L)) L long st (mvR k L) vp v' (.slice none 0 0) (qsF qs tx r cur) (psF ps cf r cur) false true []) := Lib.hid (fun v' w2 h1 h2 h3 => by
    rw [← hN] at h1
    obtain ⟨k1, k2, k3, k4⟩ := h.begin_ (mvR k L) h1 h2 h3
    exact ⟨⟨k1 2, k1 4⟩, k2, k3, k4⟩)
  have x2 := h.cells.2.2.1
  clear h hN hNb hp
  unfold mvR at hfin ⊢
  go_enter Tryd.func29, Tryd.ntmps29
  go_wp2_with (at_builtin; refine wpList_append_own_at _ rfl _ _ 34 rfl w.heap.size 22 i0 (.slice none 0 0) 1 24 Tryd.underlying34 hi hz0 hz1 hz2 rfl (by decide) vq N _ rfl hown.out ⟨wr.heap.size, 0, none⟩ 1 1 [.slice none 0 0] rfl rfl hcell.out (by simp; rfl) hmax.out.1 hmax.out.2 hbase.out ?_; intro v' w2 hown2 hg2 hnil2 hloc2; clear hnil2; obtain ⟨⟨y1, y2⟩, ⟨z1, y3⟩, ⟨z2, y4⟩, r, hr, hR⟩ := hfin.out v' w2 hown2 hg2 hloc2; have hRh := Lib.hid (And.intro hr hR); obtain ⟨g2, c2, rfl⟩ := ownsRow_succ hown2; clear hown2 hg2 hloc2 hr hR x2)
  go_end0
  exact ⟨rfl, _, r, hRh.out.1, hRh.out.2⟩

set_option maxHeartbeats 2000000 in
theorem put_conf (s : Tx) (h : Rd w wr L long st nx vp vq u qs ps false true cur) (hp : ps.length ≤ 1000) (hc : cur.length ≤ 100000000) :
    Calls Tryd.prog 34 #[.pointer (some ⟨L, 0, none⟩), .string (str s)] wr fun e w' => e = .returned (.tuple #[]) ∧ ∃ u', Rd w w' L long st nx vp vq u' qs ps false true (cur ++ [s]) := by
  obtain ⟨i0, hi, hzz⟩ := Option.map_eq_some_iff.1 infoStr
  simp only [Prod.mk.injEq] at hzz
  obtain ⟨hz0, hz1, hz2⟩ := hzz
  obtain ⟨m, hm⟩ : ∃ m, ps.length = m := ⟨_, rfl⟩
  obtain ⟨N, hN⟩ : ∃ N, m + 1 = N := ⟨_, rfl⟩
  obtain ⟨G, cap, rfl⟩ : ∃ G cap, vq = .slice (some ⟨G, 0, none⟩) N cap := by
    have := h.qown
    rw [show ps.length + nB true = m + 1 by rw [hm]; rfl] at this
    rw [← hN]
    exact ownsRow_succ this
  obtain ⟨K, hK⟩ : ∃ K, cur.length = K := ⟨_, rfl⟩
  have hKh := Lib.hid hK
  have hmax : Hid (K + 1 ≤ maxLen ∧ (K + 1) * 16 ≤ 140737488355328) := Lib.hid ⟨by unfold maxLen; omega, by omega⟩
  have hI := Lib.hid (inConf_any L _ N cap wr h.cells.2.2.1)
  have x2 := h.cells.2.2.1
  have xg : wr.cell? ⟨G, m, none⟩ = some u := by
    have := h.qown
    rw [show ps.length + nB true = N by rw [hm, ← hN]; rfl] at this
    rw [this.cellAt _ (by omega), List.getElem?_append_right (by simp [hm])]
    simp [hm, cC]
  have hd : decide (0 < N) = true := by simp; omega
  rw [hd] at hI
  have e1 : (N : Int) - 1 = (m : Int) := by omega
  have e2 : IntKind.i64.wrap ((N : Int) - 1) = (m : Int) := by rw [e1]; exact IntWalk.i64_in _ (by omega)
  have e3 : IntKind.i64.wrap (m : Int) = (m : Int) := IntWalk.i64_in _ (by omega)
  have i1 : (0 : Int) ≤ (m : Int) := by omega
  have i2 : (m : Int) < (N : Int) := by omega
  have hh := Lib.hid h
  have hNh := Lib.hid (And.intro hm hN)
  clear hd hp hc hK hN hm h
  go_enter Tryd.func34, Tryd.ntmps34
  go_upto_region 1 with (go_at_call 17; refine hI.out.mono ?_; rintro e w1 ⟨rfl, rfl⟩)
  go_quiet (fail)
  obtain ⟨wo, hwo⟩ : ∃ wo, wo = wr.drewN nq := ⟨_, rfl⟩
  have hho := hh.out.up (below_drewN (Below.refl wr.heap.size wr) nq)
  have xg2 : (wr.drewN nq).cell? ⟨G, m, none⟩ = some u := xg
  rw [← hwo] at hho xg2 ⊢
  have hown : Hid ((wo.alloc (.cells #[.string (str s)] 9)).ownsRow w.heap.size 9 1 u K (cur.map fun s => .string (str s))) := Lib.hid (by rw [← hKh.out]; exact hho.uown.alloc _)
  have hcell : Hid (∀ j x, ([.string (str s)] : List Value)[j]? = some x → (wo.alloc (.cells #[.string (str s)] 9)).cell? ((⟨wo.heap.size, 0, none⟩ : Addr).add j) = some x) := Lib.hid (fun j x hx => by
    rw [addr_add, cells_of (one_a wo _)]
    simpa using hx)
  have hbase : Hid (w.heap.size ≤ (wo.alloc (.cells #[.string (str s)] 9)).heap.size) := Lib.hid (by have := hho.below.size; simp; omega)
  have hfin : Hid (∀ (v' : Value) (w2 : World), w2.ownsRow w.heap.size 9 1 v' (K + 1) ((cur.map fun s => .string (str s)) ++ [.string (str s)]) → (wo.alloc (.cells #[.string (str s)] 9)).grownBy w2 u.ownBlock → (v'.ownBlock = u.ownBlock ∨ v'.ownBlock = some (wo.alloc (.cells #[.string (str s)] 9)).heap.size) →
      w2.frozen? ⟨G, m, none⟩ = false ∧ (∃ x, w2.cell? ⟨G, m, none⟩ = some x) ∧ Rd w (w2.setCell ⟨G, m, none⟩ v') L long st nx vp (.slice (some ⟨G, 0, none⟩) N cap) v' qs ps false true (cur ++ [s])) := Lib.hid (fun v' w2 h1 h2 h3 => by
    obtain ⟨rfl, hN⟩ := hNh.out
    rw [← hKh.out] at h1
    exact hho.ext_conf hN h1 h2 h3)
  clear hho hwo xg x2
  go_wp2_with (at_builtin; refine wpList_append_own_at _ rfl _ _ 22 rfl w.heap.size 9 i0 (.string ByteArray.empty) 1 16 Tryd.underlying22 hi hz0 hz1 hz2 rfl (by decide) u K _ rfl hown.out ⟨wo.heap.size, 0, none⟩ 1 1 [.string (str s)] rfl rfl hcell.out (by simp; rfl) hmax.out.1 hmax.out.2 hbase.out ?_; intro v' w2 hown2 hg2 hnil2 hloc2; clear hnil2; obtain ⟨y1, ⟨z1, y2⟩, hR⟩ := hfin.out v' w2 hown2 hg2 hloc2; have hRh := Lib.hid hR; obtain ⟨g2, c2, rfl⟩ := ownsRow_succ hown2; clear hown2 hg2 hloc2 hR xg2)
  refine bodyPost_ret (results_none rfl _ _ _) rfl ?_
  exact ⟨rfl, _, hRh.out⟩
end
end Go.Proofs.YtcpopnhnihbofaaDoor
/- Proved here: the landed reader's openPart. -/
namespace Go.Proofs.YtcpopnhnihbofaaDoor
open Go.RowKit
set_option linter.unusedVariables false
set_option maxRecDepth 100000

section
variable {w wr : World} {L long : Nat} {st : Int} {nx vp vq u : Value} {qs : List (PcV × Pc)} {ps : List (Slc × Txs)} {tx cf : Bool} {cur : Txs}
/-- The parts' row: where the last one stands. -/
theorem Rd.last_part (h : Rd w wr L long st nx vp vq u qs ps tx true cur) {m : Nat} (hm : ps.length = m) : ∃ G cap, vq = .slice (some ⟨G, 0, none⟩) (m + 1) cap ∧ wr.cell? ⟨G, m, none⟩ = some u := by
  have hq := h.qown
  rw [show ps.length + nB true = m + 1 by rw [hm]; rfl] at hq
  obtain ⟨G, cap, rfl⟩ := ownsRow_succ hq
  refine ⟨G, cap, rfl, ?_⟩
  rw [hq.cellAt _ (by omega), List.getElem?_append_right (by simp [hm])]
  simp [hm, cC]
theorem open_last {t : Tx} {k : Nat} (hk : cur.length = k + 1) (ht : cur[k]? = some t) (hl : lnB t = true) : (openT true cur = none ∧ t = [10]) ∨ (∃ x, x ≠ [] ∧ t = x ++ [10] ∧ openT true cur = some (cur.set k x)) := by
  obtain ⟨x, rfl, -⟩ := line_of hl
  have hg : cur.getLast? = some (x ++ [10]) := by rw [List.getLast?_eq_getElem?, hk]; exact ht
  have ho : openT true cur = if (x ++ [10]).length < 2 then none else some (cur.dropLast ++ [(x ++ [10]).dropLast]) := by
    unfold openT
    rw [if_pos rfl, hg]
  rw [ho]
  cases x with
  | nil => exact .inl ⟨rfl, rfl⟩
  | cons c x =>
    refine .inr ⟨c :: x, by simp, rfl, ?_⟩
    rw [if_neg (by simp), List.dropLast_concat]
    have hd : cur = cur.dropLast ++ [c :: x ++ [10]] := by
      have hne : cur ≠ [] := by rintro rfl; simp at hk
      rw [List.getLast?_eq_some_getLast hne] at hg
      injection hg with hg
      rw [← hg, List.dropLast_concat_getLast hne]
    have hdl : cur.dropLast.length = k := by rw [List.length_dropLast, hk]; rfl
    congr 1
    conv => rhs; rw [hd]
    rw [List.set_append_right _ _ (by omega), hdl, Nat.sub_self]
    rfl

/-- The last line of what was begun last is another one, and blocks that are new since change. -/
theorem Rd.reopen {w5 : World} {g N c k : Nat} {x : Tx} (h : Rd w wr L long st nx vp vq (.slice (some ⟨g, 0, none⟩) N c) qs ps tx cf cur) (hb : But (fun b => b = g) wr w5) (hu : w5.ownsRow w.heap.size 9 1 (.slice (some ⟨g, 0, none⟩) N c) (cur.set k x).length ((cur.set k x).map fun s => .string (str s))) : Rd w w5 L long st nx vp vq (.slice (some ⟨g, 0, none⟩) N c) qs ps tx cf (cur.set k x) := by
  have e0 : (Value.slice (some ⟨g, 0, none⟩) N c).ownBlock = some g := rfl
  refine h.step (hb.more fun k e => .inr (.inr (.inr (by rw [e0, e])))) (fun k e => .inl e) ((hb.block L h.lt (by rintro rfl; exact h.uL e0)).trans h.at_) ?_ ?_ hu (fun q hq => .inl hq) fun p hp => .inl hp
  · exact ownsRow_kept h.pown fun k e => hb.block k (h.pown.lt k e).2 (by rintro rfl; exact h.pu _ e e0)
  · exact ownsRow_kept h.qown fun k e => hb.block k (h.qown.lt k e).2 (by rintro rfl; exact h.qu _ e e0)

set_option maxHeartbeats 4000000 in
theorem openPart_any {wr0 : World} (h0 : Rd w wr0 L long st nx vp vq u qs ps false true cur) (hb0 : Below wr0.heap.size wr0 wr) (h : Rd w wr L long st nx vp vq u qs ps false true cur) (hl : ∀ t ∈ cur, lnB t = true) (hs : ∀ t ∈ cur, t.length ≤ 1000000) (hp : ps.length ≤ 1000) (hc : cur.length ≤ 100000000) :
    Calls Tryd.prog 36 #[.pointer (some ⟨L, 0, none⟩)] wr fun e w' => e = .returned (.bool (openT true cur).isSome) ∧ Below w.heap.size w w' ∧ But (fun k => k < wr0.heap.size) wr w' ∧ ∀ q, openT true cur = some q → ∀ w5, But (fun k => wr0.heap.size ≤ k) w' w5 → Rd w w5 L long st nx vp vq u qs ps false true q := by
  obtain ⟨m, hm⟩ : ∃ m, ps.length = m := ⟨_, rfl⟩
  obtain ⟨N, hN⟩ : ∃ N, m + 1 = N := ⟨_, rfl⟩
  obtain ⟨G, cap, rfl, xg⟩ := h.last_part hm
  have x2 := h.cells.2.2.1
  rw [hN] at x2
  have e1 : (N : Int) - 1 = (m : Int) := by omega
  have e2 : IntKind.i64.wrap ((N : Int) - 1) = (m : Int) := by rw [e1]; exact IntWalk.i64_in _ (by omega)
  have e3 : IntKind.i64.wrap (m : Int) = (m : Int) := IntWalk.i64_in _ (by omega)
  have i1 : (0 : Int) ≤ (m : Int) := by omega
  have i2 : (m : Int) < (N : Int) := by omega
  have hh := Lib.hid h
  have hbel : Hid (∀ q, Below w.heap.size w (wr.drewN q) ∧ But (fun k => k < wr0.heap.size) wr (wr.drewN q)) := Lib.hid (fun q => ⟨below_drewN h.below q, ⟨rfl, rfl, rfl, Nat.le_refl _, fun _ _ _ => rfl⟩⟩)
  rcases Nat.eq_zero_or_pos cur.length with hc0 | hc0
  · clear h0 hb0
    obtain rfl : cur = [] := List.eq_nil_of_length_eq_zero hc0
    obtain ⟨A, c, hu, -⟩ := h.open_
    rw [show ([] : Txs).length = 0 from rfl] at hu
    subst hu
    clear hl hs hp hc hN hm h hc0
    go_enter Tryd.func36, Tryd.ntmps36
    go_upto_region 1 with fail
    go_quiet (fail)
    go_wp2
    go_ret
    exact ⟨rfl, (hbel.out _).1, (hbel.out _).2, fun q h => by cases h⟩
  · obtain ⟨k, hk⟩ : ∃ k, cur.length = k + 1 := ⟨cur.length - 1, by omega⟩
    obtain ⟨K, hK⟩ : ∃ K, k + 1 = K := ⟨_, rfl⟩
    have huo := h.uown
    rw [hk] at huo
    obtain ⟨g, cg, rfl⟩ := ownsRow_succ huo
    obtain ⟨t, ht⟩ : ∃ t, cur[k]? = some t := ⟨cur[k]'(by omega), List.getElem?_eq_getElem _⟩
    have hln := hl t (List.mem_of_getElem? ht)
    have htl := hs t (List.mem_of_getElem? ht)
    have xt : wr.cell? ⟨g, k, none⟩ = some (.string (str t)) := by
      rw [huo.cellAt _ (by omega), List.getElem?_map, ht]
      rfl
    have xf : wr.frozen? ⟨g, k, none⟩ = false := huo.frozenAt k
    have j0 : ((K : Int) == 0) = false := by simp; omega
    have j1 : (K : Int) - 1 = (k : Int) := by omega
    have j2 : IntKind.i64.wrap ((K : Int) - 1) = (k : Int) := by rw [j1]; exact IntWalk.i64_in _ (by omega)
    have j3 : IntKind.i64.wrap (k : Int) = (k : Int) := IntWalk.i64_in _ (by omega)
    have j4 : (0 : Int) ≤ (k : Int) := by omega
    have j5 : (k : Int) < (K : Int) := by omega
    have hcase := open_last hk ht hln
    rw [hK] at xg ⊢
    have hKh := Lib.hid hK
    rcases hcase with ⟨ho, rfl⟩ | ⟨x, hx, rfl, ho⟩
    · rw [ho]
      clear h0 hb0
      obtain ⟨S, hS⟩ : ∃ S, str [10] = S := ⟨_, rfl⟩
      have hne : (S.toList == [10]) = true := by
        rw [← hS, Lib.toList_data, str_data]
        rfl
      rw [hS] at xt
      clear hl hs hp hc hN hm h hc0 hk hK huo ht hln htl ho hS
      go_enter Tryd.func36, Tryd.ntmps36
      go_upto_region 1 with fail
      go_quiet (fail)
      go_wp2
      go_ret
      exact ⟨rfl, (hbel.out _).1, (hbel.out _).2, fun q h => by cases h⟩
    · rw [ho]
      obtain ⟨S, hS⟩ : ∃ S, str (x ++ [10]) = S := ⟨_, rfl⟩
      have hne : (S.toList == [10]) = false := by
        rw [← hS, Lib.toList_data, str_data]
        cases x with
        | nil => exact absurd rfl hx
        | cons c x => simp
      have hTr := Lib.hid (fun W => Tryd.strings_TrimSuffix S ⟨#[10]⟩ W (by rw [← hS, str_size]; omega))
      have htr : (⟨(Lib.trimSuffix S.data.toList (ByteArray.mk #[10]).data.toList).toArray⟩ : ByteArray) = str x := by
        rw [← hS, str_data]
        show str (Lib.trimSuffix (x ++ [10]) [10]) = str x
        congr 1
        unfold Lib.trimSuffix Lib.hasSuffix
        simp
      rw [htr] at hTr
      have hR : Hid (∀ q, Below w.heap.size w ((wr.drewN q).setCell ⟨g, k, none⟩ (.string (str x))) ∧ But (fun k => k < wr0.heap.size) wr ((wr.drewN q).setCell ⟨g, k, none⟩ (.string (str x))) ∧ ∀ w5, But (fun k => wr0.heap.size ≤ k) ((wr.drewN q).setCell ⟨g, k, none⟩ (.string (str x))) w5 → Rd w w5 L long st nx vp (.slice (some ⟨G, 0, none⟩) (m + 1) cap) (.slice (some ⟨g, 0, none⟩) (k + 1) cg) qs ps false true (cur.set k x)) := Lib.hid (fun q => by
        have hR1 := (h.up (below_drewN (Below.refl _ _) q)).last k x
        have hg0 := (h0.uown.lt g rfl).2
        have hbs : But (fun b => b = g) (wr.drewN q) ((wr.drewN q).setCell ⟨g, k, none⟩ (.string (str x))) := But.setL (F := fun b => b = g) rfl _ _
        have hbr : But (fun b => b = g) wr (wr.drewN q) := ⟨rfl, rfl, rfl, Nat.le_refl _, fun _ _ _ => rfl⟩
        refine ⟨hR1.below, (hbr.trans hbs fun k e => .inl e).more fun k e => by omega, fun w5 h5 => ?_⟩
        refine h0.reopen (((But.of_below (F := fun b => b = g) hb0 fun k hk _ => hk).trans (hbr.trans hbs fun k e => .inl e) fun k e => .inl e).trans h5 fun k e => .inr e) ?_
        exact ownsRow_kept hR1.uown fun k e => h5.block k (hR1.uown.lt k e).2 (fun e2 => by
          have : g = k := by simpa [Value.ownBlock] using e
          omega))
      rw [hS] at xt
      clear hl hs hp hc hN hm h h0 hb0 hc0 hk hK huo ht hln htl ho hS htr hx
      go_enter Tryd.func36, Tryd.ntmps36
      go_upto_region 1 with fail
      go_quiet (fail)
      go_wp2_with (go_at_call 49; refine (hTr.out _).mono ?_; rintro e w1 ⟨rfl, rfl⟩)
      go_ret
      obtain rfl := hKh.out
      refine ⟨rfl, (hR.out _).1, (hR.out _).2.1, fun q h => ?_⟩
      injection h with h
      subst h
      exact (hR.out _).2.2
end
end Go.Proofs.YtcpopnhnihbofaaDoor
/- Proved here, without conditions: append onto a row of the call's own, as one step of a region that draws its order. -/
namespace Go.Proofs.YtcpopnhnihbofaaDoor
open Go.RowKit
set_option linter.unusedVariables false

/-- append onto a row of the call's own, as one step of a region that draws. -/
theorem step_append_own {P : Program} {ops : Array Oper} {o : Oper} {a : Act} {w : World} {K : Act → World → Prop} {Q : Exit → Act → World → Prop} {G : Prop}
    (hg : o.guard = none) (s x : Operand) (t : TypeId) (hop : o.op = Op.call { callee := Callee.builtin Builtin.append, args := #[s, x], argTypes := #[t, t] })
    (base : Nat) (e : TypeId) (i : TypeInfo) (z : Value) (size bytes : Nat) (h1 : P.underlying t = some (.slice e)) (h2 : P.info? e = some i) (h3 : i.zero = some z) (h4 : i.size = size) (h5 : i.bytes = bytes) (h6 : z.cells.size = size) (h7 : 0 < size)
    (v : Value) (n : Nat) (xs : List Value) (hs : a.eval s = v) (hown : w.ownsRow base e size v n xs)
    (ad : Addr) (m c : Nat) (news : List Value) (hx : a.eval x = .slice (some ad) m c) (hn : news.length = m * size) (hc : ∀ j u, news[j]? = some u → w.cell? (ad.add j) = some u) (h1c : ∀ u ∈ news, u.oneCell' = true)
    (b1 : n + m ≤ maxLen) (b2 : (n + m) * bytes ≤ 140737488355328) (hbase : base ≤ w.heap.size)
    (hK : ∀ v' w', w'.ownsRow base e size v' (n + m) (xs ++ news) → w.grownBy w' v.ownBlock → (v'.ownBlock = v.ownBlock ∨ v'.ownBlock = some w.heap.size) → K (a.put o.dst v') w') :
    if Region.wanted o (yielded ops a.tmps) = true then Oper.wp P o a w K Q else G := by
  have hw : Region.wanted o (yielded ops a.tmps) = true := by simp [Region.wanted, hg]
  rw [if_pos hw]
  obtain ⟨v', w', hrun, r1, r2, _, r4⟩ := run_append_own_at (P := P) w base t o.type e i z size bytes h1 h2 h3 h4 h5 h6 h7 v n xs hown ad m c news hn hc h1c b1 b2 hbase
  unfold Oper.wp
  simp [execOp, hop, resolve, invoke, builtin, hs, hx, hrun, Result.andThen]
  exact hK v' w' r1 r2 r4

end Go.Proofs.YtcpopnhnihbofaaDoor
