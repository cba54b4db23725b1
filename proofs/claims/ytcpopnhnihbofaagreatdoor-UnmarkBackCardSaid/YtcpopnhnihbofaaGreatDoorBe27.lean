/- Proved here: texts joined: UmPut2, DigN. -/
import Derived.Test.YtcpopnhnihbofaaGreatDoorBe08
import Derived.Test.YtcpopnhnihbofaaGreatDoorBe24
import Derived.Lib.ItoaNum
/- Proved here: the landed reader's put, outside of a conflict. -/
namespace Go.Proofs.YtcpopnhnihbofaaGreatDoor
open Go.RowKit
set_option linter.unusedVariables false
set_option maxRecDepth 100000

section
variable {w wr : World} {L long : Nat} {st : Int} {nx vp vq u : Value} {qs : List (PcV × Pc)} {ps : List (Slc × Txs)} {tx cf : Bool} {cur : Txs}
/-- The pieces' row, and what is told of the last one. -/
theorem Rd.last_text (h : Rd w wr L long st nx vp vq u qs ps true false cur) {m : Nat} (hm : qs.length = m) : ∃ G cap, vp = .slice (some ⟨G, 0, none⟩) (m + 1) cap ∧ wr.cell? ⟨G, m * 4, none⟩ = some (.bool false) ∧ wr.cell? ⟨G, m * 4 + 1, none⟩ = some u := by
  have hp := h.pown
  rw [show qs.length + nB true = m + 1 by rw [hm]; rfl] at hp
  obtain ⟨G, cap, rfl⟩ := ownsRow_succ hp
  refine ⟨G, cap, rfl, ?_, ?_⟩
  · rw [hp.cellAt _ (by omega), List.getElem?_append_right (by rw [pcCs_len, hm]; omega), pcCs_len, hm, Nat.sub_self]
    rfl
  · rw [hp.cellAt _ (by omega), List.getElem?_append_right (by rw [pcCs_len, hm]; omega), pcCs_len, hm, show m * 4 + 1 - m * 4 = 1 by omega]
    rfl
theorem Rd.last_conf (h : Rd w wr L long st nx vp vq u qs ps false cf cur) {m : Nat} (hm : qs.length = m + 1) (hl : ∀ q, qs[m]? = some q → q.2.1 = true) : ∃ G cap, vp = .slice (some ⟨G, 0, none⟩) (m + 1) cap ∧ wr.cell? ⟨G, m * 4, none⟩ = some (.bool true) := by
  have hp := h.pown
  rw [show qs.length + nB false = m + 1 by rw [hm]; rfl] at hp
  obtain ⟨G, cap, rfl⟩ := ownsRow_succ hp
  refine ⟨G, cap, rfl, ?_⟩
  obtain ⟨q, hq⟩ : ∃ q, qs[m]? = some q := ⟨qs[m]'(by omega), List.getElem?_eq_getElem _⟩
  have := pcCs_at qs m 0 q hq (by omega)
  rw [Nat.add_zero] at this
  rw [hp.cellAt _ (by omega), show pcCs qs ++ tC false u = pcCs qs from List.append_nil _, this, hl q hq]
  rfl
theorem Rd.no_parts (h : Rd w wr L long st nx vp vq u qs [] tx false cur) : ∃ A c, vq = .slice A 0 c := by
  obtain ⟨A, c, e, -, -, -⟩ := own_slice h.qown
  exact ⟨A, c, e⟩

set_option maxHeartbeats 4000000 in
theorem put_text (s : Tx) (h : Rd w wr L long st nx vp vq u qs [] true false cur) (hqs : qs.length ≤ 100000000) (hc : cur.length ≤ 100000000) :
    Calls Tryz.prog 57 #[.pointer (some ⟨L, 0, none⟩), .string (str s)] wr fun e w' => e = .returned (.tuple #[]) ∧ ∃ u', Rd w w' L long st nx vp vq u' qs [] true false (cur ++ [s]) := by
  obtain ⟨i0, hi, hzz⟩ := Option.map_eq_some_iff.1 infoStr
  simp only [Prod.mk.injEq] at hzz
  obtain ⟨hz0, hz1, hz2⟩ := hzz
  obtain ⟨cura, hcura⟩ : ∃ cura, cur = cura := ⟨_, rfl⟩
  obtain ⟨ua, hua⟩ : ∃ ua, u = ua := ⟨_, rfl⟩
  rw [hcura] at h hc ⊢
  rw [hua] at h
  clear hcura hua
  obtain ⟨K, hK⟩ : ∃ K, cura.length = K := ⟨_, rfl⟩
  have hKa := Lib.hid hK
  have hqb := Lib.hid hqs
  have hmax : Hid (K + 1 ≤ maxLen ∧ (K + 1) * 16 ≤ 140737488355328) := Lib.hid ⟨by unfold maxLen; omega, by omega⟩
  obtain ⟨Aq, cq, rfl⟩ := h.no_parts
  have hI : Hid (Calls Tryz.prog 29 #[.pointer (some ⟨L, 0, none⟩)] wr fun e w' => e = .returned (.bool false) ∧ wr = w') := Lib.hid (inConf_any L Aq 0 cq wr h.cells.2.2.1)
  obtain ⟨vqa, hvqa⟩ : ∃ vqa, Value.slice Aq 0 cq = vqa := ⟨_, rfl⟩
  rw [hvqa] at h ⊢
  clear hvqa hK hc hqs
  obtain ⟨m0, hm0⟩ : ∃ m0, qs.length = m0 := ⟨_, rfl⟩
  obtain ⟨N0, hN0⟩ : ∃ N0, m0 + 1 = N0 := ⟨_, rfl⟩
  obtain ⟨G0, cap0, hvp0, xb0, xg0⟩ := h.last_text hm0
  have x10 := h.cells.2.1
  rw [hvp0, hN0] at x10
  have e00 : ((N0 : Int) == 0) = false := by simp; omega
  have e10 : (N0 : Int) - 1 = (m0 : Int) := by omega
  have e20 : IntKind.i64.wrap ((N0 : Int) - 1) = (m0 : Int) := by rw [e10]; exact IntWalk.i64_in _ (by have := hqb.out; omega)
  have e30 : IntKind.i64.wrap (m0 : Int) = (m0 : Int) := IntWalk.i64_in _ (by have := hqb.out; omega)
  have i10 : (0 : Int) ≤ (m0 : Int) := by omega
  have i20 : (m0 : Int) < (N0 : Int) := by omega
  have hvph := Lib.hid hvp0
  have hh := Lib.hid h
  clear h hm0 hN0 hvp0
  go_enter Tryz.func57, Tryz.ntmps57
  go_upto_region 3 with (go_at_call 29; refine hI.out.mono ?_; rintro e w1 ⟨rfl, rfl⟩)
  go_quiet (fail)
  obtain ⟨wa, hwa⟩ : ∃ wa, wa = wr.drewN nq := ⟨_, rfl⟩
  have hha : Hid (Rd w wa L long st nx vp vqa ua qs [] true false cura) := Lib.hid (by rw [hwa]; exact hh.out.up (below_drewN (Below.refl wr.heap.size wr) nq))
  rw [← hwa]
  clear hwa hh x10 xb0 xg0 e00 e10 e20 e30 i10 i20 hI hvph
  obtain ⟨m, hm⟩ : ∃ m, qs.length = m := ⟨_, rfl⟩
  obtain ⟨N, hN⟩ : ∃ N, m + 1 = N := ⟨_, rfl⟩
  obtain ⟨G, cap, hvpa, xb, xg⟩ := hha.out.last_text hm
  subst hvpa
  have x1 := hha.out.cells.2.1
  rw [hN] at x1
  have e0 : ((N : Int) == 0) = false := by simp; omega
  have e1 : (N : Int) - 1 = (m : Int) := by omega
  have e2 : IntKind.i64.wrap ((N : Int) - 1) = (m : Int) := by rw [e1]; exact IntWalk.i64_in _ (by have := hqb.out; omega)
  have e3 : IntKind.i64.wrap (m : Int) = (m : Int) := IntWalk.i64_in _ (by have := hqb.out; omega)
  have i1 : (0 : Int) ≤ (m : Int) := by omega
  have i2 : (m : Int) < (N : Int) := by omega
  have hNh := Lib.hid (And.intro hm hN)
  clear hN hm
  go_upto_region 5 with fail
  go_quiet (fail)
  obtain ⟨wo, hwo⟩ : ∃ wo, wo = wa.drewN nq := ⟨_, rfl⟩
  have hho := hha.out.up (below_drewN (Below.refl wa.heap.size wa) nq)
  have xg2 : (wa.drewN nq).cell? ⟨G, m * 4 + 1, none⟩ = some ua := xg
  rw [← hwo] at hho xg2 ⊢
  have hown : Hid ((wo.alloc (.cells #[.string (str s)] 9)).ownsRow w.heap.size 9 1 ua K (cura.map fun s => .string (str s))) := Lib.hid (by rw [← hKa.out]; exact hho.uown.alloc _)
  have hcell : Hid (∀ j x, ([.string (str s)] : List Value)[j]? = some x → (wo.alloc (.cells #[.string (str s)] 9)).cell? ((⟨wo.heap.size, 0, none⟩ : Addr).add j) = some x) := Lib.hid (fun j x hx => by
    rw [addr_add, cells_of (one_a wo _)]
    simpa using hx)
  have hbase : Hid (w.heap.size ≤ (wo.alloc (.cells #[.string (str s)] 9)).heap.size) := Lib.hid (by have := hho.below.size; simp; omega)
  have hfin : Hid (∀ (v' : Value) (w2 : World), w2.ownsRow w.heap.size 9 1 v' (K + 1) ((cura.map fun s => .string (str s)) ++ [.string (str s)]) → (wo.alloc (.cells #[.string (str s)] 9)).grownBy w2 ua.ownBlock → (v'.ownBlock = ua.ownBlock ∨ v'.ownBlock = some (wo.alloc (.cells #[.string (str s)] 9)).heap.size) →
      w2.frozen? ⟨G, m * 4 + 1, none⟩ = false ∧ (∃ x, w2.cell? ⟨G, m * 4 + 1, none⟩ = some x) ∧ Rd w (w2.setCell ⟨G, m * 4 + 1, none⟩ v') L long st nx (.slice (some ⟨G, 0, none⟩) N cap) vqa v' qs [] true false (cura ++ [s])) := Lib.hid (fun v' w2 h1 h2 h3 => by
    obtain ⟨rfl, rfl⟩ := hNh.out
    rw [← hKa.out] at h1
    exact hho.ext_text rfl h1 h2 h3)
  clear hho hwo xg xb x1
  go_wp2_with (at_builtin; refine wpList_append_own_at _ rfl _ _ 25 rfl w.heap.size 9 i0 (.string ByteArray.empty) 1 16 Tryz.underlying25 hi hz0 hz1 hz2 rfl (by decide) ua K _ rfl hown.out ⟨wo.heap.size, 0, none⟩ 1 1 [.string (str s)] rfl rfl hcell.out (by simp; rfl) hmax.out.1 hmax.out.2 hbase.out ?_; intro v' w2 hown2 hg2 hnil2 hloc2; clear hnil2; obtain ⟨y1, ⟨z1, y2⟩, hR⟩ := hfin.out v' w2 hown2 hg2 hloc2; have hRh := Lib.hid hR; obtain ⟨g2, c2, rfl⟩ := ownsRow_succ hown2; clear hown2 hg2 hloc2 hR xg2)
  go_end0
  obtain ⟨-, rfl⟩ := hNh.out
  exact ⟨rfl, _, hRh.out⟩

set_option maxHeartbeats 8000000 in
theorem put_idle (s : Tx) (h : Rd w wr L long st nx vp vq (.slice none 0 0) qs [] false false []) (hqs : qs.length ≤ 100000000) (hl : ∀ q, qs.getLast? = some q → q.2.1 = true) :
    Calls Tryz.prog 57 #[.pointer (some ⟨L, 0, none⟩), .string (str s)] wr fun e w' => e = .returned (.tuple #[]) ∧ ∃ vp' u', Rd w w' L long st nx vp' vq u' qs [] true false [s] := by
  obtain ⟨i0, hi, hzz⟩ := Option.map_eq_some_iff.1 infoStr
  simp only [Prod.mk.injEq] at hzz
  obtain ⟨hz0, hz1, hz2⟩ := hzz
  obtain ⟨j0, hj, hyy⟩ := Option.map_eq_some_iff.1 infoPc
  simp only [Prod.mk.injEq] at hyy
  obtain ⟨hy0, hy1, hy2⟩ := hyy
  obtain ⟨cura, hcura⟩ : ∃ cura, ([] : Txs) = cura := ⟨_, rfl⟩
  obtain ⟨K, hK⟩ : ∃ K, cura.length = K := ⟨_, rfl⟩
  have hKa := Lib.hid hK
  have hqb := Lib.hid hqs
  have hmax : Hid (K + 1 ≤ maxLen ∧ (K + 1) * 16 ≤ 140737488355328) := Lib.hid (by rw [← hK, ← hcura]; exact ⟨by decide, by decide⟩)
  obtain ⟨Aq, cq, rfl⟩ := h.no_parts
  have hI : Hid (Calls Tryz.prog 29 #[.pointer (some ⟨L, 0, none⟩)] wr fun e w' => e = .returned (.bool false) ∧ wr = w') := Lib.hid (inConf_any L Aq 0 cq wr h.cells.2.2.1)
  obtain ⟨vqa, hvqa⟩ : ∃ vqa, Value.slice Aq 0 cq = vqa := ⟨_, rfl⟩
  rw [hvqa] at h ⊢
  rw [show ([s] : Txs) = cura ++ [s] by rw [← hcura]; rfl]
  have hcurah := Lib.hid hcura
  clear hvqa hK hcura
  obtain ⟨M, hM⟩ : ∃ M, qs.length = M := ⟨_, rfl⟩
  have hMh := Lib.hid hM
  have hmaxP : Hid (M + 1 ≤ maxLen ∧ (M + 1) * 80 ≤ 140737488355328) := Lib.hid ⟨by unfold maxLen; omega, by omega⟩
  have hownP : Hid (∀ W : World, Below wr.heap.size wr W → (W.alloc (.cells #[.bool false, .slice none 0 0, .slice none 0 0, .slice none 0 0] 40)).ownsRow w.heap.size 40 4 vp M (pcCs qs) ∧ w.heap.size ≤ (W.alloc (.cells #[.bool false, .slice none 0 0, .slice none 0 0, .slice none 0 0] 40)).heap.size) := Lib.hid (fun W hW => by
    have h1 := (h.up hW)
    have h2 := h1.pown
    rw [show qs.length + nB false = M from hM, show pcCs qs ++ tC false (.slice none 0 0) = pcCs qs from List.append_nil _] at h2
    exact ⟨h2.alloc _, by have := h1.below.size; simp; omega⟩)
  have hcellP : Hid (∀ W : World, ∀ j x, (pcC false ((none, 0, 0), (none, 0, 0), (none, 0, 0)))[j]? = some x → (W.alloc (.cells #[.bool false, .slice none 0 0, .slice none 0 0, .slice none 0 0] 40)).cell? ((⟨W.heap.size, 0, none⟩ : Addr).add j) = some x) := Lib.hid (fun W j x hx => by
    rw [addr_add, cells_of (one_a W _)]
    simpa [pcC, slcV] using hx)
  have hfinP : Hid (∀ (W : World) (v' : Value) (w2 : World), Below wr.heap.size wr W → w2.ownsRow w.heap.size 40 4 v' (M + 1) (pcCs qs ++ pcC false ((none, 0, 0), (none, 0, 0), (none, 0, 0))) → (W.alloc (.cells #[.bool false, .slice none 0 0, .slice none 0 0, .slice none 0 0] 40)).grownBy w2 vp.ownBlock → (v'.ownBlock = vp.ownBlock ∨ v'.ownBlock = some (W.alloc (.cells #[.bool false, .slice none 0 0, .slice none 0 0, .slice none 0 0] 40)).heap.size) →
      w2.frozen? ⟨L, 1, none⟩ = false ∧ (∃ x, w2.cell? ⟨L, 1, none⟩ = some x) ∧ Rd w (w2.setCell ⟨L, 1, none⟩ v') L long st nx v' vqa (.slice none 0 0) qs [] true false []) := Lib.hid (fun W v' w2 hW h1 h2 h3 => by
    rw [← hM] at h1
    exact (h.up hW).new_text h1 h2 h3)
  rcases Nat.eq_zero_or_pos M with hM0 | hM0
  · obtain ⟨A0, c0, hvp0⟩ : ∃ A c, vp = .slice A 0 c := by
      obtain ⟨A, c, e, -, -⟩ := h.pcs
      have h2 := h.pown
      rw [show qs.length + nB false = 0 by rw [hM, hM0]; rfl] at h2
      rcases h2.2 with ⟨e, _⟩ | ⟨g, cap, cur, e, _⟩
      · exact ⟨_, _, e⟩
      · exact ⟨_, _, e⟩
    have x10 := h.cells.2.1
    rw [hvp0] at x10 hownP hfinP
    have hbr := Below.refl wr.heap.size wr
    clear h hqs hl hvp0 hM hM0
    go_enter Tryz.func57, Tryz.ntmps57
    go_upto_region 3 with (go_at_call 29; refine hI.out.mono ?_; rintro e w1 ⟨rfl, rfl⟩)
    go_quiet (fail)
    obtain ⟨wb, hwb⟩ : ∃ wb, wb = wr.drewN nq := ⟨_, rfl⟩
    have hBb : Hid (Below wr.heap.size wr wb) := Lib.hid (by rw [hwb]; exact below_drewN hbr nq)
    have x10 : wb.cell? ⟨L, 1, none⟩ = some (.slice A0 0 c0) := by rw [hwb]; exact x10
    rw [← hwb]
    clear hwb hI hbr
    go_upto_region 5 with (at_builtin; refine wpList_append_own_at _ rfl _ _ 22 rfl w.heap.size 40 j0 (.agg #[.bool false, .slice none 0 0, .slice none 0 0, .slice none 0 0]) 4 80 Tryz.underlying22 hj hy0 hy1 hy2 rfl (by decide) _ M _ rfl (hownP.out wb hBb.out).1 ⟨wb.heap.size, 0, none⟩ 1 1 (pcC false ((none, 0, 0), (none, 0, 0), (none, 0, 0))) rfl rfl (hcellP.out wb) (pcC_one _ _) hmaxP.out.1 hmaxP.out.2 (hownP.out wb hBb.out).2 ?_; intro v' w2 hown2 hg2 hnil2 hloc2; clear hnil2; obtain ⟨y1, ⟨z1, y2⟩, hR⟩ := hfinP.out wb v' w2 hBb.out hown2 hg2 hloc2; have hRP := Lib.hid hR; obtain ⟨g2, c2, rfl⟩ := ownsRow_succ hown2; clear hown2 hg2 hloc2 hR x10)
    obtain ⟨wa, hwa⟩ : ∃ wa, wa = w2.setCell ⟨L, 1, none⟩ (.slice (some ⟨g2, 0, none⟩) (M + 1) c2) := ⟨_, rfl⟩
    obtain ⟨vpa, hvpa⟩ : ∃ vpa, Value.slice (some ⟨g2, 0, none⟩) (M + 1) c2 = vpa := ⟨_, rfl⟩
    obtain ⟨ua, hua⟩ : ∃ ua, Value.slice none 0 0 = ua := ⟨_, rfl⟩
    have hha : Hid (Rd w wa L long st nx vpa vqa ua qs [] true false cura) := Lib.hid (by rw [hwa, ← hvpa, ← hua, ← hcurah.out]; exact hRP.out)
    rw [← hwa]
    clear hwa hRP hvpa hua hownP hfinP hcellP y1 y2
    obtain ⟨m, hm⟩ : ∃ m, qs.length = m := ⟨_, rfl⟩
    obtain ⟨N, hN⟩ : ∃ N, m + 1 = N := ⟨_, rfl⟩
    obtain ⟨G, cap, hvpa, xb, xg⟩ := hha.out.last_text hm
    subst hvpa
    have x1 := hha.out.cells.2.1
    rw [hN] at x1
    have e0 : ((N : Int) == 0) = false := by simp; omega
    have e1 : (N : Int) - 1 = (m : Int) := by omega
    have e2 : IntKind.i64.wrap ((N : Int) - 1) = (m : Int) := by rw [e1]; exact IntWalk.i64_in _ (by have := hqb.out; omega)
    have e3 : IntKind.i64.wrap (m : Int) = (m : Int) := IntWalk.i64_in _ (by have := hqb.out; omega)
    have i1 : (0 : Int) ≤ (m : Int) := by omega
    have i2 : (m : Int) < (N : Int) := by omega
    have hNh := Lib.hid (And.intro hm hN)
    clear hN hm
    go_upto_region 5 with fail
    go_quiet (fail)
    obtain ⟨wo, hwo⟩ : ∃ wo, wo = wa.drewN nq := ⟨_, rfl⟩
    have hho := hha.out.up (below_drewN (Below.refl wa.heap.size wa) nq)
    have xg2 : (wa.drewN nq).cell? ⟨G, m * 4 + 1, none⟩ = some ua := xg
    rw [← hwo] at hho xg2 ⊢
    have hown : Hid ((wo.alloc (.cells #[.string (str s)] 9)).ownsRow w.heap.size 9 1 ua K (cura.map fun s => .string (str s))) := Lib.hid (by rw [← hKa.out]; exact hho.uown.alloc _)
    have hcell : Hid (∀ j x, ([.string (str s)] : List Value)[j]? = some x → (wo.alloc (.cells #[.string (str s)] 9)).cell? ((⟨wo.heap.size, 0, none⟩ : Addr).add j) = some x) := Lib.hid (fun j x hx => by
      rw [addr_add, cells_of (one_a wo _)]
      simpa using hx)
    have hbase : Hid (w.heap.size ≤ (wo.alloc (.cells #[.string (str s)] 9)).heap.size) := Lib.hid (by have := hho.below.size; simp; omega)
    have hfin : Hid (∀ (v' : Value) (w2 : World), w2.ownsRow w.heap.size 9 1 v' (K + 1) ((cura.map fun s => .string (str s)) ++ [.string (str s)]) → (wo.alloc (.cells #[.string (str s)] 9)).grownBy w2 ua.ownBlock → (v'.ownBlock = ua.ownBlock ∨ v'.ownBlock = some (wo.alloc (.cells #[.string (str s)] 9)).heap.size) →
        w2.frozen? ⟨G, m * 4 + 1, none⟩ = false ∧ (∃ x, w2.cell? ⟨G, m * 4 + 1, none⟩ = some x) ∧ Rd w (w2.setCell ⟨G, m * 4 + 1, none⟩ v') L long st nx (.slice (some ⟨G, 0, none⟩) N cap) vqa v' qs [] true false (cura ++ [s])) := Lib.hid (fun v' w2 h1 h2 h3 => by
      obtain ⟨rfl, rfl⟩ := hNh.out
      rw [← hKa.out] at h1
      exact hho.ext_text rfl h1 h2 h3)
    clear hho hwo xg xb x1
    go_wp2_with (at_builtin; refine wpList_append_own_at _ rfl _ _ 25 rfl w.heap.size 9 i0 (.string ByteArray.empty) 1 16 Tryz.underlying25 hi hz0 hz1 hz2 rfl (by decide) ua K _ rfl hown.out ⟨wo.heap.size, 0, none⟩ 1 1 [.string (str s)] rfl rfl hcell.out (by simp; rfl) hmax.out.1 hmax.out.2 hbase.out ?_; intro v' w2 hown2 hg2 hnil2 hloc2; clear hnil2; obtain ⟨y1, ⟨z1, y2⟩, hR⟩ := hfin.out v' w2 hown2 hg2 hloc2; have hRh := Lib.hid hR; obtain ⟨g2, c2, rfl⟩ := ownsRow_succ hown2; clear hown2 hg2 hloc2 hR xg2)
    go_end0
    exact ⟨rfl, _, _, hRh.out⟩
  · obtain ⟨m0, rfl⟩ : ∃ m0, M = m0 + 1 := ⟨M - 1, by omega⟩
    obtain ⟨G0, cap0, hvp0, xb0⟩ := h.last_conf hM (fun q hq => hl q (by rw [List.getLast?_eq_getElem?, hM]; exact hq))
    obtain ⟨N0, hN0⟩ : ∃ N0, m0 + 1 = N0 := ⟨_, rfl⟩
    have x10 := h.cells.2.1
    rw [hvp0] at x10 hownP hfinP
    rw [hN0] at x10 hownP hfinP hmaxP
    have e00 : ((N0 : Int) == 0) = false := by simp; omega
    have e10 : (N0 : Int) - 1 = (m0 : Int) := by omega
    have e20 : IntKind.i64.wrap ((N0 : Int) - 1) = (m0 : Int) := by rw [e10]; exact IntWalk.i64_in _ (by have := hqb.out; omega)
    have e30 : IntKind.i64.wrap (m0 : Int) = (m0 : Int) := IntWalk.i64_in _ (by have := hqb.out; omega)
    have i10 : (0 : Int) ≤ (m0 : Int) := by omega
    have i20 : (m0 : Int) < (N0 : Int) := by omega
    have hbr := Below.refl wr.heap.size wr
    clear h hqs hl hvp0 hM hM0 hN0 hMh
    go_enter Tryz.func57, Tryz.ntmps57
    go_upto_region 3 with (go_at_call 29; refine hI.out.mono ?_; rintro e w1 ⟨rfl, rfl⟩)
    go_quiet (fail)
    obtain ⟨wb, hwb⟩ : ∃ wb, wb = wr.drewN nq := ⟨_, rfl⟩
    have hBb : Hid (Below wr.heap.size wr wb) := Lib.hid (by rw [hwb]; exact below_drewN hbr nq)
    have x10 : wb.cell? ⟨L, 1, none⟩ = some (.slice (some ⟨G0, 0, none⟩) N0 cap0) := by rw [hwb]; exact x10
    rw [← hwb]
    clear hwb hI hbr xb0 e00 e10 e20 e30 i10 i20
    go_upto_region 5 with (at_builtin; refine wpList_append_own_at _ rfl _ _ 22 rfl w.heap.size 40 j0 (.agg #[.bool false, .slice none 0 0, .slice none 0 0, .slice none 0 0]) 4 80 Tryz.underlying22 hj hy0 hy1 hy2 rfl (by decide) _ N0 _ rfl (hownP.out wb hBb.out).1 ⟨wb.heap.size, 0, none⟩ 1 1 (pcC false ((none, 0, 0), (none, 0, 0), (none, 0, 0))) rfl rfl (hcellP.out wb) (pcC_one _ _) hmaxP.out.1 hmaxP.out.2 (hownP.out wb hBb.out).2 ?_; intro v' w2 hown2 hg2 hnil2 hloc2; clear hnil2; obtain ⟨y1, ⟨z1, y2⟩, hR⟩ := hfinP.out wb v' w2 hBb.out hown2 hg2 hloc2; have hRP := Lib.hid hR; obtain ⟨g2, c2, rfl⟩ := ownsRow_succ hown2; clear hown2 hg2 hloc2 hR x10)
    obtain ⟨wa, hwa⟩ : ∃ wa, wa = w2.setCell ⟨L, 1, none⟩ (.slice (some ⟨g2, 0, none⟩) (N0 + 1) c2) := ⟨_, rfl⟩
    obtain ⟨vpa, hvpa⟩ : ∃ vpa, Value.slice (some ⟨g2, 0, none⟩) (N0 + 1) c2 = vpa := ⟨_, rfl⟩
    obtain ⟨ua, hua⟩ : ∃ ua, Value.slice none 0 0 = ua := ⟨_, rfl⟩
    have hha : Hid (Rd w wa L long st nx vpa vqa ua qs [] true false cura) := Lib.hid (by rw [hwa, ← hvpa, ← hua, ← hcurah.out]; exact hRP.out)
    rw [← hwa]
    clear hwa hRP hvpa hua hownP hfinP hcellP y1 y2
    obtain ⟨m, hm⟩ : ∃ m, qs.length = m := ⟨_, rfl⟩
    obtain ⟨N, hN⟩ : ∃ N, m + 1 = N := ⟨_, rfl⟩
    obtain ⟨G, cap, hvpa, xb, xg⟩ := hha.out.last_text hm
    subst hvpa
    have x1 := hha.out.cells.2.1
    rw [hN] at x1
    have e0 : ((N : Int) == 0) = false := by simp; omega
    have e1 : (N : Int) - 1 = (m : Int) := by omega
    have e2 : IntKind.i64.wrap ((N : Int) - 1) = (m : Int) := by rw [e1]; exact IntWalk.i64_in _ (by have := hqb.out; omega)
    have e3 : IntKind.i64.wrap (m : Int) = (m : Int) := IntWalk.i64_in _ (by have := hqb.out; omega)
    have i1 : (0 : Int) ≤ (m : Int) := by omega
    have i2 : (m : Int) < (N : Int) := by omega
    have hNh := Lib.hid (And.intro hm hN)
    clear hN hm
    go_upto_region 5 with fail
    go_quiet (fail)
    obtain ⟨wo, hwo⟩ : ∃ wo, wo = wa.drewN nq := ⟨_, rfl⟩
    have hho := hha.out.up (below_drewN (Below.refl wa.heap.size wa) nq)
    have xg2 : (wa.drewN nq).cell? ⟨G, m * 4 + 1, none⟩ = some ua := xg
    rw [← hwo] at hho xg2 ⊢
    have hown : Hid ((wo.alloc (.cells #[.string (str s)] 9)).ownsRow w.heap.size 9 1 ua K (cura.map fun s => .string (str s))) := Lib.hid (by rw [← hKa.out]; exact hho.uown.alloc _)
    have hcell : Hid (∀ j x, ([.string (str s)] : List Value)[j]? = some x → (wo.alloc (.cells #[.string (str s)] 9)).cell? ((⟨wo.heap.size, 0, none⟩ : Addr).add j) = some x) := Lib.hid (fun j x hx => by
      rw [addr_add, cells_of (one_a wo _)]
      simpa using hx)
    have hbase : Hid (w.heap.size ≤ (wo.alloc (.cells #[.string (str s)] 9)).heap.size) := Lib.hid (by have := hho.below.size; simp; omega)
    have hfin : Hid (∀ (v' : Value) (w2 : World), w2.ownsRow w.heap.size 9 1 v' (K + 1) ((cura.map fun s => .string (str s)) ++ [.string (str s)]) → (wo.alloc (.cells #[.string (str s)] 9)).grownBy w2 ua.ownBlock → (v'.ownBlock = ua.ownBlock ∨ v'.ownBlock = some (wo.alloc (.cells #[.string (str s)] 9)).heap.size) →
        w2.frozen? ⟨G, m * 4 + 1, none⟩ = false ∧ (∃ x, w2.cell? ⟨G, m * 4 + 1, none⟩ = some x) ∧ Rd w (w2.setCell ⟨G, m * 4 + 1, none⟩ v') L long st nx (.slice (some ⟨G, 0, none⟩) N cap) vqa v' qs [] true false (cura ++ [s])) := Lib.hid (fun v' w2 h1 h2 h3 => by
      obtain ⟨rfl, rfl⟩ := hNh.out
      rw [← hKa.out] at h1
      exact hho.ext_text rfl h1 h2 h3)
    clear hho hwo xg xb x1
    go_wp2_with (at_builtin; refine wpList_append_own_at _ rfl _ _ 25 rfl w.heap.size 9 i0 (.string ByteArray.empty) 1 16 Tryz.underlying25 hi hz0 hz1 hz2 rfl (by decide) ua K _ rfl hown.out ⟨wo.heap.size, 0, none⟩ 1 1 [.string (str s)] rfl rfl hcell.out (by simp; rfl) hmax.out.1 hmax.out.2 hbase.out ?_; intro v' w2 hown2 hg2 hnil2 hloc2; clear hnil2; obtain ⟨y1, ⟨z1, y2⟩, hR⟩ := hfin.out v' w2 hown2 hg2 hloc2; have hRh := Lib.hid hR; obtain ⟨g2, c2, rfl⟩ := ownsRow_succ hown2; clear hown2 hg2 hloc2 hR xg2)
    go_end0
    exact ⟨rfl, _, _, hRh.out⟩
end
end Go.Proofs.YtcpopnhnihbofaaGreatDoor
/- Proved here, without conditions: digits of a small number, as the library tells them, and as the document does. -/
namespace Go.Proofs.YtcpopnhnihbofaaGreatDoor
set_option linter.unusedVariables false

theorem digits_num (j : Nat) (hj : j ≤ 16) : Lib.decDigits j = numT j := by
  rcases (by omega : j < 10 ∨ j = 10 ∨ j = 11 ∨ j = 12 ∨ j = 13 ∨ j = 14 ∨ j = 15 ∨ j = 16) with h | rfl | rfl | rfl | rfl | rfl | rfl | rfl
  · unfold Lib.decDigits numT
    rw [dif_pos h, if_neg (by omega)]
  all_goals
    unfold Lib.decDigits
    rw [dif_neg (by decide)]
    unfold Lib.decDigits
    rw [dif_pos (by decide)]
    rfl
end Go.Proofs.YtcpopnhnihbofaaGreatDoor
