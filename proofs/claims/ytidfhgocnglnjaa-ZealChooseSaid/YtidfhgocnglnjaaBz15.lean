/- Proved here: texts joined: ZlTrim, ConNormal, ConZeal, ConClean, ConChoose. -/
import Derived.Test.YtidfhgocnglnjaaBz10
import Derived.Test.YtidfhgocnglnjaaBz11
import Derived.Test.YtidfhgocnglnjaaBz14
import Derived.Deep.RegionHeld3
import Derived.RangeFuncBox
/- Proved here: the contract of the document's own answer of layer 10: Trim. -/
namespace Go.Proofs.Ytidfhgocnglnjaa
open Go.RowKit
set_option linter.unusedVariables false
set_option maxRecDepth 100000

section
variable {w W w2 : World} {lo : Nat} {r : Slc} {v : PcV} {p : Pc} {ss : Txs}
/-- The blocks that a caller has made, and a call must not share. -/
def FLo (lo : Nat) (w : World) (k : Nat) : Prop := lo ≤ k ∧ k < w.heap.size
theorem cell_lo (hlo : lo ≤ w.heap.size) (hW : Below w.heap.size w W) (hb : But (FLo lo w) W w2) : (∀ q : Addr, q.block < lo → w2.cell? q = w.cell? q) ∧ lo ≤ w2.heap.size := by
  have h1 := hW.size
  have h2 := hb.size
  exact ⟨fun q hq => (World.cell?_of_block (hb.block q.block (by omega) (fun h => by unfold FLo at h; omega))).trans (hW.cell (by omega)), by omega⟩
theorem TxR.loF (h : TxR w lo r ss) (hlo : lo ≤ w.heap.size) (hW : Below w.heap.size w W) (hb : But (FLo lo w) W w2) : TxR w2 w2.heap.size r ss := (h.keep (cell_lo hlo hW hb).1).more (cell_lo hlo hW hb).2
theorem PcR.loF (h : PcR w lo v p) (hlo : lo ≤ w.heap.size) (hW : Below w.heap.size w W) (hb : But (FLo lo w) W w2) : PcR w2 w2.heap.size v p := (h.keep (cell_lo hlo hW hb).1).more (cell_lo hlo hW hb).2
end
/-- Texts that were there, by a row of the call's own. -/
def ZRow (w : World) (lo Bz : Nat) (wr : World) (v : Value) (rs : List Slc) (xs : List Txs) : Prop :=
  wr.ownsRow Bz 22 1 v rs.length (rs.map slcV) ∧ rs.length = xs.length ∧ ∀ (i : Nat) (r : Slc) (d : Txs), rs[i]? = some r → xs[i]? = some d → TxR w lo r d
section
variable {w wr w2 : World} {lo Bz : Nat} {v v' : Value} {rs : List Slc} {xs : List Txs} {r : Slc} {d : Txs}
theorem ZRow.start (w : World) (lo Bz : Nat) (wr : World) : ZRow w lo Bz wr (.slice none 0 0) [] [] := ⟨World.ownsRow_nil _ _ _ _, rfl, fun i r d h => by simp at h⟩
theorem ZRow.put (h : ZRow w lo Bz wr v rs xs) (hown : w2.ownsRow Bz 22 1 v' (rs.length + 1) (rs.map slcV ++ [slcV r])) (hT : TxR w lo r d) : ZRow w lo Bz w2 v' (rs ++ [r]) (xs ++ [d]) := by
  refine ⟨by rw [List.length_append, List.map_append]; exact hown, by simp [h.2.1], fun i r' d' a b => ?_⟩
  rcases Nat.lt_or_ge i rs.length with hi | hi
  · rw [List.getElem?_append_left hi] at a
    rw [List.getElem?_append_left (by rw [← h.2.1]; exact hi)] at b
    exact h.2.2 i r' d' a b
  · rw [List.getElem?_append_right hi] at a
    rw [List.getElem?_append_right (by rw [← h.2.1]; exact hi), ← h.2.1] at b
    match hq : i - rs.length with
    | 0 => rw [hq] at a b; simp at a b; subst a; subst b; exact hT
    | j + 1 => rw [hq] at a; simp at a
theorem ZRow.rows (h : ZRow w lo Bz wr v rs xs) (hlo : lo ≤ w.heap.size) (hb : Below w.heap.size w wr) : ∃ A c, v = .slice A rs.length c ∧ rs.length ≤ c ∧ c ≤ maxLen ∧ RowsT wr wr.heap.size A rs.length rs xs := by
  obtain ⟨A, c, e, h1, h2, h3⟩ := own_slice h.1
  exact ⟨A, c, e, h1, h2, h3, h.2.1, fun k r ss a b => ((h.2.2 k r ss a b).more hlo).up hb⟩
/-- The rows stand, whatever becomes of the blocks of FLo. -/
theorem ZRow.rowsF {A : Option Addr} {n c : Nat} (h : ZRow w lo Bz wr v rs xs) (hv : v = .slice A n c) (hlo : lo ≤ w.heap.size) (hB : w.heap.size ≤ Bz) (hb : Below w.heap.size w wr) (hF : But (FLo lo w) wr w2) : SlcR w2 w2.heap.size (A, n, c) xs := by
  have hown := ownsRow_kept h.1 (w' := w2) fun k e => hF.block k (h.1.lt k e).2 (fun hf => by unfold FLo at hf; have := (h.1.lt k e).1; omega)
  obtain ⟨A', c', e, h1, h2, h3⟩ := own_slice hown
  rw [hv] at e
  injection e with e1 e2 e3
  subst e1
  subst e2
  subst e3
  exact ⟨h1, h2, rs, h3, h.2.1, fun k r ss a b => (h.2.2 k r ss a b).loF hlo hb hF⟩
end

/-- A conflict's sides are neither many nor long. -/
def smallP (p : Pc) : Prop := p.2.1.length ≤ 5000 ∧ p.2.2.2.length ≤ 1000 ∧ (∀ d ∈ p.2.2.2, d.length ≤ 5000) ∧ p.2.2.1.length ≤ 10000

set_option maxHeartbeats 2000000 in
/-- A piece that stays: a text, or a conflict without sides. -/
theorem rTrim_stay (lo : Nat) (v : PcV) (p : Pc) (w : World) (hlo : lo ≤ w.heap.size) (hsm : smallP p) (hP : PcR w lo v p) (h : p.1 = false ∨ p.2.2.2 = []) :
    Calls Try.prog 12 #[.agg #[.bool p.1, .slice v.1.1 v.1.2.1 v.1.2.2, .slice v.2.1.1 v.2.1.2.1 v.2.1.2.2, .slice v.2.2.1 v.2.2.2.1 v.2.2.2.2]] w fun e w' => PcsLo lo w w' e (trimD p) := by
  have hd : trimD p = normal [p] := by
    rcases h with h | h
    · exact trimD_text h
    · exact trimD_bare h
  rw [hd]
  obtain ⟨cf, t, bs, ss⟩ := p
  obtain ⟨⟨A1, n1, c1⟩, ⟨A2, n2, c2⟩, ⟨A3, n3, c3⟩⟩ := v
  have hn3 : ss.length = n3 := by obtain ⟨_, _, _, h4⟩ := hP.2.2; exact h4.len
  have hs1 : t.length ≤ 5000 := hsm.1
  have hN : Hid (∀ W : World, Below w.heap.size w W → W.heap[w.heap.size + 1]? = some (pcObj cf ((A1, n1, c1), (A2, n2, c2), (A3, n3, c3))) → Calls Try.prog 20 #[.slice (some ⟨w.heap.size + 1, 0, none⟩) 1 1] W fun e w' => PcsLo lo w w' e (normal [(cf, t, bs, ss)])) := Lib.hid (fun W hW hg => by
    refine (rNormalF_any (FLo lo w) _ 1 1 _ [(cf, t, bs, ss)] W (by omega) (by simp [sumT]; omega) (pcs_one (p := (cf, t, bs, ss)) hg ((hP.more hlo).up hW)) (fun k hk => Nat.lt_of_lt_of_le hk.2 hW.size) (fun w2 hb j v p a b _ => ?_)).mono ?_
    · match j, a, b with
      | 0, a, b => simp at a b; subst a; subst b; exact hP.loF hlo hW hb
      | j + 1, a, b => simp at a
    · rintro e w' ⟨A, n, c, vs, h1, h2, h3, h4, h5⟩
      exact ⟨A, n, c, vs, h1, h2, h3, h4, hW.trans (h5.mono hW.size)⟩)
  obtain ⟨hB2, hk2⟩ : Below w.heap.size w ((w.alloc (pcObj cf ((A1, n1, c1), (A2, n2, c2), (A3, n3, c3)))).alloc (pcObj cf ((A1, n1, c1), (A2, n2, c2), (A3, n3, c3)))) ∧ ((w.alloc (pcObj cf ((A1, n1, c1), (A2, n2, c2), (A3, n3, c3)))).alloc (pcObj cf ((A1, n1, c1), (A2, n2, c2), (A3, n3, c3)))).heap[w.heap.size + 1]? = some (pcObj cf ((A1, n1, c1), (A2, n2, c2), (A3, n3, c3))) := ⟨below_alloc (below_alloc (Below.refl _ _) _) _, (two_a w _ _).2⟩
  have hh := Lib.hid (And.intro hB2 hk2)
  dsimp only at h ⊢
  clear hP hsm hd hs1 hB2 hk2 hlo
  cases cf
  · clear h
    go_enter Try.func12, Try.ntmps12
    go_wp2_with (go_at_call 20; refine (hN.out _ hh.out.1 hh.out.2).mono ?_; rintro e w1 ⟨A5, n5, c5, vs5, rfl, q1, q2, q3, q4⟩; have hq := Lib.hid (And.intro q1 (And.intro q2 (And.intro q3 q4))); clear q1 q2 q3 q4)
    go_ret
    exact ⟨A5, n5, c5, vs5, rfl, hq.out⟩
  · have hs : n3 = 0 := by
      rcases h with h | h
      · cases h
      · rw [h] at hn3; exact hn3.symm
    subst hs
    clear h hn3
    go_enter Try.func12, Try.ntmps12
    go_wp2_with (go_at_call 20; refine (hN.out _ hh.out.1 hh.out.2).mono ?_; rintro e w1 ⟨A5, n5, c5, vs5, rfl, q1, q2, q3, q4⟩; have hq := Lib.hid (And.intro q1 (And.intro q2 (And.intro q3 q4))); clear q1 q2 q3 q4)
    go_ret
    exact ⟨A5, n5, c5, vs5, rfl, hq.out⟩
end Go.Proofs.Ytidfhgocnglnjaa
/- What the statements ask of pick.Normal. -/
namespace Go.Proofs.Ytidfhgocnglnjaa
open Go.RowKit
set_option linter.unusedVariables false

/-- Conflicts that aren't too long. -/
def smallN (ps : List Pc) : Prop := ∀ p ∈ ps, p.2.2.2.length ≤ 1000 ∧ ∀ d ∈ p.2.2.1 :: p.2.2.2, d.length ≤ 1000000
theorem smallN_text (t : Txs) : (tPc t).2.2.2.length ≤ 1000 ∧ ∀ d ∈ (tPc t).2.2.1 :: (tPc t).2.2.2, d.length ≤ 1000000 :=
  ⟨by simp [tPc], fun d hd => by simp [tPc] at hd; subst hd; simp⟩
theorem smallN_join (t : Txs) : ∀ {r : List Pc}, smallN r → smallN (joinT t r)
  | [], h => by
    show smallN (if t = [] then [] else [tPc t])
    by_cases e : t = []
    · rw [if_pos e]; exact h
    · rw [if_neg e]
      intro p hp
      rw [List.mem_singleton.1 hp]
      exact smallN_text t
  | (false, x, b, s) :: r, h => by
    intro p hp
    rcases List.mem_cons.1 hp with rfl | hp
    · exact h (false, x, b, s) (List.mem_cons_self ..)
    · exact h _ (List.mem_cons_of_mem _ hp)
  | (true, x, b, s) :: r, h => by
    show smallN (if t = [] then (true, x, b, s) :: r else tPc t :: (true, x, b, s) :: r)
    by_cases e : t = []
    · rw [if_pos e]; exact h
    · rw [if_neg e]
      intro p hp
      rcases List.mem_cons.1 hp with rfl | hp
      · exact smallN_text t
      · exact h _ hp
theorem smallN_normal : ∀ {ps : List Pc}, smallN ps → smallN (normal ps)
  | [], h => h
  | (true, x, b, s) :: l, h => by
    intro p hp
    rcases List.mem_cons.1 hp with rfl | hp
    · exact h (true, x, b, s) (List.mem_cons_self ..)
    · exact smallN_normal (fun q hq => h q (List.mem_cons_of_mem _ hq)) p hp
  | (false, t, b, s) :: l, h => smallN_join t (smallN_normal fun q hq => h q (List.mem_cons_of_mem _ hq))

theorem sumT_join (t : Txs) : ∀ r : List Pc, sumT (joinT t r) = t.length + sumT r
  | [] => by unfold joinT; by_cases h : t = [] <;> simp [h, sumT, tPc]
  | (false, x, b, s) :: r => by simp [joinT, sumT]; omega
  | (true, x, b, s) :: r => by unfold joinT; by_cases h : t = [] <;> simp [h, sumT, tPc]
theorem sumT_normal : ∀ ps : List Pc, sumT (normal ps) ≤ sumT ps
  | [] => by simp [normal]
  | (true, t, b, s) :: l => by
    have := sumT_normal l
    rw [normal, sumT_cons, sumT_cons]
    show ([] : Txs).length + _ ≤ _
    simp
    omega
  | (false, t, b, s) :: l => by
    have := sumT_normal l
    rw [normal, sumT_join, sumT_cons]
    show _ ≤ t.length + _
    omega

theorem len_join (t : Txs) : ∀ r : List Pc, (joinT t r).length ≤ r.length + 1
  | [] => by unfold joinT; by_cases h : t = [] <;> simp [h]
  | (false, x, b, s) :: r => by simp [joinT]
  | (true, x, b, s) :: r => by unfold joinT; by_cases h : t = [] <;> simp [h]
theorem len_normal : ∀ ps : List Pc, (normal ps).length ≤ ps.length
  | [] => Nat.le_refl _
  | (true, x, b, s) :: l => by
    have := len_normal l
    simp [normal]
    omega
  | (false, x, b, s) :: l => by
    have h1 := len_normal l
    have h2 := len_join x (normal l)
    simp only [normal, List.length_cons]
    omega
theorem sumT_mem {ps : List Pc} {p : Pc} (h : p ∈ ps) : p.2.1.length ≤ sumT ps := by
  induction ps with
  | nil => simp at h
  | cons q ps ih =>
    rw [sumT_cons]
    rcases List.mem_cons.1 h with rfl | h
    · omega
    · have := ih h
      omega
theorem sumT_take (ps : List Pc) (i : Nat) : sumT (ps.take i) ≤ sumT ps := by
  induction ps generalizing i with
  | nil => simp
  | cons p ps ih =>
    cases i with
    | zero => simp [sumT]
    | succ i =>
      rw [List.take_succ_cons, sumT_cons, sumT_cons]
      have := ih i
      omega

/-- The contract of pick.Normal. -/
def PickNormalOk : Prop := ∀ (A : Option Addr) (n c : Nat) (vs : List PcV) (ps : List Pc) (w : World), n ≤ c → c ≤ maxLen → n ≤ 10000 → sumT ps ≤ 1000000 → smallN ps → Pcs w w.heap.size A n vs ps →
    Calls Try.prog 18 #[.slice A n c] w fun e w' => PcsOut w w' e (normal ps)
end Go.Proofs.Ytidfhgocnglnjaa
/- What the statements ask of package zeal. -/
namespace Go.Proofs.Ytidfhgocnglnjaa
open Go.RowKit
set_option linter.unusedVariables false

/-- The contract of zeal.Trim. -/
def ZealTrimOk : Prop := ∀ (lo : Nat) (v : PcV) (p : Pc) (w : World), lo ≤ w.heap.size → smallP p → PcR w lo v p →
    Calls Try.prog 11 #[.agg #[.bool p.1, .slice v.1.1 v.1.2.1 v.1.2.2, .slice v.2.1.1 v.2.1.2.1 v.2.1.2.2, .slice v.2.2.1 v.2.2.2.1 v.2.2.2.2]] w fun e w' => PcsLo lo w w' e (trimD p)
/-- Pieces that are neither many nor long. -/
def smallZ (ps : List Pc) : Prop := ps.length ≤ 100 ∧ ∀ p ∈ ps, smallP p
/-- The contract of zeal.Zeal. -/
def ZealZealOk : Prop := ∀ (lo : Nat) (A : Option Addr) (n c : Nat) (vs : List PcV) (ps : List Pc) (w : World), n ≤ c → c ≤ maxLen → lo ≤ w.heap.size → smallZ ps → Pcs w lo A n vs ps →
    Calls Try.prog 13 #[.slice A n c] w fun e w' => PcsLo lo w w' e (zealD ps)

theorem trimL_sum {f base : Txs} {ds : List Txs} : sumT (trimL base f ds) ≤ 2 * f.length ∧ (trimL base f ds).length ≤ 3 := by
  unfold trimL
  dsimp only
  split
  · simp [sumT, tPc]; omega
  · simp only [sumT, tPc, cPc, List.map_cons, List.map_nil, List.sum_cons, List.sum_nil, List.length_take, List.length_drop, List.length_nil, List.length_cons]
    omega
theorem trimD_sum {p : Pc} (h : smallP p) : sumT (trimD p) ≤ 10000 ∧ (trimD p).length ≤ 3 := by
  obtain ⟨cf, t, bs, ss⟩ := p
  have one : sumT (normal [(cf, t, bs, ss)]) ≤ 10000 ∧ (normal [(cf, t, bs, ss)]).length ≤ 3 := by
    have h1 := sumT_normal [(cf, t, bs, ss)]
    have h2 := len_normal [(cf, t, bs, ss)]
    have h3 := h.1
    simp [sumT] at h1 h2 h3
    simp [sumT]
    omega
  cases cf with
  | false => exact one
  | true =>
    cases ss with
    | nil => exact one
    | cons f ds =>
      show sumT (normal (trimL bs f (f :: ds))) ≤ 10000 ∧ (normal (trimL bs f (f :: ds))).length ≤ 3
      have h1 := sumT_normal (trimL bs f (f :: ds))
      have h2 := len_normal (trimL bs f (f :: ds))
      have h3 := trimL_sum (base := bs) (f := f) (ds := f :: ds)
      have h4 : f.length ≤ 5000 := h.2.2.1 f (List.mem_cons_self ..)
      omega
theorem flat_sum : ∀ {ps : List Pc}, (∀ p ∈ ps, smallP p) → sumT (ps.flatMap trimD) ≤ ps.length * 10000 ∧ (ps.flatMap trimD).length ≤ ps.length * 3
  | [], _ => by simp [sumT]
  | p :: ps, h => by
    obtain ⟨h1, h2⟩ := flat_sum (ps := ps) fun q hq => h q (List.mem_cons_of_mem _ hq)
    obtain ⟨h3, h4⟩ := trimD_sum (h p (List.mem_cons_self ..))
    rw [List.flatMap_cons, List.length_append, List.length_cons]
    have e : sumT (trimD p ++ ps.flatMap trimD) = sumT (trimD p) + sumT (ps.flatMap trimD) := by simp [sumT]
    rw [e]
    omega
end Go.Proofs.Ytidfhgocnglnjaa
/- What the statements ask of pick.Clean. -/
namespace Go.Proofs.Ytidfhgocnglnjaa
open Go.RowKit
set_option linter.unusedVariables false

/-- The contract of pick.Clean. -/
def PickCleanOk : Prop := ∀ (A : Option Addr) (n c : Nat) (vs : List PcV) (ps : List Pc) (w : World), n ≤ c → c ≤ maxLen → n ≤ 10000 → Pcs w w.heap.size A n vs ps →
    Calls Try.prog 21 #[.slice A n c] w fun e w' => e = .returned (.bool (cleanB ps)) ∧ Below w.heap.size w w'
end Go.Proofs.Ytidfhgocnglnjaa
/- What the statements ask of pick.Choose. -/
namespace Go.Proofs.Ytidfhgocnglnjaa
open Go.RowKit
set_option linter.unusedVariables false

/-- The contract of pick.Choose. -/
def PickChooseOk : Prop := ∀ (A : Option Addr) (n c : Nat) (vs : List PcV) (ps : List Pc) (z : Int) (w : World), n ≤ c → c ≤ maxLen → n ≤ 10000 → inR64 z → (choose ps z).length ≤ 1000000 → Pcs w w.heap.size A n vs ps →
    Calls Try.prog 16 #[.slice A n c, .int .i64 z] w fun e w' => TxsOut w w' e (choose ps z)
end Go.Proofs.Ytidfhgocnglnjaa
