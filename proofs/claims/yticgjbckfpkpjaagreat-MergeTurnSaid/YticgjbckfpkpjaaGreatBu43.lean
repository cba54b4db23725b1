/- Proved here: texts joined: MgLawE, Turns. -/
import Derived.Test.YticgjbckfpkpjaaGreatBu02
import Derived.Test.YticgjbckfpkpjaaGreatBu10
import Derived.Test.YticgjbckfpkpjaaGreatBu41
import Derived.RangeFuncBox
/- Proved here: what the statement MergeLone says, by the contracts of package merge. -/
namespace Go.Proofs.YticgjbckfpkpjaaGreat
open Go.RowKit
set_option linter.unusedVariables false
set_option maxRecDepth 100000

/-- Two rows of the call's own, side by side: one grows, the other one stands. -/
theorem rows_put {wo w2 : World} {B n m : Nat} {T : TypeId} {v u v' : Value} {xs ys : List Value} {o : Obj} (hu : wo.ownsRow B T 1 u m ys) (hap : ∀ q, v.ownBlock = some q → u.ownBlock ≠ some q) (hg : (wo.alloc o).grownBy w2 v.ownBlock) (hloc : v'.ownBlock = v.ownBlock ∨ v'.ownBlock = some (wo.alloc o).heap.size) :
    w2.ownsRow B T 1 u m ys ∧ ∀ q, v'.ownBlock = some q → u.ownBlock ≠ some q := by
  refine ⟨ownsRow_kept hu fun k e => ?_, fun q hq e => ?_⟩
  · have hk := (hu.lt k e).2
    exact (hg.block k (by simp; omega) (fun e2 => hap k e2.symm e)).trans (Below.heap_alloc wo o k hk)
  · have hk := (hu.lt q e).2
    rcases hloc with h | h
    · exact hap q (h.symm.trans hq) e
    · rw [h] at hq
      injection hq with hq
      simp at hq
      omega

/-- The sides of which just one isn't the base, as values, and as texts. -/
def loneL {α : Type} (b s : α) (p k : Nat) : List α := (List.range k).map fun i => if i = p then s else b
theorem loneL_snoc {α : Type} (b s : α) (p k : Nat) : loneL b s p (k + 1) = loneL b s p k ++ [if k = p then s else b] := by
  unfold loneL
  rw [List.range_succ, List.map_append]
  rfl
theorem loneL_len {α : Type} (b s : α) (p k : Nat) : (loneL b s p k).length = k := by simp [loneL]
theorem loneL_at {α : Type} (b s : α) (p : Nat) {k i : Nat} (h : i < k) : (loneL b s p k)[i]? = some (if i = p then s else b) := by
  unfold loneL
  rw [List.getElem?_map, List.getElem?_range h]
  rfl
theorem loneL_map {α β : Type} (f : α → β) (b s : α) (p k : Nat) : (loneL b s p k).map f = loneL (f b) (f s) p k := by
  unfold loneL
  rw [List.map_map]
  refine List.map_congr_left fun i _ => ?_
  simp only [Function.comp]
  split <;> rfl
theorem loneL_same {α : Type} (s : α) (p k : Nat) : loneL s s p k = List.replicate k s := by
  induction k with
  | zero => rfl
  | succ k ih => rw [loneL_snoc, ih, List.replicate_succ']; simp
theorem loneL_mem {α : Type} {b s x : α} {p k : Nat} (h : x ∈ loneL b s p k) : x = b ∨ x = s := by
  unfold loneL at h
  obtain ⟨i, _, rfl⟩ := List.mem_map.1 h
  split
  · exact .inr rfl
  · exact .inl rfl
theorem lone_rows {w : World} {A : Option Addr} {k p : Nat} {rb rs : Slc} {b s : Txs} (h : Reads w w.heap.size A k (loneL (slcV rb) (slcV rs) p k)) (hb : TxR w w.heap.size rb b) (hs : TxR w w.heap.size rs s) : RowsT w w.heap.size A k (loneL rb rs p k) (loneL b s p k) := by
  refine ⟨by rw [loneL_map]; exact h, by rw [loneL_len, loneL_len], fun i r ss h1 h2 => ?_⟩
  have hi : i < k := by have := (List.getElem?_eq_some_iff.1 h1).1; rwa [loneL_len] at this
  rw [loneL_at _ _ _ hi] at h1 h2
  injection h1 with h1
  injection h2 with h2
  subst h1
  subst h2
  split
  · exact hs
  · exact hb

/-- How far the loop has come: both rows. -/
def LoneIn (w wr : World) (rb rs : Slc) (p k : Nat) (u v : Value) : Prop :=
  wr.ownsRow w.heap.size 22 1 u k (loneL (slcV rb) (slcV rs) p k) ∧ wr.ownsRow w.heap.size 22 1 v k (loneL (slcV rs) (slcV rs) p k) ∧ (∀ q, v.ownBlock = some q → u.ownBlock ≠ some q) ∧ Below w.heap.size w wr
theorem LoneIn.same {w wo w2 : World} {rb rs : Slc} {p k : Nat} {u v v' : Value} {o : Obj} (h : LoneIn w wo rb rs p k u v) (hown : w2.ownsRow w.heap.size 22 1 v' (k + 1) (loneL (slcV rs) (slcV rs) p k ++ [slcV rs])) (hg : (wo.alloc o).grownBy w2 v.ownBlock) (hloc : v'.ownBlock = v.ownBlock ∨ v'.ownBlock = some (wo.alloc o).heap.size) :
    w2.ownsRow w.heap.size 22 1 u k (loneL (slcV rb) (slcV rs) p k) ∧ w2.ownsRow w.heap.size 22 1 v' (k + 1) (loneL (slcV rs) (slcV rs) p (k + 1)) ∧ (∀ q, v'.ownBlock = some q → u.ownBlock ≠ some q) ∧ Below w.heap.size w w2 := by
  obtain ⟨h1, h2, h3, h4⟩ := h
  obtain ⟨g1, g2⟩ := rows_put (v' := v') (n := k) (xs := []) h1 h3 hg hloc
  refine ⟨g1, ?_, g2, (h4.alloc h4.size o).grown hg (by have := h4.size; simp; omega) (fun j e => (h2.lt j e).1)⟩
  rw [loneL_snoc]
  simpa using hown
theorem LoneIn.lone {w wo w2 : World} {rb rs r : Slc} {p k : Nat} {u v u' : Value} {o : Obj} (hr : (if k = p then rs else rb) = r) (h : wo.ownsRow w.heap.size 22 1 u k (loneL (slcV rb) (slcV rs) p k) ∧ wo.ownsRow w.heap.size 22 1 v (k + 1) (loneL (slcV rs) (slcV rs) p (k + 1)) ∧ (∀ q, v.ownBlock = some q → u.ownBlock ≠ some q) ∧ Below w.heap.size w wo)
    (hown : w2.ownsRow w.heap.size 22 1 u' (k + 1) (loneL (slcV rb) (slcV rs) p k ++ [slcV r])) (hg : (wo.alloc o).grownBy w2 u.ownBlock) (hloc : u'.ownBlock = u.ownBlock ∨ u'.ownBlock = some (wo.alloc o).heap.size) : LoneIn w w2 rb rs p (k + 1) u' v := by
  obtain ⟨h1, h2, h3, h4⟩ := h
  obtain ⟨g1, g2⟩ := rows_put (v' := u') (n := k) (xs := []) h2 (fun q e e2 => h3 q e2 e) hg hloc
  refine ⟨?_, g1, fun q e e2 => g2 q e2 e, (h4.alloc h4.size o).grown hg (by have := h4.size; simp; omega) (fun j e => (h1.lt j e).1)⟩
  rw [loneL_snoc, show (if k = p then slcV rs else slcV rb) = slcV r by rw [← hr]; split <;> rfl]
  exact hown

/-- What becomes of sides each of which is the base, or one side. -/
theorem lone_merge {base side : Txs} {S : List Txs} {k : Nat} {er : Int} {ps : List Pc} (hw : wrongN base S = 0) (hs : smallR base S) (hb : base.length ≤ 16) (hk : S[k]? = some side) (hall : ∀ x ∈ S, x = base ∨ x = side) (h : MergesTo base S 0 false er ps) :
    er = 0 ∧ cleanB ps = true ∧ choose ps 0 = side ∧ ps.length ≤ 100 := by
  obtain ⟨rfl, ms, cs, a, b, rfl⟩ := merge_of hw ⟨Int.le_refl _, by omega, .inl rfl⟩ h
  obtain ⟨h1, h2⟩ := merge_lone a b hk hall 0
  exact ⟨rfl, h1, h2, (merge_len b hs hb 0 false).1⟩
theorem same_small {base side : Txs} {p k : Nat} (hk : 1 ≤ k) (h : fewM base (loneL side side p k) = true) (hw : wrongN base (loneL side side p k) = 0) (b : Txs) (hb : b = base ∨ b = side) :
    smallM base (loneL b side p k) ∧ smallR base (loneL b side p k) ∧ wrongN base (loneL b side p k) = 0 ∧ base.length ≤ 16 ∧ k ≤ 6 ∧ side.length ≤ 16 := by
  obtain ⟨u1, u2, u3, u4⟩ := fewM_small h
  obtain ⟨v1, v2, v3, v4, v5, v6⟩ := wrong_none hw
  rw [loneL_len] at u1 v1 v2
  have hmem : side ∈ loneL side side p k := List.mem_of_getElem? (i := 0) (by rw [loneL_at _ _ _ (by omega)]; split <;> rfl)
  obtain ⟨s1, s2⟩ := u4 side hmem
  have hd : ∀ d ∈ loneL b side p k, d = base ∨ d = side := fun d hd => by
    rcases loneL_mem hd with e | e
    · rcases hb with e2 | e2
      · exact .inl (e.trans e2)
      · exact .inr (e.trans e2)
    · exact .inr e
  have hd2 : ∀ d ∈ base :: loneL b side p k, d.length ≤ 16 ∧ ∀ s ∈ d, s.length ≤ 100 := fun d hd' => by
    rcases List.mem_cons.1 hd' with rfl | hd'
    · exact ⟨u2, u3⟩
    · rcases hd d hd' with rfl | rfl
      · exact ⟨u2, u3⟩
      · exact ⟨s1, s2⟩
  refine ⟨⟨by rw [loneL_len]; omega, fun d hd' => ⟨by have := (hd2 d hd').1; omega, fun s hs => by have := (hd2 d hd').2 s hs; omega⟩⟩, ⟨by rw [loneL_len]; omega, fun d hd' => ⟨by have := (hd2 d hd').1; omega, fun s hs => by have := (hd2 d hd').2 s hs; omega⟩⟩,
    wrong_zero (by rw [loneL_len]; omega) (by rw [loneL_len]; omega) v3 (fun d hd' => ?_) v5 (fun d hd' => by have := (hd2 d (List.mem_cons_of_mem _ hd')).1; omega), u2, u1, s1⟩
  rcases hd d hd' with rfl | rfl
  · exact v3
  · exact v4 _ hmem

section
variable (H : MergeOk)
include H

set_option maxHeartbeats 8000000 in
theorem MergeLone_walk (A0 : Option Addr) (n0 c0 : Nat) (base : Txs) (A1 : Option Addr) (n1 c1 : Nat) (side : Txs) (x y : Int) (w : World) (h0 : TxR w w.heap.size (A0, n0, c0) base) (h1 : TxR w w.heap.size (A1, n1, c1) side) (hx : 0 ≤ x ∧ x ≤ 255) (hy : 0 ≤ y ∧ y ≤ 255) :
    Calls Tryz.prog 7 #[.slice A0 n0 c0, .slice A1 n1 c1, .agg #[.int .u8 x, .int .u8 y]] w fun e w' => e = .returned (.bool true) ∧ Below w.heap.size w w' := by
  obtain ⟨W1, hW1⟩ : ∃ W1, W1 = w.alloc (.cells #[.int .u8 x, .int .u8 y] 57) := ⟨_, rfl⟩
  have hb1 : Below w.heap.size w W1 := by rw [hW1]; exact (Below.refl _ _).alloc (Nat.le_refl _) _
  have k1 : W1.heap[w.heap.size]? = some (.cells #[.int .u8 x, .int .u8 y] 57 (0, 0)) := by rw [hW1]; exact Go.Deep.blk_alloc_new w _
  have haw := Lib.hid (mAwake_any H W1)
  have hk1 := Lib.hid k1
  have hb1h := Lib.hid hb1
  have hlt : Hid (w.heap.size < W1.heap.size) := Lib.hid (Array.getElem?_eq_some_iff.1 k1).1
  obtain ⟨xn, rfl⟩ : ∃ xn : Nat, x = xn := ⟨x.toNat, by omega⟩
  obtain ⟨yn, rfl⟩ : ∃ yn : Nat, y = yn := ⟨y.toNat, by omega⟩
  obtain ⟨P, hP⟩ : ∃ P : Nat, xn % 5 = P := ⟨_, rfl⟩
  have hP5 : P < 5 := by omega
  have hPt : ((xn : Int)).tmod 5 = (P : Int) := by rw [← hP]; exact Int.ofNat_tmod xn 5 ▸ rfl
  obtain ⟨M, hM⟩ : ∃ M : Nat, P + 1 = M := ⟨_, rfl⟩
  have hMi : (1 : Int) + (P : Int) = (M : Int) := by omega
  obtain ⟨p, hp⟩ : ∃ p : Nat, yn % M = p := ⟨_, rfl⟩
  have hpM : p < M := by rw [← hp]; exact Nat.mod_lt _ (by omega)
  have hpt : ((yn : Int)).tmod (M : Int) = (p : Int) := by rw [← hp]; exact Int.ofNat_tmod yn M ▸ rfl
  have hM0 : ((M : Int) == 0) = false := by simp; omega
  have hMz : ¬ (M : Int) = 0 := by omega
  obtain ⟨i0, hi, hzz⟩ := Option.map_eq_some_iff.1 infoTxs
  simp only [Prod.mk.injEq] at hzz
  obtain ⟨hz0, hz1, hz2⟩ := hzz
  have hA0 := Lib.hid h0
  have hA1 := Lib.hid h1
  have hM6 : Hid (1 ≤ M ∧ M ≤ 5) := Lib.hid (by omega)
  have hxn : xn ≤ 255 := by omega
  have hyn : yn ≤ 255 := by omega
  subst hW1
  clear hb1 k1 h0 h1 hP hp hx hy
  go_enter Tryz.func7, Tryz.ntmps7
  go_wp2_with (go_at_call 10; refine haw.out.mono ?_; rintro e x1 ⟨rfl, hb⟩; have e1 := (hb.block _ hlt.out).trans hk1.out; have q0 : x1.cell? ⟨w.heap.size, 0, none⟩ = some (.int .u8 (xn : Int)) := (by rw [cells_of e1]; rfl); have q1 : x1.cell? ⟨w.heap.size, 1, none⟩ = some (.int .u8 (yn : Int)) := (by rw [cells_of e1]; rfl); have hB1 := Lib.hid (hb1h.out.trans (hb.mono hb1h.out.size)); clear hb e1)
  go_loopw [10, 11, 12] (fun su sv si wr => ∃ (k : Nat) (u v : Value), k ≤ M ∧ si = .int .i64 k ∧ u = su ∧ v = sv ∧ LoneIn w wr (A0, n0, c0) (A1, n1, c1) p k u v) (fun _ _ si _ => M - (intOf si).toNat)
  case atStart => exact ⟨0, _, _, Nat.zero_le _, rfl, rfl, rfl, World.ownsRow_nil _ _ _ _, World.ownsRow_nil _ _ _ _, fun q e => by simp [Value.ownBlock] at e, hB1.out⟩
  case round =>
    obtain ⟨k, u, v, hk, rfl, rfl, rfl, hL⟩ := hrel
    obtain ⟨wo, rfl⟩ : ∃ wo : World, wo = wr := ⟨_, rfl⟩
    by_cases hlt2 : k < M
    · have hmax : Hid (k + 1 ≤ maxLen ∧ (k + 1) * 24 ≤ 140737488355328) := Lib.hid ⟨by unfold maxLen; have := hM6.out; omega, by have := hM6.out; omega⟩
      have hsz := hL.2.2.2.size
      have hown := hL.2.1
      have hLh := Lib.hid hL
      have tok1 := trivial
      clear hL q0 q1
      by_cases hkp : k = p
      · have ht : ((k : Int) == (p : Int)) = true := by simp; omega
        have hr := Lib.hid (show (if k = p then (A1, n1, c1) else (A0, n0, c0)) = ((A1, n1, c1) : Slc) from if_pos hkp)
        clear hkp
        go_wp2_with (first
          | (at_builtin; have _t := tok1; refine wpList_append_own_at _ rfl _ _ 23 rfl w.heap.size 22 i0 (.slice none 0 0) 1 24 Tryz.underlying23 hi hz0 hz1 hz2 rfl (by decide) v k _ rfl (hown.alloc _) ⟨wo.heap.size, 0, none⟩ 1 1 [.slice A1 n1 c1] rfl rfl (cell_one_new _ _ _) (by simp [Value.oneCell']) hmax.out.1 hmax.out.2 (by simp; omega) ?_; intro v' w2 hown2 hg2 hnil2 hloc2; have h2 := Lib.hid (hLh.out.same (v' := v') (w2 := w2) (o := .cells #[.slice A1 n1 c1] 22) hown2 hg2 hloc2); have hownu := h2.out.1; have hsz2 := h2.out.2.2.2.size; obtain ⟨g', cap', rfl⟩ := ownsRow_succ hown2; clear tok1 hnil2 hown2 hg2 hloc2)
          | (at_builtin; refine wpList_append_own_at _ rfl _ _ 23 rfl w.heap.size 22 i0 (.slice none 0 0) 1 24 Tryz.underlying23 hi hz0 hz1 hz2 rfl (by decide) u k _ rfl (hownu.alloc _) ⟨w2.heap.size, 0, none⟩ 1 1 [.slice A1 n1 c1] rfl rfl (cell_one_new _ _ _) (by simp [Value.oneCell']) hmax.out.1 hmax.out.2 (by simp; omega) ?_; intro u' w3 hown3 hg3 hnil3 hloc3; have h3 := Lib.hid (LoneIn.lone (u' := u') (w2 := w3) (o := .cells #[.slice A1 n1 c1] 22) hr.out h2.out hown3 hg3 hloc3); clear hnil3 hown3 hg3 hloc3))
        go_roundw
        case rel => exact ⟨k + 1, _, _, by omega, by go_num, rfl, rfl, h3.out⟩
        case measure => simp [intOf]; omega
      · have ht : ((k : Int) == (p : Int)) = false := by simp; omega
        have hr := Lib.hid (show (if k = p then (A1, n1, c1) else (A0, n0, c0)) = ((A0, n0, c0) : Slc) from if_neg hkp)
        clear hkp
        go_wp2_with (first
          | (at_builtin; have _t := tok1; refine wpList_append_own_at _ rfl _ _ 23 rfl w.heap.size 22 i0 (.slice none 0 0) 1 24 Tryz.underlying23 hi hz0 hz1 hz2 rfl (by decide) v k _ rfl (hown.alloc _) ⟨wo.heap.size, 0, none⟩ 1 1 [.slice A1 n1 c1] rfl rfl (cell_one_new _ _ _) (by simp [Value.oneCell']) hmax.out.1 hmax.out.2 (by simp; omega) ?_; intro v' w2 hown2 hg2 hnil2 hloc2; have h2 := Lib.hid (hLh.out.same (v' := v') (w2 := w2) (o := .cells #[.slice A1 n1 c1] 22) hown2 hg2 hloc2); have hownu := h2.out.1; have hsz2 := h2.out.2.2.2.size; obtain ⟨g', cap', rfl⟩ := ownsRow_succ hown2; clear tok1 hnil2 hown2 hg2 hloc2)
          | (at_builtin; refine wpList_append_own_at _ rfl _ _ 23 rfl w.heap.size 22 i0 (.slice none 0 0) 1 24 Tryz.underlying23 hi hz0 hz1 hz2 rfl (by decide) u k _ rfl (hownu.alloc _) ⟨w2.heap.size, 0, none⟩ 1 1 [.slice A0 n0 c0] rfl rfl (cell_one_new _ _ _) (by simp [Value.oneCell']) hmax.out.1 hmax.out.2 (by simp; omega) ?_; intro u' w3 hown3 hg3 hnil3 hloc3; have h3 := Lib.hid (LoneIn.lone (u' := u') (w2 := w3) (o := .cells #[.slice A0 n0 c0] 22) hr.out h2.out hown3 hg3 hloc3); clear hnil3 hown3 hg3 hloc3))
        go_roundw
        case rel => exact ⟨k + 1, _, _, by omega, by go_num, rfl, rfl, h3.out⟩
        case measure => simp [intOf]; omega
    · obtain rfl : k = M := by omega
      clear q0 q1
      obtain ⟨hu, hv, -, hBo⟩ := hL
      obtain ⟨Al, cl, rfl, l1, l2, l3⟩ := own_slice hu
      obtain ⟨As, cs, rfl, s1, s2, s3⟩ := own_slice hv
      have hT0 := hA0.out.up hBo
      have hT1 := hA1.out.up hBo
      have hRl := lone_rows l3 hT0 hT1
      have hRs := lone_rows s3 hT1 hT1
      have hF := Lib.hid (mMay_any A0 n0 c0 base As k cs wo.heap.size _ (loneL side side p k) wo (Nat.le_trans hT0.1 hT0.2.1) (Nat.le_trans s1 s2) hT0.2.2 hRs)
      obtain ⟨fm, hfm⟩ : ∃ fm, (fewM base (loneL side side p k) && decide (wrongN base (loneL side side p k) = 0)) = fm := ⟨_, rfl⟩
      rw [hfm] at hF
      have hBoh := Lib.hid hBo
      cases fm
      · clear hu hv l1 l2 l3 s1 s2 s3 hT0 hT1 hRl hRs hfm hBo
        go_wp2_with (go_at_call 18; refine hF.out.mono ?_; rintro e x2 ⟨rfl, rfl⟩)
        go_ret
        exact ⟨rfl, hBoh.out⟩
      · obtain ⟨hfew, hwr⟩ := may_few hfm
        have hk1 : 1 ≤ k := hM6.out.1
        obtain ⟨g1, g2, g3, g4, g5, g6⟩ := same_small hk1 hfew hwr base (.inl rfl)
        obtain ⟨f1, f2, f3, f4, f5, f6⟩ := same_small hk1 hfew hwr side (.inr rfl)
        have hML : Hid (∀ (b : Txs) (rb : Slc) (Al : Option Addr) (cl : Nat) (W : World), (b = base ∨ b = side) → k ≤ cl → cl ≤ maxLen → Below wo.heap.size wo W → RowsT W W.heap.size Al k (loneL rb (A1, n1, c1) p k) (loneL b side p k) →
            Calls Tryz.prog 15 #[.slice A0 n0 c0, .slice Al k cl, .agg #[.int .i64 0, .bool false]] W fun e w' => ∃ A2 n2 c2 vs ps, e = .returned (.tuple #[.slice A2 n2 c2, .int .i64 0]) ∧ (n2 ≤ c2 ∧ c2 ≤ maxLen ∧ n2 ≤ 10000 ∧ cleanB ps = true ∧ choose ps 0 = side ∧ Pcs w' w'.heap.size A2 n2 vs ps) ∧ Below W.heap.size W w') := Lib.hid fun b rb Al cl W hb q1 q2 hW hR => by
          obtain ⟨j1, j2, j3, j4, j5, j6⟩ := same_small hk1 hfew hwr b hb
          refine (H.merge_ok A0 n0 c0 base Al k cl _ (loneL b side p k) 0 false W q1 q2 (by unfold inR64; omega) j1 (hT0.up hW) hR).mono ?_
          rintro e w' ⟨er, A2, n2, c2, vs, ps, rfl, r1, r2, r3, r4, r5⟩
          obtain ⟨rfl, t1, t2, t3⟩ := lone_merge (side := side) (k := p) j3 j2 j4 (by rw [loneL_at _ _ _ hpM, if_pos rfl]) (fun x hx => by
            rcases loneL_mem hx with e | e
            · rcases hb with e2 | e2
              · exact .inl (e.trans e2)
              · exact .inr (e.trans e2)
            · exact .inr e) r4
          exact ⟨A2, n2, c2, vs, ps, rfl, ⟨r1, r2, by have := r3.len; omega, t1, t2, r3⟩, r5⟩
        have hAll : Hid (∀ (A2 : Option Addr) (n2 c2 : Nat) (vs : List PcV) (ps : List Pc) (W : World), (n2 ≤ c2 ∧ c2 ≤ maxLen ∧ n2 ≤ 10000 ∧ cleanB ps = true ∧ choose ps 0 = side ∧ Pcs W W.heap.size A2 n2 vs ps) → Calls Tryz.prog 22 #[.slice A2 n2 c2, .int .i64 0] W fun e w' => ∃ A' n' c', e = .returned (.tuple #[.slice A' n' c', .bool true]) ∧ TxR w' w'.heap.size (A', n', c') side ∧ Below W.heap.size W w') := Lib.hid fun A2 n2 c2 vs ps W q => by
          refine (mAll_any H A2 n2 c2 vs ps 0 W q.1 q.2.1 q.2.2.1 (by rw [q.2.2.2.2.1]; omega) q.2.2.2.2.2).mono ?_
          rintro e w' ⟨A', n', c', rfl, r1, r2⟩
          exact ⟨A', n', c', by rw [q.2.2.2.1]; rfl, by rw [q.2.2.2.2.1] at r1; exact r1, r2⟩
        have hSame : Hid (∀ (A' : Option Addr) (n' c' : Nat) (W : World), Below w.heap.size w W → TxR W W.heap.size (A', n', c') side → Calls Tryz.prog 23 #[.slice A' n' c', .slice A1 n1 c1] W fun e w' => e = .returned (.bool true) ∧ ∃ q, w' = W.drewN q) := Lib.hid fun A' n' c' W hW hT => by
          have h9 := hA1.out.up hW
          have := Same_any A' A1 n' n1 c' c1 _ _ side side W (Nat.le_trans hT.1 hT.2.1) (Nat.le_trans h9.1 h9.2.1) hT.2.2 h9.2.2
          rw [show decide (side = side) = true from decide_eq_true rfl] at this
          exact this
        have hRlh := Lib.hid (And.intro l1 (And.intro l2 hRl))
        have hRsh := Lib.hid (And.intro s1 (And.intro s2 hRs))
        have tok1 := trivial
        have tok2 := trivial
        have tok3 := trivial
        clear hu hv l1 l2 l3 s1 s2 s3 hT0 hT1 hRl hRs hfm hfew hwr g1 g2 g3 g4 g5 g6 f1 f2 f3 f4 f5 f6 hk1 hBo
        go_wp2_with (first
          | (go_at_call 18; refine hF.out.mono ?_; rintro e x2 ⟨rfl, rfl⟩)
          | (go_at_call 15; have _t := tok1; refine (hML.out base (A0, n0, c0) _ _ _ (.inl rfl) hRlh.out.1 hRlh.out.2.1 (Below.refl _ _) hRlh.out.2.2).mono ?_; rintro e x3 ⟨A2, n2, c2, vs2, ps2, rfl, r1, r2⟩; have hP2 := Lib.hid r1; have hB3 := Lib.hid r2; clear tok1 r1 r2)
          | (go_at_call 22; have _t := tok2; refine (hAll.out _ _ _ _ _ _ hP2.out).mono ?_; rintro e x4 ⟨A3, n3, c3, rfl, r1, r2⟩; have hT3 := Lib.hid r1; have hB4 := Lib.hid (hB3.out.trans (r2.mono hB3.out.size)); clear tok2 r1 r2)
          | (go_at_call 15; refine (hML.out side (A1, n1, c1) _ _ _ (.inr rfl) hRsh.out.1 hRsh.out.2.1 hB4.out (hRsh.out.2.2.up hB4.out)).mono ?_; rintro e x5 ⟨A5, n5, c5, vs5, ps5, rfl, r1, r2⟩; have hP5 := Lib.hid r1; have hT4 := Lib.hid (hT3.out.up r2); have hB5 := Lib.hid (hB4.out.trans (r2.mono hB4.out.size)); clear r1 r2)
          | (go_at_call 22; refine (hAll.out _ _ _ _ _ _ hP5.out).mono ?_; rintro e x6 ⟨A6, n6, c6, rfl, r1, r2⟩; have hT6 := Lib.hid r1; have hT5 := Lib.hid (hT4.out.up r2); have hB6 := Lib.hid (hBoh.out.trans ((hB5.out.trans (r2.mono hB5.out.size)).mono hBoh.out.size)); clear r1 r2)
          | (go_at_call 23; have _t := tok3; refine (hSame.out _ _ _ _ hB6.out hT5.out).mono ?_; rintro e x7 ⟨rfl, q7, rfl⟩; clear tok3)
          | (go_at_call 23; refine (hSame.out _ _ _ _ (below_drewN hB6.out q7) ⟨hT6.out.1, hT6.out.2.1, hT6.out.2.2.drewN q7⟩).mono ?_; rintro e x8 ⟨rfl, q8, rfl⟩))
        go_ret
        exact ⟨rfl, below_drewN hB6.out (q7 + q8)⟩
end
end Go.Proofs.YticgjbckfpkpjaaGreat
/- Proved here, without conditions on the program: lists of texts in another turn, or with two more, as they are read. -/
namespace Go.Proofs.YticgjbckfpkpjaaGreat
open Go.RowKit
set_option linter.unusedVariables false

theorem size_up (w : World) (o : Obj) : (w.alloc o).heap.size = w.heap.size + 1 := by simp
/-- Rows in another turn. -/
theorem rowsT_turn {w : World} {B n nn : Nat} {A A' : Option Addr} {rows : List Slc} {sss : List Txs} (h : RowsT w B A n rows sss) (hr : Reads w B A' n ((rows.drop nn ++ rows.take nn).map slcV)) : RowsT w B A' n (rows.drop nn ++ rows.take nn) (sss.drop nn ++ sss.take nn) := by
  have hl := h.2.1
  refine ⟨hr, by simp [hl], fun k r ss a b => ?_⟩
  rcases Nat.lt_or_ge k (rows.drop nn).length with hk | hk
  · rw [List.getElem?_append_left hk, List.getElem?_drop] at a
    rw [List.getElem?_append_left (by simp at *; omega), List.getElem?_drop] at b
    exact h.2.2 _ r ss a b
  · rw [List.getElem?_append_right hk] at a
    rw [List.getElem?_append_right (by simp at *; omega)] at b
    have e : (sss.drop nn).length = (rows.drop nn).length := by simp [hl]
    rw [e] at b
    rw [List.getElem?_take] at a b
    split at a
    · rename_i hlt
      rw [if_pos hlt] at b
      exact h.2.2 _ r ss a b
    · cases a
/-- Two rows more. -/
theorem rowsT_more {w : World} {B n : Nat} {A A' : Option Addr} {rows : List Slc} {sss : List Txs} {r1 r2 : Slc} {s1 s2 : Txs} (h : RowsT w B A n rows sss) (h1 : TxR w B r1 s1) (h2 : TxR w B r2 s2) (hr : Reads w B A' (n + 2) (rows.map slcV ++ [slcV r1, slcV r2])) : RowsT w B A' (n + 2) (rows ++ [r1, r2]) (sss ++ [s1, s2]) := by
  have hl := h.2.1
  refine ⟨by rw [List.map_append]; exact hr, by simp [hl], fun k r ss a b => ?_⟩
  rcases Nat.lt_or_ge k rows.length with hk | hk
  · rw [List.getElem?_append_left hk] at a
    rw [List.getElem?_append_left (by omega)] at b
    exact h.2.2 _ r ss a b
  · rw [List.getElem?_append_right hk] at a
    rw [List.getElem?_append_right (by omega), ← hl] at b
    match hq : k - rows.length with
    | 0 => rw [hq] at a b; simp at a b; subst a; subst b; exact h1
    | 1 => rw [hq] at a b; simp at a b; subst a; subst b; exact h2
    | j + 2 => rw [hq] at a; simp at a
theorem two_new (w : World) (t : TypeId) (r1 r2 : Slc) (B : Nat) (hB : w.heap.size < B) : Reads (w.alloc (.cells #[slcV r1, slcV r2] t)) B (some ⟨w.heap.size, 0, none⟩) 2 [slcV r1, slcV r2] := by
  refine ⟨rfl, fun _ => ⟨w.heap.size, 0, rfl, hB, fun j u hu => ?_⟩⟩
  rw [World.cell?_alloc_mark, Nat.zero_add]
  simpa using hu

end Go.Proofs.YticgjbckfpkpjaaGreat
