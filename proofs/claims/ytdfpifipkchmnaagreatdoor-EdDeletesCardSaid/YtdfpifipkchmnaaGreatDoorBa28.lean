/- Proved here: texts joined: EdInsL. -/
import Derived.Test.YtdfpifipkchmnaaGreatDoorBa16
import Derived.Test.YtdfpifipkchmnaaGreatDoorBa27
/- Proved here: what slices.Insert makes of a row of texts of the call's own. -/
namespace Go.Proofs.YtdfpifipkchmnaaGreatDoor
open Go.RowKit
set_option linter.unusedVariables false
set_option maxRecDepth 100000

/-- A row of texts of the call's own, made of another one. -/
def RowOut (base : Nat) (v : Value) (w w' : World) (e : Ending) (zs : Txs) : Prop := ∃ v', e = .returned v' ∧ w'.ownsRow base 9 1 v' zs.length (txC zs) ∧ But (fun k => v.ownBlock = some k) w w'

theorem But.fresh {F : Nat → Prop} {w w' : World} (h : But (fun k => k = w.heap.size) w w') : But F w w' := ⟨h.os, h.tape, h.output, h.size, fun k hk hn => h.block k hk (fun e => by omega)⟩
theorem layX_len {xs ys : Txs} {i j : Nat} (h : i ≤ j) (hj : j ≤ xs.length) : (layE xs i j ys).length = i + ys.length + (xs.length - j) := by
  unfold layE
  simp only [List.length_append, List.length_take, List.length_drop]
  omega
theorem lay_txC (xs ys : Txs) (i j : Nat) : txC (layE xs i j ys) = (txC xs).take i ++ txC ys ++ (txC xs).drop j := by
  unfold layE
  rw [txC_app, txC_app, txC_take, txC_drop]
/-- First what stands behind, then the text. -/
theorem set_two {L a b : List Value} {i m : Nat} (hm : a.length = m) (hl : i + m + b.length ≤ L.length) : (setL (setL L (i + m) b) i a).take (i + m + b.length) = L.take i ++ a ++ b := by
  have h1 : (setL L (i + m) b).take i = L.take i := by
    unfold setL
    rw [List.append_assoc, List.take_append_of_le_length (by rw [List.length_take]; omega), List.take_take, Nat.min_eq_left (by omega)]
  have h2 : (setL L (i + m) b).drop (i + m) = b ++ L.drop (i + m + b.length) := by
    unfold setL
    rw [List.append_assoc, List.drop_append_of_le_length (by rw [List.length_take]; omega), List.drop_of_length_le (by rw [List.length_take]; omega)]
    rfl
  unfold setL at h1 h2 ⊢
  rw [h1, hm, h2, ← List.append_assoc, List.take_left' (by simp only [List.length_append, List.length_take]; omega)]
/-- First the text, then what stands behind. -/
theorem set_fro {L a b : List Value} {i m : Nat} (hm : a.length = m) (hl : i + m + b.length ≤ L.length) : (setL (setL L i a) (i + m) b).take (i + m + b.length) = L.take i ++ a ++ b := by
  have h1 : (setL L i a).take (i + m) = L.take i ++ a := by
    unfold setL
    rw [List.take_left' (by simp only [List.length_append, List.length_take]; omega)]
  unfold setL at h1 ⊢
  rw [h1, List.take_left' (by simp only [List.length_append, List.length_take]; omega)]
theorem set_one_take {L a : List Value} {i m : Nat} (hm : a.length = m) (hl : i + m ≤ L.length) : (setL L i a).take (i + m) = L.take i ++ a := by
  unfold setL
  rw [List.take_left' (by simp only [List.length_append, List.length_take]; omega)]

section
variable {w : World} {base base2 i : Nat} {v v2 : Value} {xs ys : Txs}
set_option maxHeartbeats 2000000 in
theorem insert_nothing (hi : i ≤ xs.length) (hsz : xs.length ≤ 1000000) (h1 : w.ownsRow base 9 1 v xs.length (txC xs)) (h2 : w.ownsRow base2 9 1 v2 0 []) :
    Calls Tryz.prog 87 #[v, .int .i64 (i : Int), v2] w fun e w' => RowOut base v w w' e (layE xs i i []) := by
  have hz : layE xs i i [] = xs := by simp [layE]
  rw [hz]
  have h1h := Lib.hid h1
  obtain ⟨A, c, rfl, hc1, hc2, hr⟩ := own_slice h1
  obtain ⟨A2, c2, rfl, -, -, -⟩ := own_slice h2
  obtain ⟨N, hN⟩ : ∃ N, xs.length = N := ⟨_, rfl⟩
  have hT : TxR w w.heap.size (A, xs.length, c) xs := ⟨hc1, hc2, hr⟩
  rw [hN] at hT hi
  obtain ⟨A3, m3, q3, hsl, -, -⟩ := slice_from (k := i) hT hi
  have hNh := Lib.hid hN
  clear h1 h2 hc1 hc2 hr hT hz
  rw [hN]
  go_enter Tryz.func87, Tryz.ntmps87
  go_wp2
  go_ret
  exact ⟨_, rfl, by rw [← hNh.out]; exact h1h.out, But.refl _ _⟩

theorem insert_end_grow (hsz : xs.length + ys.length ≤ 1000000) (A : Option Addr) (c : Nat) (h1 : w.ownsRow base 9 1 (.slice A xs.length c) xs.length (txC xs)) (hcap : xs.length ≤ c) (hroom : c < xs.length + ys.length) (hb : base ≤ w.heap.size) {g2 m2 c2 : Nat} {L2 : List Value} (h2 : RowB w g2 m2 c2 L2 ys) (hy : ys ≠ []) :
    Calls Tryz.prog 87 #[.slice A xs.length c, .int .i64 (xs.length : Int), .slice (some ⟨g2, 0, none⟩) m2 c2] w fun e w' => RowOut base (.slice A xs.length c) w w' e (layE xs xs.length xs.length ys) := by
  have hm : 0 < m2 := by rw [← h2.num]; exact List.length_pos_iff.2 hy
  have hml := h2.num
  have hcells : ∀ a, A = some a → ∀ j u, (txC xs)[j]? = some u → w.cell? (a.add j) = some u := by
    rintro a rfl j u hj
    have hlt := (List.getElem?_eq_some_iff.1 hj).1
    rw [txC_len] at hlt
    obtain ⟨A', c', e, -, -, hr⟩ := own_slice h1
    injection e with e1 e2 e3
    subst e1
    obtain ⟨b, o, e4, -, hcc⟩ := hr.2 (by omega)
    injection e4 with e4
    subst e4
    rw [Addr.add_lit]
    exact hcc j u hj
  have hnil : A = none → xs.length = 0 := by
    rintro rfl
    rcases h1.2 with ⟨_, h⟩ | ⟨g, cap, cur, h, _⟩
    · exact h
    · simp at h
  have h := Any2.slices_Insert_string_end_grow Tryz.laysNm222 A xs.length c g2 0 m2 c2 (txC xs) (txC ys) w hm hcap (by omega) (by omega) (txC_len xs) (by rw [txC_len]; omega) hnil hcells h2.cells (txC_one ys)
  refine Calls.mono h ?_
  rintro e w' ⟨rfl, rfl⟩
  have hG : xs.length + m2 ≤ grownCap w (xs.length + m2) c (Tryz.laysNm222_ren.t 9) := grownCap_ge w _ _ _
  have hG2 := grownCap_le_maxLen w (xs.length + m2) c (Tryz.laysNm222_ren.t 9) (by unfold maxLen; omega)
  obtain ⟨G, hGG⟩ : ∃ G, grownCap w (xs.length + m2) c (Tryz.laysNm222_ren.t 9) = G := ⟨_, rfl⟩
  rw [hGG] at hG hG2 ⊢
  refine ⟨_, rfl, ?_, But.of_below (below_alloc (below_drew (Below.refl w.heap.size w)) _) fun k hk _ => hk⟩
  have hz : layE xs xs.length xs.length ys = xs ++ ys := by simp [layE]
  rw [hz, List.length_append, hml]
  have hrow : RowB (w.drew.alloc (.cells ((txC xs ++ txC ys).toArray ++ Builtin.zeroCells (Value.string ⟨#[]⟩).cells (G - (xs.length + m2))) (Tryz.laysNm222_ren.t 9))) w.heap.size (xs.length + m2) G ((txC xs ++ txC ys) ++ List.replicate (G - (xs.length + m2)) (.string ⟨#[]⟩)) (xs ++ ys) := by
    refine ⟨?_, ?_, hG, hG2, ?_, by rw [List.length_append, hml]⟩
    · have := push_at w.drew (.cells ((txC xs ++ txC ys).toArray ++ Builtin.zeroCells (Value.string ⟨#[]⟩).cells (G - (xs.length + m2))) (Tryz.laysNm222_ren.t 9)) w.heap.size
      rw [this, if_pos (show w.heap.size = w.drew.heap.size from rfl), zero_str]
      show some (Obj.cells _ 9 (0, 0)) = _
      simp
    · simp only [List.length_append, txC_len, List.length_replicate, hml]
      omega
    · rw [List.take_left' (by simp only [List.length_append, txC_len, hml]), txC_app]
  have := hrow.own hb
  rw [List.length_append, hml] at this
  exact this
/-- A row in whose block cells were set. -/
theorem RowB.set {g n c : Nat} {L L' : List Value} (h : RowB w g n c L xs) {w' : World} (hb : w'.heap[g]? = some (.cells L'.toArray 9 (0, 0))) (hl : L'.length = L.length) {zs : Txs} {k : Nat} (hk : k ≤ c) (hz : L'.take k = txC zs) (hn : zs.length = k) : RowB w' g k c L' zs :=
  ⟨hb, by rw [hl, h.len], hk, h.max, hz, hn⟩
theorem insert_end_room {g n c : Nat} {L : List Value} (hr : RowB w g n c L xs) (hbg : base ≤ g) {g2 m2 c2 : Nat} {L2 : List Value} (h2 : RowB w g2 m2 c2 L2 ys) (hy : ys ≠ []) (hroom : n + m2 ≤ c) :
    Calls Tryz.prog 87 #[.slice (some ⟨g, 0, none⟩) n c, .int .i64 (n : Int), .slice (some ⟨g2, 0, none⟩) m2 c2] w fun e w' => RowOut base (.slice (some ⟨g, 0, none⟩) n c) w w' e (layE xs n n ys) := by
  have hm : 0 < m2 := by rw [← h2.num]; exact List.length_pos_iff.2 hy
  have hml := h2.num
  have hcm := hr.max
  have hLl := hr.len
  unfold maxLen at hcm
  have h := Any2.slices_Insert_string_end_room Tryz.laysNm222 g 0 n c g2 0 m2 c2 (txC ys) w hm hroom (by omega) (by rw [txC_len]; omega) (fun j hj => by rw [Nat.zero_add]; exact hr.some_ (by omega)) (fun j hj => hr.free _) h2.cells (txC_one ys)
  refine Calls.mono h ?_
  rintro e w' ⟨rfl, rfl⟩
  have hb := setCells_block (txC ys) (o := 0 + n) hr.blk (by rw [txC_len]; omega)
  have hz : layE xs n n ys = xs ++ ys := by simp [layE, ← hr.num]
  have hnl := hr.num
  have hR := hr.set hb (setL_len (by rw [txC_len]; omega)) (zs := xs ++ ys) (k := n + m2) hroom (by rw [Nat.zero_add, set_one_take (by rw [txC_len]; omega) (by omega), hr.pre, txC_app]) (by rw [List.length_append]; omega)
  refine ⟨_, rfl, ?_, (setCells_but (txC ys) (o := 0 + n)).more fun k e => by rw [e]; rfl⟩
  rw [hz]
  exact hR.own hbg
theorem insert_shift {g n c : Nat} {L : List Value} (hr : RowB w g n c L xs) (hbg : base ≤ g) {g2 m2 c2 : Nat} {L2 : List Value} (h2 : RowB w g2 m2 c2 L2 ys) (hy : ys ≠ []) (hroom : n + m2 ≤ c) (hi : i < n) (hne : g2 ≠ g) :
    Calls Tryz.prog 87 #[.slice (some ⟨g, 0, none⟩) n c, .int .i64 (i : Int), .slice (some ⟨g2, 0, none⟩) m2 c2] w fun e w' => RowOut base (.slice (some ⟨g, 0, none⟩) n c) w w' e (layE xs i i ys) := by
  have hm : 0 < m2 := by rw [← h2.num]; exact List.length_pos_iff.2 hy
  have hml := h2.num
  have hcm := hr.max
  have hLl := hr.len
  have hnl := hr.num
  unfold maxLen at hcm
  have h := Any2.slices_Insert_string_shift Tryz.laysNm222 g 0 n c i g2 0 m2 c2 (txC xs) (txC ys) w hi hm hroom (by omega) hne (by rw [txC_len]; omega) (by rw [txC_len]; omega) hr.cells (fun j hj => by rw [Nat.zero_add]; exact hr.some_ (by omega)) (fun j hj => hr.free _) h2.cells (txC_one xs) (txC_one ys) _ _ _ _ h2.shape hr.shape (by omega) (h2.free _) (h2.free _)
  refine Calls.mono h ?_
  rintro e w' ⟨rfl, rfl⟩
  have hdl : ((txC xs).drop i).length = n - i := by rw [List.length_drop, txC_len]; omega
  have hb1 := setCells_block ((txC xs).drop i) (w := w.drew) (o := 0 + (i + m2)) hr.blk (by omega)
  have hb2 := setCells_block (txC ys) (o := 0 + i) hb1 (by rw [setL_len (by omega), txC_len]; omega)
  have hR := hr.set hb2 (by rw [setL_len (by rw [setL_len (by omega), txC_len]; omega), setL_len (by omega)]) (zs := layE xs i i ys) (k := n + m2) hroom (by
    have := set_two (L := L) (a := txC ys) (b := (txC xs).drop i) (i := i) (m := m2) (by rw [txC_len]; omega) (by omega)
    rw [hdl, show i + m2 + (n - i) = n + m2 by omega] at this
    rw [Nat.zero_add, Nat.zero_add, this, lay_txC, ← hr.pre, List.take_take, Nat.min_eq_left (by omega)]) (by rw [layX_len (Nat.le_refl _) (by omega)]; omega)
  refine ⟨_, rfl, hR.own hbg, ((But.of_below (F := fun k => k = g) (below_drew (Below.refl w.heap.size w)) fun k hk _ => hk).trans ((setCells_but ((txC xs).drop i) (o := 0 + (i + m2))).trans (setCells_but (txC ys) (o := 0 + i)) fun k e => .inl e) fun k e => .inl e).more fun k e => by rw [e]; rfl⟩
theorem insert_grow {g n c : Nat} {L : List Value} (hr : RowB w g n c L xs) (hsz : xs.length + ys.length ≤ 1000000) (hb : base ≤ w.heap.size) {g2 m2 c2 : Nat} {L2 : List Value} (h2 : RowB w g2 m2 c2 L2 ys) (hy : ys ≠ []) (hroom : c < n + m2) (hi : i < n) :
    Calls Tryz.prog 87 #[.slice (some ⟨g, 0, none⟩) n c, .int .i64 (i : Int), .slice (some ⟨g2, 0, none⟩) m2 c2] w fun e w' => RowOut base (.slice (some ⟨g, 0, none⟩) n c) w w' e (layE xs i i ys) := by
  have hm : 0 < m2 := by rw [← h2.num]; exact List.length_pos_iff.2 hy
  have hml := h2.num
  have hcm := hr.max
  have hLl := hr.len
  have hnl := hr.num
  have hle := hr.le
  have h := Any2.slices_Insert_string_grow Tryz.laysNm222 g 0 n c i g2 0 m2 c2 (txC xs) (txC ys) w hi hm hr.le hroom (by omega) (by rw [txC_len]; omega) (by rw [txC_len]; omega) hr.cells h2.cells (txC_one xs) (txC_one ys)
  refine Calls.mono h ?_
  rintro e w' ⟨rfl, rfl⟩
  have hG : n + m2 ≤ grownCap w (n + m2) c (Tryz.laysNm222_ren.t 9) := grownCap_ge w _ _ _
  have hG2 := grownCap_le_maxLen w (n + m2) c (Tryz.laysNm222_ren.t 9) (by unfold maxLen; omega)
  obtain ⟨G, hGG⟩ : ∃ G, grownCap w (n + m2) c (Tryz.laysNm222_ren.t 9) = G := ⟨_, rfl⟩
  rw [hGG] at hG hG2 ⊢
  have hdl : ((txC xs).drop i).length = n - i := by rw [List.length_drop, txC_len]; omega
  have htl : ((txC xs).take i).length = i := by rw [List.length_take, txC_len]; omega
  obtain ⟨L0, hL0⟩ : ∃ L0, L0 = (txC xs).take i ++ (List.replicate (n + m2 - i) (Value.string ⟨#[]⟩) ++ List.replicate (G - (n + m2)) (Value.string ⟨#[]⟩)) := ⟨_, rfl⟩
  have hL0l : L0.length = G := by rw [hL0]; simp only [List.length_append, List.length_replicate, htl]; omega
  have hb0 : (w.alloc (.cells (((txC xs).take i).toArray ++ Builtin.zeroCells (Value.string ⟨#[]⟩).cells (n + m2 - i) ++ Builtin.zeroCells (Value.string ⟨#[]⟩).cells (G - (n + m2))) (Tryz.laysNm222_ren.t 9))).drew.heap[w.heap.size]? = some (.cells L0.toArray 9 (0, 0)) := by
    show (w.alloc _).heap[w.heap.size]? = _
    rw [push_at, if_pos rfl, zero_str, zero_str, hL0]
    show some (Obj.cells _ 9 (0, 0)) = _
    simp
  have hb1 := setCells_block (txC ys) (o := i) hb0 (by rw [txC_len]; omega)
  have hb2 := setCells_block ((txC xs).drop i) (w := World.drew _) (o := i + m2) hb1 (by rw [setL_len (by rw [txC_len]; omega)]; omega)
  have hR : RowB _ w.heap.size (n + m2) G _ (layE xs i i ys) := ⟨hb2, by rw [setL_len (by rw [setL_len (by rw [txC_len]; omega)]; omega), setL_len (by rw [txC_len]; omega), hL0l], hG, hG2, by
    have := set_fro (L := L0) (a := txC ys) (b := (txC xs).drop i) (i := i) (m := m2) (by rw [txC_len]; omega) (by omega)
    rw [hdl, show i + m2 + (n - i) = n + m2 by omega] at this
    rw [this, lay_txC, hL0, List.take_left' htl], by rw [layX_len (Nat.le_refl _) (by omega)]; omega⟩
  refine ⟨_, rfl, hR.own hb, ?_⟩
  exact But.fresh (((But.of_below (F := fun k => k = w.heap.size) (below_drew (below_alloc (Below.refl w.heap.size w) _)) fun k hk _ => hk).trans (setCells_but (txC ys)) fun k e => .inl e).trans ((But.of_below (F := fun k => k = w.heap.size) (below_drew (Below.refl _ _)) fun k hk _ => hk).trans (setCells_but ((txC xs).drop i)) fun k e => .inl e) fun k e => .inl e)
/-- slices.Insert of a row of texts into a row of texts. -/
theorem insert_any (hi : i ≤ xs.length) (hsz : xs.length + ys.length ≤ 1000000) (h1 : w.ownsRow base 9 1 v xs.length (txC xs)) (h2 : w.ownsRow base2 9 1 v2 ys.length (txC ys)) (hne : ∀ k, v2.ownBlock = some k → v.ownBlock ≠ some k) (hb : base ≤ w.heap.size) :
    Calls Tryz.prog 87 #[v, .int .i64 (i : Int), v2] w fun e w' => RowOut base v w w' e (layE xs i i ys) := by
  rcases rowB_of h2 with ⟨rfl, rfl⟩ | ⟨g2, c2, L2, rfl, hg2, hr2⟩
  · exact insert_nothing hi (by omega) h1 h2
  · by_cases hy : ys = []
    · subst hy
      exact insert_nothing hi (by omega) h1 h2
    · have hm : 0 < ys.length := List.length_pos_iff.2 hy
      rcases rowB_of h1 with ⟨rfl, rfl⟩ | ⟨g, c, L, rfl, hg, hr⟩
      · have : i = 0 := by simpa using hi
        subst this
        exact insert_end_grow (xs := []) hsz none 0 h1 (Nat.le_refl _) (by simpa using hm) hb hr2 hy
      · by_cases hroom : xs.length + ys.length ≤ c
        · by_cases hlt : i < xs.length
          · exact insert_shift hr hg hr2 hy hroom hlt (fun e => hne g2 rfl (by rw [e]; rfl))
          · obtain rfl : i = xs.length := by omega
            exact insert_end_room hr hg hr2 hy hroom
        · by_cases hlt : i < xs.length
          · exact insert_grow hr hsz hb hr2 hy (by omega) hlt
          · obtain rfl : i = xs.length := by omega
            exact insert_end_grow hsz _ c h1 hr.le (by omega) hb hr2 hy
end
end Go.Proofs.YtdfpifipkchmnaaGreatDoor
