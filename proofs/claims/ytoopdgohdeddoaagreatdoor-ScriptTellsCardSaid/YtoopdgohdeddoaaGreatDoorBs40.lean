/- Proved here: texts joined: AlignPut. -/
import Derived.Test.YtoopdgohdeddoaaGreatDoorBs16
import Derived.Test.YtoopdgohdeddoaaGreatDoorBs39
import Derived.Maps.AppendAt
import Derived.RangeFuncBox
/- Proved here: the contract of the closure with which package align lays a chunk behind the last one. -/
namespace Go.Proofs.YtoopdgohdeddoaaGreatDoor
open Go.RowKit
set_option linter.unusedVariables false

/-- The cells of chunks; each bears the block of its sides. -/
def ckC (n : Nat) (p : Ck × Nat) : List Value := [.bool p.1.1, .int .i64 p.1.2.1.1, .int .i64 p.1.2.1.2, .slice (some ⟨p.2, 0, none⟩) n n]
def ckCs (n : Nat) (ps : List (Ck × Nat)) : List Value := ps.flatMap (ckC n)
theorem ckCs_len (n : Nat) : ∀ ps : List (Ck × Nat), (ckCs n ps).length = ps.length * 4
  | [] => rfl
  | c :: cs => by
    show (ckC n c ++ ckCs n cs).length = _
    rw [List.length_append, ckCs_len n cs, List.length_cons]
    show 4 + cs.length * 4 = _
    omega
theorem ckCs_at (n : Nat) : ∀ (cs : List (Ck × Nat)) (j r : Nat) (c : Ck × Nat), cs[j]? = some c → r < 4 → (ckCs n cs)[j * 4 + r]? = (ckC n c)[r]?
  | [], _, _, _, h, _ => by simp at h
  | d :: cs, 0, r, c, h, hr => by
    simp at h
    subst h
    show (ckC n d ++ ckCs n cs)[0 * 4 + r]? = _
    rw [Nat.zero_mul, Nat.zero_add, List.getElem?_append_left (by show r < 4; exact hr)]
  | d :: cs, j + 1, r, c, h, hr => by
    show (ckC n d ++ ckCs n cs)[(j + 1) * 4 + r]? = _
    rw [List.getElem?_append_right (by show 4 ≤ _; omega), show (j + 1) * 4 + r - (ckC n d).length = j * 4 + r by show (j + 1) * 4 + r - 4 = _; omega]
    exact ckCs_at n cs j r c (by simpa using h) hr
theorem ckCs_snoc (n : Nat) (cs : List (Ck × Nat)) (c : Ck × Nat) : ckCs n (cs ++ [c]) = ckCs n cs ++ ckC n c := by simp [ckCs]
theorem ckC_one (n : Nat) (c : Ck × Nat) : ∀ u ∈ ckC n c, u.oneCell' = true := by
  intro u hu
  simp [ckC] at hu
  rcases hu with rfl | rfl | rfl | rfl <;> rfl

/-- What the closure has: the last chunk, in block La, and all so far, in block Lb. -/
structure LastIn (W : World) (La Lb B n : Nat) (v : Value) (ps : List (Ck × Nat)) (g : Nat) (st : Bool) (f b : Int) (old : List Sp) : Prop where
  last : W.heap[La]? = some (.cells #[.bool st, .int .i64 f, .int .i64 b, .slice (some ⟨g, 0, none⟩) n n] 51 (0, 0))
  lastS : Spans W W.heap.size (some ⟨g, 0, none⟩) n old
  box : Boxed W Lb 41 v
  own : W.ownsRow B 51 4 v ps.length (ckCs n ps)
  rows : ∀ p ∈ ps, Spans W W.heap.size (some ⟨p.2, 0, none⟩) n p.1.2.2 ∧ p.2 ≠ La ∧ p.2 ≠ Lb ∧ v.ownBlock ≠ some p.2
  far : g ≠ La ∧ g ≠ Lb ∧ v.ownBlock ≠ some g
  lab : La ≠ Lb
  laB : La < B
  lbB : Lb < B
  size : B ≤ W.heap.size

theorem Spans.lt {w : World} {B n g : Nat} {ss : List Sp} (h : Spans w B (some ⟨g, 0, none⟩) n ss) (hn : 0 < n) : g < B := by
  obtain ⟨b, o, e, hb, -⟩ := h.2 hn
  injection e with e
  injection e with e
  omega
theorem Spans.kept {w w' : World} {n g : Nat} {ss : List Sp} (h : Spans w w.heap.size (some ⟨g, 0, none⟩) n ss) (hs : w.heap.size ≤ w'.heap.size) (hk : 0 < n → w'.heap[g]? = w.heap[g]?) : Spans w' w'.heap.size (some ⟨g, 0, none⟩) n ss := by
  refine ⟨h.1, fun hn => ?_⟩
  obtain ⟨b, o, e, hb, hc⟩ := h.2 hn
  injection e with e
  injection e with e1 e2
  subst e1
  subst e2
  exact ⟨g, 0, rfl, by omega, fun j s hj => ⟨(World.cell?_of_block (w := w) (hk hn)).trans (hc j s hj).1, (World.cell?_of_block (w := w) (hk hn)).trans (hc j s hj).2⟩⟩

section
variable {W W' w1 : World} {La Lb B n : Nat} {v : Value} {ps : List (Ck × Nat)} {g : Nat} {st : Bool} {f b : Int} {old : List Sp}
theorem LastIn.kept (hn : 0 < n) (h : LastIn W La Lb B n v ps g st f b old) {F : Nat → Prop} (hb : But F W W') (h1 : ¬ F La) (h2 : ¬ F Lb) (h3 : ∀ k, v.ownBlock = some k → ¬ F k) (h4 : ¬ F g) (h5 : ∀ p ∈ ps, ¬ F p.2) : LastIn W' La Lb B n v ps g st f b old := by
  have hl : La < W.heap.size := (Array.getElem?_eq_some_iff.1 h.last).1
  refine ⟨(hb.block _ hl h1).trans h.last, h.lastS.kept hb.size fun hn => hb.block _ (h.lastS.lt hn) h4, (hb.block _ h.box.lt h2).trans h.box, ownsRow_kept h.own fun k hk => hb.block k (h.own.lt k hk).2 (h3 k hk), fun p hp => ?_, h.far, h.lab, h.laB, h.lbB, Nat.le_trans h.size hb.size⟩
  obtain ⟨q1, q2⟩ := h.rows p hp
  exact ⟨q1.kept hb.size fun hn => hb.block _ (q1.lt hn) (h5 p hp), q2⟩
theorem LastIn.below (hn : 0 < n) (h : LastIn W La Lb B n v ps g st f b old) (hb : Below W.heap.size W W') : LastIn W' La Lb B n v ps g st f b old := by
  have hl : La < W.heap.size := (Array.getElem?_eq_some_iff.1 h.last).1
  have := h.box.lt
  have := h.lastS.lt hn
  refine h.kept hn (F := fun k => W.heap.size ≤ k) (.of_below hb fun k hk _ => hk) (by omega) (by omega) (fun k hk => by have := (h.own.lt k hk).2; omega) (by omega) fun p hp => ?_
  have := (h.rows p hp).1.lt hn
  omega
/-- Another chunk is the last one. -/
theorem LastIn.stored (hn : 0 < n) (h : LastIn W La Lb B n v ps g st f b old) (hb : Below W.heap.size W w1) {G : Nat} (hG : W.heap.size ≤ G) {ss : List Sp} (hS : Spans w1 w1.heap.size (some ⟨G, 0, none⟩) n ss) (st' : Bool) (f' b' : Int) :
    LastIn ((((w1.setCell ⟨La, 0, none⟩ (.bool st')).setCell ⟨La, 1, none⟩ (.int .i64 f')).setCell ⟨La, 2, none⟩ (.int .i64 b')).setCell ⟨La, 3, none⟩ (.slice (some ⟨G, 0, none⟩) n n)) La Lb B n v ps G st' f' b' ss ∧
      But (fun k => k = La) W ((((w1.setCell ⟨La, 0, none⟩ (.bool st')).setCell ⟨La, 1, none⟩ (.int .i64 f')).setCell ⟨La, 2, none⟩ (.int .i64 b')).setCell ⟨La, 3, none⟩ (.slice (some ⟨G, 0, none⟩) n n)) := by
  have h1 := h.below hn hb
  have hl : La < W.heap.size := (Array.getElem?_eq_some_iff.1 h.last).1
  have hlb := h.box.lt
  have h4 : But (fun k => k = La) w1 ((((w1.setCell ⟨La, 0, none⟩ (.bool st')).setCell ⟨La, 1, none⟩ (.int .i64 f')).setCell ⟨La, 2, none⟩ (.int .i64 b')).setCell ⟨La, 3, none⟩ (.slice (some ⟨G, 0, none⟩) n n)) :=
    (((But.setCell (F := fun k => k = La) w1 (p := ⟨La, 0, none⟩) rfl _).trans (But.setCell (F := fun k => k = La) _ (p := ⟨La, 1, none⟩) rfl _) fun k e => .inl e).trans (But.setCell (F := fun k => k = La) _ (p := ⟨La, 2, none⟩) rfl _) fun k e => .inl e).trans (But.setCell (F := fun k => k = La) _ (p := ⟨La, 3, none⟩) rfl _) fun k e => .inl e
  have hown : ∀ k, v.ownBlock = some k → k ≠ La := fun k hk e => by
    have := (h.own.lt k hk).1
    have := h.laB
    omega
  have set1 : ∀ (w : World) (C : Array Value) (t : TypeId) (j : Nat) (x : Value), w.heap[La]? = some (.cells C t (0, 0)) → (w.setCell ⟨La, j, none⟩ x).heap[La]? = some (.cells (C.setIfInBounds j x) t (0, 0)) := fun w C t j x h => by
    simp [World.setCell, Array.getElem?_modify, h]
  refine ⟨⟨?_, hS.kept h4.size fun _ => h4.block G (hS.lt hn) (by omega), (h4.block _ h1.box.lt (fun e => h.lab e.symm)).trans h1.box, ownsRow_kept h1.own fun k hk => h4.block k (h1.own.lt k hk).2 (hown k hk), fun p hp => ?_, ⟨by omega, by omega, fun hk => by have := (h.own.lt G hk).2; omega⟩, h.lab, h.laB, h.lbB, Nat.le_trans h1.size h4.size⟩, ?_⟩
  · rw [set1 _ _ _ _ _ (set1 _ _ _ _ _ (set1 _ _ _ _ _ (set1 _ _ _ _ _ h1.last)))]
    rfl
  · obtain ⟨q1, q2⟩ := h1.rows p hp
    exact ⟨q1.kept h4.size fun hn => h4.block _ (q1.lt hn) q2.1, q2⟩
  · exact (But.of_below (F := fun k => k = La) hb fun k hk _ => hk).trans h4 fun k e => .inl e
/-- The last one is laid behind the others. -/
theorem LastIn.put (hn : 0 < n) (h : LastIn W La Lb B n v ps g st f b old) {v' : Value} {o : Obj} (hown' : w1.ownsRow B 51 4 v' (ps.length + 1) (ckCs n ps ++ ckC n ((st, (f, b), old), g))) (hgrow : (W.alloc o).grownBy w1 v.ownBlock) (hloc : v'.ownBlock = v.ownBlock ∨ v'.ownBlock = some (W.alloc o).heap.size) :
    LastIn (w1.setCell ⟨Lb, 0, none⟩ v') La Lb B n v' (ps ++ [((st, (f, b), old), g)]) g st f b old ∧ But (fun k => k = Lb ∨ v.ownBlock = some k) W (w1.setCell ⟨Lb, 0, none⟩ v') ∧ Boxed w1 Lb 41 v := by
  have hl : La < W.heap.size := (Array.getElem?_eq_some_iff.1 h.last).1
  have hlb := h.box.lt
  have hb : But (fun k => v.ownBlock = some k) W w1 := (But.alloc W o).trans (But.of_grown hgrow fun k e => e) fun k e => .inl e
  have hlbo : v.ownBlock ≠ some Lb := fun e => by
    have := (h.own.lt Lb e).1
    have := h.lbB
    omega
  have hlao : v.ownBlock ≠ some La := fun e => by
    have := (h.own.lt La e).1
    have := h.laB
    omega
  have hbox1 : Boxed w1 Lb 41 v := (hb.block _ hlb hlbo).trans h.box
  have hlb' : v'.ownBlock ≠ some Lb := fun e => by
    have := (hown'.lt Lb e).1
    have := h.lbB
    omega
  have hc : But (fun k => k = Lb) w1 (w1.setCell ⟨Lb, 0, none⟩ v') := But.setCell (F := fun k => k = Lb) w1 (p := ⟨Lb, 0, none⟩) rfl v'
  have hbc : But (fun k => k = Lb ∨ v.ownBlock = some k) W (w1.setCell ⟨Lb, 0, none⟩ v') := (hb.more fun k e => .inr e).trans hc fun k e => .inl (.inl e)
  have hloc' : ∀ q, q < W.heap.size → v.ownBlock ≠ some q → v'.ownBlock ≠ some q := fun q hq hne e => by
    rcases hloc with h | h
    · rw [h] at e; exact hne e
    · rw [h] at e
      injection e with e
      simp at e
      omega
  refine ⟨⟨(hbc.block La hl (by rintro (e | e) <;> first | exact h.lab e | exact hlao e)).trans h.last, h.lastS.kept hbc.size fun hn => hbc.block g (h.lastS.lt hn) (by rintro (e | e) <;> first | exact h.far.2.1 e | exact h.far.2.2 e),
    hbox1.set v', ?_, fun p hp => ?_, ⟨h.far.1, h.far.2.1, hloc' g (h.lastS.lt hn) h.far.2.2⟩, h.lab, h.laB, h.lbB, Nat.le_trans h.size hbc.size⟩, hbc, hbox1⟩
  · rw [List.length_append, List.length_singleton, ckCs_snoc]
    exact ownsRow_kept hown' fun k hk => hc.block k (hown'.lt k hk).2 (fun e => hlb' (by rw [← e]; exact hk))
  · rcases List.mem_append.1 hp with hp | hp
    · obtain ⟨q1, q2, q3, q4⟩ := h.rows p hp
      exact ⟨q1.kept hbc.size fun hn => hbc.block _ (q1.lt hn) (by rintro (e | e) <;> first | exact q3 e | exact q4 e), q2, q3, hloc' _ (q1.lt hn) q4⟩
    · rw [List.mem_singleton.1 hp]
      exact ⟨h.lastS.kept hbc.size fun hn => hbc.block g (h.lastS.lt hn) (by rintro (e | e) <;> first | exact h.far.2.1 e | exact h.far.2.2 e), h.far.1, h.far.2.1, hloc' g (h.lastS.lt hn) h.far.2.2⟩
/-- They read as chunks. -/
theorem LastIn.reads (h : LastIn W La Lb B n v ps g st f b old) (hnm : n ≤ maxLen) : ∃ A c, v = .slice A ps.length c ∧ ps.length ≤ c ∧ c ≤ maxLen ∧ Cks W W.heap.size A ps.length (ps.map fun p => p.1) := by
  have hr := h.own
  have hread : ∀ (q c : Nat), v = .slice (some ⟨q, 0, none⟩) ps.length c → Cks W W.heap.size (some ⟨q, 0, none⟩) ps.length (ps.map fun p => p.1) := by
    rintro q c rfl
    refine ⟨by simp, fun hn => ⟨q, 0, rfl, (hr.lt q rfl).2, fun j c hj => ?_⟩⟩
    have hc := hr.cells (g := q) rfl
    have hadd : ∀ k, (⟨q, 0, none⟩ : Addr).add k = ⟨q, k, none⟩ := fun k => by unfold Addr.add; split <;> simp_all
    rw [List.getElem?_map] at hj
    cases hp : ps[j]? with
    | none => rw [hp] at hj; cases hj
    | some p =>
      rw [hp] at hj
      simp at hj
      subst hj
      have key : ∀ r, r < 4 → ∀ u, (ckC n p)[r]? = some u → W.cell? ⟨q, 0 + j * 4 + r, none⟩ = some u := fun r hr u hu => by
        rw [Nat.zero_add, ← hadd]
        exact hc _ u ((ckCs_at n ps j r p hp hr).trans hu)
      exact ⟨key 0 (by omega) _ rfl, key 1 (by omega) _ rfl, key 2 (by omega) _ rfl, _, n, n, key 3 (by omega) _ rfl, Nat.le_refl _, hnm, (h.rows p (List.mem_of_getElem? hp)).1⟩
  rcases hr.2 with ⟨rfl, h0⟩ | ⟨q, cap, cur, rfl, _, _, hnc, hcm, _⟩
  · exact ⟨none, 0, by rw [h0], by omega, Nat.zero_le _, by simp [h0], fun h => absurd h (by omega)⟩
  · exact ⟨_, cap, rfl, hnc, hcm, hread q cap rfl⟩
end

theorem cell_new_ck (w : World) (n : Nat) (p : Ck × Nat) (t : TypeId) : ∀ j u, (ckC n p)[j]? = some u → (w.alloc (.cells #[.bool p.1.1, .int .i64 p.1.2.1.1, .int .i64 p.1.2.1.2, .slice (some ⟨p.2, 0, none⟩) n n] t)).cell? ((⟨w.heap.size, 0, none⟩ : Addr).add j) = some u := by
  intro j u hu
  have : (⟨w.heap.size, 0, none⟩ : Addr).add j = ⟨w.heap.size, j, none⟩ := by unfold Addr.add; split <;> simp_all
  rw [this, World.cell?_alloc_mark]
  simpa [ckC] using hu

/-- What the closure leaves. -/
def PutOut (W W' : World) (La Lb B n : Nat) (v : Value) (ps : List (Ck × Nat)) (st : Bool) (b base : Int) (a f : List Int) : Prop :=
  ∃ v' ps' G, LastIn W' La Lb B n v' ps' G st b base (List.zip a f) ∧ ps'.map (fun p => p.1) = putC (ps.map fun p => p.1) (ckOf st b base a f) ∧ But (fun k => k = La ∨ k = Lb ∨ v.ownBlock = some k) W W' ∧ (v'.ownBlock = v.ownBlock ∨ ∃ q, v'.ownBlock = some q ∧ W.heap.size ≤ q)

set_option maxRecDepth 100000 in
set_option maxHeartbeats 2000000 in
theorem put_any (La Lb B n : Nat) (v : Value) (ps : List (Ck × Nat)) (g : Nat) (st0 st : Bool) (f0 b base : Int) (old : List Sp) (g2 : Nat) (lb : Array Value) (f : List Int) (W : World) (hn1 : 1 ≤ n) (hn : n ≤ 16) (hps : ps.length ≤ 100000) (hb : b ≤ base) (hfl : f.length = n)
    (hent : ∀ args w, (callFunc g2 args).run Tryz.prog w = .ok (.enter g2 args) w) (hS : SideFn g2 lb f W) (h : LastIn W La Lb B n v ps g st0 f0 b old) :
    Calls Tryz.prog 66 #[.bool st, .int .i64 base, .func (.func g2) #[] lb, .pointer (some ⟨La, 0, none⟩), .pointer (some ⟨Lb, 0, none⟩)] W fun e W' => e = .returned (.tuple #[]) ∧ PutOut W W' La Lb B n v ps st b base (old.map fun s => s.2) f := by
  obtain ⟨ss, hss⟩ : ∃ ss, List.zip (old.map fun s => s.2) f = ss := ⟨_, rfl⟩
  have hbe := Lib.hid (behind_any st0 st f0 b base g n g2 lb old f W hn1 hn h.lastS hfl hent hS)
  rw [hss] at hbe
  obtain ⟨i0, hi, hzz⟩ := Option.map_eq_some_iff.1 infoCk
  simp only [Prod.mk.injEq] at hzz
  obtain ⟨hz0, hz1, hz2⟩ := hzz
  have c0 : W.cell? ⟨La, 0, none⟩ = some (.bool st0) := by rw [cells_of h.last]; rfl
  have c1 : W.cell? ⟨La, 1, none⟩ = some (.int .i64 f0) := by rw [cells_of h.last]; rfl
  have c2 : W.cell? ⟨La, 2, none⟩ = some (.int .i64 b) := by rw [cells_of h.last]; rfl
  have c3 : W.cell? ⟨La, 3, none⟩ = some (.slice (some ⟨g, 0, none⟩) n n) := by rw [cells_of h.last]; rfl
  have hh := Lib.hid h
  have hssh := Lib.hid hss
  clear h hss hS
  go_enter Tryz.func66, Tryz.ntmps66
  go_upto_region 0 with fail
  go_cut [8, 9, 10, 11, 12] (fun _ _ _ _ _ wx => ∃ G, Hid (LastIn wx La Lb B n v ps G st b base ss) ∧ Hid (But (fun k => k = La) W wx))
  case first =>
    go_wp2_with (go_at_call 67; refine hbe.out.mono ?_; rintro e w1 ⟨G, rfl, hG, hSp, hb1⟩; have hl1 := (hh.out.below hn1 hb1).last; have d0 : w1.cell? ⟨La, 0, none⟩ = some (.bool st0) := (by rw [cells_of hl1]; rfl); have d1 : w1.cell? ⟨La, 1, none⟩ = some (.int .i64 f0) := (by rw [cells_of hl1]; rfl); have d2 : w1.cell? ⟨La, 2, none⟩ = some (.int .i64 b) := (by rw [cells_of hl1]; rfl); have d3 : w1.cell? ⟨La, 3, none⟩ = some (.slice (some ⟨g, 0, none⟩) n n) := (by rw [cells_of hl1]; rfl); have z0 := unfrozen_of hl1 0; have z1 := unfrozen_of hl1 1; have z2 := unfrozen_of hl1 2; have z3 := unfrozen_of hl1 3; have hst := Lib.hid (hh.out.stored hn1 hb1 hG hSp st b base); clear hl1 hSp)
    go_meet
    case rel => exact ⟨G, Lib.hid hst.out.1, Lib.hid hst.out.2⟩
  case rest =>
    obtain ⟨G, hL, hB1⟩ := hcut
    have e0 : wc.cell? ⟨La, 0, none⟩ = some (.bool st) := by rw [cells_of hL.out.last]; rfl
    have e1 : wc.cell? ⟨La, 1, none⟩ = some (.int .i64 b) := by rw [cells_of hL.out.last]; rfl
    have e2 : wc.cell? ⟨La, 2, none⟩ = some (.int .i64 base) := by rw [cells_of hL.out.last]; rfl
    have e3 : wc.cell? ⟨La, 3, none⟩ = some (.slice (some ⟨G, 0, none⟩) n n) := by rw [cells_of hL.out.last]; rfl
    obtain ⟨em, hem⟩ : ∃ em, emptyB (st, (b, base), ss) = em := ⟨_, rfl⟩
    have hE := Lib.hid (aEmpty_any st b base ss (some ⟨G, 0, none⟩) n n wc.heap.size wc hn (Nat.le_refl _) hb hL.out.lastS)
    rw [hem] at hE
    have hemh := Lib.hid hem
    clear hem hbe c0 c1 c2 c3
    cases em
    · have hmax : Hid (ps.length + 1 ≤ maxLen ∧ (ps.length + 1) * 48 ≤ 140737488355328) := Lib.hid ⟨by unfold maxLen; omega, by omega⟩
      go_wp2_with (first
        | (go_at_call 68; refine hE.out.mono ?_; rintro e w2 ⟨rfl, hb2⟩; have hL2 := Lib.hid (hL.out.below hn1 hb2); have f0' : w2.cell? ⟨La, 0, none⟩ = some (.bool st) := (by rw [cells_of hL2.out.last]; rfl); have f1' : w2.cell? ⟨La, 1, none⟩ = some (.int .i64 b) := (by rw [cells_of hL2.out.last]; rfl); have f2' : w2.cell? ⟨La, 2, none⟩ = some (.int .i64 base) := (by rw [cells_of hL2.out.last]; rfl); have f3' : w2.cell? ⟨La, 3, none⟩ = some (.slice (some ⟨G, 0, none⟩) n n) := (by rw [cells_of hL2.out.last]; rfl); have fb := hL2.out.box.cell; have hown := hL2.out.own; have hsz2 := hL2.out.size)
        | (at_builtin; refine wpList_append_own_at _ rfl _ _ 41 rfl B 51 i0 (.agg #[.bool false, .int .i64 0, .int .i64 0, .slice none 0 0]) 4 48 Tryz.underlying41 hi hz0 hz1 hz2 rfl (by decide) v ps.length _ rfl (hown.alloc _) ⟨w2.heap.size, 0, none⟩ 1 1 (ckC n ((st, (b, base), ss), G)) rfl rfl (cell_new_ck _ _ _ _) (ckC_one _ _) hmax.out.1 hmax.out.2 (by simp; omega) ?_; intro v' w3 hown3 hg3 hnil3 hloc3; obtain ⟨g', cap', rfl⟩ := ownsRow_succ hown3; have hput := Lib.hid (hL2.out.put hn1 hown3 hg3 hloc3); have hlb3 := hput.out.2.2.cell; have hlf3 := hput.out.2.2.frozen; have hloc := Lib.hid hloc3; clear hnil3 hown3 hg3 hloc3))
      go_end0
      have hb1 : But (fun k => k = La ∨ k = Lb ∨ v.ownBlock = some k) W w2 := (hB1.out.more (F' := fun k => k = La ∨ k = Lb ∨ v.ownBlock = some k) fun k e => .inl e).trans (But.of_below (F := fun k => wc.heap.size ≤ k) hb2 fun k hk hn => by omega) fun k e => .inr (by have := hB1.out.size; omega)
      refine ⟨rfl, .slice (some ⟨g', 0, none⟩) (ps.length + 1) cap', ps ++ [((st, (b, base), ss), G)], G, ?_, ?_, ?_, ?_⟩
      · rw [hssh.out]; exact hput.out.1
      · rw [List.map_append]
        unfold putC ckOf
        rw [hssh.out, if_neg (by rw [hemh.out]; simp)]
        rfl
      · refine hb1.trans hput.out.2.1 fun k e => .inl ?_
        rcases e with e | e
        · exact .inr (.inl e)
        · exact .inr (.inr e)
      · rcases hloc.out with e | e
        · exact .inl e
        · refine .inr ⟨_, e, ?_⟩
          have := hB1.out.size
          have := hb2.size
          simp
          omega
    · go_wp2_with (go_at_call 68; refine hE.out.mono ?_; rintro e w2 ⟨rfl, hb2⟩)
      go_end0
      refine ⟨rfl, v, ps, G, ?_, ?_, ?_, .inl rfl⟩
      · rw [hssh.out]; exact hL.out.below hn1 hb2
      · unfold putC ckOf
        rw [hssh.out, if_pos hemh.out]
      · exact (hB1.out.more (F' := fun k => k = La ∨ k = Lb ∨ v.ownBlock = some k) fun k e => .inl e).trans (But.of_below (F := fun k => wc.heap.size ≤ k) hb2 fun k hk hn => by omega) fun k e => .inr (by have := hB1.out.size; omega)

theorem Mats.below {w w' : World} {n m : Nat} {A : Option Addr} {rows : List (Option Addr × Nat × Nat)} {ms : List (List Int)} (h : Mats w w.heap.size A n rows ms m) (hb : Below w.heap.size w w') : Mats w' w.heap.size A n rows ms m := ⟨h.1.below hb, h.2⟩
theorem Mats.more {w : World} {B B' n m : Nat} {A : Option Addr} {rows : List (Option Addr × Nat × Nat)} {ms : List (List Int)} (h : Mats w B A n rows ms m) (hB : B ≤ B') : Mats w B' A n rows ms m := ⟨h.1.more hB, h.2⟩
theorem pl_of {l : List Int} {k : Nat} {v : Int} (h : l[k]? = some v) : pl l (k : Int) = v := pl_nat h

set_option maxHeartbeats 1000000 in
/-- The sides' places at place r. -/
theorem side2_any (A : Option Addr) (n c m r Bm Bf : Nat) (rows : List (Option Addr × Nat × Nat)) (ms : List (List Int)) (W : World) (hr : r < m) (hA : Mats W W.heap.size A n rows ms m) (hm1 : Boxed W Bm 73 (.slice A n c)) (hf1 : Boxed W Bf 3 (.int .i64 r)) :
    SideFn 71 #[.pointer (some ⟨Bm, 0, none⟩), .pointer (some ⟨Bf, 0, none⟩)] (plAll ms r) W := by
  intro w' hb k v hv
  obtain ⟨l, hl, rfl⟩ := plAll_at hv
  have hk : k < n := by have := (List.getElem?_eq_some_iff.1 hl).1; have := hA.1.len; omega
  obtain ⟨b, o, A1, n1, c1, xs, rfl, hbB, hxs, hc, hN, rfl⟩ := (hA.below hb).at_ hk
  obtain rfl : xs = l := by rw [hxs] at hl; injection hl
  obtain ⟨b1, o1, x, rfl, hb1, hx, hc1⟩ := hN.at_ hr
  rw [pl_of hx]
  have d1 : w'.cell? ⟨Bm, 0, none⟩ = some (.slice (some ⟨b, o, none⟩) n c) := (hb.cell (p := ⟨Bm, 0, none⟩) hm1.lt).trans hm1.cell
  have d2 : w'.cell? ⟨Bf, 0, none⟩ = some (.int .i64 r) := (hb.cell (p := ⟨Bf, 0, none⟩) hf1.lt).trans hf1.cell
  have i1 : (0 : Int) ≤ (k : Int) := by omega
  have i2 : (k : Int) < (n : Int) := by omega
  have i3 : (0 : Int) ≤ (r : Int) := by omega
  have i4 : (r : Int) < (n1 : Int) := by omega
  clear hA hm1 hf1 hN hx hxs hl hv hb
  show Calls Tryz.prog 71 #[.int .i64 k, .pointer (some ⟨Bm, 0, none⟩), .pointer (some ⟨Bf, 0, none⟩)] w' _
  go_enter Tryz.func71, Tryz.ntmps71
  go_wp2
  go_quiet (fail)
  obtain ⟨z1, rfl⟩ : ∃ z1, z1 = nq := ⟨_, rfl⟩
  go_wp2
  go_ret
  exact ⟨rfl, z1, rfl⟩

set_option maxHeartbeats 1000000 in
/-- One behind the sides' places ahead of place t. -/
theorem side3_any (A : Option Addr) (n c m t Bm Bt : Nat) (rows : List (Option Addr × Nat × Nat)) (ms : List (List Int)) (W : World) (ht1 : 1 ≤ t) (ht : t ≤ m) (hm : m ≤ 2000) (hA : Mats W W.heap.size A n rows ms m) (hm1 : Boxed W Bm 73 (.slice A n c)) (hf1 : Boxed W Bt 3 (.int .i64 t)) :
    SideFn 72 #[.pointer (some ⟨Bm, 0, none⟩), .pointer (some ⟨Bt, 0, none⟩)] (plUp ms ((t : Int) - 1)) W := by
  intro w' hb k v hv
  obtain ⟨l, hl, rfl⟩ := plUp_at hv
  obtain ⟨r, hr⟩ : ∃ r, t = r + 1 := ⟨t - 1, by omega⟩
  have hk : k < n := by have := (List.getElem?_eq_some_iff.1 hl).1; have := hA.1.len; omega
  obtain ⟨b, o, A1, n1, c1, xs, rfl, hbB, hxs, hc, hN, rfl⟩ := (hA.below hb).at_ hk
  obtain rfl : xs = l := by rw [hxs] at hl; injection hl
  obtain ⟨b1, o1, x, rfl, hb1, hx, hc1⟩ := hN.at_ (k := r) (by omega)
  have hxr := (hA.2 xs (List.mem_of_getElem? hxs)).2 x (List.mem_of_getElem? hx)
  have e1 : (t : Int) - 1 = (r : Int) := by omega
  rw [e1, pl_of hx]
  have d1 : w'.cell? ⟨Bm, 0, none⟩ = some (.slice (some ⟨b, o, none⟩) n c) := (hb.cell (p := ⟨Bm, 0, none⟩) hm1.lt).trans hm1.cell
  have d2 : w'.cell? ⟨Bt, 0, none⟩ = some (.int .i64 t) := (hb.cell (p := ⟨Bt, 0, none⟩) hf1.lt).trans hf1.cell
  have i1 : (0 : Int) ≤ (k : Int) := by omega
  have i2 : (k : Int) < (n : Int) := by omega
  have i3 : (0 : Int) ≤ (r : Int) := by omega
  have i4 : (r : Int) < (n1 : Int) := by omega
  have e2 : IntKind.i64.wrap ((t : Int) - 1) = (r : Int) := by rw [e1]; exact IntWalk.i64_in _ (by omega)
  have e3 : IntKind.i64.wrap (r : Int) = (r : Int) := IntWalk.i64_in _ (by omega)
  have e4 : IntKind.i64.wrap (x + 1) = x + 1 := IntWalk.i64_in _ (by omega)
  clear hA hm1 hf1 hN hx hxs hl hv hb hr
  show Calls Tryz.prog 72 #[.int .i64 k, .pointer (some ⟨Bm, 0, none⟩), .pointer (some ⟨Bt, 0, none⟩)] w' _
  go_enter Tryz.func72, Tryz.ntmps72
  go_wp2
  go_quiet (fail)
  obtain ⟨z1, rfl⟩ : ∃ z1, z1 = nq := ⟨_, rfl⟩
  go_wp2
  go_ret
  exact ⟨rfl, z1, rfl⟩

set_option maxHeartbeats 1000000 in
/-- The sides' ends. -/
theorem side4_any (A : Option Addr) (n c Bs : Nat) (sizes : List Int) (W : World) (hA : Nums W W.heap.size A n sizes) (hs1 : Boxed W Bs 75 (.slice A n c)) :
    SideFn 73 #[.pointer (some ⟨Bs, 0, none⟩)] sizes W := by
  intro w' hb k v hv
  have hk : k < n := by have := (List.getElem?_eq_some_iff.1 hv).1; have := hA.len; omega
  obtain ⟨b1, o1, x, rfl, hb1, hx, hc1⟩ := (Nums.below hA hb).at_ hk
  obtain rfl : x = v := by rw [hx] at hv; injection hv
  have d1 : w'.cell? ⟨Bs, 0, none⟩ = some (.slice (some ⟨b1, o1, none⟩) n c) := (hb.cell (p := ⟨Bs, 0, none⟩) hs1.lt).trans hs1.cell
  have i1 : (0 : Int) ≤ (k : Int) := by omega
  have i2 : (k : Int) < (n : Int) := by omega
  clear hA hs1 hx hv hb
  show Calls Tryz.prog 73 #[.int .i64 k, .pointer (some ⟨Bs, 0, none⟩)] w' _
  go_enter Tryz.func73, Tryz.ntmps73
  go_wp2
  go_ret
  exact ⟨rfl, 0, rfl⟩
end Go.Proofs.YtoopdgohdeddoaaGreatDoor
