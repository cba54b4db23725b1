/- Proved here: texts joined: Align, MgCks, MgCk2. -/
import Derived.Test.YtoopdgohdeddoaaGreatDoorBs22
import Derived.Test.YtoopdgohdeddoaaGreatDoorBs28
import Derived.Test.YtoopdgohdeddoaaGreatDoorBs36
import Derived.Test.YtoopdgohdeddoaaGreatDoorBs37
import Derived.Test.YtoopdgohdeddoaaGreatDoorBs38
import Derived.Test.YtoopdgohdeddoaaGreatDoorBs40
import Derived.Deep.LoopGhost
import Derived.Shelf.Abstract
/- Proved here: the contracts of the landed packages align (Align) and edit (Changes), as the laws of layer 5 ask them. -/
namespace Go.Proofs.YtoopdgohdeddoaaGreatDoor
open Go.RowKit
set_option linter.unusedVariables false

theorem fiveA (w : World) (o1 o2 o3 o4 o5 : Obj) : (((((w.alloc o1).alloc o2).alloc o3).alloc o4).alloc o5).heap.size = w.heap.size + 5 ∧ (((((w.alloc o1).alloc o2).alloc o3).alloc o4).alloc o5).heap[w.heap.size]? = some o1 ∧ (((((w.alloc o1).alloc o2).alloc o3).alloc o4).alloc o5).heap[w.heap.size + 1]? = some o2 ∧
    (((((w.alloc o1).alloc o2).alloc o3).alloc o4).alloc o5).heap[w.heap.size + 2]? = some o3 ∧ (((((w.alloc o1).alloc o2).alloc o3).alloc o4).alloc o5).heap[w.heap.size + 3]? = some o4 ∧ (((((w.alloc o1).alloc o2).alloc o3).alloc o4).alloc o5).heap[w.heap.size + 4]? = some o5 ∧ Below w.heap.size w (((((w.alloc o1).alloc o2).alloc o3).alloc o4).alloc o5) := by
  have n1 := Go.Deep.blk_alloc_new w o1
  have n2 := Go.Deep.blk_alloc_new (w.alloc o1) o2
  have n3 := Go.Deep.blk_alloc_new ((w.alloc o1).alloc o2) o3
  have n4 := Go.Deep.blk_alloc_new (((w.alloc o1).alloc o2).alloc o3) o4
  have n5 := Go.Deep.blk_alloc_new ((((w.alloc o1).alloc o2).alloc o3).alloc o4) o5
  simp only [size_push] at n2 n3 n4 n5
  have b2 := Below.heap_alloc (w.alloc o1) o2
  have b3 := Below.heap_alloc ((w.alloc o1).alloc o2) o3
  have b4 := Below.heap_alloc (((w.alloc o1).alloc o2).alloc o3) o4
  have b5 := Below.heap_alloc ((((w.alloc o1).alloc o2).alloc o3).alloc o4) o5
  simp only [size_push] at b2 b3 b4 b5
  refine ⟨by simp, ?_, ?_, ?_, ?_, n5, ?_⟩
  · exact (b5 _ (by omega)).trans ((b4 _ (by omega)).trans ((b3 _ (by omega)).trans ((b2 _ (by omega)).trans n1)))
  · exact (b5 _ (by omega)).trans ((b4 _ (by omega)).trans ((b3 _ (by omega)).trans n2))
  · exact (b5 _ (by omega)).trans ((b4 _ (by omega)).trans n3)
  · exact (b5 _ (by omega)).trans n4
  · exact (((((Below.refl _ w).alloc (Nat.le_refl _) o1).alloc (by simp) o2).alloc (by simp; omega) o3).alloc (by simp; omega) o4).alloc (by simp; omega) o5

theorem snd_zip (a f : List Int) (h : a.length = f.length) : (List.zip a f).map (fun s => s.2) = f := List.map_snd_zip (by omega)

/-- How far Align has come. -/
structure AlignIn (w wr : World) (m : Nat) (sizes : List Int) (ms : List (List Int)) (A : Option Addr) (n c : Nat) (A' : Option Addr) (c' : Nat) (v : Value) (ps : List (Ck × Nat)) (g : Nat) (st : Bool) (f : Int) (b : Nat) (old : List Sp) (p : Option Bool) : Prop where
  last : LastIn wr (w.heap.size + 4) (w.heap.size + 2) (w.heap.size + 5) n v ps g st f b old
  cut : CutIn m sizes ms (ps.map fun p => p.1) p b (old.map fun s => s.2)
  few : ps.length ≤ 2 * b
  bs : Boxed wr w.heap.size 75 (.slice A n c)
  bm : Boxed wr (w.heap.size + 1) 73 (.slice A' n c')
  below : Below w.heap.size w wr

section
variable {w wr w1 : World} {m : Nat} {sizes : List Int} {ms : List (List Int)} {A A' : Option Addr} {n c c' : Nat} {v : Value} {ps : List (Ck × Nat)} {g : Nat} {st : Bool} {f : Int} {b : Nat} {old : List Sp} {p : Option Bool}
theorem AlignIn.grown (hn : 0 < n) (h : AlignIn w wr m sizes ms A n c A' c' v ps g st f b old p) (hb : Below wr.heap.size wr w1) : AlignIn w w1 m sizes ms A n c A' c' v ps g st f b old p :=
  ⟨h.last.below hn hb, h.cut, h.few, (hb.block _ h.bs.lt).trans h.bs, (hb.block _ h.bm.lt).trans h.bm, h.below.trans (hb.mono h.below.size)⟩
theorem putC_len (cs : List Ck) (d : Ck) : (putC cs d).length ≤ cs.length + 1 := by
  unfold putC
  split
  · omega
  · simp
theorem AlignIn.start (hnl : sizes.length = n) (hn : 0 < n) : AlignIn w (((((w.alloc (.cells #[.slice A n c] 75)).alloc (.cells #[.slice A' n c'] 73)).alloc (.cells #[.slice none 0 0] 41)).alloc (.cells (madeCells #[.int .i64 0, .int .i64 0] (n * 2)) 48)).alloc
    (.cells #[.bool false, .int .i64 0, .int .i64 0, .slice (some ⟨w.heap.size + 1 + 1 + 1, 0, none⟩) n n] 51)) m sizes ms A n c A' c' (.slice none 0 0) [] (w.heap.size + 3) false 0 0 (List.replicate n (0, 0)) none := by
  obtain ⟨hs, h1, h2, h3, h4, h5, hb⟩ := fiveA w (.cells #[.slice A n c] 75) (.cells #[.slice A' n c'] 73) (.cells #[.slice none 0 0] 41) (.cells (madeCells #[.int .i64 0, .int .i64 0] (n * 2)) 48) (.cells #[.bool false, .int .i64 0, .int .i64 0, .slice (some ⟨w.heap.size + 1 + 1 + 1, 0, none⟩) n n] 51)
  have hz : spF (List.replicate n ((0, 0) : Sp)) 0 = spF (List.replicate n ((0, 0) : Sp)) 0 := rfl
  have hrow : ∀ W : World, W.rowIs (w.heap.size + 3) 48 (n * 2) (spF (List.replicate n ((0, 0) : Sp)) 0) → W.rowIs (w.heap.size + 3) 48 (n * 2) (spF (List.replicate n ((0, 0) : Sp)) n) := fun W h => h.congr fun i hi => by
    have h2 : i / 2 < n := by omega
    unfold spF
    simp [h2]
  refine ⟨⟨h5, spF_reads (hrow _ (row_spans _ h4)) (by simp), h3, World.ownsRow_nil _ _ _ _, fun p hp => by simp at hp, ⟨by omega, by omega, by simp [Value.ownBlock]⟩, by omega, by omega, by omega, by omega⟩, ?_, by simp, h1, h2, hb⟩
  have := CutIn.start m sizes ms
  rw [hnl] at this
  simpa using this
/-- Behind what a put leaves, all else stands. -/
theorem AlignIn.kept (h : AlignIn w wr m sizes ms A n c A' c' v ps g st f b old p) (hb : But (fun k => k = w.heap.size + 4 ∨ k = w.heap.size + 2 ∨ v.ownBlock = some k) wr w1) : Boxed w1 w.heap.size 75 (.slice A n c) ∧ Boxed w1 (w.heap.size + 1) 73 (.slice A' n c') ∧ Below w.heap.size w w1 := by
  have hown : ∀ k, v.ownBlock = some k → w.heap.size + 5 ≤ k := fun k hk => (h.last.own.lt k hk).1
  refine ⟨(hb.block _ h.bs.lt ?_).trans h.bs, (hb.block _ h.bm.lt ?_).trans h.bm, h.below.trans (hb.below h.below.size ?_)⟩
  · rintro (e | e | e)
    · omega
    · omega
    · have := hown _ e; omega
  · rintro (e | e | e)
    · omega
    · omega
    · have := hown _ e; omega
  · rintro k (e | e | e)
    · omega
    · omega
    · have := hown _ e; omega
end

/-- Between both puts of a round. -/
structure MidIn (w wx : World) (m : Nat) (sizes : List Int) (ms : List (List Int)) (A : Option Addr) (n c : Nat) (A' : Option Addr) (c' : Nat) (ps : List (Ck × Nat)) (b r t fb tb : Nat) (a : List Int) (v1 : Value) (ps1 : List (Ck × Nat)) (g1 : Nat) (old1 : List Sp) : Prop where
  last : LastIn wx (w.heap.size + 4) (w.heap.size + 2) (w.heap.size + 5) n v1 ps1 g1 false b r old1
  list : ps1.map (fun p => p.1) = putC (ps.map fun p => p.1) (ckOf false b r a (plAll ms r))
  ends : old1.map (fun s => s.2) = plAll ms r
  bs : Boxed wx w.heap.size 75 (.slice A n c)
  bm : Boxed wx (w.heap.size + 1) 73 (.slice A' n c')
  below : Below w.heap.size w wx
  fbx : Boxed wx fb 3 (.int .i64 r)
  tbx : Boxed wx tb 3 (.int .i64 t)
  fbo : v1.ownBlock ≠ some fb ∧ w.heap.size + 5 ≤ fb
  tbo : v1.ownBlock ≠ some tb ∧ w.heap.size + 5 ≤ tb

section
variable {w wo wx wy : World} {m : Nat} {sizes : List Int} {ms : List (List Int)} {A A' : Option Addr} {n c c' : Nat} {v : Value} {ps : List (Ck × Nat)} {g : Nat} {st : Bool} {f : Int} {b r t fb tb : Nat} {old : List Sp} {p : Option Bool}
theorem not_own {v v' : Value} {W : World} {k : Nat} (hk : k < W.heap.size) (h : v.ownBlock ≠ some k) (hl : v'.ownBlock = v.ownBlock ∨ ∃ q, v'.ownBlock = some q ∧ W.heap.size ≤ q) : v'.ownBlock ≠ some k := by
  rcases hl with e | ⟨q, e, hq⟩
  · rw [e]; exact h
  · rw [e]
    intro e
    injection e with e
    omega
theorem mid_of (hml : ms.length = n) (h : AlignIn w wo m sizes ms A n c A' c' v ps g st f b old p) (hp : PutOut wo wx (w.heap.size + 4) (w.heap.size + 2) (w.heap.size + 5) n v ps false b r (old.map fun s => s.2) (plAll ms r))
    (hfb : Boxed wo fb 3 (.int .i64 r)) (htb : Boxed wo tb 3 (.int .i64 t)) (hfo : v.ownBlock ≠ some fb ∧ w.heap.size + 5 ≤ fb) (hto : v.ownBlock ≠ some tb ∧ w.heap.size + 5 ≤ tb) :
    ∃ v1 ps1 g1 old1, MidIn w wx m sizes ms A n c A' c' ps b r t fb tb (old.map fun s => s.2) v1 ps1 g1 old1 := by
  obtain ⟨v', ps', G, hL, hl, hb, hloc⟩ := hp
  obtain ⟨k1, k2, k3⟩ := h.kept hb
  have hal := h.last.lastS.len
  refine ⟨v', ps', G, _, hL, hl, snd_zip _ _ (by rw [plAll_len, List.length_map]; omega), k1, k2, k3, (hb.block _ hfb.lt ?_).trans hfb, (hb.block _ htb.lt ?_).trans htb, ⟨not_own hfb.lt hfo.1 hloc, hfo.2⟩, ⟨not_own htb.lt hto.1 hloc, hto.2⟩⟩
  · rintro (e | e | e)
    · omega
    · omega
    · exact hfo.1 e
  · rintro (e | e | e)
    · omega
    · omega
    · exact hto.1 e
theorem MidIn.kept {v1 : Value} {ps1 : List (Ck × Nat)} {g1 : Nat} {old1 : List Sp} {a : List Int} (h : MidIn w wx m sizes ms A n c A' c' ps b r t fb tb a v1 ps1 g1 old1) (hb : But (fun k => k = w.heap.size + 4 ∨ k = w.heap.size + 2 ∨ v1.ownBlock = some k) wx wy) : Boxed wy w.heap.size 75 (.slice A n c) ∧ Boxed wy (w.heap.size + 1) 73 (.slice A' n c') ∧ Below w.heap.size w wy := by
  have hown : ∀ k, v1.ownBlock = some k → w.heap.size + 5 ≤ k := fun k hk => (h.last.own.lt k hk).1
  refine ⟨(hb.block _ h.bs.lt ?_).trans h.bs, (hb.block _ h.bm.lt ?_).trans h.bm, h.below.trans (hb.below h.below.size ?_)⟩
  · rintro (e | e | e)
    · omega
    · omega
    · have := hown _ e; omega
  · rintro (e | e | e)
    · omega
    · omega
    · have := hown _ e; omega
  · rintro k (e | e | e)
    · omega
    · omega
    · have := hown _ e; omega
theorem next_of (hM : ∀ (k : Nat) (l : List Int) (z : Int), ms[k]? = some l → sizes[k]? = some z → IsMatch m l z) (hml : ms.length = n) (hnl : sizes.length = n) (h : AlignIn w wo m sizes ms A n c A' c' v ps g st f b old p) (hr : Next ms m b r) (hrm : r < m) (ht : RunTo ms m r t) {v1 : Value} {ps1 : List (Ck × Nat)} {g1 : Nat} {old1 : List Sp}
    (hm : MidIn w wx m sizes ms A n c A' c' ps b r t fb tb (old.map fun s => s.2) v1 ps1 g1 old1) (hp : PutOut wx wy (w.heap.size + 4) (w.heap.size + 2) (w.heap.size + 5) n v1 ps1 true r t (old1.map fun s => s.2) (plUp ms ((t : Int) - 1))) :
    ∃ v2 ps2 g2 old2, AlignIn w wy m sizes ms A n c A' c' v2 ps2 g2 true r t old2 (some true) ∧ Boxed wy fb 3 (.int .i64 r) ∧ Boxed wy tb 3 (.int .i64 t) ∧ v2.ownBlock ≠ some fb ∧ v2.ownBlock ≠ some tb := by
  obtain ⟨v', ps', G, hL, hl, hb, hloc⟩ := hp
  obtain ⟨k1, k2, k3⟩ := hm.kept hb
  obtain ⟨r1, r2, r3, r4⟩ := hr
  obtain ⟨t1, t2, t3, t4⟩ := ht
  have hstep := h.cut.step (e := (r : Int)) (t := (t : Int)) hM (by omega) (by omega) (by omega) (by omega) r3 (r4 hrm) t3 (fun h => t4 (by omega))
  rw [hm.ends, hm.list] at hl
  rw [hm.ends] at hL
  have hz := snd_zip (plAll ms r) (plUp ms ((t : Int) - 1)) (by rw [plAll_len, plUp_len])
  have hlen := congrArg List.length hl
  rw [List.length_map] at hlen
  have q1 := putC_len (putC (ps.map fun p => p.1) (ckOf false b r (old.map fun s => s.2) (plAll ms r))) (ckOf true r t (plAll ms r) (plUp ms ((t : Int) - 1)))
  have q2 := putC_len (ps.map fun p => p.1) (ckOf false b r (old.map fun s => s.2) (plAll ms r))
  rw [List.length_map] at q2
  have q3 := h.few
  refine ⟨v', ps', G, _, ⟨hL, ?_, by omega, k1, k2, k3⟩, (hb.block _ hm.fbx.lt ?_).trans hm.fbx, (hb.block _ hm.tbx.lt ?_).trans hm.tbx, not_own hm.fbx.lt hm.fbo.1 hloc, not_own hm.tbx.lt hm.tbo.1 hloc⟩
  · rw [hl, hz]; exact hstep
  · have := hm.fbo
    rintro (e | e | e)
    · omega
    · omega
    · exact this.1 e
  · have := hm.tbo
    rintro (e | e | e)
    · omega
    · omega
    · exact this.1 e
theorem done_of (hM : ∀ (k : Nat) (l : List Int) (z : Int), ms[k]? = some l → sizes[k]? = some z → IsMatch m l z) (hz : ∀ z ∈ sizes, 0 ≤ z ∧ z ≤ 2000) (hn : n ≤ 16) (hml : ms.length = n) (hnl : sizes.length = n) (h : AlignIn w wo m sizes ms A n c A' c' v ps g st f b old p) (hr : Next ms m b m)
    (hp : PutOut wo wx (w.heap.size + 4) (w.heap.size + 2) (w.heap.size + 5) n v ps false b m (old.map fun s => s.2) sizes) :
    ∃ v2, Boxed wx (w.heap.size + 2) 41 v2 ∧ ∃ A1 n1 c1 cs, v2 = .slice A1 n1 c1 ∧ IsCut m sizes ms cs ∧ n1 = cs.length ∧ n1 ≤ c1 ∧ c1 ≤ maxLen ∧ Cks wx wx.heap.size A1 n1 cs ∧ Below w.heap.size w wx := by
  obtain ⟨v', ps', G, hL, hl, hb, hloc⟩ := hp
  obtain ⟨k1, k2, k3⟩ := h.kept hb
  obtain ⟨A1, c1, e, q1, q2, q3⟩ := hL.reads (by unfold maxLen; omega)
  refine ⟨v', hL.box, A1, _, c1, _, e, ?_, by simp, q1, q2, q3, k3⟩
  rw [hl]
  exact h.cut.finish hM (by omega) (fun z h => (hz z h).1) hr.2.2.1
end

theorem Spans.not_box {w : World} {B n g k : Nat} {ss : List Sp} {t : TypeId} {u : Value} (hn : 0 < n) (h : Spans w B (some ⟨g, 0, none⟩) n ss) (hb : Boxed w k t u) : g ≠ k := by
  rintro rfl
  obtain ⟨b, o, s, e, -, -, -, hc⟩ := h.at_ (k := 0) hn
  injection e with e
  injection e with e1 e2
  subst e1
  subst e2
  rw [cells_of hb] at hc
  simp at hc
/-- A number in a box of its own is stored. -/
theorem AlignIn.stored {w wr : World} {m : Nat} {sizes : List Int} {ms : List (List Int)} {A A' : Option Addr} {n c c' : Nat} {v : Value} {ps : List (Ck × Nat)} {g : Nat} {st : Bool} {f : Int} {b fb : Nat} {old : List Sp} {p : Option Bool} {u u' : Value} {t : TypeId} (hn : 0 < n) (h : AlignIn w wr m sizes ms A n c A' c' v ps g st f b old p)
    (hfb : Boxed wr fb t u) (hfo : v.ownBlock ≠ some fb) (hf5 : w.heap.size + 5 ≤ fb) : AlignIn w (wr.setCell ⟨fb, 0, none⟩ u') m sizes ms A n c A' c' v ps g st f b old p := by
  have hb : But (fun k => k = fb) wr (wr.setCell ⟨fb, 0, none⟩ u') := But.setCell (F := fun k => k = fb) wr (p := ⟨fb, 0, none⟩) rfl u'
  exact ⟨h.last.kept hn hb (by omega) (by omega) (fun k hk e => hfo (by rw [← e]; exact hk)) (h.last.lastS.not_box hn hfb) (fun p hp => (h.last.rows p hp).1.not_box hn hfb), h.cut, h.few, (hb.block _ h.bs.lt (by omega)).trans h.bs, (hb.block _ h.bm.lt (by omega)).trans h.bm, h.below.trans (hb.below h.below.size (fun k e => by omega))⟩

/-- At a round's head. -/
def Head5 (w wr : World) (m : Nat) (sizes : List Int) (ms : List (List Int)) (A : Option Addr) (n c : Nat) (A' : Option Addr) (c' : Nat) (gk : Nat) (s11 : Value) : Prop :=
  ∃ (fb r b : Nat) (v : Value) (ps : List (Ck × Nat)) (g : Nat) (st : Bool) (f : Int) (old : List Sp) (p : Option Bool), s11 = .pointer (some ⟨fb, 0, none⟩) ∧ Boxed wr fb 3 (.int .i64 r) ∧ v.ownBlock ≠ some fb ∧ w.heap.size + 5 ≤ fb ∧ gk = m - b ∧ Next ms m b r ∧ AlignIn w wr m sizes ms A n c A' c' v ps g st f b old p

set_option maxRecDepth 100000 in
set_option maxHeartbeats 4000000 in
theorem align_any (A : Option Addr) (n c : Nat) (sizes : List Int) (A' : Option Addr) (c' : Nat) (rows : List (Option Addr × Nat × Nat)) (ms : List (List Int)) (m : Nat) (w : World) (hn1 : 1 ≤ n) (hn : n ≤ 16) (hml : ms.length = n) (hm : m ≤ 2000) (hz : ∀ z ∈ sizes, 0 ≤ z ∧ z ≤ 2000)
    (hM : ∀ (k : Nat) (l : List Int) (z : Int), ms[k]? = some l → sizes[k]? = some z → IsMatch m l z) (hA : Nums w w.heap.size A n sizes) (hA' : RowsN w w.heap.size A' n rows ms) :
    Calls Tryz.prog 39 #[.int .i64 m, .slice A n c, .slice A' n c'] w fun e w' => AlignOut w w' e m sizes ms := by
  have hnl : sizes.length = n := hA.len
  have hmat : ∀ l ∈ ms, l.length = m ∧ ∀ v ∈ l, -1 ≤ v ∧ v < 2000 := fun l hl => by
    obtain ⟨k, hk⟩ := List.mem_iff_getElem?.1 hl
    have hkl := (List.getElem?_eq_some_iff.1 hk).1
    have hzk : sizes[k]? = some sizes[k] := List.getElem?_eq_getElem (by omega)
    have h := hM k l _ hk hzk
    have hzz := hz _ (List.mem_of_getElem? hzk)
    refine ⟨h.1, fun v hv => ?_⟩
    by_cases e : v = -1
    · omega
    · have := h.2.1 v hv e; omega
  have hMat := Lib.hid (fun (W : World) (hb : Below w.heap.size w W) => (⟨hA'.below hb, hmat⟩ : Mats W w.heap.size A' n rows ms m))
  have hare := Lib.hid (fun (W : World) (hb : Below w.heap.size w W) => areMatches_any A n c w.heap.size sizes A' n c' w.heap.size rows ms m W hn1 hn hm hml hz hM (Nums.below hA hb) (hA'.below hb))
  have hnx := Lib.hid (fun (W : World) (hb : Below w.heap.size w W) (i : Nat) (hi : i ≤ m) => nextStable_any A' n c' w.heap.size rows ms m i W hn hm hi (hMat.out W hb))
  have hru := Lib.hid (fun (W : World) (hb : Below w.heap.size w W) (i : Nat) (hi : i < m) => runEnd_any A' n c' w.heap.size rows ms m i W hn hm hi (hMat.out W hb))
  have hstart := Lib.hid (AlignIn.start (w := w) (m := m) (sizes := sizes) (ms := ms) (A := A) (n := n) (c := c) (A' := A') (c' := c') hnl hn1)
  have hmk := make_spans n (by omega)
  have hMh := Lib.hid hM
  have hzh := Lib.hid hz
  have hAh := Lib.hid hA
  clear hM hz hA hA' hmat
  go_enter Tryz.func39, Tryz.ntmps39
  go_upto_region 6 with (go_at_call 65; refine (hare.out _ (((Below.refl _ w).alloc (Nat.le_refl _) _).alloc (by simp) _)).mono ?_; rintro e w' ⟨rfl, rfl⟩)
  go_cut [11, 23, 24, 25] (fun s11 _ _ _ wx => Hid (Head5 w wx m sizes ms A n c A' c' m s11))
  case first =>
    go_wp2_with (go_at_call 69; refine (hnx.out _ hstart.out.below 0 (Nat.zero_le _)).mono ?_; rintro e w' ⟨⟨r, hr, rfl⟩, rfl⟩)
    go_meet
    case rel =>
      have hs := hstart.out
      have hgr := hs.grown hn1 ((Below.refl _ _).alloc (Nat.le_refl _) (.cells #[.int .i64 (r : Int)] 3))
      refine Lib.hid ⟨_, r, 0, .slice none 0 0, [], _, _, _, _, none, rfl, ?_, by simp [Value.ownBlock], ?_, rfl, hr, hgr⟩
      · have := Boxed.new (((((w.alloc (.cells #[.slice A n c] 75)).alloc (.cells #[.slice A' n c'] 73)).alloc (.cells #[.slice none 0 0] 41)).alloc (.cells (madeCells #[.int .i64 0, .int .i64 0] (n * 2)) 48)).alloc (.cells #[.bool false, .int .i64 0, .int .i64 0, .slice (some ⟨w.heap.size + 1 + 1 + 1, 0, none⟩) n n] 51)) 3 (.int .i64 (r : Int))
        simp only [size_push] at this
        exact this
      · omega
  case rest =>
    go_wp2
    go_loopg [11, 12] m (fun gk s11 _ wr => Hid (Head5 w wr m sizes ms A n c A' c' gk s11))
    case atStart => exact hcut
    case round =>
      obtain ⟨fb, r, b, v, ps, g, st, f, old, p, rfl, hfb, hfo, hfb5, rfl, hr, hI⟩ := hrel.out
      obtain ⟨wo, rfl⟩ : ∃ wo : World, wo = wr := ⟨_, rfl⟩
      clear hrel hcut
      have c0 := hfb.cell
      have cm := hI.bm.cell
      by_cases hlt : r < m
      · have hIh := Lib.hid hI
        have hrh := Lib.hid hr
        have hfbh := Lib.hid hfb
        have hBe := hI.below
        have hlast := Lib.hid hI.last
        have hsz := hI.last.size
        clear hI hr hfb
        go_upto_region 8 with fail
        go_cut [12, 29, 30, 31, 32] (fun s12 _ _ _ _ wx => ∃ t tb, s12 = .pointer (some ⟨tb, 0, none⟩) ∧ Hid (RunTo ms m r t) ∧ Hid (Boxed wx tb 3 (.int .i64 t)) ∧ Hid (Boxed wx fb 3 (.int .i64 r)) ∧ Hid (AlignIn w wx m sizes ms A n c A' c' v ps g st f b old p) ∧ Hid (v.ownBlock ≠ some tb ∧ w.heap.size + 5 ≤ tb))
        case first =>
          go_wp2_with (go_at_call 70; refine (hru.out _ hBe r hlt).mono ?_; rintro e w1 ⟨⟨t, ht, rfl⟩, hq⟩; have hqh := Lib.hid hq; have hth := Lib.hid ht; clear hq ht)
          go_meet
          case rel =>
            have ht := hth.out
            obtain ⟨q, rfl⟩ := hqh.out
            have hgr : Below wo.heap.size wo ((wo.drewN q).alloc (.cells #[.int .i64 (t : Int)] 3)) := (below_drewN (Below.refl wo.heap.size wo) q).alloc (Nat.le_refl _) _
            have hsq : (wo.drewN q).heap.size = wo.heap.size := rfl
            refine ⟨t, _, rfl, Lib.hid ht, Lib.hid ?_, Lib.hid ?_, Lib.hid (hIh.out.grown hn1 hgr), Lib.hid ⟨fun e => ?_, by omega⟩⟩
            · exact Boxed.new (wo.drewN q) 3 (.int .i64 (t : Int))
            · exact (hgr.block _ hfbh.out.lt).trans hfbh.out
            · have := (hlast.out.own.lt _ e).2; omega
        case rest =>
          obtain ⟨t, tb, rfl, ht, htb, hfb, hI, hto⟩ := hcut
          clear hIh hfbh hlast hBe hsz c0 cm
          obtain ⟨wo, rfl⟩ : ∃ wo : World, wo = wc := ⟨_, rfl⟩
          have c0 := hfb.out.cell
          have hP1 := Lib.hid (put_any (w.heap.size + 1 + 1 + 1 + 1) (w.heap.size + 1 + 1) (w.heap.size + 5) n v ps g st false f b r old 71 #[.pointer (some ⟨w.heap.size + 1, 0, none⟩), .pointer (some ⟨fb, 0, none⟩)] (plAll ms r) wo hn1 hn (by have := hI.out.few; have := hI.out.cut.bm; omega) (by have := hrh.out.1; omega) (by rw [plAll_len]; exact hml)
            (enters_of Tryz.func71 (by kernel_rfl) rfl) (side2_any A' n c' m r _ fb rows ms wo hlt (Mats.more (hMat.out wo hI.out.below) hI.out.below.size) hI.out.bm hfb.out) hI.out.last)
          go_upto_region 9 with fail
          go_cut [33, 34, 35, 36] (fun _ _ _ _ wx => Hid (PutOut wo wx (w.heap.size + 4) (w.heap.size + 2) (w.heap.size + 5) n v ps false b r (old.map fun s => s.2) (plAll ms r)))
          case first =>
            go_wp2_with (go_at_call 66; refine hP1.out.mono ?_; rintro e w1 ⟨rfl, hp⟩; have hph := Lib.hid hp; clear hp)
            go_meet
            case rel => exact hph
          case rest =>
            clear hP1 c0
            obtain ⟨v1, ps1, g1, old1, hmid⟩ := mid_of hml hI.out hcut.out hfb.out htb.out ⟨hfo, hfb5⟩ hto.out
            have hmidh := Lib.hid hmid
            clear hcut hfb htb
            obtain ⟨wo, rfl⟩ : ∃ wo : World, wo = wc := ⟨_, rfl⟩
            have d0 := hmidh.out.tbx.cell
            have hP2 := Lib.hid (put_any (w.heap.size + 1 + 1 + 1 + 1) (w.heap.size + 1 + 1) (w.heap.size + 5) n v1 ps1 g1 false true b r t old1 72 #[.pointer (some ⟨w.heap.size + 1, 0, none⟩), .pointer (some ⟨tb, 0, none⟩)] (plUp ms ((t : Int) - 1)) wo hn1 hn
              (by have := congrArg List.length hmid.list; have := putC_len (ps.map fun p => p.1) (ckOf false b r (old.map fun s => s.2) (plAll ms r)); rw [List.length_map] at *; have := hI.out.few; have := hI.out.cut.bm; omega) (by have := ht.out.1; omega) (by rw [plUp_len]; exact hml)
              (enters_of Tryz.func72 (by kernel_rfl) rfl) (side3_any A' n c' m t _ tb rows ms wo (by have := ht.out.1; omega) ht.out.2.1 hm (Mats.more (hMat.out wo hmid.below) hmid.below.size) hmid.bm hmid.tbx) hmid.last)
            clear hmid
            go_upto_region 10 with fail
            go_cut [37, 38, 39, 40] (fun _ _ _ _ wx => Hid (PutOut wo wx (w.heap.size + 4) (w.heap.size + 2) (w.heap.size + 5) n v1 ps1 true r t (old1.map fun s => s.2) (plUp ms ((t : Int) - 1))))
            case first =>
              go_wp2_with (go_at_call 66; refine hP2.out.mono ?_; rintro e w1 ⟨rfl, hp⟩; have hph := Lib.hid hp; clear hp)
              go_meet
              case rel => exact hph
            case rest =>
              clear hP2 d0
              obtain ⟨v2, ps2, g2, old2, hI2, hfb2, htb2, hfo2, hto2⟩ := next_of hMh.out hml hnl hI.out hrh.out hlt ht.out hmidh.out hcut.out
              have htm := ht.out.2.1
              have hbt : b < t := by have := hrh.out.1; have := ht.out.1; omega
              have hIh := Lib.hid hI2
              have hfbh := Lib.hid hfb2
              have hBe := hI2.below
              have cm := hI2.bm.cell
              have c1 := htb2.cell
              have c2 := hfb2.cell
              have c3 := hfb2.frozen
              clear hcut hmidh hI hI2 hfb2 htb2 hrh ht hto
              obtain ⟨wo, rfl⟩ : ∃ wo : World, wo = wc := ⟨_, rfl⟩
              have hsz := hIh.out.last.size
              go_wp2_with (go_at_call 69; refine (hnx.out _ hBe t htm).mono ?_; rintro e w' ⟨⟨r2, hr2, rfl⟩, rfl⟩; have hr2h := Lib.hid hr2; clear hr2)
              go_roundg (m - t)
              case measure => omega
              case rel =>
                have hI3 := hIh.out.stored (u' := .int .i64 (r2 : Int)) hn1 hfbh.out hfo2 hfb5
                have hgr := (Below.refl (w'.setCell ⟨fb, 0, none⟩ (.int .i64 (r2 : Int))).heap.size (w'.setCell ⟨fb, 0, none⟩ (.int .i64 (r2 : Int)))).alloc (Nat.le_refl _) (.cells #[.int .i64 (r2 : Int)] 3)
                have hss : (w'.setCell ⟨fb, 0, none⟩ (.int .i64 (r2 : Int))).heap.size = w'.heap.size := by simp
                have hbx := Boxed.new (w'.setCell ⟨fb, 0, none⟩ (.int .i64 (r2 : Int))) 3 (.int .i64 (r2 : Int))
                rw [hss] at hbx
                exact Lib.hid ⟨_, r2, t, v2, ps2, g2, true, _, old2, some true, rfl, hbx, (fun e => by have := (hIh.out.last.own.lt _ e).2; omega), by omega, rfl, hr2h.out, hI3.grown hn1 hgr⟩
      · obtain rfl : r = m := by have := hr.2.1; omega
        have hP3 := Lib.hid (put_any (w.heap.size + 1 + 1 + 1 + 1) (w.heap.size + 1 + 1) (w.heap.size + 5) n v ps g st false f b r old 73 #[.pointer (some ⟨w.heap.size, 0, none⟩)] sizes wo hn1 hn (by have := hI.few; have := hI.cut.bm; omega) (by have := hr.1; omega) hnl
          (enters_of Tryz.func73 (by kernel_rfl) rfl) (side4_any A n c _ sizes wo ((Nums.below hAh.out hI.below).more hI.below.size) hI.bs) hI.last)
        have hdone := Lib.hid (fun wx hp => done_of (wx := wx) hMh.out hzh.out hn hml hnl hI hr hp)
        clear hI hr hfb hAh
        go_wp2_with (go_at_call 66; refine hP3.out.mono ?_; rintro e w1 ⟨rfl, hp⟩; obtain ⟨v2, hv2, hrest⟩ := hdone.out w1 hp; have c9 : w1.cell? ⟨w.heap.size + 1 + 1, 0, none⟩ = some v2 := hv2.cell; have hrh := Lib.hid hrest; clear hp hrest hv2)
        obtain ⟨A1, n1, c1, cs, rfl, q1, q2, q3, q4, q5, q6⟩ := hrh.out
        go_ret2
        exact ⟨cs, q1, A1, n1, c1, rfl, q2, q3, q4, q5, q6⟩

theorem align_none (m : Nat) (w : World) : Calls Tryz.prog 39 #[.int .i64 m, .slice none 0 0, .slice none 0 0] w fun e w' => CkOut w w' e 1 [] := by
  go_enter Tryz.func39, Tryz.ntmps39
  go_wp2_with (go_at_call 65; refine (areMatches_nil m _).mono ?_; rintro e w' ⟨rfl, rfl⟩)
  go_ret2
  exact ⟨none, 0, 0, rfl, rfl, Nat.le_refl _, Nat.zero_le _, Cks.nil _ _ _, ((Below.refl _ w).alloc (Nat.le_refl _) _).alloc (by simp) _⟩

theorem align_ok : AlignOk where
  align_ok := fun A n c sizes A' n' c' rows ms m w h1 h2 _ _ _ _ h7 h8 h9 h10 h11 h12 => by
    obtain rfl : n' = n := by have := h12.len; omega
    exact align_any A n' c sizes A' c' rows ms m w h1 h2 h7 h8 h9 h10 h11 h12
  align_nil := fun m w _ => align_none m w
end Go.Proofs.YtoopdgohdeddoaaGreatDoor
/- Proved here: the contract of the landed merge.Chunks. -/
namespace Go.Proofs.YtoopdgohdeddoaaGreatDoor
open Go.RowKit
set_option linter.unusedVariables false
set_option maxRecDepth 100000

/-- Two rows that were just made, for sizes and for matches. -/
structure TwoK (w wx : World) (Gs Gm n : Nat) : Prop where
  rs : wx.rowIs Gs 3 n (fun _ => .int .i64 0)
  rm : wx.rowIs Gm 75 n (fun _ => .slice none 0 0)
  ne : Gs ≠ Gm
  gs : w.heap.size ≤ Gs
  gm : w.heap.size ≤ Gm
  below : Below w.heap.size w wx
theorem twoK_a (w : World) (n : Nat) : TwoK w ((w.alloc (.cells (madeCells #[.int .i64 0] n) 3)).alloc (.cells (madeCells #[.slice none 0 0] n) 75)).drew w.heap.size (w.heap.size + 1) n := by
  have h1 := World.rowIs_made w (.int .i64 0) n 3
  have h2 := World.rowIs_made (w.alloc (.cells (madeCells #[.int .i64 0] n) 3)) (.slice none 0 0) n 75
  have hz : (w.alloc (.cells (madeCells #[.int .i64 0] n) 3)).heap.size = w.heap.size + 1 := by simp
  rw [hz] at h2
  exact ⟨(h1.of_block (Below.heap_alloc _ _ _ (by rw [hz]; omega))).of_block rfl, h2.of_block rfl, by omega, Nat.le_refl _, by omega, below_drew (((Below.refl _ _).alloc (Nat.le_refl _) _).alloc (by rw [hz]; omega) _)⟩
theorem twoK_b (w : World) (n : Nat) : TwoK w ((w.alloc (.cells (madeCells #[.slice none 0 0] n) 75)).alloc (.cells (madeCells #[.int .i64 0] n) 3)).drew (w.heap.size + 1) w.heap.size n := by
  have h1 := World.rowIs_made w (.slice none 0 0) n 75
  have h2 := World.rowIs_made (w.alloc (.cells (madeCells #[.slice none 0 0] n) 75)) (.int .i64 0) n 3
  have hz : (w.alloc (.cells (madeCells #[.slice none 0 0] n) 75)).heap.size = w.heap.size + 1 := by simp
  rw [hz] at h2
  exact ⟨h2.of_block rfl, (h1.of_block (Below.heap_alloc _ _ _ (by rw [hz]; omega))).of_block rfl, by omega, by omega, Nat.le_refl _, below_drew (((Below.refl _ _).alloc (Nat.le_refl _) _).alloc (by rw [hz]; omega) _)⟩

theorem LoopK.drew {w0 wr : World} {Gs Gm n k : Nat} {T : Nat → Nat} {a : List Int} {bs : List (List Int)} {sz : List Int} {M : Nat → SlcN} (h : LoopK w0 wr Gs Gm n T a bs sz M k) : LoopK w0 wr.drew Gs Gm n T a bs sz M k :=
  ⟨h.rs.of_block rfl, h.rm.of_block rfl, fun i b h1 h2 => by obtain ⟨m1, m2, m3, m4, m5⟩ := h.mat i b h1 h2; exact ⟨m1, m2, m3, m4.drew, m5⟩, ⟨h.but.os, h.but.tape, h.but.output, h.but.size, h.but.block⟩⟩
/-- The loop begins. -/
theorem loop_start {w3 wx : World} {Gs Gm G n : Nat} {T lo hi : Nat → Nat} {a : List Int} {bs : List (List Int)} {sz : List Int} (hlen : bs.length = n) (hP : PairsK w3 G n T lo hi a bs n) (h : TwoK w3 wx Gs Gm n) :
    ReadyK wx Gs Gm G n T lo hi a bs ∧ LoopK wx wx Gs Gm n T a bs sz (fun _ => (none, 0, 0)) 0 := by
  have hs := h.below.size
  have hG := hP.row.lt
  have h1 := h.gs
  have h2 := h.gm
  refine ⟨⟨⟨hP.row.of_block (h.below.block G hG), fun i b hi' hb => ?_, hP.apart⟩, h.rs.lt, h.rm.lt, h.ne, fun i hi' => ?_, ⟨by omega, by omega⟩, hlen⟩, ⟨h.rs.congr fun i _ => by rw [if_neg (by omega)], h.rm.congr fun i _ => by rw [if_neg (by omega)], fun i b hi' => by omega, .refl _ _⟩⟩
  · obtain ⟨p1, p2⟩ := hP.pair i b hi' hb
    have := p1.top
    exact ⟨p1.keep hs fun j j1 j2 => h.below.block j (by omega), p2⟩
  · have hb : bs[i]? = some (bs[i]'(by omega)) := List.getElem?_eq_getElem _
    have := (hP.pair i _ hi' hb).1.top
    exact ⟨by omega, by omega⟩

theorem cuts_bad {base : Txs} {sides : List Txs} {w : World} {z : Int} (hz : wrongN base sides = z) (h0 : z ≠ 0) {w' : World} (hb : Below w.heap.size w w') : ChunksOut w w' (.returned (.tuple #[.slice none 0 0, .int .i64 z])) base sides :=
  ⟨z, none, 0, 0, [], rfl, Nat.le_refl _, Nat.zero_le _, Cks.nil _ _ _, ⟨hz.symm, fun _ => rfl, fun h => absurd h h0⟩, hb⟩

/-- No sides, or too many. -/
theorem chunks_arg (A0 : Option Addr) (n0 c0 : Nat) (base : Txs) (A : Option Addr) (n c : Nat) (sides : List Txs) (w : World) (hl : sides.length = n) (hn : n ≤ 100) (h : n = 0 ∨ 16 < n) :
    Calls Tryz.prog 19 #[.slice A0 n0 c0, .slice A n c] w fun e w' => ChunksOut w w' e base sides := by
  have hz : wrongN base sides = 1 := by unfold wrongN; rw [if_pos (by omega)]
  have hfin := Lib.hid (fun w' hb => cuts_bad (w := w) (w' := w') hz (by decide) hb)
  rcases h with h | h
  · subst h
    go_enter Tryz.func19, Tryz.ntmps19
    go_wp2
    go_ret2
    exact hfin.out _ (Below.refl _ _)
  · have h1 : ((n : Int) == 0) = false := by simp; omega
    have h2 : (16 : Int) < (n : Int) := by omega
    have h3 : decide ((16 : Int) < (n : Int)) = true := by simp; omega
    go_enter Tryz.func19, Tryz.ntmps19
    go_wp2
    go_ret2
    exact hfin.out _ (Below.refl _ _)
end Go.Proofs.YtoopdgohdeddoaaGreatDoor
/- Proved here: the contract of the landed merge.Chunks. -/
namespace Go.Proofs.YtoopdgohdeddoaaGreatDoor
open Go.RowKit
set_option linter.unusedVariables false
set_option maxRecDepth 100000

/-- What is asked of the files, one behind the other. -/
def FilesK (w w' : World) (e : Ending) (N : Nat) (base : Txs) (sides : List Txs) : Prop := ∃ A1 c1 r rs, e = .returned (.slice A1 N c1) ∧ N ≤ c1 ∧ c1 ≤ maxLen ∧ RowsT w' w'.heap.size A1 N (r :: rs) (base :: sides) ∧ Below w.heap.size w w'
/-- The numbers of all files. -/
def IdsK (w w' : World) (e : Ending) (N : Nat) (a : List Int) (bs : List (List Int)) : Prop := ∃ A2 c2 r rs, e = .returned (.slice A2 N c2) ∧ N ≤ c2 ∧ c2 ≤ maxLen ∧ RowsN w' w'.heap.size A2 N (r :: rs) (a :: bs) ∧ Below w.heap.size w w'

theorem cat_files (A0 : Option Addr) (n0 c0 : Nat) (base : Txs) (A : Option Addr) (n c : Nat) (rows : List Slc) (sides : List Txs) (w : World) (hn1 : 1 ≤ n) (hn2 : n ≤ 16) (hA0 : TxR w w.heap.size (A0, n0, c0) base) (hA : RowsT w w.heap.size A n rows sides) :
    Calls Tryz.prog 34 #[.slice (some ⟨w.heap.size + 1, 0, none⟩) 2 2] ((w.alloc (.cells #[.slice A0 n0 c0] 22)).alloc (.cells #[.slice (some ⟨w.heap.size, 0, none⟩) 1 1, .slice A n c] 40)) fun e w' => FilesK w w' e (n + 1) base sides := by
  obtain ⟨W1, hW1⟩ : ∃ W1, W1 = w.alloc (.cells #[.slice A0 n0 c0] 22) := ⟨_, rfl⟩
  have hz1 : W1.heap.size = w.heap.size + 1 := by rw [hW1]; simp
  have hB1 : Below w.heap.size w W1 := by rw [hW1]; exact (Below.refl _ _).alloc (Nat.le_refl _) _
  have hc1 : W1.cell? ⟨w.heap.size, 0, none⟩ = some (.slice A0 n0 c0) := by rw [hW1, World.cell?_alloc_mark]; rfl
  rw [← hW1]
  obtain ⟨W2, hW2⟩ : ∃ W2, W2 = W1.alloc (.cells #[.slice (some ⟨w.heap.size, 0, none⟩) 1 1, .slice A n c] 40) := ⟨_, rfl⟩
  have hB2 : Below W1.heap.size W1 W2 := by rw [hW2]; exact (Below.refl _ _).alloc (Nat.le_refl _) _
  have hz2 : W2.heap.size = w.heap.size + 2 := by rw [hW2, size_push, hz1]
  have hcc : ∀ j, W2.cell? ⟨w.heap.size + 1, j, none⟩ = #[.slice (some ⟨w.heap.size, 0, none⟩) 1 1, .slice A n c][j]? := fun j => by rw [hW2, ← hz1, World.cell?_alloc_mark]
  rw [← hW2]
  have hB : Below w.heap.size w W2 := hB1.trans (hB2.mono hB1.size)
  have hR0 : Reads W2 W2.heap.size (some ⟨w.heap.size, 0, none⟩) 1 ([(A0, n0, c0)].map slcV) := ⟨rfl, fun _ => ⟨_, _, rfl, by omega, fun j u hu => by
    match j, hu with
    | 0, hu =>
      simp at hu
      subst hu
      exact (hB2.cell (p := ⟨w.heap.size, 0, none⟩) (by show w.heap.size < _; omega)).trans hc1
    | j + 1, hu => simp at hu⟩⟩
  refine (concat_any _ _ (some ⟨w.heap.size, 0, none⟩) A n c (A0, n0, c0) rows W2 hn1 (by omega) ⟨rfl, fun _ => ⟨_, _, rfl, by omega, fun j u hu => ?_⟩⟩ hR0 ((hA.1.below hB).more hB.size)).mono ?_
  · rw [Nat.zero_add, hcc]
    match j, hu with
    | 0, hu => simpa using hu
    | 1, hu => simpa using hu
    | j + 2, hu => simp at hu
  · rintro e w' ⟨A1, N, c1, rfl, hN, h1, h2, h3, h4⟩
    have hrl := hA.rlen
    obtain rfl : N = n + 1 := by rw [hN]; simp; omega
    have hBB : Below w.heap.size w w' := hB.trans (h4.mono hB.size)
    exact ⟨A1, c1, (A0, n0, c0), rows, rfl, h1, h2, ⟨h3, by simp; exact hA.2.1, fun k r ss a b => by
      match k, a, b with
      | 0, a, b => simp at a b; subst a; subst b; exact hA0.up hBB
      | k + 1, a, b => exact (hA.up hBB).2.2 k r ss (by simpa using a) (by simpa using b)⟩, hBB⟩

set_option maxHeartbeats 1000000 in
/-- One of them may not be lines. -/
theorem chunks_form (A0 : Option Addr) (n0 c0 : Nat) (base : Txs) (A : Option Addr) (n c : Nat) (rows : List Slc) (sides : List Txs) (w : World) (hn1 : 1 ≤ n) (hn2 : n ≤ 16) (hsm : smallM base sides) (hA0 : TxR w w.heap.size (A0, n0, c0) base) (hA : RowsT w w.heap.size A n rows sides) (hbad : (base :: sides).all mayB = false) :
    Calls Tryz.prog 19 #[.slice A0 n0 c0, .slice A n c] w fun e w' => ChunksOut w w' e base sides := by
  have hl := hA.len
  have hz : wrongN base sides = 2 := by
    unfold wrongN
    rw [if_neg (by omega), if_pos]
    simpa using hbad
  have hcat := Lib.hid (cat_files A0 n0 c0 base A n c rows sides w hn1 hn2 hA0 hA)
  have hfin := Lib.hid (fun w' hb => cuts_bad (w := w) (w' := w') hz (by decide) hb)
  obtain ⟨N, hN⟩ : ∃ N, n + 1 = N := ⟨_, rfl⟩
  have hln : Hid (∀ A1 c1 r rs w1, RowsT w1 w1.heap.size A1 N (r :: rs) (base :: sides) → Calls Tryz.prog 35 #[.slice A1 N c1] w1 fun e w' => e = .returned (.bool false) ∧ w1 = w') := Lib.hid fun A1 c1 r rs w1 h => by
    have := areLines_any A1 N c1 (r :: rs) (base :: sides) w1 (by unfold maxLen; omega) h (fun f hf s hs => Nat.le_trans ((hsm.2 f hf).2 s hs) (by decide))
    rwa [hbad] at this
  rw [hN] at hcat
  have e1 : ((n : Int) == 0) = false := by simp; omega
  have e2 : decide ((16 : Int) < (n : Int)) = false := by simp; omega
  clear hA hA0 hbad hz hN hsm hl
  go_enter Tryz.func19, Tryz.ntmps19
  go_wp2_with (first
    | (go_at_call 34; refine hcat.out.mono ?_; rintro e w1 ⟨A1, c1, r, rs, rfl, -, -, hR, hb1⟩; have hRh := Lib.hid hR; have hbh := Lib.hid hb1; clear hR hb1)
    | (go_at_call 35; refine (hln.out _ _ _ _ _ hRh.out).mono ?_; rintro e w2 ⟨rfl, rfl⟩))
  go_ret2
  exact hfin.out _ hbh.out
end Go.Proofs.YtoopdgohdeddoaaGreatDoor
