/- Proved here: the contract of layer 5's covers: are chunks one behind the other, to the ends? -/
import Derived.Test.YtijinhhlikhjfaaAlignSame
import Derived.RegionTactic
import Derived.Deep.RegionWith
import Derived.Deep.DeepCutAuto
import Derived.StillTailTactics
namespace Go.Proofs.Ytijinhhlikhjfaa
open Go.RowKit
set_option linter.unusedVariables false

def CksR (cs : List Ck) : Prop := ∀ c ∈ cs, inR c.2.1.1 ∧ inR c.2.1.2 ∧ ∀ s ∈ c.2.2, inR s.1 ∧ inR s.2

/-- Was the chunk ahead of place i stable? -/
def prevOf (cs : List Ck) : Nat → Option Bool
  | 0 => none
  | i + 1 => (cs[i]?).map fun c => c.1

/-- A head's sides, as far as place k. -/
def SidesTo (c : Ck) (a : List Int) (k : Nat) : Prop := ∀ (s : Nat) (sp : Sp) (v : Int), s < k → c.2.2[s]? = some sp → a[s]? = some v → sp.1 = v ∧ v ≤ sp.2 ∧ (c.1 = true → sp.2 - sp.1 = c.2.1.2 - c.2.1.1)

section
variable {m : Int} {sizes a : List Int} {c : Ck} {cs : List Ck} {prev : Option Bool} {b : Int} {vb : Bool}
theorem no_head (h : vb = true ↔ Cov m sizes (c :: cs) prev b a) (hn : ¬ Head c prev b a) : vb = false := by
  cases vb with
  | false => rfl
  | true => exact absurd (h.1 rfl).1 hn
theorem all_head (h : vb = true ↔ Cov m sizes (c :: cs) prev b a) (hb : c.2.1.1 = b) (hle : b ≤ c.2.1.2) (hlen : c.2.2.length = a.length) (halt : prev ≠ some c.1) (hem : emptyB c = false) (hs : SidesTo c a a.length) : vb = true ↔ Cov m sizes cs (some c.1) c.2.1.2 (ends c) := by
  rw [h]
  refine ⟨fun h => h.2, fun h2 => ⟨⟨hb, hle, hlen, halt, hem, fun s sp v h1 h2 => hs s sp v ?_ h1 h2⟩, h2⟩⟩
  exact (List.getElem?_eq_some_iff.1 h2).1
theorem sides_step {k : Nat} {sp : Sp} {v : Int} (h : SidesTo c a k) (h1 : c.2.2[k]? = some sp) (h2 : a[k]? = some v) (h3 : sp.1 = v) (h4 : v ≤ sp.2) (h5 : c.1 = true → sp.2 - sp.1 = c.2.1.2 - c.2.1.1) : SidesTo c a (k + 1) := by
  intro s sp' v' hs e1 e2
  rcases Nat.lt_or_ge s k with hk | hk
  · exact h s sp' v' hk e1 e2
  · obtain rfl : s = k := by omega
    rw [h1] at e1
    rw [h2] at e2
    injection e1 with e1
    injection e2 with e2
    subst e1
    subst e2
    exact ⟨h3, h4, h5⟩
end

/-- A world that has grown. -/
structure Grown (W : World) where
  w : World
  below : Below W.heap.size W w
/-- A region that draws its order, whose operations read what was there, and whose callees make memory alone: one walk, in the text's order. -/
theorem quiet_grown {P : Program} {id : Nat} {Q : Exit → Act → World → Prop} {a : Act} {w : World} {l : List Oper} (hm : P.follows .mixedOrders = true) (hB : Region.lexB .any l.toArray = true)
    (h : wpQuiet P l.toArray (fun wx => ∃ x : Grown w, wx = x.w) (fun a' => ∀ w', (∃ x : Grown w, w' = x.w) → Q .normal a' w') l a) : (Code.region id l.toArray true).wp P Q a w :=
  wp_region_quiet (C := fun wx => ∃ x : Grown w, wx = x.w) hm hB ⟨⟨w.drew, (Below.refl _ w).drew⟩, rfl⟩ (by simpa using h)

/-- What the places of the sides are, where those of k sides have gone on. -/
def mixed (c : Ck) (a : List Int) (k t : Nat) : Int := if t < k then (c.2.2[t]?.map fun s => s.2).getD 0 else a[t]?.getD 0

set_option maxRecDepth 100000 in
set_option maxHeartbeats 6000000 in
theorem covers_any (A : Option Addr) (n c B : Nat) (cs : List Ck) (M : Int) (A' : Option Addr) (n' c' B' : Nat) (sizes : List Int) (w : World) (hn : n ≤ maxLen) (hn' : n' ≤ 1000) (hR : CksR cs) (hA : Cks w B A n cs) (hA' : Nums w B' A' n' sizes) (hB : B ≤ w.heap.size) (hB' : B' ≤ w.heap.size) (vb : Bool) (hvb : vb = true ↔ Cov M sizes cs none 0 (List.replicate n' 0)) :
    Calls Try.prog 12 #[.slice A n c, .int .i64 M, .slice A' n' c'] w fun e w' => e = .returned (.bool vb) ∧ Below w.heap.size w w' := by
  have hl := hA.len
  have hl' := hA'.len
  unfold maxLen at hn
  have hmk := run_make_row' (P := Try.prog) 26 3 (.int .i64 0) 8 Try.underlying26 infoIntA rfl .i64 .i64 n' (by omega) (by omega)
  have h0 : (w.alloc (.cells (madeCells #[.int .i64 0] n') 3)).rowIs w.heap.size 3 n' (fun t => .int .i64 ((List.replicate n' (0 : Int))[t]?.getD 0)) := (World.rowIs_made w (.int .i64 0) n' 3).congr fun t ht => by rw [List.getElem?_replicate, if_pos ht]; rfl
  have hb0 : Below w.heap.size w (w.alloc (.cells (madeCells #[.int .i64 0] n') 3)) := (Below.refl _ _).alloc (Nat.le_refl _) _
  have hs0 : (w.alloc (.cells (madeCells #[.int .i64 0] n') 3)).heap.size = w.heap.size + 1 := by simp
  have h0' := Lib.hid (And.intro h0 (And.intro hb0 hs0))
  have hv0 : Hid ((vb = true ↔ Cov M sizes (cs.drop 0) (prevOf cs 0) 0 (List.replicate n' 0)) ∧ (List.replicate n' (0 : Int)).length = n' ∧ ∀ v ∈ List.replicate n' (0 : Int), inR v ∧ 0 ≤ v) := Lib.hid ⟨hvb, by simp, fun v hv => by rw [List.eq_of_mem_replicate hv]; unfold inR; omega⟩
  have hRh := Lib.hid hR
  clear h0 hb0 hs0 hvb hR
  go_enter Try.func12, Try.ntmps12
  go_wp2
  go_loopw [7, 9, 10, 11, 12] (fun sb si _ _ _ wr => ∃ (i : Nat) (b : Int) (a : List Int), i ≤ n ∧ si = .int .i64 i ∧ sb = .int .i64 b ∧ 0 ≤ b ∧ Hid ((vb = true ↔ Cov M sizes (cs.drop i) (prevOf cs i) b a) ∧ a.length = n' ∧ ∀ v ∈ a, inR v ∧ 0 ≤ v) ∧ Hid (wr.rowIs w.heap.size 3 n' (fun t => .int .i64 (a[t]?.getD 0))) ∧ Below w.heap.size w wr ∧ w.heap.size + 1 ≤ wr.heap.size) (fun _ si _ _ _ _ => n - (intOf si).toNat)
  case atStart => exact ⟨0, 0, _, Nat.zero_le _, rfl, rfl, Int.le_refl _, hv0, Lib.hid h0'.out.1, h0'.out.2.1, by rw [h0'.out.2.2]; omega⟩
  case round =>
    obtain ⟨i, b, a, hi, rfl, rfl, hb0, hv, hrow, hBe, hsz⟩ := hrel
    obtain ⟨wo, rfl⟩ : ∃ wo : World, wo = wr := ⟨_, rfl⟩
    clear h0' hv0 hmk
    by_cases hlt : i < n
    · obtain ⟨g, o, ⟨st, ⟨f, t⟩, ss⟩, A1, n1, c1, rfl, hg, hx, d1, d2, d3, d4, hnc1, hcm1, hS⟩ := (hA.keep (w' := wo) (fun p hp => hBe.cell (show p.block < _ by omega))).at_ (k := i) hlt
      have hcr := hRh.out _ (List.mem_of_getElem? hx)
      simp only at hcr d1 d2 d3 hS
      obtain ⟨⟨r1, r2⟩, ⟨r3, r4⟩, hsr⟩ := hcr
      have hsl : ss.length = n1 := hS.len
      have hdr := hv.out.1
      rw [drop_at hx] at hdr
      have hdrh := Lib.hid hdr
      have hxh := Lib.hid hx
      have hsrh := Lib.hid hsr
      have hSh := Lib.hid hS
      have hii : (i : Int) < (n : Int) := by omega
      have hgn : g ≠ wo.heap.size := by omega
      unfold maxLen at hcm1
      clear hdr hx hsr hS
      have hBa := hBe.alloc (show w.heap.size ≤ wo.heap.size by omega) (.cells #[.bool st, .int .i64 f, .int .i64 t, .slice A1 n1 c1] 39)
      have hBah := Lib.hid hBa
      clear hBa
      by_cases hf : f = b
      rotate_left
      · have hff : vb = false := no_head hdrh.out (fun h => hf h.base)
        subst hff
        have hfb : (f != b) = true := by simpa using hf
        go_wp2
        go_quiet (fail)
        go_wp2
        go_ret
        exact ⟨rfl, below_drewN hBah.out _⟩
      subst hf
      have hfb : (f != f) = false := by simp
      by_cases ht : t < f
      · have hff : vb = false := no_head hdrh.out (fun h => by have := h.le; simp only at this; omega)
        subst hff
        have htb : decide (t < f) = true := by simpa using ht
        go_wp2
        go_quiet (fail)
        go_wp2
        go_ret
        exact ⟨rfl, below_drewN hBah.out _⟩
      have htb : decide (t < f) = false := by simpa using ht
      by_cases hnn : n1 = n'
      rotate_left
      · have hff : vb = false := no_head hdrh.out (fun h => by have := h.len; have := hv.out.2.1; simp only at *; omega)
        subst hff
        have hnb : ((n1 : Int) != (n' : Int)) = true := by simp; omega
        go_wp2
        go_quiet (fail)
        go_wp2
        go_ret
        exact ⟨rfl, below_drewN hBah.out _⟩
      subst hnn
      have hnb : ((n1 : Int) != (n1 : Int)) = false := by simp
      obtain ⟨eb, heb⟩ : ∃ eb, emptyB (st, (f, t), ss) = eb := ⟨_, rfl⟩
      have hE := Lib.hid (fun (w' : World) (hb : Below wo.heap.size wo w') => Empty_any st f t ss A1 n1 c1 B w' (by unfold maxLen; omega) (by have := hb.size; omega) (hSh.out.keep (fun p hp => hb.cell (show p.block < _ by omega))))
      rw [heb] at hE
      have hebh := Lib.hid heb
      clear heb
      rcases Nat.eq_zero_or_pos i with h0 | h0
      · have j0 : decide ((0 : Int) < (i : Int)) = false := by simp; omega
        have j1 : decide (0 < i) = false := by simp; omega
        have j2 : ¬ (0 < i) := by omega
        have halt : Hid (prevOf cs i ≠ some st) := Lib.hid (by rw [h0]; simp [prevOf])
        clear h0
        go_wp2
        obtain ⟨W, hW⟩ : ∃ W, W = wo.alloc (.cells #[.bool st, .int .i64 f, .int .i64 t, .slice A1 n1 c1] 39) := ⟨_, rfl⟩
        have w0 : W.cell? ⟨wo.heap.size, 0, none⟩ = some (.bool st) := by rw [hW, World.cell?_alloc_mark]; rfl
        have w1 : W.cell? ⟨wo.heap.size, 1, none⟩ = some (.int .i64 f) := by rw [hW, World.cell?_alloc_mark]; rfl
        have w2 : W.cell? ⟨wo.heap.size, 2, none⟩ = some (.int .i64 t) := by rw [hW, World.cell?_alloc_mark]; rfl
        have w3 : W.cell? ⟨wo.heap.size, 3, none⟩ = some (.slice A1 n1 c1) := by rw [hW, World.cell?_alloc_mark]; rfl
        rw [← hW] at hBah ⊢
        have hWlt : wo.heap.size < W.heap.size := by rw [hW]; simp
        have hWb : Below wo.heap.size wo W := by rw [hW]; exact (Below.refl _ _).alloc (Nat.le_refl _) _
        clear hW
        have g0 : ∀ x : Grown W, x.w.cell? ⟨wo.heap.size, 0, none⟩ = some (.bool st) := fun x => (x.below.cell (p := ⟨wo.heap.size, 0, none⟩) hWlt).trans w0
        have g1 : ∀ x : Grown W, x.w.cell? ⟨wo.heap.size, 1, none⟩ = some (.int .i64 f) := fun x => (x.below.cell (p := ⟨wo.heap.size, 1, none⟩) hWlt).trans w1
        have g2 : ∀ x : Grown W, x.w.cell? ⟨wo.heap.size, 2, none⟩ = some (.int .i64 t) := fun x => (x.below.cell (p := ⟨wo.heap.size, 2, none⟩) hWlt).trans w2
        have g3 : ∀ x : Grown W, x.w.cell? ⟨wo.heap.size, 3, none⟩ = some (.slice A1 n1 c1) := fun x => (x.below.cell (p := ⟨wo.heap.size, 3, none⟩) hWlt).trans w3
        cases eb
        · have hcall2 : Hid (∀ x : Grown W, Calls Try.prog 20 #[.agg #[.bool st, .int .i64 f, .int .i64 t, .slice A1 n1 c1]] x.w fun e w'' => e = .returned (.bool false) ∧ ∃ y : Grown W, w'' = y.w) :=
            Lib.hid (fun x => (hE.out x.w (hWb.trans (x.below.mono hWb.size))).mono fun e w'' h => ⟨h.1, ⟨w'', x.below.trans (h.2.mono x.below.size)⟩, rfl⟩)
          haveI hne5 : Nonempty (Grown W) := ⟨⟨W, Below.refl _ _⟩⟩
          refine quiet_grown (by kernel_rfl) (by kernel_rfl) ?_
          repeat (go_big_quiet_step ((go_at_call 20; exact hcall2.out _)))
          refine wpQuiet_nil ?_
          rintro wx ⟨⟨wz, hwx⟩, hwz⟩
          have hwz' : wx = wz := hwz
          subst hwz'
          clear hwz
          have hBx : Below w.heap.size w wx := hBah.out.trans (hwx.mono hBah.out.size)
          have x0 := (hwx.cell (p := ⟨wo.heap.size, 0, none⟩) hWlt).trans w0
          have x1 := (hwx.cell (p := ⟨wo.heap.size, 1, none⟩) hWlt).trans w1
          have x2 := (hwx.cell (p := ⟨wo.heap.size, 2, none⟩) hWlt).trans w2
          have x3 := (hwx.cell (p := ⟨wo.heap.size, 3, none⟩) hWlt).trans w3
          have hxs : wo.heap.size < wx.heap.size := Nat.lt_of_lt_of_le hWlt hwx.size
          have hrx : Hid (wx.rowIs w.heap.size 3 n1 (fun s => .int .i64 (mixed (st, (f, t), ss) a 0 s))) := Lib.hid (((hrow.out.of_block (hWb.block _ (by omega))).of_block (hwx.block _ (by omega))).congr fun s hs => by simp [mixed])
          have hsx : Hid (SidesTo (st, (f, t), ss) a 0) := Lib.hid (fun s sp v hs => by omega)
          clear w0 w1 w2 w3 g0 g1 g2 g3 hcall2 hne5 hwx hrow hE hWb hWlt hBah
          go_wp2
          go_loopw [11, 12] (fun sk _ wr => ∃ k : Nat, k ≤ n1 ∧ sk = .int .i64 k ∧ Hid (SidesTo (st, (f, t), ss) a k) ∧ Hid (wr.rowIs w.heap.size 3 n1 (fun s => .int .i64 (mixed (st, (f, t), ss) a k s))) ∧ Below w.heap.size w wr ∧ wo.heap.size < wr.heap.size ∧ wr.cell? ⟨wo.heap.size, 0, none⟩ = some (.bool st) ∧ wr.cell? ⟨wo.heap.size, 1, none⟩ = some (.int .i64 f) ∧ wr.cell? ⟨wo.heap.size, 2, none⟩ = some (.int .i64 t) ∧ wr.cell? ⟨wo.heap.size, 3, none⟩ = some (.slice A1 n1 c1)) (fun sk _ _ => n1 - (intOf sk).toNat)
          case atStart => exact ⟨0, Nat.zero_le _, rfl, hsx, hrx, hBx, hxs, x0, x1, x2, x3⟩
          case round =>
            obtain ⟨k, hk, rfl, hst, hmx, hBy, hys, y0, y1, y2, y3⟩ := hrel
            obtain ⟨wy, rfl⟩ : ∃ wy : World, wy = wr := ⟨_, rfl⟩
            clear hsx hrx hBx hxs x0 x1 x2 x3
            have hal := hv.out.2.1
            by_cases hkn : k < n1
            · obtain ⟨g5, o5, ⟨s1, s2⟩, rfl, hg5, hs5, f1, f2⟩ := (hSh.out.keep (w' := wy) (fun p hp => (hBy.cell (show p.block < _ by omega)).trans (hBe.cell (show p.block < _ by omega)).symm)).at_ (k := k) hkn
              have hsr5 := hsrh.out _ (List.mem_of_getElem? hs5)
              obtain ⟨⟨r5, r6⟩, r7, r8⟩ := hsr5
              simp only at f1 f2 r5 r6 r7 r8
              have hak : a[k]? = some (a[k]'(by omega)) := List.getElem?_eq_getElem (by omega)
              obtain ⟨v, hvv⟩ : ∃ v, v = a[k]'(by omega) := ⟨_, rfl⟩
              rw [← hvv] at hak
              have hv0 := (hv.out.2.2 v (List.mem_of_getElem? hak)).2
              have cv : wy.cell? ⟨w.heap.size, k, none⟩ = some (.int .i64 v) := by rw [hmx.out.cell hkn]; simp [mixed, hak]
              have fv := hmx.out.frozen k
              have hakh := Lib.hid hak
              have hs5h := Lib.hid hs5
              have hB5 := Lib.hid (hBy.alloc hBy.size (.cells #[.int .i64 s1, .int .i64 s2] 36))
              have q1 : (0 : Int) ≤ (k : Int) := by omega
              have q2 : (k : Int) < (n1 : Int) := by omega
              have q3 : g5 ≠ wy.heap.size := by omega
              have q4 : w.heap.size ≠ wy.heap.size := by omega
              have q6 : w.heap.size < wy.heap.size := by omega
              have q7 : g5 < wy.heap.size := by omega
              have q5 : wo.heap.size ≠ wy.heap.size := by omega
              clear hak hvv hs5
              by_cases z1 : s1 = v
              rotate_left
              · have hff : vb = false := no_head hdrh.out (fun h => z1 (h.side k (s1, s2) v hs5h.out hakh.out).1)
                subst hff
                have z1b : (s1 != v) = true := by simpa using z1
                go_wp2
                go_quiet (fail)
                go_wp2
                go_ret
                exact ⟨rfl, below_drewN hB5.out _⟩
              subst z1
              have z1b : (s1 != s1) = false := by simp
              by_cases z2 : s2 < s1
              · have hff : vb = false := no_head hdrh.out (fun h => by have := (h.side k (s1, s2) s1 hs5h.out hakh.out).2.1; simp only at this; omega)
                subst hff
                have z2b : decide (s2 < s1) = true := by simpa using z2
                go_wp2
                go_quiet (fail)
                go_wp2
                go_ret
                exact ⟨rfl, below_drewN hB5.out _⟩
              have z2b : decide (s2 < s1) = false := by simpa using z2
              have e1 : IntKind.i64.wrap (s2 - s1) = s2 - s1 := IntWalk.i64_in _ (by omega)
              have e2 : IntKind.i64.wrap (t - f) = t - f := IntWalk.i64_in _ (by omega)
              have hB6 := fun (u : Value) => (hBy.alloc hBy.size (.cells #[.int .i64 s1, .int .i64 s2] 36)).setCell (p := ⟨w.heap.size, k, none⟩) (Nat.le_refl _) u
              have hmx2 := Lib.hid (fun q : Nat => (show ((((wy.alloc (.cells #[.int .i64 s1, .int .i64 s2] 36)).drewN q).setCell ⟨w.heap.size, k, none⟩ (.int .i64 s2)).rowIs w.heap.size 3 n1 (fun s => .int .i64 (mixed (st, (f, t), ss) a (k + 1) s))) from
                (((hmx.out.alloc _).of_block (w' := (wy.alloc (.cells #[.int .i64 s1, .int .i64 s2] 36)).drewN q) rfl).set k _).congr fun s hs => by
                  unfold mixed
                  by_cases e : s = k
                  · subst e
                    rw [if_pos rfl, if_pos (by omega), hs5h.out]; rfl
                  · rw [if_neg e]
                    by_cases e2 : s < k
                    · rw [if_pos e2, if_pos (by omega)]
                    · rw [if_neg e2, if_neg (by omega)]))
              have hB6h := Lib.hid (fun q : Nat => (below_drewN (hBy.alloc hBy.size (.cells #[.int .i64 s1, .int .i64 s2] 36)) q).setCell (p := ⟨w.heap.size, k, none⟩) (Nat.le_refl _) (.int .i64 s2))
              clear hB6
              have hok : st = false ∨ s2 - s1 = t - f → Hid (SidesTo (st, (f, t), ss) a (k + 1)) := by
                intro h
                refine Lib.hid (sides_step hst.out hs5h.out hakh.out rfl (by show s1 ≤ s2; omega) ?_)
                intro h2
                have h2' : st = true := h2
                rcases h with h | h
                · exact absurd (h.symm.trans h2') Bool.false_ne_true
                · exact h
              have hokh := Lib.hid hok
              clear hok
              cases st
              · have hnew := hokh.out (.inl rfl)
                go_wp2
                go_quiet (fail)
                obtain ⟨z5, rfl⟩ : ∃ z5, z5 = nq := ⟨_, rfl⟩
                go_wp2
                go_roundw
                case rel => exact ⟨k + 1, by omega, by go_num, hnew, Lib.hid (hmx2.out z5), hB6h.out z5, by simp [World.setCell]; omega, by go_simp, by go_simp, by go_simp, by go_simp⟩
                case measure => simp [intOf] <;> omega
              · by_cases z3 : s2 - s1 = t - f
                rotate_left
                · have hff : vb = false := no_head hdrh.out (fun h => z3 ((h.side k (s1, s2) s1 hs5h.out hakh.out).2.2 rfl))
                  subst hff
                  have z3b : ((s2 - s1) != (t - f)) = true := by simpa using z3
                  go_wp2
                  go_quiet (fail)
                  go_wp2
                  go_ret
                  exact ⟨rfl, below_drewN hB5.out _⟩
                · have hnew := hokh.out (.inr z3)
                  have z3b : ((s2 - s1) != (t - f)) = false := by simpa using z3
                  clear z3
                  go_wp2
                  go_quiet (fail)
                  obtain ⟨z5, rfl⟩ : ∃ z5, z5 = nq := ⟨_, rfl⟩
                  go_wp2
                  go_roundw
                  case rel => exact ⟨k + 1, by omega, by go_num, hnew, Lib.hid (hmx2.out z5), hB6h.out z5, by simp [World.setCell]; omega, by go_simp, by go_simp, by go_simp, by go_simp⟩
                  case measure => simp [intOf] <;> omega
            · obtain rfl : k = n1 := by omega
              have hnext : Hid ((vb = true ↔ Cov M sizes (cs.drop (i + 1)) (prevOf cs (i + 1)) t (ends (st, (f, t), ss))) ∧ (ends (st, (f, t), ss)).length = k ∧ ∀ v ∈ ends (st, (f, t), ss), inR v ∧ 0 ≤ v) := Lib.hid (by
                refine ⟨?_, by rw [ends_len]; exact hsl, fun v hv2 => ?_⟩
                · have := all_head hdrh.out rfl (by show f ≤ t; omega) (by show ss.length = a.length; omega) halt.out hebh.out (by rw [hal]; exact hst.out)
                  have hpv : prevOf cs (i + 1) = some st := by simp [prevOf, hxh.out]
                  rw [hpv]
                  exact this
                · obtain ⟨s, hs⟩ := List.mem_iff_getElem?.1 hv2
                  obtain ⟨sp, hsp, e⟩ := ends_at hs
                  have hss : s < k := by have := (List.getElem?_eq_some_iff.1 hsp).1; simp only at this; omega
                  have hav : a[s]? = some (a[s]'(by omega)) := List.getElem?_eq_getElem (by omega)
                  have h1 := hst.out s sp _ hss hsp hav
                  have h2 := (hv.out.2.2 _ (List.mem_of_getElem? hav)).2
                  have h3 := (hsrh.out sp (List.mem_of_getElem? hsp)).2
                  rw [← e]
                  exact ⟨h3, by omega⟩)
              have hrnext : Hid (wy.rowIs w.heap.size 3 k (fun s => .int .i64 ((ends (st, (f, t), ss))[s]?.getD 0))) := Lib.hid (hmx.out.congr fun s hs => by simp [mixed, hs, ends])
              have ht0 : 0 ≤ t := by omega
              go_wp2
              go_roundw
              case rel => exact ⟨i + 1, t, _, by omega, by go_num, rfl, ht0, hnext, hrnext, hBy, by omega⟩
              case measure => simp [intOf] <;> omega
        · have hff : vb = false := no_head hdrh.out (fun h => by have := h.full; rw [hebh.out] at this; cases this)
          subst hff
          have hcall2 : Hid (∀ x : Grown W, Calls Try.prog 20 #[.agg #[.bool st, .int .i64 f, .int .i64 t, .slice A1 n1 c1]] x.w fun e w'' => e = .returned (.bool true) ∧ ∃ y : Grown W, w'' = y.w) :=
            Lib.hid (fun x => (hE.out x.w (hWb.trans (x.below.mono hWb.size))).mono fun e w'' h => ⟨h.1, ⟨w'', x.below.trans (h.2.mono x.below.size)⟩, rfl⟩)
          haveI hne5 : Nonempty (Grown W) := ⟨⟨W, Below.refl _ _⟩⟩
          refine quiet_grown (by kernel_rfl) (by kernel_rfl) ?_
          repeat (go_big_quiet_step ((go_at_call 20; exact hcall2.out _)))
          refine wpQuiet_nil ?_
          rintro wx ⟨⟨wz, hwx⟩, hwz⟩
          have hwz' : wx = wz := hwz
          subst hwz'
          clear hwz
          have hBx : Below w.heap.size w wx := hBah.out.trans (hwx.mono hBah.out.size)
          go_wp2
          go_ret
          exact ⟨rfl, hBx⟩
      · obtain ⟨r, hr⟩ : ∃ r, i = r + 1 := ⟨i - 1, by omega⟩
        obtain ⟨gq, oq, ⟨pst, pb, ps⟩, Aq, nq1, cq1, heq, hgq, hxq, cp, -⟩ := (hA.keep (w' := wo) (fun p hp => hBe.cell (show p.block < _ by omega))).at_ (k := r) (by omega)
        injection heq with heq
        injection heq with heq1 heq2
        subst heq1
        subst heq2
        simp only at cp
        have hpv : Hid (prevOf cs i = some pst) := Lib.hid (by rw [hr]; simp [prevOf, hxq])
        have hgl : g < wo.heap.size := by omega
        have j0 : (0 : Int) < (i : Int) := by omega
        have j1 : (0 : Int) ≤ (r : Int) := by omega
        have j2 : (r : Int) < (n : Int) := by omega
        have j3 : (i : Int) - 1 = (r : Int) := by omega
        have j4 : IntKind.i64.wrap ((i : Int) - 1) = (r : Int) := by rw [j3]; exact IntWalk.i64_in _ (by omega)
        have j5 : IntKind.i64.wrap (r : Int) = (r : Int) := IntWalk.i64_in _ (by omega)
        have j6 : 0 < i := by omega
        clear hr hxq h0
        cases st
        · cases pst
          · have hff : vb = false := no_head hdrh.out (fun h => h.alt hpv.out)
            subst hff
            go_wp2
            go_quiet (fail)
            go_wp2
            go_ret
            exact ⟨rfl, below_drewN hBah.out _⟩
          · have halt : Hid (prevOf cs i ≠ some false) := Lib.hid (by rw [hpv.out]; intro h; cases h)
            go_wp2
            obtain ⟨W, hW⟩ : ∃ W, W = wo.alloc (.cells #[.bool false, .int .i64 f, .int .i64 t, .slice A1 n1 c1] 39) := ⟨_, rfl⟩
            have w0 : W.cell? ⟨wo.heap.size, 0, none⟩ = some (.bool false) := by rw [hW, World.cell?_alloc_mark]; rfl
            have w1 : W.cell? ⟨wo.heap.size, 1, none⟩ = some (.int .i64 f) := by rw [hW, World.cell?_alloc_mark]; rfl
            have w2 : W.cell? ⟨wo.heap.size, 2, none⟩ = some (.int .i64 t) := by rw [hW, World.cell?_alloc_mark]; rfl
            have w3 : W.cell? ⟨wo.heap.size, 3, none⟩ = some (.slice A1 n1 c1) := by rw [hW, World.cell?_alloc_mark]; rfl
            rw [← hW] at hBah ⊢
            have hWlt : wo.heap.size < W.heap.size := by rw [hW]; simp
            have hWb : Below wo.heap.size wo W := by rw [hW]; exact (Below.refl _ _).alloc (Nat.le_refl _) _
            clear hW
            have g0 : ∀ x : Grown W, x.w.cell? ⟨wo.heap.size, 0, none⟩ = some (.bool false) := fun x => (x.below.cell (p := ⟨wo.heap.size, 0, none⟩) hWlt).trans w0
            have g1 : ∀ x : Grown W, x.w.cell? ⟨wo.heap.size, 1, none⟩ = some (.int .i64 f) := fun x => (x.below.cell (p := ⟨wo.heap.size, 1, none⟩) hWlt).trans w1
            have g2 : ∀ x : Grown W, x.w.cell? ⟨wo.heap.size, 2, none⟩ = some (.int .i64 t) := fun x => (x.below.cell (p := ⟨wo.heap.size, 2, none⟩) hWlt).trans w2
            have g3 : ∀ x : Grown W, x.w.cell? ⟨wo.heap.size, 3, none⟩ = some (.slice A1 n1 c1) := fun x => (x.below.cell (p := ⟨wo.heap.size, 3, none⟩) hWlt).trans w3
            have gp : ∀ x : Grown W, x.w.cell? ⟨g, o + r * 4, none⟩ = some (.bool true) := fun x => (x.below.cell (p := ⟨g, o + r * 4, none⟩) (by show g < _; omega)).trans ((hWb.cell (p := ⟨g, o + r * 4, none⟩) (by show g < _; omega)).trans cp)
            cases eb
            · have hcall2 : Hid (∀ x : Grown W, Calls Try.prog 20 #[.agg #[.bool false, .int .i64 f, .int .i64 t, .slice A1 n1 c1]] x.w fun e w'' => e = .returned (.bool false) ∧ ∃ y : Grown W, w'' = y.w) :=
                Lib.hid (fun x => (hE.out x.w (hWb.trans (x.below.mono hWb.size))).mono fun e w'' h => ⟨h.1, ⟨w'', x.below.trans (h.2.mono x.below.size)⟩, rfl⟩)
              haveI hne5 : Nonempty (Grown W) := ⟨⟨W, Below.refl _ _⟩⟩
              refine quiet_grown (by kernel_rfl) (by kernel_rfl) ?_
              repeat (go_big_quiet_step ((go_at_call 20; exact hcall2.out _)))
              refine wpQuiet_nil ?_
              rintro wx ⟨⟨wz, hwx⟩, hwz⟩
              have hwz' : wx = wz := hwz
              subst hwz'
              clear hwz
              have hBx : Below w.heap.size w wx := hBah.out.trans (hwx.mono hBah.out.size)
              have x0 := (hwx.cell (p := ⟨wo.heap.size, 0, none⟩) hWlt).trans w0
              have x1 := (hwx.cell (p := ⟨wo.heap.size, 1, none⟩) hWlt).trans w1
              have x2 := (hwx.cell (p := ⟨wo.heap.size, 2, none⟩) hWlt).trans w2
              have x3 := (hwx.cell (p := ⟨wo.heap.size, 3, none⟩) hWlt).trans w3
              have hxs : wo.heap.size < wx.heap.size := Nat.lt_of_lt_of_le hWlt hwx.size
              have hrx : Hid (wx.rowIs w.heap.size 3 n1 (fun s => .int .i64 (mixed (false, (f, t), ss) a 0 s))) := Lib.hid (((hrow.out.of_block (hWb.block _ (by omega))).of_block (hwx.block _ (by omega))).congr fun s hs => by simp [mixed])
              have hsx : Hid (SidesTo (false, (f, t), ss) a 0) := Lib.hid (fun s sp v hs => by omega)
              clear w0 w1 w2 w3 g0 g1 g2 g3 hcall2 hne5 hwx hrow hE hWb hWlt hBah
              go_wp2
              go_loopw [11, 12] (fun sk _ wr => ∃ k : Nat, k ≤ n1 ∧ sk = .int .i64 k ∧ Hid (SidesTo (false, (f, t), ss) a k) ∧ Hid (wr.rowIs w.heap.size 3 n1 (fun s => .int .i64 (mixed (false, (f, t), ss) a k s))) ∧ Below w.heap.size w wr ∧ wo.heap.size < wr.heap.size ∧ wr.cell? ⟨wo.heap.size, 0, none⟩ = some (.bool false) ∧ wr.cell? ⟨wo.heap.size, 1, none⟩ = some (.int .i64 f) ∧ wr.cell? ⟨wo.heap.size, 2, none⟩ = some (.int .i64 t) ∧ wr.cell? ⟨wo.heap.size, 3, none⟩ = some (.slice A1 n1 c1)) (fun sk _ _ => n1 - (intOf sk).toNat)
              case atStart => exact ⟨0, Nat.zero_le _, rfl, hsx, hrx, hBx, hxs, x0, x1, x2, x3⟩
              case round =>
                obtain ⟨k, hk, rfl, hst, hmx, hBy, hys, y0, y1, y2, y3⟩ := hrel
                obtain ⟨wy, rfl⟩ : ∃ wy : World, wy = wr := ⟨_, rfl⟩
                clear hsx hrx hBx hxs x0 x1 x2 x3
                have hal := hv.out.2.1
                by_cases hkn : k < n1
                · obtain ⟨g5, o5, ⟨s1, s2⟩, rfl, hg5, hs5, f1, f2⟩ := (hSh.out.keep (w' := wy) (fun p hp => (hBy.cell (show p.block < _ by omega)).trans (hBe.cell (show p.block < _ by omega)).symm)).at_ (k := k) hkn
                  have hsr5 := hsrh.out _ (List.mem_of_getElem? hs5)
                  obtain ⟨⟨r5, r6⟩, r7, r8⟩ := hsr5
                  simp only at f1 f2 r5 r6 r7 r8
                  have hak : a[k]? = some (a[k]'(by omega)) := List.getElem?_eq_getElem (by omega)
                  obtain ⟨v, hvv⟩ : ∃ v, v = a[k]'(by omega) := ⟨_, rfl⟩
                  rw [← hvv] at hak
                  have hv0 := (hv.out.2.2 v (List.mem_of_getElem? hak)).2
                  have cv : wy.cell? ⟨w.heap.size, k, none⟩ = some (.int .i64 v) := by rw [hmx.out.cell hkn]; simp [mixed, hak]
                  have fv := hmx.out.frozen k
                  have hakh := Lib.hid hak
                  have hs5h := Lib.hid hs5
                  have hB5 := Lib.hid (hBy.alloc hBy.size (.cells #[.int .i64 s1, .int .i64 s2] 36))
                  have q1 : (0 : Int) ≤ (k : Int) := by omega
                  have q2 : (k : Int) < (n1 : Int) := by omega
                  have q3 : g5 ≠ wy.heap.size := by omega
                  have q4 : w.heap.size ≠ wy.heap.size := by omega
                  have q6 : w.heap.size < wy.heap.size := by omega
                  have q7 : g5 < wy.heap.size := by omega
                  have q5 : wo.heap.size ≠ wy.heap.size := by omega
                  clear hak hvv hs5
                  by_cases z1 : s1 = v
                  rotate_left
                  · have hff : vb = false := no_head hdrh.out (fun h => z1 (h.side k (s1, s2) v hs5h.out hakh.out).1)
                    subst hff
                    have z1b : (s1 != v) = true := by simpa using z1
                    go_wp2
                    go_quiet (fail)
                    go_wp2
                    go_ret
                    exact ⟨rfl, below_drewN hB5.out _⟩
                  subst z1
                  have z1b : (s1 != s1) = false := by simp
                  by_cases z2 : s2 < s1
                  · have hff : vb = false := no_head hdrh.out (fun h => by have := (h.side k (s1, s2) s1 hs5h.out hakh.out).2.1; simp only at this; omega)
                    subst hff
                    have z2b : decide (s2 < s1) = true := by simpa using z2
                    go_wp2
                    go_quiet (fail)
                    go_wp2
                    go_ret
                    exact ⟨rfl, below_drewN hB5.out _⟩
                  have z2b : decide (s2 < s1) = false := by simpa using z2
                  have e1 : IntKind.i64.wrap (s2 - s1) = s2 - s1 := IntWalk.i64_in _ (by omega)
                  have e2 : IntKind.i64.wrap (t - f) = t - f := IntWalk.i64_in _ (by omega)
                  have hB6 := fun (u : Value) => (hBy.alloc hBy.size (.cells #[.int .i64 s1, .int .i64 s2] 36)).setCell (p := ⟨w.heap.size, k, none⟩) (Nat.le_refl _) u
                  have hmx2 := Lib.hid (fun q : Nat => (show ((((wy.alloc (.cells #[.int .i64 s1, .int .i64 s2] 36)).drewN q).setCell ⟨w.heap.size, k, none⟩ (.int .i64 s2)).rowIs w.heap.size 3 n1 (fun s => .int .i64 (mixed (false, (f, t), ss) a (k + 1) s))) from
                    (((hmx.out.alloc _).of_block (w' := (wy.alloc (.cells #[.int .i64 s1, .int .i64 s2] 36)).drewN q) rfl).set k _).congr fun s hs => by
                      unfold mixed
                      by_cases e : s = k
                      · subst e
                        rw [if_pos rfl, if_pos (by omega), hs5h.out]; rfl
                      · rw [if_neg e]
                        by_cases e2 : s < k
                        · rw [if_pos e2, if_pos (by omega)]
                        · rw [if_neg e2, if_neg (by omega)]))
                  have hB6h := Lib.hid (fun q : Nat => (below_drewN (hBy.alloc hBy.size (.cells #[.int .i64 s1, .int .i64 s2] 36)) q).setCell (p := ⟨w.heap.size, k, none⟩) (Nat.le_refl _) (.int .i64 s2))
                  clear hB6
                  have hok : false = false ∨ s2 - s1 = t - f → Hid (SidesTo (false, (f, t), ss) a (k + 1)) := by
                    intro h
                    refine Lib.hid (sides_step hst.out hs5h.out hakh.out rfl (by show s1 ≤ s2; omega) ?_)
                    intro h2
                    have h2' : false = true := h2
                    rcases h with h | h
                    · exact absurd (h.symm.trans h2') Bool.false_ne_true
                    · exact h
                  have hokh := Lib.hid hok
                  clear hok
                  have hnew := hokh.out (.inl rfl)
                  go_wp2
                  go_quiet (fail)
                  obtain ⟨z5, rfl⟩ : ∃ z5, z5 = nq := ⟨_, rfl⟩
                  go_wp2
                  go_roundw
                  case rel => exact ⟨k + 1, by omega, by go_num, hnew, Lib.hid (hmx2.out z5), hB6h.out z5, by simp [World.setCell]; omega, by go_simp, by go_simp, by go_simp, by go_simp⟩
                  case measure => simp [intOf] <;> omega
                · obtain rfl : k = n1 := by omega
                  have hnext : Hid ((vb = true ↔ Cov M sizes (cs.drop (i + 1)) (prevOf cs (i + 1)) t (ends (false, (f, t), ss))) ∧ (ends (false, (f, t), ss)).length = k ∧ ∀ v ∈ ends (false, (f, t), ss), inR v ∧ 0 ≤ v) := Lib.hid (by
                    refine ⟨?_, by rw [ends_len]; exact hsl, fun v hv2 => ?_⟩
                    · have := all_head hdrh.out rfl (by show f ≤ t; omega) (by show ss.length = a.length; omega) halt.out hebh.out (by rw [hal]; exact hst.out)
                      have hpv : prevOf cs (i + 1) = some false := by simp [prevOf, hxh.out]
                      rw [hpv]
                      exact this
                    · obtain ⟨s, hs⟩ := List.mem_iff_getElem?.1 hv2
                      obtain ⟨sp, hsp, e⟩ := ends_at hs
                      have hss : s < k := by have := (List.getElem?_eq_some_iff.1 hsp).1; simp only at this; omega
                      have hav : a[s]? = some (a[s]'(by omega)) := List.getElem?_eq_getElem (by omega)
                      have h1 := hst.out s sp _ hss hsp hav
                      have h2 := (hv.out.2.2 _ (List.mem_of_getElem? hav)).2
                      have h3 := (hsrh.out sp (List.mem_of_getElem? hsp)).2
                      rw [← e]
                      exact ⟨h3, by omega⟩)
                  have hrnext : Hid (wy.rowIs w.heap.size 3 k (fun s => .int .i64 ((ends (false, (f, t), ss))[s]?.getD 0))) := Lib.hid (hmx.out.congr fun s hs => by simp [mixed, hs, ends])
                  have ht0 : 0 ≤ t := by omega
                  go_wp2
                  go_roundw
                  case rel => exact ⟨i + 1, t, _, by omega, by go_num, rfl, ht0, hnext, hrnext, hBy, by omega⟩
                  case measure => simp [intOf] <;> omega
            · have hff : vb = false := no_head hdrh.out (fun h => by have := h.full; rw [hebh.out] at this; cases this)
              subst hff
              have hcall2 : Hid (∀ x : Grown W, Calls Try.prog 20 #[.agg #[.bool false, .int .i64 f, .int .i64 t, .slice A1 n1 c1]] x.w fun e w'' => e = .returned (.bool true) ∧ ∃ y : Grown W, w'' = y.w) :=
                Lib.hid (fun x => (hE.out x.w (hWb.trans (x.below.mono hWb.size))).mono fun e w'' h => ⟨h.1, ⟨w'', x.below.trans (h.2.mono x.below.size)⟩, rfl⟩)
              haveI hne5 : Nonempty (Grown W) := ⟨⟨W, Below.refl _ _⟩⟩
              refine quiet_grown (by kernel_rfl) (by kernel_rfl) ?_
              repeat (go_big_quiet_step ((go_at_call 20; exact hcall2.out _)))
              refine wpQuiet_nil ?_
              rintro wx ⟨⟨wz, hwx⟩, hwz⟩
              have hwz' : wx = wz := hwz
              subst hwz'
              clear hwz
              have hBx : Below w.heap.size w wx := hBah.out.trans (hwx.mono hBah.out.size)
              go_wp2
              go_ret
              exact ⟨rfl, hBx⟩
        · cases pst
          · have halt : Hid (prevOf cs i ≠ some true) := Lib.hid (by rw [hpv.out]; intro h; cases h)
            go_wp2
            obtain ⟨W, hW⟩ : ∃ W, W = wo.alloc (.cells #[.bool true, .int .i64 f, .int .i64 t, .slice A1 n1 c1] 39) := ⟨_, rfl⟩
            have w0 : W.cell? ⟨wo.heap.size, 0, none⟩ = some (.bool true) := by rw [hW, World.cell?_alloc_mark]; rfl
            have w1 : W.cell? ⟨wo.heap.size, 1, none⟩ = some (.int .i64 f) := by rw [hW, World.cell?_alloc_mark]; rfl
            have w2 : W.cell? ⟨wo.heap.size, 2, none⟩ = some (.int .i64 t) := by rw [hW, World.cell?_alloc_mark]; rfl
            have w3 : W.cell? ⟨wo.heap.size, 3, none⟩ = some (.slice A1 n1 c1) := by rw [hW, World.cell?_alloc_mark]; rfl
            rw [← hW] at hBah ⊢
            have hWlt : wo.heap.size < W.heap.size := by rw [hW]; simp
            have hWb : Below wo.heap.size wo W := by rw [hW]; exact (Below.refl _ _).alloc (Nat.le_refl _) _
            clear hW
            have g0 : ∀ x : Grown W, x.w.cell? ⟨wo.heap.size, 0, none⟩ = some (.bool true) := fun x => (x.below.cell (p := ⟨wo.heap.size, 0, none⟩) hWlt).trans w0
            have g1 : ∀ x : Grown W, x.w.cell? ⟨wo.heap.size, 1, none⟩ = some (.int .i64 f) := fun x => (x.below.cell (p := ⟨wo.heap.size, 1, none⟩) hWlt).trans w1
            have g2 : ∀ x : Grown W, x.w.cell? ⟨wo.heap.size, 2, none⟩ = some (.int .i64 t) := fun x => (x.below.cell (p := ⟨wo.heap.size, 2, none⟩) hWlt).trans w2
            have g3 : ∀ x : Grown W, x.w.cell? ⟨wo.heap.size, 3, none⟩ = some (.slice A1 n1 c1) := fun x => (x.below.cell (p := ⟨wo.heap.size, 3, none⟩) hWlt).trans w3
            have gp : ∀ x : Grown W, x.w.cell? ⟨g, o + r * 4, none⟩ = some (.bool false) := fun x => (x.below.cell (p := ⟨g, o + r * 4, none⟩) (by show g < _; omega)).trans ((hWb.cell (p := ⟨g, o + r * 4, none⟩) (by show g < _; omega)).trans cp)
            cases eb
            · have hcall2 : Hid (∀ x : Grown W, Calls Try.prog 20 #[.agg #[.bool true, .int .i64 f, .int .i64 t, .slice A1 n1 c1]] x.w fun e w'' => e = .returned (.bool false) ∧ ∃ y : Grown W, w'' = y.w) :=
                Lib.hid (fun x => (hE.out x.w (hWb.trans (x.below.mono hWb.size))).mono fun e w'' h => ⟨h.1, ⟨w'', x.below.trans (h.2.mono x.below.size)⟩, rfl⟩)
              haveI hne5 : Nonempty (Grown W) := ⟨⟨W, Below.refl _ _⟩⟩
              refine quiet_grown (by kernel_rfl) (by kernel_rfl) ?_
              repeat (go_big_quiet_step ((go_at_call 20; exact hcall2.out _)))
              refine wpQuiet_nil ?_
              rintro wx ⟨⟨wz, hwx⟩, hwz⟩
              have hwz' : wx = wz := hwz
              subst hwz'
              clear hwz
              have hBx : Below w.heap.size w wx := hBah.out.trans (hwx.mono hBah.out.size)
              have x0 := (hwx.cell (p := ⟨wo.heap.size, 0, none⟩) hWlt).trans w0
              have x1 := (hwx.cell (p := ⟨wo.heap.size, 1, none⟩) hWlt).trans w1
              have x2 := (hwx.cell (p := ⟨wo.heap.size, 2, none⟩) hWlt).trans w2
              have x3 := (hwx.cell (p := ⟨wo.heap.size, 3, none⟩) hWlt).trans w3
              have hxs : wo.heap.size < wx.heap.size := Nat.lt_of_lt_of_le hWlt hwx.size
              have hrx : Hid (wx.rowIs w.heap.size 3 n1 (fun s => .int .i64 (mixed (true, (f, t), ss) a 0 s))) := Lib.hid (((hrow.out.of_block (hWb.block _ (by omega))).of_block (hwx.block _ (by omega))).congr fun s hs => by simp [mixed])
              have hsx : Hid (SidesTo (true, (f, t), ss) a 0) := Lib.hid (fun s sp v hs => by omega)
              clear w0 w1 w2 w3 g0 g1 g2 g3 hcall2 hne5 hwx hrow hE hWb hWlt hBah
              go_wp2
              go_loopw [11, 12] (fun sk _ wr => ∃ k : Nat, k ≤ n1 ∧ sk = .int .i64 k ∧ Hid (SidesTo (true, (f, t), ss) a k) ∧ Hid (wr.rowIs w.heap.size 3 n1 (fun s => .int .i64 (mixed (true, (f, t), ss) a k s))) ∧ Below w.heap.size w wr ∧ wo.heap.size < wr.heap.size ∧ wr.cell? ⟨wo.heap.size, 0, none⟩ = some (.bool true) ∧ wr.cell? ⟨wo.heap.size, 1, none⟩ = some (.int .i64 f) ∧ wr.cell? ⟨wo.heap.size, 2, none⟩ = some (.int .i64 t) ∧ wr.cell? ⟨wo.heap.size, 3, none⟩ = some (.slice A1 n1 c1)) (fun sk _ _ => n1 - (intOf sk).toNat)
              case atStart => exact ⟨0, Nat.zero_le _, rfl, hsx, hrx, hBx, hxs, x0, x1, x2, x3⟩
              case round =>
                obtain ⟨k, hk, rfl, hst, hmx, hBy, hys, y0, y1, y2, y3⟩ := hrel
                obtain ⟨wy, rfl⟩ : ∃ wy : World, wy = wr := ⟨_, rfl⟩
                clear hsx hrx hBx hxs x0 x1 x2 x3
                have hal := hv.out.2.1
                by_cases hkn : k < n1
                · obtain ⟨g5, o5, ⟨s1, s2⟩, rfl, hg5, hs5, f1, f2⟩ := (hSh.out.keep (w' := wy) (fun p hp => (hBy.cell (show p.block < _ by omega)).trans (hBe.cell (show p.block < _ by omega)).symm)).at_ (k := k) hkn
                  have hsr5 := hsrh.out _ (List.mem_of_getElem? hs5)
                  obtain ⟨⟨r5, r6⟩, r7, r8⟩ := hsr5
                  simp only at f1 f2 r5 r6 r7 r8
                  have hak : a[k]? = some (a[k]'(by omega)) := List.getElem?_eq_getElem (by omega)
                  obtain ⟨v, hvv⟩ : ∃ v, v = a[k]'(by omega) := ⟨_, rfl⟩
                  rw [← hvv] at hak
                  have hv0 := (hv.out.2.2 v (List.mem_of_getElem? hak)).2
                  have cv : wy.cell? ⟨w.heap.size, k, none⟩ = some (.int .i64 v) := by rw [hmx.out.cell hkn]; simp [mixed, hak]
                  have fv := hmx.out.frozen k
                  have hakh := Lib.hid hak
                  have hs5h := Lib.hid hs5
                  have hB5 := Lib.hid (hBy.alloc hBy.size (.cells #[.int .i64 s1, .int .i64 s2] 36))
                  have q1 : (0 : Int) ≤ (k : Int) := by omega
                  have q2 : (k : Int) < (n1 : Int) := by omega
                  have q3 : g5 ≠ wy.heap.size := by omega
                  have q4 : w.heap.size ≠ wy.heap.size := by omega
                  have q6 : w.heap.size < wy.heap.size := by omega
                  have q7 : g5 < wy.heap.size := by omega
                  have q5 : wo.heap.size ≠ wy.heap.size := by omega
                  clear hak hvv hs5
                  by_cases z1 : s1 = v
                  rotate_left
                  · have hff : vb = false := no_head hdrh.out (fun h => z1 (h.side k (s1, s2) v hs5h.out hakh.out).1)
                    subst hff
                    have z1b : (s1 != v) = true := by simpa using z1
                    go_wp2
                    go_quiet (fail)
                    go_wp2
                    go_ret
                    exact ⟨rfl, below_drewN hB5.out _⟩
                  subst z1
                  have z1b : (s1 != s1) = false := by simp
                  by_cases z2 : s2 < s1
                  · have hff : vb = false := no_head hdrh.out (fun h => by have := (h.side k (s1, s2) s1 hs5h.out hakh.out).2.1; simp only at this; omega)
                    subst hff
                    have z2b : decide (s2 < s1) = true := by simpa using z2
                    go_wp2
                    go_quiet (fail)
                    go_wp2
                    go_ret
                    exact ⟨rfl, below_drewN hB5.out _⟩
                  have z2b : decide (s2 < s1) = false := by simpa using z2
                  have e1 : IntKind.i64.wrap (s2 - s1) = s2 - s1 := IntWalk.i64_in _ (by omega)
                  have e2 : IntKind.i64.wrap (t - f) = t - f := IntWalk.i64_in _ (by omega)
                  have hB6 := fun (u : Value) => (hBy.alloc hBy.size (.cells #[.int .i64 s1, .int .i64 s2] 36)).setCell (p := ⟨w.heap.size, k, none⟩) (Nat.le_refl _) u
                  have hmx2 := Lib.hid (fun q : Nat => (show ((((wy.alloc (.cells #[.int .i64 s1, .int .i64 s2] 36)).drewN q).setCell ⟨w.heap.size, k, none⟩ (.int .i64 s2)).rowIs w.heap.size 3 n1 (fun s => .int .i64 (mixed (true, (f, t), ss) a (k + 1) s))) from
                    (((hmx.out.alloc _).of_block (w' := (wy.alloc (.cells #[.int .i64 s1, .int .i64 s2] 36)).drewN q) rfl).set k _).congr fun s hs => by
                      unfold mixed
                      by_cases e : s = k
                      · subst e
                        rw [if_pos rfl, if_pos (by omega), hs5h.out]; rfl
                      · rw [if_neg e]
                        by_cases e2 : s < k
                        · rw [if_pos e2, if_pos (by omega)]
                        · rw [if_neg e2, if_neg (by omega)]))
                  have hB6h := Lib.hid (fun q : Nat => (below_drewN (hBy.alloc hBy.size (.cells #[.int .i64 s1, .int .i64 s2] 36)) q).setCell (p := ⟨w.heap.size, k, none⟩) (Nat.le_refl _) (.int .i64 s2))
                  clear hB6
                  have hok : true = false ∨ s2 - s1 = t - f → Hid (SidesTo (true, (f, t), ss) a (k + 1)) := by
                    intro h
                    refine Lib.hid (sides_step hst.out hs5h.out hakh.out rfl (by show s1 ≤ s2; omega) ?_)
                    intro h2
                    have h2' : true = true := h2
                    rcases h with h | h
                    · exact absurd (h.symm.trans h2') Bool.false_ne_true
                    · exact h
                  have hokh := Lib.hid hok
                  clear hok
                  by_cases z3 : s2 - s1 = t - f
                  rotate_left
                  · have hff : vb = false := no_head hdrh.out (fun h => z3 ((h.side k (s1, s2) s1 hs5h.out hakh.out).2.2 rfl))
                    subst hff
                    have z3b : ((s2 - s1) != (t - f)) = true := by simpa using z3
                    go_wp2
                    go_quiet (fail)
                    go_wp2
                    go_ret
                    exact ⟨rfl, below_drewN hB5.out _⟩
                  · have hnew := hokh.out (.inr z3)
                    have z3b : ((s2 - s1) != (t - f)) = false := by simpa using z3
                    clear z3
                    go_wp2
                    go_quiet (fail)
                    obtain ⟨z5, rfl⟩ : ∃ z5, z5 = nq := ⟨_, rfl⟩
                    go_wp2
                    go_roundw
                    case rel => exact ⟨k + 1, by omega, by go_num, hnew, Lib.hid (hmx2.out z5), hB6h.out z5, by simp [World.setCell]; omega, by go_simp, by go_simp, by go_simp, by go_simp⟩
                    case measure => simp [intOf] <;> omega
                · obtain rfl : k = n1 := by omega
                  have hnext : Hid ((vb = true ↔ Cov M sizes (cs.drop (i + 1)) (prevOf cs (i + 1)) t (ends (true, (f, t), ss))) ∧ (ends (true, (f, t), ss)).length = k ∧ ∀ v ∈ ends (true, (f, t), ss), inR v ∧ 0 ≤ v) := Lib.hid (by
                    refine ⟨?_, by rw [ends_len]; exact hsl, fun v hv2 => ?_⟩
                    · have := all_head hdrh.out rfl (by show f ≤ t; omega) (by show ss.length = a.length; omega) halt.out hebh.out (by rw [hal]; exact hst.out)
                      have hpv : prevOf cs (i + 1) = some true := by simp [prevOf, hxh.out]
                      rw [hpv]
                      exact this
                    · obtain ⟨s, hs⟩ := List.mem_iff_getElem?.1 hv2
                      obtain ⟨sp, hsp, e⟩ := ends_at hs
                      have hss : s < k := by have := (List.getElem?_eq_some_iff.1 hsp).1; simp only at this; omega
                      have hav : a[s]? = some (a[s]'(by omega)) := List.getElem?_eq_getElem (by omega)
                      have h1 := hst.out s sp _ hss hsp hav
                      have h2 := (hv.out.2.2 _ (List.mem_of_getElem? hav)).2
                      have h3 := (hsrh.out sp (List.mem_of_getElem? hsp)).2
                      rw [← e]
                      exact ⟨h3, by omega⟩)
                  have hrnext : Hid (wy.rowIs w.heap.size 3 k (fun s => .int .i64 ((ends (true, (f, t), ss))[s]?.getD 0))) := Lib.hid (hmx.out.congr fun s hs => by simp [mixed, hs, ends])
                  have ht0 : 0 ≤ t := by omega
                  go_wp2
                  go_roundw
                  case rel => exact ⟨i + 1, t, _, by omega, by go_num, rfl, ht0, hnext, hrnext, hBy, by omega⟩
                  case measure => simp [intOf] <;> omega
            · have hff : vb = false := no_head hdrh.out (fun h => by have := h.full; rw [hebh.out] at this; cases this)
              subst hff
              have hcall2 : Hid (∀ x : Grown W, Calls Try.prog 20 #[.agg #[.bool true, .int .i64 f, .int .i64 t, .slice A1 n1 c1]] x.w fun e w'' => e = .returned (.bool true) ∧ ∃ y : Grown W, w'' = y.w) :=
                Lib.hid (fun x => (hE.out x.w (hWb.trans (x.below.mono hWb.size))).mono fun e w'' h => ⟨h.1, ⟨w'', x.below.trans (h.2.mono x.below.size)⟩, rfl⟩)
              haveI hne5 : Nonempty (Grown W) := ⟨⟨W, Below.refl _ _⟩⟩
              refine quiet_grown (by kernel_rfl) (by kernel_rfl) ?_
              repeat (go_big_quiet_step ((go_at_call 20; exact hcall2.out _)))
              refine wpQuiet_nil ?_
              rintro wx ⟨⟨wz, hwx⟩, hwz⟩
              have hwz' : wx = wz := hwz
              subst hwz'
              clear hwz
              have hBx : Below w.heap.size w wx := hBah.out.trans (hwx.mono hBah.out.size)
              go_wp2
              go_ret
              exact ⟨rfl, hBx⟩
          · have hff : vb = false := no_head hdrh.out (fun h => h.alt hpv.out)
            subst hff
            go_wp2
            go_quiet (fail)
            go_wp2
            go_ret
            exact ⟨rfl, below_drewN hBah.out _⟩
    · obtain rfl : i = n := by omega
      have hc : vb = true ↔ (a = sizes ∧ b = M) := by
        have := hv.out.1
        rw [List.drop_of_length_le (by omega)] at this
        exact this
      have hch := Lib.hid hc
      have hal := hv.out.2.1
      clear hc
      go_wp2
      go_loopw [13] (fun sk wr => ∃ k q : Nat, k ≤ n' ∧ sk = .int .i64 k ∧ Hid (∀ s : Nat, s < k → a[s]? = sizes[s]?) ∧ wr = wo.drewN q) (fun sk _ => n' - (intOf sk).toNat)
      case atStart => exact ⟨0, 0, Nat.zero_le _, rfl, Lib.hid (fun s h => by omega), rfl⟩
      case round =>
        obtain ⟨k, q, hk, rfl, hq, rfl⟩ := hrel
        by_cases hkn : k < n'
        · obtain ⟨g5, o5, z, rfl, hg5, hz, hz0⟩ := hA'.at_ (k := k) hkn
          have cz := (hBe.cell (p := ⟨g5, o5 + k, none⟩) (by show g5 < _; omega)).trans hz0
          have hak : a[k]? = some (a[k]'(by omega)) := List.getElem?_eq_getElem (by omega)
          obtain ⟨v, hvv⟩ : ∃ v, v = a[k]'(by omega) := ⟨_, rfl⟩
          rw [← hvv] at hak
          have cv : wo.cell? ⟨w.heap.size, k, none⟩ = some (.int .i64 v) := by rw [hrow.out.cell hkn]; simp [hak]
          have q1 : (0 : Int) ≤ (k : Int) := by omega
          have q2 : (k : Int) < (n' : Int) := by omega
          have hakh := Lib.hid hak
          have hzh := Lib.hid hz
          clear hak hvv hz hz0
          by_cases e : v = z
          · subst e
            have hb : (v != v) = false := by simp
            have hq2 : Hid (∀ s : Nat, s < k + 1 → a[s]? = sizes[s]?) := Lib.hid (fun s hs => by
              rcases Nat.lt_or_ge s k with h | h
              · exact hq.out s h
              · obtain rfl : s = k := by omega
                rw [hakh.out, hzh.out])
            go_wp2
            go_quiet (fail)
            obtain ⟨z5, rfl⟩ : ∃ z5, z5 = nq := ⟨_, rfl⟩
            go_wp2
            go_roundw
            case rel => exact ⟨k + 1, q + z5, by omega, by go_num, hq2, rfl⟩
            case measure => simp [intOf] <;> omega
          · have hff : vb = false := by
              cases vb with
              | false => rfl
              | true =>
                have := (hch.out.1 rfl).1
                have h1 := hakh.out
                rw [this, hzh.out] at h1
                injection h1 with h1
                exact absurd h1.symm e
            subst hff
            have hb : (v != z) = true := by simpa using e
            clear e
            go_wp2
            go_quiet (fail)
            go_wp2
            go_ret
            exact ⟨rfl, below_drewN (below_drewN hBe q) _⟩
        · have has : a = sizes := by
            refine List.ext_getElem? fun s => ?_
            rcases Nat.lt_or_ge s k with h | h
            · exact hq.out s h
            · rw [List.getElem?_eq_none (by omega), List.getElem?_eq_none (by omega)]
          have hvf : Hid (vb = (b == M)) := Lib.hid (by
            rw [Bool.eq_iff_iff, hch.out]
            simp [has])
          clear has
          go_wp2
          go_ret
          exact ⟨ret_bool hvf.out.symm, below_drewN hBe q⟩
end Go.Proofs.Ytijinhhlikhjfaa
