/- Proved here: package edit's iterator between, which keeps a variable of its own in a cell. -/
import Derived.Test.YtijinhhlikhjfaaEditIt
import Derived.Test.YtijinhhlikhjfaaOrders
import Derived.Laws.EntriesVeiled
import Derived.Outline
namespace Go.Proofs.Ytijinhhlikhjfaa
open Go.RowKit Go.Shelf
set_option linter.unusedVariables false
attribute [local go_sem] Oper.semAt_some

/-- The last part, c where there is none. -/
def lastC : List Ch → Ch → Ch
  | [], c => c
  | p :: ps, _ => lastC ps p
/-- What lies ahead of each part, c standing ahead of them. -/
def gapI : List Ch → Ch → List Ch
  | [], _ => []
  | p :: ps, c => ((c.1.2, p.1.1), (c.2.2, p.2.1)) :: gapI ps p
theorem gapL_I (m n : Int) : ∀ (ps : List Ch) (c : Ch), gapL m n ps c.1.2 c.2.2 = gapI ps c ++ [(((lastC ps c).1.2, m), ((lastC ps c).2.2, n))]
  | [], c => rfl
  | p :: ps, c => by
    show _ :: gapL m n ps p.1.2 p.2.2 = _
    rw [gapL_I m n ps p]
    rfl
theorem gapI_append : ∀ (a b : List Ch) (c : Ch), gapI (a ++ b) c = gapI a c ++ gapI b (lastC a c)
  | [], b, c => rfl
  | p :: a, b, c => by
    show _ :: gapI (a ++ b) p = _
    rw [gapI_append a b p]
    rfl
theorem lastC_snoc : ∀ (a : List Ch) (p c : Ch), lastC (a ++ [p]) c = p
  | [], p, c => rfl
  | q :: a, p, c => lastC_snoc a p q

/-- Ahead of all parts. -/
def c0 : Ch := ((0, 0), (0, 0))

theorem bides_block {β : Type} {b k B : Nat} {f : β → Obj} (hB : B < b) : Bides b k (fun s w => w.heap[B]? = some (f s)) := fun s X Y row hs hg hr =>
  (hg.block B (Array.getElem?_eq_some_iff.1 hs).1 (fun e => by have := (hr B e.symm).1; omega)).trans hs
theorem bides_cells {β : Type} {b k B : Nat} {f : β → Array Value} {t : β → TypeId} (hB : b + k ≤ B) : Bides b k (fun s w => w.heap[B]? = some (.cells (f s) (t s) (0, 0))) := fun s X Y row hs hg hr =>
  (hg.block B (Array.getElem?_eq_some_iff.1 hs).1 (fun e => by
    obtain ⟨h1, h2 | ⟨o, h3, h4⟩⟩ := hr B e.symm
    · omega
    · rw [hs] at h3; cases h3; cases h4)).trans hs

variable {F : Fence} {n : Nat} {P : Program}
theorem wpIn_region_C_round {ops : Array Oper} {id : Nat} {Q : Exit → Act → World → Prop} {a : Act} {w : World} (l : Nat) (C : World → Prop) (hro : F.round = none) (hd : ∀ o ∈ ops, ∀ c, o.op ≠ .defer c) (hm : P.follows .mixedOrders = true)
    (h : AnyC F n P .any ops C (calm Q) ops.size (Array.replicate ops.size false) a w.drew) : (Code.region id ops true).wpIn (F.inRound l) n P Q a w :=
  wpIn_mono (wpIn_region_any hm (wpAnyIn_inRound l hro hd _ _ _ _ (AnyC.any _ _ _ _ h))) calm_any

theorem roundIn_wide {n m l : Nat} {P : Program} {f : FuncId} {tmps : Array Value} {assign body : Code} {w : World} {R : Ending → World → Prop} (h : RoundIn Fence.wide n P l f tmps assign body w R) : RoundIn Fence.wide m P l f tmps assign body w R :=
  ⟨h.1, fun c cs _ => h.2 c cs (fun d hd => by cases hd)⟩
theorem Bides.but {β : Type} {b k r : Nat} {J : β → World → Prop} {s : β} {w w' : World} (h : Bides b k J) (hs : J s w) (hb : But (fun q => q = r) w w') (h1 : b ≤ r) (h2 : r < b + k) : J s w' :=
  h s w w' (some r) hs ⟨hb.os, hb.tape, hb.output, hb.size, fun q hq hn => hb.block q hq (fun e => hn (by rw [e]))⟩ (fun q e => by cases e; exact ⟨h1, .inl h2⟩)

set_option maxRecDepth 100000 in
set_option maxHeartbeats 2000000 in
theorem between_iter (n : Nat) (hn : 3 ≤ n) (f Bp Pb Mb Nb : Nat) (m k : Int) (ps : List Ch) (R : Nat → Prop) (w : World) (hm0 : 0 ≤ m) (hm : m ≤ 2000) (hk0 : 0 ≤ k) (hk : k ≤ 2000)
    (hit : ∀ w', Below w.heap.size w w' → Iter Fence.wide (n - 1) Try.prog f #[.pointer (some ⟨Bp, 0, none⟩)] (fun c => #[chA c]) R 0 ps w')
    (hent : ∀ args w, (callFunc f args).run Try.prog w = .ok (.enter f args) w) (hR : ∀ r, R r → r < w.heap.size)
    (hP : w.heap[Pb]? = some (.cells #[.func (.func f) #[] #[.pointer (some ⟨Bp, 0, none⟩)]] 57 (0, 0))) (hM : w.heap[Mb]? = some (.cells #[.int .i64 m] 3 (0, 0))) (hN : w.heap[Nb]? = some (.cells #[.int .i64 k] 3 (0, 0))) :
    Iter Fence.wide n Try.prog 35 #[.pointer (some ⟨Pb, 0, none⟩), .pointer (some ⟨Mb, 0, none⟩), .pointer (some ⟨Nb, 0, none⟩)] (fun c => #[chA c]) (fun r => R r ∨ r = Mb ∨ r = Nb) 5 (gapL m k ps 0 0) w := by
  intro l J Jx W hbW hJ hJx hY h0
  have hPl : Pb < w.heap.size := (Array.getElem?_eq_some_iff.1 hP).1
  have hMl : Mb < w.heap.size := (Array.getElem?_eq_some_iff.1 hM).1
  have hNl : Nb < w.heap.size := (Array.getElem?_eq_some_iff.1 hN).1
  have hPW := Lib.hid ((hbW.block _ hPl).trans hP)
  have hMW := Lib.hid ((hbW.block _ hMl).trans hM)
  have hNW := Lib.hid ((hbW.block _ hNl).trans hN)
  have pc : W.cell? ⟨Pb, 0, none⟩ = some (.func (.func f) #[] #[.pointer (some ⟨Bp, 0, none⟩)]) := by rw [cells_of hPW.out]; rfl
  have hsz := hbW.size
  have hPl2 : Pb < W.heap.size := by omega
  have hPl3 : Pb < W.heap.size + 1 := by omega
  have hPl4 : Pb < W.heap.size + 1 + 1 := by omega
  clear hP hM hN
  have hR0 := Lib.hid hR
  refine callsIn_of_wp_marks Try.func35 rfl trivial ?_ rfl
  simp only [Try.ntmps35, List.size_toArray, List.length_cons, List.length_nil, Nat.reduceAdd, Nat.reduceSub, Array.replicate_succ, Array.replicate_zero, List.push_toArray, List.append_toArray, List.nil_append, List.cons_append]
  gi_wp2
  have b4 := World.alloc_heap_new W (.cells #[.func (.yield l) #[] #[]] 60)
  have b5 := newC (w := W.alloc (.cells #[.func (.yield l) #[] #[]] 60)) (c := c0)
  have b6 := World.alloc_heap_new ((W.alloc (.cells #[.func (.yield l) #[] #[]] 60)).alloc (.cells #[.int .i64 0, .int .i64 0, .int .i64 0, .int .i64 0] 48)) (.cells #[.func (.func 36) #[] #[.pointer (some ⟨W.heap.size + 1, 0, none⟩)]] 66)
  have hB0 : Below W.heap.size W (((W.alloc (.cells #[.func (.yield l) #[] #[]] 60)).alloc (.cells #[.int .i64 0, .int .i64 0, .int .i64 0, .int .i64 0] 48)).alloc (.cells #[.func (.func 36) #[] #[.pointer (some ⟨W.heap.size + 1, 0, none⟩)]] 66)) :=
    (((Below.refl _ W).alloc (Nat.le_refl _) _).alloc (by simp) _).alloc (by simp; omega) _
  have hs0 : (((W.alloc (.cells #[.func (.yield l) #[] #[]] 60)).alloc (.cells #[.int .i64 0, .int .i64 0, .int .i64 0, .int .i64 0] 48)).alloc (.cells #[.func (.func 36) #[] #[.pointer (some ⟨W.heap.size + 1, 0, none⟩)]] 66)).heap.size = W.heap.size + 3 := by simp
  have b5' := (b5.alloc (.cells #[.func (.func 36) #[] #[.pointer (some ⟨W.heap.size + 1, 0, none⟩)]] 66))
  have b4' := ((Below.refl _ (W.alloc (.cells #[.func (.yield l) #[] #[]] 60))).alloc (Nat.le_refl _) (.cells #[.int .i64 0, .int .i64 0, .int .i64 0, .int .i64 0] 48)).alloc (by simp) (.cells #[.func (.func 36) #[] #[.pointer (some ⟨W.heap.size + 1, 0, none⟩)]] 66)
  have b4 := (b4'.block W.heap.size (by simp)).trans b4
  rw [World.size_alloc] at b5'
  rw [World.size_alloc, World.size_alloc] at b6
  clear b5 b4'
  have b5 := b5'
  clear b5'
  obtain ⟨W0, hW0⟩ : ∃ W0, ((W.alloc (.cells #[.func (.yield l) #[] #[]] 60)).alloc (.cells #[.int .i64 0, .int .i64 0, .int .i64 0, .int .i64 0] 48)).alloc (.cells #[.func (.func 36) #[] #[.pointer (some ⟨W.heap.size + 1, 0, none⟩)]] 66) = W0 := ⟨_, rfl⟩
  simp only [c0] at b5
  rw [hW0] at b4 b5 b6 hB0 hs0 ⊢
  clear hW0 pc hPl3 hPl4
  have hJ0 : J [] W0 := hJ.below h0 hB0
  refine wpIn_range_iter rfl (by omega) (gf := f) (lb := #[.pointer (some ⟨Bp, 0, none⟩)]) rfl trivial hent (hit W0 (hbW.trans (hB0.mono hsz))) (fun r h => by have := hR r h; omega) (fun _ => rfl)
    (fun pre V => J (gapI pre c0) V ∧ BoxC V (W.heap.size + 1) (lastC pre c0) ∧ V.heap[W.heap.size]? = some (.cells #[.func (.yield l) #[] #[]] 60 (0, 0)) ∧
      V.heap[W.heap.size + 1 + 1]? = some (.cells #[.func (.func 36) #[] #[.pointer (some ⟨W.heap.size + 1, 0, none⟩)]] 66 (0, 0)) ∧ V.heap[Mb]? = some (.cells #[.int .i64 m] 3 (0, 0)) ∧ V.heap[Nb]? = some (.cells #[.int .i64 k] 3 (0, 0)))
    (fun _ V => ∃ q, q <+: gapL m k ps 0 0 ∧ Jx q V) ?hI ?hIx ?h0
    (fun x a' V => ∃ Bx, W.heap.size + 5 ≤ Bx ∧ BoxC V Bx x ∧ a' = { tmps := #[.func (.yield l) #[] #[], .pointer (some ⟨Pb, 0, none⟩), .pointer (some ⟨Mb, 0, none⟩), .pointer (some ⟨Nb, 0, none⟩), .pointer (some ⟨W.heap.size, 0, none⟩), .pointer (some ⟨W.heap.size + 1, 0, none⟩), .pointer (some ⟨W.heap.size + 1 + 1, 0, none⟩), .pointer (some ⟨Bx, 0, none⟩),
      .func (.func 36) #[] #[.pointer (some ⟨W.heap.size + 1, 0, none⟩)], .func (.func f) #[] #[.pointer (some ⟨Bp, 0, none⟩)], chA x, undef, undef, undef, undef, undef, undef, undef, undef, undef, undef, undef, undef, undef], defers := [] }) ?hAx ?assign ?body ?done ?stop
  case hI =>
    rw [hs0]
    exact (hJ.sub (by omega) (by omega) : Bides (W.heap.size + 3) (2 + 0) fun pre V => J pre V) |> fun h => by
      intro s X Y row hs hg hr
      exact ⟨h _ X Y row hs.1 hg hr, (hg.block _ hs.2.1.lt (fun e => by have := (hr _ e.symm).1; omega)).trans hs.2.1, bides_block (f := fun _ : Unit => _) (by omega) () X Y row hs.2.2.1 hg hr, bides_block (f := fun _ : Unit => _) (by omega) () X Y row hs.2.2.2.1 hg hr,
        bides_block (f := fun _ : Unit => _) (by omega) () X Y row hs.2.2.2.2.1 hg hr, bides_block (f := fun _ : Unit => _) (by omega) () X Y row hs.2.2.2.2.2 hg hr⟩
  case hIx =>
    rw [hs0]
    intro s X Y row hs hg hr
    obtain ⟨q, hq, hs⟩ := hs
    exact ⟨q, hq, (hJx.sub (by omega) (by omega) : Bides (W.heap.size + 3) (2 + 0) Jx) q X Y row hs hg hr⟩
  case h0 => exact ⟨hJ0, b5, b4, b6, (hB0.block _ (by omega)).trans hMW.out, (hB0.block _ (by omega)).trans hNW.out⟩
  case hAx =>
    rw [hs0]
    intro x a' s X Y row hs hg hr
    obtain ⟨Bx, h1, h2, h3⟩ := hs
    exact ⟨Bx, h1, bides_cells (f := fun _ : Unit => _) (t := fun _ => _) (by omega) () X Y row h2 hg hr, h3⟩
  case assign =>
    rintro l1 pre x V K hi hsV hK
    rw [hs0] at hsV
    unfold chA
    gi_wp2
    exact hK _ _ ((Below.refl _ V).alloc (Nat.le_refl _) _) ⟨V.heap.size, by omega, newC, rfl⟩
  case body =>
    rintro l1 pre post x a' V hx hsV ⟨hJv, b5, b4, b6, bM, bN⟩ ⟨Bx, hBx, bX, rfl⟩
    have c4 : V.cell? ⟨W.heap.size, 0, none⟩ = some (.func (.yield l) #[] #[]) := by rw [cells_of b4]; rfl
    have c6 : V.cell? ⟨W.heap.size + 1 + 1, 0, none⟩ = some (.func (.func 36) #[] #[.pointer (some ⟨W.heap.size + 1, 0, none⟩)]) := by rw [cells_of b6]; rfl
    gi_wp2
    refine wpIn_region_C_round l1 (fun V' => V'.cell? ⟨W.heap.size, 0, none⟩ = some (.func (.yield l) #[] #[]) ∧ V'.cell? ⟨W.heap.size + 1 + 1, 0, none⟩ = some (.func (.func 36) #[] #[.pointer (some ⟨W.heap.size + 1, 0, none⟩)])) rfl (by simp) (by kernel_rfl) ?_
    change AnyC _ _ _ _ _ _ _ 6 _ _ _
    refine AnyC.first (i := 0) (v := .func (.yield l) #[] #[]) rfl rfl rfl (by kernel_rfl) (by kernel_rfl) (by kernel_rfl) (fun _ _ _ h => h) ⟨c4, c6⟩ (fun w' hw' => by obtain ⟨h1, h2⟩ := hw'; go_simp) (fun w' => rfl) ?_
    refine AnyC.first (i := 1) (v := .func (.func 36) #[] #[.pointer (some ⟨W.heap.size + 1, 0, none⟩)]) rfl rfl rfl (by kernel_rfl) (by kernel_rfl) (by kernel_rfl) (fun _ _ _ h => h) ⟨c4, c6⟩ (fun w' hw' => by obtain ⟨h1, h2⟩ := hw'; go_simp) (fun w' => rfl) ?_
    refine AnyC.one (i := 2) (by kernel_rfl) rfl rfl (fun K hK => ?_)
    obtain ⟨x0, x1, x2, x3, -⟩ := bX.at_
    go_simp
    refine hK _ _ ⟨c4, c6⟩ ?_
    clear hK K
    refine AnyC.one (i := 3) (by kernel_rfl) rfl rfl (fun K hK => ?_)
    go_simp
    refine ⟨trivial, fun _ => by omega, (callsIn_wide.2 (upTo_any (W.heap.size + 1) (lastC pre c0).1.1 (lastC pre c0).1.2 (lastC pre c0).2.1 (lastC pre c0).2.2 x V.drew b5)).mono ?_⟩
    rintro e w1 ⟨rfl, hL1, hb1⟩
    have hs1 : V.heap.size ≤ w1.heap.size := hb1.size
    have d4 : w1.cell? ⟨W.heap.size, 0, none⟩ = some (.func (.yield l) #[] #[]) := (World.cell?_of_block (w := V.drew) (hb1.block W.heap.size (by show _ < V.heap.size; omega) (by omega))).trans c4
    have d6 : w1.cell? ⟨W.heap.size + 1 + 1, 0, none⟩ = some (.func (.func 36) #[] #[.pointer (some ⟨W.heap.size + 1, 0, none⟩)]) := (World.cell?_of_block (w := V.drew) (hb1.block (W.heap.size + 1 + 1) (by show _ < V.heap.size; omega) (by omega))).trans c6
    refine hK _ _ ⟨d4, d6⟩ ?_
    clear hK K
    have hJ1 : J (gapI pre c0) w1 := hJ.but (hJ.drew hJv) hb1 (by omega) (by omega)
    have hg := gapL_I m k ps c0
    rw [hx, gapI_append] at hg
    obtain ⟨fn, tmps, assign, body, hy, hR⟩ := hY (gapI pre c0) (((lastC pre c0).1.2, x.1.1), ((lastC pre c0).2.2, x.2.1)) w1 hJ1 (by rw [hs0] at hsV; omega) ⟨_, by rw [hx]; exact hg.trans (List.append_assoc _ _ _)⟩
    have hgh := Lib.hid hg
    clear hg
    refine AnyC.one (i := 4) (by kernel_rfl) rfl rfl (fun K hK => ?_)
    go_simp
    refine ⟨fun _ => by omega, (roundIn_wide hR).mono ?_⟩
    rintro e w3 (⟨rfl, hJ3, hk3⟩ | ⟨rfl, hJx3, hk3⟩)
    all_goals
      have e4 : w3.cell? ⟨W.heap.size, 0, none⟩ = some (.func (.yield l) #[] #[]) := (World.cell?_of_block (w := w1) (hk3.kept W.heap.size (by omega) (.inr ⟨by omega, by omega⟩))).trans d4
      have e6 : w3.cell? ⟨W.heap.size + 1 + 1, 0, none⟩ = some (.func (.func 36) #[] #[.pointer (some ⟨W.heap.size + 1, 0, none⟩)]) := (World.cell?_of_block (w := w1) (hk3.kept (W.heap.size + 1 + 1) (by omega) (.inr ⟨by omega, by omega⟩))).trans d6
      have hlv : Hid (Leaves R W0.heap.size (2 + 0) V w3) := Lib.hid (by
        refine Leaves.trans (w' := w1) (Leaves.but (F := fun q => q = W.heap.size + 1) (w := V) ⟨hb1.os, hb1.tape, hb1.output, hb1.size, hb1.block⟩ (fun r e => ?_) (fun r e h => by omega)) (hk3.sub (fun r h => .inl h) (by omega) (by omega))
        exact ⟨fun h => by have := hR0.out r h; omega, .inl (by omega)⟩)
      refine hK _ _ ⟨e4, e6⟩ ?_
      clear hK K
      refine AnyC.one (i := 5) (by kernel_rfl) rfl rfl (fun K hK => ?_)
      go_simp
      refine hK _ _ ⟨e4, e6⟩ (AnyC.done (by kernel_rfl) ?_)
      clear hK K
      dsimp only [calm]
      gi_wp2
    · refine ⟨hlv.out, ?_, ?_, ?_, ?_, ?_, ?_⟩
      · rw [gapI_append]; exact hJ3
      · rw [lastC_snoc]; exact hL1.kept (hk3.kept _ hL1.lt (.inr ⟨by omega, by omega⟩))
      · exact (hk3.kept _ (by omega) (.inr ⟨by omega, by omega⟩)).trans ((hb1.block W.heap.size (by show _ < V.heap.size; omega) (by omega)).trans b4)
      · exact (hk3.kept _ (by omega) (.inr ⟨by omega, by omega⟩)).trans ((hb1.block (W.heap.size + 1 + 1) (by show _ < V.heap.size; omega) (by omega)).trans b6)
      · exact (hk3.kept Mb (by omega) (.inl (.inr (.inl rfl)))).trans ((hb1.block Mb (by show _ < V.heap.size; omega) (by omega)).trans bM)
      · exact (hk3.kept Nb (by omega) (.inl (.inr (.inr rfl)))).trans ((hb1.block Nb (by show _ < V.heap.size; omega) (by omega)).trans bN)
    · exact ⟨hlv.out, _, ⟨_, by rw [hx]; exact (hgh.out.trans (by rw [List.append_assoc, List.append_assoc]; rfl)).symm⟩, hJx3⟩
  case done =>
    rintro D V hD hV2 ⟨hJv, b5, b4, b6, bM, bN⟩ hK
    have c4 : V.cell? ⟨W.heap.size, 0, none⟩ = some (.func (.yield l) #[] #[]) := by rw [cells_of b4]; rfl
    have c6 : V.cell? ⟨W.heap.size + 1 + 1, 0, none⟩ = some (.func (.func 36) #[] #[.pointer (some ⟨W.heap.size + 1, 0, none⟩)]) := by rw [cells_of b6]; rfl
    have cM : V.cell? ⟨Mb, 0, none⟩ = some (.int .i64 m) := by rw [cells_of bM]; rfl
    have cN : V.cell? ⟨Nb, 0, none⟩ = some (.int .i64 k) := by rw [cells_of bN]; rfl
    have hDV : D < V.heap.size := (Array.getElem?_eq_some_iff.1 hK).1
    gi_wp2
    refine wpIn_region_C (fun V' => V'.cell? ⟨W.heap.size, 0, none⟩ = some (.func (.yield l) #[] #[]) ∧ V'.cell? ⟨W.heap.size + 1 + 1, 0, none⟩ = some (.func (.func 36) #[] #[.pointer (some ⟨W.heap.size + 1, 0, none⟩)]) ∧ V'.cell? ⟨Mb, 0, none⟩ = some (.int .i64 m) ∧ V'.cell? ⟨Nb, 0, none⟩ = some (.int .i64 k)) (by kernel_rfl) ?_
    change AnyC _ _ _ _ _ _ _ 7 _ _ _
    refine AnyC.first (i := 0) (v := .func (.yield l) #[] #[]) rfl rfl rfl (by kernel_rfl) (by kernel_rfl) (by kernel_rfl) (fun _ _ _ h => h) ⟨c4, c6, cM, cN⟩ (fun w' hw' => by obtain ⟨h1, h2, h3, h4⟩ := hw'; go_simp) (fun w' => rfl) ?_
    refine AnyC.first (i := 1) (v := .func (.func 36) #[] #[.pointer (some ⟨W.heap.size + 1, 0, none⟩)]) rfl rfl rfl (by kernel_rfl) (by kernel_rfl) (by kernel_rfl) (fun _ _ _ h => h) ⟨c4, c6, cM, cN⟩ (fun w' hw' => by obtain ⟨h1, h2, h3, h4⟩ := hw'; go_simp) (fun w' => rfl) ?_
    refine AnyC.first (i := 2) (v := .int .i64 m) rfl rfl rfl (by kernel_rfl) (by kernel_rfl) (by kernel_rfl) (fun _ _ _ h => h) ⟨c4, c6, cM, cN⟩ (fun w' hw' => by obtain ⟨h1, h2, h3, h4⟩ := hw'; go_simp) (fun w' => rfl) ?_
    refine AnyC.first (i := 3) (v := .int .i64 k) rfl rfl rfl (by kernel_rfl) (by kernel_rfl) (by kernel_rfl) (fun _ _ _ h => h) ⟨c4, c6, cM, cN⟩ (fun w' hw' => by obtain ⟨h1, h2, h3, h4⟩ := hw'; go_simp) (fun w' => rfl) ?_
    refine AnyC.one (i := 4) (by kernel_rfl) rfl rfl (fun K hK' => ?_)
    go_simp
    refine ⟨trivial, fun _ => by omega, (callsIn_wide.2 (pair_any m k V.drew hm0 hm hk0 hk)).mono ?_⟩
    rintro e w2 ⟨rfl, hb2⟩
    have hs2 : V.heap.size ≤ w2.heap.size := hb2.size
    have hbl2 : ∀ r, r < V.heap.size → w2.heap[r]? = V.heap[r]? := fun r hr => hb2.block r hr
    have f4 : w2.cell? ⟨W.heap.size, 0, none⟩ = some (.func (.yield l) #[] #[]) := (World.cell?_of_block (w := V) (hbl2 W.heap.size (by omega))).trans c4
    have f6 : w2.cell? ⟨W.heap.size + 1 + 1, 0, none⟩ = some (.func (.func 36) #[] #[.pointer (some ⟨W.heap.size + 1, 0, none⟩)]) := (World.cell?_of_block (w := V) (hbl2 (W.heap.size + 1 + 1) (by omega))).trans c6
    have fM : w2.cell? ⟨Mb, 0, none⟩ = some (.int .i64 m) := (World.cell?_of_block (w := V) (hbl2 Mb (by omega))).trans cM
    have fN : w2.cell? ⟨Nb, 0, none⟩ = some (.int .i64 k) := (World.cell?_of_block (w := V) (hbl2 Nb (by omega))).trans cN
    have b5' : BoxC w2 (W.heap.size + 1) (lastC ps c0) := b5.kept (hbl2 _ b5.lt)
    have hJ2 : J (gapI ps c0) w2 := (hJ.drew hJv) |> fun h => hJ.below h hb2
    have hK2 : w2.heap[D]? = some (.deferred (some [])) := (hbl2 _ hDV).trans hK
    refine hK' _ _ ⟨f4, f6, fM, fN⟩ ?_
    clear hK' K
    refine AnyC.one (i := 5) (by kernel_rfl) rfl rfl (fun K hK' => ?_)
    go_simp
    refine ⟨trivial, fun _ => by omega, (callsIn_wide.2 (upTo_any (W.heap.size + 1) (lastC ps c0).1.1 (lastC ps c0).1.2 (lastC ps c0).2.1 (lastC ps c0).2.2 (pt (m, k)) w2 b5')).mono ?_⟩
    rintro e w1 ⟨rfl, hL1, hb1⟩
    have hs1 : w2.heap.size ≤ w1.heap.size := hb1.size
    have d4 : w1.cell? ⟨W.heap.size, 0, none⟩ = some (.func (.yield l) #[] #[]) := (World.cell?_of_block (w := w2) (hb1.block W.heap.size (by show _ < w2.heap.size; omega) (by omega))).trans f4
    have d6 : w1.cell? ⟨W.heap.size + 1 + 1, 0, none⟩ = some (.func (.func 36) #[] #[.pointer (some ⟨W.heap.size + 1, 0, none⟩)]) := (World.cell?_of_block (w := w2) (hb1.block (W.heap.size + 1 + 1) (by show _ < w2.heap.size; omega) (by omega))).trans f6
    have dM : w1.cell? ⟨Mb, 0, none⟩ = some (.int .i64 m) := (World.cell?_of_block (w := w2) (hb1.block Mb (by omega) (by omega))).trans fM
    have dN : w1.cell? ⟨Nb, 0, none⟩ = some (.int .i64 k) := (World.cell?_of_block (w := w2) (hb1.block Nb (by omega) (by omega))).trans fN
    have hK1 : w1.heap[D]? = some (.deferred (some [])) := (hb1.block D (by omega) (by omega)).trans hK2
    refine hK' _ _ ⟨d4, d6, dM, dN⟩ ?_
    clear hK' K
    have hJ1 : J (gapI ps c0) w1 := hJ.but hJ2 hb1 (by omega) (by omega)
    have hg := gapL_I m k ps c0
    obtain ⟨fn, tmps, assign, body, hy, hR⟩ := hY (gapI ps c0) (((lastC ps c0).1.2, (pt (m, k)).1.1), ((lastC ps c0).2.2, (pt (m, k)).2.1)) w1 hJ1 (by omega) ⟨[], hg⟩
    have hgh := Lib.hid hg
    clear hg
    refine AnyC.one (i := 6) (by kernel_rfl) rfl rfl (fun K hK' => ?_)
    go_simp
    refine ⟨fun _ => by omega, (roundIn_wide hR).mono ?_⟩
    rintro e w3 (⟨rfl, hJ3, hk3⟩ | ⟨rfl, hJx3, hk3⟩)
    all_goals
      have e4 : w3.cell? ⟨W.heap.size, 0, none⟩ = some (.func (.yield l) #[] #[]) := (World.cell?_of_block (w := w1) (hk3.kept W.heap.size (by omega) (.inr ⟨by omega, by omega⟩))).trans d4
      have e6 : w3.cell? ⟨W.heap.size + 1 + 1, 0, none⟩ = some (.func (.func 36) #[] #[.pointer (some ⟨W.heap.size + 1, 0, none⟩)]) := (World.cell?_of_block (w := w1) (hk3.kept (W.heap.size + 1 + 1) (by omega) (.inr ⟨by omega, by omega⟩))).trans d6
      have eM : w3.cell? ⟨Mb, 0, none⟩ = some (.int .i64 m) := (World.cell?_of_block (w := w1) (hk3.kept Mb (by omega) (.inl (.inr (.inl rfl))))).trans dM
      have eN : w3.cell? ⟨Nb, 0, none⟩ = some (.int .i64 k) := (World.cell?_of_block (w := w1) (hk3.kept Nb (by omega) (.inl (.inr (.inr rfl))))).trans dN
      have hK3 : w3.heap[D]? = some (.deferred (some [])) := hk3.rest D _ (by omega) hK1 rfl
      refine hK' _ _ ⟨e4, e6, eM, eN⟩ (AnyC.done (by kernel_rfl) ?_)
      clear hK' K
      dsimp only [calm]
      gi_wp2
      refine ⟨by simp, .inl ⟨_, _, rfl, run_takeDeferred hK3, ?_⟩⟩
    · exact ⟨_, results_none rfl _ _ _, ⟨_, rfl⟩, .inl (by
        have e : gapL m k ps 0 0 = gapI ps c0 ++ [(((lastC ps c0).1.2, (pt (m, k)).1.1), ((lastC ps c0).2.2, (pt (m, k)).2.1))] := hgh.out
        rw [e]
        exact hJ.putObj hJ3 (by omega) hK3 rfl _)⟩
    · exact ⟨_, results_none rfl _ _ _, ⟨_, rfl⟩, .inr ⟨_, ⟨[], by rw [List.append_nil]; exact hgh.out.symm⟩, hJx.putObj hJx3 (by omega) hK3 rfl _⟩⟩
  case stop =>
    rintro D pre V hD hpre ⟨q, hq, hJq⟩ hK
    gi_wp2
    refine ⟨by simp, .inl ⟨_, _, rfl, run_takeDeferred hK, ?_⟩⟩
    exact ⟨_, results_none rfl _ _ _, ⟨_, rfl⟩, .inr ⟨q, hq, hJx.putObj hJq (by omega) hK rfl _⟩⟩
end Go.Proofs.Ytijinhhlikhjfaa
