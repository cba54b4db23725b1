/- Proved here: texts joined: EdCm2, EdCm3. -/
import Derived.Test.YtdfpifipkchmnaaDoorBc33
import Derived.Test.YtdfpifipkchmnaaDoorBc34
/- Proved here: the landed editor's commands add, drop and strip. -/
namespace Go.Proofs.YtdfpifipkchmnaaDoor
open Go.RowKit
set_option linter.unusedVariables false
set_option maxRecDepth 100000

section
variable {B0 E a n c k : Nat} {w : World} {As : Option Addr} {ns cs : Nat} {fv : Value} {script file : Txs} {wr : Bool} {A : Option Addr} {l : List Nat}
theorem may_nil : mayB [] = true := rfl
theorem but_E {B0 E : Nat} {w w' : World} (hb : But (fun j => j = E) w w') (hB : B0 ≤ w.heap.size) (hE : B0 ≤ E) : Below B0 w w' := hb.below hB fun k e => by omega

set_option maxHeartbeats 2000000 in
theorem add_ins (h : EdI B0 w E (As, ns, cs) fv script ((a + 1 : Nat) : Int) file wr false) (hs : smallD script) (hr : a + 1 ≤ script.length) (hfl : file.length ≤ 500000) (hA : Nums w w.heap.size A 1 ([k].map fun x : Nat => (x : Int))) (hk : k ≤ file.length) :
    Calls Tryd.prog 25 #[.pointer (some ⟨E, 0, none⟩), .slice A 1 c] w fun e w' => CmdO B0 E (As, ns, cs) script w w' e (a + 1) (insE script.length a k k (script.drop (a + 1)) file) := by
  obtain ⟨⟨text, K⟩, hX⟩ : ∃ X, unblockD [] 0 (script.drop (a + 1)) = X := ⟨_, rfl⟩
  rw [ins_split may_nil hX]
  have hm1 := Lib.hid (must_ok E 2 w)
  have hm2 := Lib.hid (must_ok E 3 w)
  obtain ⟨-, -, x2, -, -⟩ := h.cells
  obtain ⟨Af, cf, hfv, -, -, -⟩ := own_slice h.own
  rw [hfv] at x2
  have hlow := h.low
  have hleB := h.leB
  obtain ⟨b, o, rfl, -, c0⟩ := nums_at (k := 0) hA rfl
  rw [Nat.add_zero] at c0
  have hhand := handed_all h hs hr hX
  have hq := (unb_small (acc := []) (small_drop hs (a + 1))).1
  rw [hX] at hq
  dsimp only at hq
  have hput : Hid (∀ (w2 : World) (v : Value), EdI B0 w2 E (As, ns, cs) fv script ((a + 1 + K : Nat) : Int) file wr false → w2.ownsRow w.heap.size 9 1 v text.length (txC text) →
      Calls Tryd.prog 37 #[.pointer (some ⟨E, 0, none⟩), .agg #[.int .i64 (k : Int), .int .i64 (k : Int)], v] w2 fun e w' => EdLeft B0 E (As, ns, cs) script w2 w' e ((a + 1 + K : Nat) : Int) (layE file k k text) false false) := Lib.hid (fun w2 v h2 hv => put_any h2 (Nat.le_refl _) hk (by omega) hv (fun q e e2 => by have h3 := (hv.lt q e).1; have h4 := (h.own.lt q e2).2; omega))
  obtain ⟨N, hN⟩ : ∃ N, file.length = N := ⟨_, rfl⟩
  rw [hN] at x2 hk
  have d1 : decide ((k : Int) ≤ (N : Int)) = true := decide_eq_true (by omega)
  have p1 : (k : Int) ≤ (N : Int) := by omega
  have d2 : decide (k ≤ N) = true := decide_eq_true hk
  have hnm := Lib.hid (h.noMap)
  have hkh := Lib.hid (And.intro hlow hleB)
  clear hA hfv hN hX hq h hs hr hfl hlow hleB
  rcases hhand with ⟨hK, hH⟩ | ⟨hK, ht, hH⟩ | ⟨hK, ht, hH⟩
  · rw [if_pos hK]
    have hHh := Lib.hid hH
    clear hH hK
    go_enter Tryd.func25, Tryd.ntmps25
    go_upto_region 1 with (go_at_call 22; refine hm1.out.mono ?_; rintro e w' ⟨rfl, hww⟩; have hws := hww.symm; clear hww; subst hws)
    go_upto_region 3 with (go_at_call 22; refine hm2.out.mono ?_; rintro e w' ⟨rfl, hww⟩; have hws := hww.symm; clear hww; subst hws)
    go_wp2_with (go_at_call 38; refine hHh.out.mono ?_; rintro e w' ⟨rfl, hb⟩)
    exact ⟨rfl, rfl, hb⟩
  · rw [if_neg hK, if_pos ht]
    have hHh := Lib.hid hH
    clear hH hK ht
    go_enter Tryd.func25, Tryd.ntmps25
    go_upto_region 1 with (go_at_call 22; refine hm1.out.mono ?_; rintro e w' ⟨rfl, hww⟩; have hws := hww.symm; clear hww; subst hws)
    go_upto_region 3 with (go_at_call 22; refine hm2.out.mono ?_; rintro e w' ⟨rfl, hww⟩; have hws := hww.symm; clear hww; subst hws)
    go_wp2_with (go_at_call 38; refine hHh.out.mono ?_; rintro e w' ⟨rfl, hb⟩)
    exact ⟨rfl, rfl, hb⟩
  · rw [if_neg hK, if_neg (by rw [ht]; decide)]
    have hHh := Lib.hid hH
    clear hH hK ht
    go_enter Tryd.func25, Tryd.ntmps25
    go_upto_region 1 with (go_at_call 22; refine hm1.out.mono ?_; rintro e w' ⟨rfl, hww⟩; have hws := hww.symm; clear hww; subst hws)
    go_upto_region 3 with (go_at_call 22; refine hm2.out.mono ?_; rintro e w' ⟨rfl, hww⟩; have hws := hww.symm; clear hww; subst hws)
    go_wp2_with (first
      | (go_at_call 38; refine hHh.out.mono ?_; rintro e w2 ⟨v, rfl, hE2, ho2, hb2⟩; have hP := Lib.hid (hput.out w2 v hE2 ho2); have hB2 := Lib.hid (And.intro (but_E hb2 hkh.out.2 hkh.out.1) (MapsK.but hb2 fun k hk => hnm.out k (.inl hk))); clear hE2 ho2 hb2)
      | (go_at_call 37; refine hP.out.mono ?_; rintro e w3 ⟨fv3, rfl, hE3, hb3⟩; have hF := Lib.hid (And.intro hE3 hb3); clear hE3 hb3))
    go_end0
    exact ⟨fv3, rfl, hF.out.1, BmK.trans hB2.out hF.out.2⟩
end
end Go.Proofs.YtdfpifipkchmnaaDoor
/- Proved here: the landed editor's commands drop and change. -/
namespace Go.Proofs.YtdfpifipkchmnaaDoor
open Go.RowKit
set_option linter.unusedVariables false
set_option maxRecDepth 100000

section
variable {B0 E a n c k f t : Nat} {w : World} {As : Option Addr} {ns cs : Nat} {fv : Value} {script file : Txs} {wr : Bool} {A : Option Addr} {l : List Nat}
set_option maxHeartbeats 1000000 in
theorem drop_form (h : EdI B0 w E (As, ns, cs) fv script ((a + 1 : Nat) : Int) file wr false) (hA : Nums w w.heap.size A n (l.map fun x : Nat => (x : Int))) (h1 : n ≠ 1) (h2 : n ≠ 2) :
    Calls Tryd.prog 27 #[.pointer (some ⟨E, 0, none⟩), .slice A n c] w fun e w' => EdWrong B0 w w' e (a + 1) 2 := by
  have hat := Lib.hid (at_form (c := c) h hA h1 h2)
  have hB := h.leB
  clear h hA h1 h2
  go_enter Tryd.func27, Tryd.ntmps27
  go_wp2_with (go_at_call 39; refine hat.out.mono ?_; rintro e w' ⟨rfl, hb⟩)
  exact ⟨rfl, rfl, hb.mono hB⟩
set_option maxHeartbeats 1000000 in
theorem drop_range (h : EdI B0 w E (As, ns, cs) fv script ((a + 1 : Nat) : Int) file wr false) (hA : Nums w w.heap.size A n (l.map fun x : Nat => (x : Int))) (hl : TwoN l n f t) (hf : f < 1000000000) (ht : t < 1000000000) (hbad : ¬ (0 < f ∧ f ≤ t ∧ t ≤ file.length)) :
    Calls Tryd.prog 27 #[.pointer (some ⟨E, 0, none⟩), .slice A n c] w fun e w' => EdWrong B0 w w' e (a + 1) 3 := by
  have hat := Lib.hid (at_range (c := c) h hA hl hf ht hbad)
  have hB := h.leB
  clear h hA hl hf ht hbad
  go_enter Tryd.func27, Tryd.ntmps27
  go_wp2_with (go_at_call 39; refine hat.out.mono ?_; rintro e w' ⟨rfl, hb⟩)
  exact ⟨rfl, rfl, hb.mono hB⟩
set_option maxHeartbeats 1000000 in
theorem drop_ok (h : EdI B0 w E (As, ns, cs) fv script ((a + 1 : Nat) : Int) file wr false) (hfl : file.length ≤ 500000) (hA : Nums w w.heap.size A n (l.map fun x : Nat => (x : Int))) (hl : TwoN l n f t) (hf : f < 1000000000) (ht : t < 1000000000) (hok : 0 < f ∧ f ≤ t ∧ t ≤ file.length) :
    Calls Tryd.prog 27 #[.pointer (some ⟨E, 0, none⟩), .slice A n c] w fun e w' => EdLeft B0 E (As, ns, cs) script w w' e ((a + 1 : Nat) : Int) (layE file (f - 1) t []) false false := by
  have hat := at_ok (c := c) h hA hl hf ht hok
  rw [show (f : Int) - 1 = ((f - 1 : Nat) : Int) by omega] at hat
  have hath := Lib.hid hat
  have hB := h.leB
  have hput : Hid (∀ (w2 : World), Below w.heap.size w w2 → Calls Tryd.prog 37 #[.pointer (some ⟨E, 0, none⟩), .agg #[.int .i64 ((f - 1 : Nat) : Int), .int .i64 (t : Int)], .slice none 0 0] w2 fun e w' => EdLeft B0 E (As, ns, cs) script w2 w' e ((a + 1 : Nat) : Int) (layE file (f - 1) t []) false false) :=
    Lib.hid (fun w2 h2 => put_any (base2 := 0) (text := []) (h.up h2) (by omega) hok.2.2 (by simp; omega) (World.ownsRow_nil _ _ _ _) (fun q e => by cases e))
  obtain ⟨I, hI⟩ : ∃ I : Int, I = ((f - 1 : Nat) : Int) := ⟨_, rfl⟩
  obtain ⟨Z, hZ⟩ : ∃ Z, layE file (f - 1) t [] = Z := ⟨_, rfl⟩
  rw [← hI] at hath hput
  rw [hZ] at hput ⊢
  clear h hA hl hf ht hok hat hI hZ
  go_enter Tryd.func27, Tryd.ntmps27
  go_wp2_with (first
    | (go_at_call 39; refine hath.out.mono ?_; rintro e w1 ⟨rfl, hb⟩; have hB1 := Lib.hid hb; clear hb)
    | (go_at_call 37; refine (hput.out w1 hB1.out).mono ?_; rintro e w3 ⟨fv3, rfl, hE3, hb3⟩; have hF := Lib.hid (And.intro hE3 hb3); clear hE3 hb3))
  go_end0
  exact ⟨fv3, rfl, hF.out.1, (BmK.of hB1.out hB).trans hF.out.2⟩
set_option maxHeartbeats 1000000 in
theorem change_form (h : EdI B0 w E (As, ns, cs) fv script ((a + 1 : Nat) : Int) file wr false) (hA : Nums w w.heap.size A n (l.map fun x : Nat => (x : Int))) (h1 : n ≠ 1) (h2 : n ≠ 2) :
    Calls Tryd.prog 26 #[.pointer (some ⟨E, 0, none⟩), .slice A n c] w fun e w' => EdWrong B0 w w' e (a + 1) 2 := by
  have hat := Lib.hid (at_form (c := c) h hA h1 h2)
  have hB := h.leB
  clear h hA h1 h2
  go_enter Tryd.func26, Tryd.ntmps26
  go_wp2_with (go_at_call 39; refine hat.out.mono ?_; rintro e w' ⟨rfl, hb⟩)
  exact ⟨rfl, rfl, hb.mono hB⟩
set_option maxHeartbeats 1000000 in
theorem change_range (h : EdI B0 w E (As, ns, cs) fv script ((a + 1 : Nat) : Int) file wr false) (hA : Nums w w.heap.size A n (l.map fun x : Nat => (x : Int))) (hl : TwoN l n f t) (hf : f < 1000000000) (ht : t < 1000000000) (hbad : ¬ (0 < f ∧ f ≤ t ∧ t ≤ file.length)) :
    Calls Tryd.prog 26 #[.pointer (some ⟨E, 0, none⟩), .slice A n c] w fun e w' => EdWrong B0 w w' e (a + 1) 3 := by
  have hat := Lib.hid (at_range (c := c) h hA hl hf ht hbad)
  have hB := h.leB
  clear h hA hl hf ht hbad
  go_enter Tryd.func26, Tryd.ntmps26
  go_wp2_with (go_at_call 39; refine hat.out.mono ?_; rintro e w' ⟨rfl, hb⟩)
  exact ⟨rfl, rfl, hb.mono hB⟩

set_option maxHeartbeats 4000000 in
theorem change_ok (h : EdI B0 w E (As, ns, cs) fv script ((a + 1 : Nat) : Int) file wr false) (hs : smallD script) (hr : a + 1 ≤ script.length) (hfl : file.length ≤ 500000) (hA : Nums w w.heap.size A n (l.map fun x : Nat => (x : Int))) (hl : TwoN l n f t) (hf : f < 1000000000) (ht : t < 1000000000) (hok : 0 < f ∧ f ≤ t ∧ t ≤ file.length) :
    Calls Tryd.prog 26 #[.pointer (some ⟨E, 0, none⟩), .slice A n c] w fun e w' => CmdO B0 E (As, ns, cs) script w w' e (a + 1) (insE script.length a (f - 1) t (script.drop (a + 1)) file) := by
  obtain ⟨⟨text, K⟩, hX⟩ : ∃ X, unblockD [] 0 (script.drop (a + 1)) = X := ⟨_, rfl⟩
  rw [ins_split may_nil hX]
  have hat := at_ok (c := c) h hA hl hf ht hok
  rw [show (f : Int) - 1 = ((f - 1 : Nat) : Int) by omega] at hat
  have hath := Lib.hid hat
  have hB := h.leB
  have hlow := h.low
  have hq := (unb_small (acc := []) (small_drop hs (a + 1))).1
  rw [hX] at hq
  dsimp only at hq
  have hhand := Lib.hid (fun (V : World) (hV : Below w.heap.size w V) => handed_all (h.up hV) hs hr hX)
  have hput : Hid (∀ (V w2 : World) (v : Value), Below w.heap.size w V → EdI B0 w2 E (As, ns, cs) fv script ((a + 1 + K : Nat) : Int) file wr false → w2.ownsRow V.heap.size 9 1 v text.length (txC text) →
      Calls Tryd.prog 37 #[.pointer (some ⟨E, 0, none⟩), .agg #[.int .i64 ((f - 1 : Nat) : Int), .int .i64 (t : Int)], v] w2 fun e w' => EdLeft B0 E (As, ns, cs) script w2 w' e ((a + 1 + K : Nat) : Int) (layE file (f - 1) t text) false false) := Lib.hid (fun V w2 v hV h2 hv => put_any h2 (by omega) hok.2.2 (by omega) hv (fun q e e2 => by have h3 := (hv.lt q e).1; have h4 := (h.own.lt q e2).2; have := hV.size; omega))
  obtain ⟨I, hI⟩ : ∃ I : Int, I = ((f - 1 : Nat) : Int) := ⟨_, rfl⟩
  obtain ⟨Z, hZ⟩ : ∃ Z, layE file (f - 1) t text = Z := ⟨_, rfl⟩
  rw [← hI] at hath hput
  rw [hZ] at hput ⊢
  have hE := h.lt
  have hnm := Lib.hid (h.noMap)
  obtain ⟨O, hO⟩ : ∃ O : StE, (if K = 0 then .inl (2, script.length + 1) else if (mayB text && !openB text) = false then .inl (2, a + 1) else .inr (Z, false, K)) = O := ⟨_, rfl⟩
  rw [hO]
  clear h hA hl hf ht hok hat hI hZ hX hq hs hr hfl
  go_enter Tryd.func26, Tryd.ntmps26
  go_upto_region 1 with (go_at_call 39; refine hath.out.mono ?_; rintro e w1 ⟨rfl, hb⟩; have hB1 := Lib.hid hb; clear hb)
  have hs1 := hB1.out.size
  have hbox : (w1.alloc (.cells #[.int .i64 I, .int .i64 (t : Int)] 63)).drew.heap[w1.heap.size]? = some (.cells #[.int .i64 I, .int .i64 (t : Int)] 63 (0, 0)) := by
    rw [heap_drew, push_at, if_pos rfl]
  have hB2 : Below w.heap.size w (w1.alloc (.cells #[.int .i64 I, .int .i64 (t : Int)] 63)).drew := (below_alloc hB1.out _).trans (below_drewN (Below.refl _ _) 1)
  have hsz : (w1.alloc (.cells #[.int .i64 I, .int .i64 (t : Int)] 63)).drew.heap.size = w1.heap.size + 1 := by
    rw [heap_drew]; simp
  have hB2h := Lib.hid hB2
  rcases hhand.out _ hB2 with ⟨hK, hH⟩ | ⟨hK, HT, hH⟩ | ⟨hK, HT, hH⟩
  · obtain rfl : O = .inl (2, script.length + 1) := by rw [← hO, if_pos hK]
    clear hO
    have hHh := Lib.hid hH
    clear hH hK hhand hput hB2 hsz
    refine wp_region_any (by kernel_rfl) ?_
    change wpAny _ _ _ _ _ _ _ (World.drew _)
    refine wpAny_take (i := 0) (v := ?_) rfl (by kernel_rfl) (by kernel_rfl) (by kernel_rfl) (fun _ _ _ h => h) (Or.inl ⟨by rfl, ?_⟩) ?_
    rotate_left
    · intro W
      go_simp
      try with_reducible rfl
    refine wpAny_take (i := 2) (v := ?_) rfl (by kernel_rfl) (by kernel_rfl) (by kernel_rfl) (fun _ _ _ h => h) (Or.inl ⟨by rfl, ?_⟩) ?_
    rotate_left
    · intro W
      go_simp
      try with_reducible rfl
    refine wpAny_ready (rs := [1, 3]) (by kernel_rfl) (by simp) ?_
    refine AllReady.cons rfl (fun K hK => ?_) (AllReady.cons rfl (fun K hK => ?_) AllReady.nil)
    · go_simp
      refine hK _ _ ?_
      clear hK K
      refine wpAny_ready (rs := [3]) (by kernel_rfl) (by simp) ?_
      refine AllReady.cons rfl (fun K hK => ?_) AllReady.nil
      go_simp
      go_at_call 38
      refine hHh.out.mono ?_
      rintro e w' ⟨rfl, hb⟩
      exact ⟨rfl, rfl, (hB2h.out.mono hB).trans hb⟩
    · go_simp
      go_at_call 38
      refine hHh.out.mono ?_
      rintro e w' ⟨rfl, hb⟩
      exact ⟨rfl, rfl, (hB2h.out.mono hB).trans hb⟩
  · obtain rfl : O = .inl (2, a + 1) := by rw [← hO, if_neg hK, if_pos HT]
    clear hO
    have hHh := Lib.hid hH
    clear hH hK hhand hput hB2 hsz HT
    refine wp_region_any (by kernel_rfl) ?_
    change wpAny _ _ _ _ _ _ _ (World.drew _)
    refine wpAny_take (i := 0) (v := ?_) rfl (by kernel_rfl) (by kernel_rfl) (by kernel_rfl) (fun _ _ _ h => h) (Or.inl ⟨by rfl, ?_⟩) ?_
    rotate_left
    · intro W
      go_simp
      try with_reducible rfl
    refine wpAny_take (i := 2) (v := ?_) rfl (by kernel_rfl) (by kernel_rfl) (by kernel_rfl) (fun _ _ _ h => h) (Or.inl ⟨by rfl, ?_⟩) ?_
    rotate_left
    · intro W
      go_simp
      try with_reducible rfl
    refine wpAny_ready (rs := [1, 3]) (by kernel_rfl) (by simp) ?_
    refine AllReady.cons rfl (fun K hK => ?_) (AllReady.cons rfl (fun K hK => ?_) AllReady.nil)
    · go_simp
      refine hK _ _ ?_
      clear hK K
      refine wpAny_ready (rs := [3]) (by kernel_rfl) (by simp) ?_
      refine AllReady.cons rfl (fun K hK => ?_) AllReady.nil
      go_simp
      go_at_call 38
      refine hHh.out.mono ?_
      rintro e w' ⟨rfl, hb⟩
      exact ⟨rfl, rfl, (hB2h.out.mono hB).trans hb⟩
    · go_simp
      go_at_call 38
      refine hHh.out.mono ?_
      rintro e w' ⟨rfl, hb⟩
      exact ⟨rfl, rfl, (hB2h.out.mono hB).trans hb⟩
  · obtain rfl : O = .inr (Z, false, K) := by rw [← hO, if_neg hK, if_neg (by rw [HT]; decide)]
    clear hO
    have hHh := Lib.hid hH
    have hput2 := Lib.hid (hput.out _ · · hB2)
    have hkp := Lib.hid (fun (w2 : World) (hb : But (fun j => j = E) (w1.alloc (.cells #[.int .i64 I, .int .i64 (t : Int)] 63)).drew w2) => cells_of ((hb.block w1.heap.size (by omega) (by omega)).trans hbox))
    have z0 := cells_of hbox 0
    have z1 := cells_of hbox 1
    have hszh := Lib.hid hsz
    have hnm2 : Hid (∀ k, k = E → ∀ es cl, (w1.alloc (.cells #[.int .i64 I, .int .i64 (t : Int)] 63)).drew.heap[k]? ≠ some (Obj.map es cl)) := Lib.hid (fun k hk es cl e => by rw [hk, hB2h.out.block E hE] at e; exact hnm.out E (.inl rfl) es cl e)
    clear hH hK HT hhand hput hB2 hbox hsz
    go_region_law (first
      | (go_simp; go_at_call 38; refine hHh.out.mono ?_; rintro e w2 ⟨v, rfl, hE2, ho2, hb2⟩; have y0 := hkp.out w2 hb2 0; have y1 := hkp.out w2 hb2 1; have hP := Lib.hid (hput2.out w2 v hE2 ho2); have hB3 := Lib.hid (And.intro (but_E hb2 (by have := hszh.out; omega) hlow) (MapsK.but hb2 (hnm2.out))); clear hE2 ho2 hb2)
      | (go_simp; go_at_call 37; refine hP.out.mono ?_; rintro e w3 ⟨fv3, rfl, hE3, hb3⟩; have hF := Lib.hid (And.intro hE3 hb3); clear hE3 hb3))
    all_goals
      go_end0
      exact ⟨fv3, rfl, hF.out.1, (BmK.of hB2h.out hB).trans (BmK.trans hB3.out hF.out.2)⟩
end
end Go.Proofs.YtdfpifipkchmnaaDoor
