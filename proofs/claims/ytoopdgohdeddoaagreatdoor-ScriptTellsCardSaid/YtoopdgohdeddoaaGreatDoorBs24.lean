/- Proved here: texts joined: ScrRef. -/
import Derived.Test.YtoopdgohdeddoaaGreatDoorBs09
import Derived.Test.YtoopdgohdeddoaaGreatDoorBs10
import Derived.Test.YtoopdgohdeddoaaGreatDoorBs12
import Derived.Test.YtoopdgohdeddoaaGreatDoorBs22
import Derived.Test.YtoopdgohdeddoaaGreatDoorBs23
/- Proved here: the contract of the document's own answer of layer 16: Script. -/
namespace Go.Proofs.YtoopdgohdeddoaaGreatDoor
open Go.RowKit
set_option linter.unusedVariables false
set_option maxRecDepth 100000

theorem pair_rows {wo W : World} {g : Nat} {r1 r2 : Slc} {t s : Txs} (hb : Below wo.heap.size wo W) (hg : W.heap[g]? = some (.cells #[slcV r1, slcV r2] 22 (0, 0))) (h1 : TxR wo wo.heap.size r1 t) (h2 : TxR wo wo.heap.size r2 s) : RowsT W W.heap.size (some ⟨g, 0, none⟩) 2 [r1, r2] [t, s] :=
  rowsT_of hg rfl rfl rfl fun k r ss a b => by
    match k, a, b with
    | 0, a, b => simp at a b; subst a; subst b; exact h1.up hb
    | 1, a, b => simp at a b; subst a; subst b; exact h2.up hb
    | k + 2, a, b => simp at a
theorem scr_bad {c : UInt8} {mine older yours : Txs} {fin : Bool} {w w' : World} {z : Int} (hz : errS c mine older yours = z) (h0 : z ≠ 0) (hb : Below w.heap.size w w') : ScrOut w w' (.returned (.tuple #[.slice none 0 0, .int .i64 z])) c mine older yours fin :=
  ⟨none, 0, 0, z, [], rfl, TxR.nil _ _, ⟨hz.symm, fun _ => rfl, fun h => absurd h h0⟩, hb⟩

set_option maxHeartbeats 2000000 in
theorem rScript_bad (c : UInt8) (A0 : Option Addr) (n0 c0 : Nat) (mine : Txs) (A1 : Option Addr) (n1 c1 : Nat) (older : Txs) (A2 : Option Addr) (n2 c2 : Nat) (yours : Txs) (fin : Bool) (w : World) (hsm : smallR older [mine, yours])
    (h0 : TxR w w.heap.size (A0, n0, c0) mine) (h1 : TxR w w.heap.size (A1, n1, c1) older) (h2 : TxR w w.heap.size (A2, n2, c2) yours) (he : errS c mine older yours ≠ 0) :
    Calls Tryz.prog 12 #[.int .u8 (c.toNat : Int), .agg #[.slice A0 n0 c0, .slice A1 n1 c1, .slice A2 n2 c2], .bool fin] w fun e w' => ScrOut w w' e c mine older yours fin := by
  obtain ⟨W1, hW1⟩ : ∃ W1, W1 = w.alloc (.cells #[.slice A0 n0 c0, .slice A1 n1 c1, .slice A2 n2 c2] 23) := ⟨_, rfl⟩
  have hb1 : Below w.heap.size w W1 := by rw [hW1]; exact (Below.refl _ _).alloc (Nat.le_refl _) _
  have k1 : W1.heap[w.heap.size]? = some (.cells #[.slice A0 n0 c0, .slice A1 n1 c1, .slice A2 n2 c2] 23 (0, 0)) := by rw [hW1]; exact Go.Deep.blk_alloc_new w _
  have hK := Lib.hid (rfKnown_any c W1)
  have hfin := Lib.hid (fun (z : Int) (w' : World) (hz : errS c mine older yours = z) (hn : z ≠ 0) (hb : Below w.heap.size w w') => scr_bad (fin := fin) hz hn hb)
  have hb1h := Lib.hid hb1
  have hk1 := Lib.hid k1
  obtain ⟨kn, hkn⟩ : ∃ kn, knownB c = kn := ⟨_, rfl⟩
  rw [hkn] at hK
  cases kn
  · have e1 := Lib.hid (show errS c mine older yours = 1 by unfold errS; rw [if_pos hkn])
    clear hkn h0 h1 h2 hsm he k1 hb1
    subst hW1
    go_enter Tryz.func12, Tryz.ntmps12
    go_wp2_with (go_at_call 23; refine hK.out.mono ?_; rintro e w2 ⟨rfl, hww⟩; have hws := hww.symm; clear hww; subst hws)
    go_ret2
    exact hfin.out 1 _ e1.out (by decide) hb1h.out
  obtain ⟨W2, hW2⟩ : ∃ W2, W2 = W1.alloc (.cells #[.slice A0 n0 c0, .slice A2 n2 c2] 22) := ⟨_, rfl⟩
  have hb2 : Below W1.heap.size W1 W2 := by rw [hW2]; exact (Below.refl _ _).alloc (Nat.le_refl _) _
  have k2 : W2.heap[W1.heap.size]? = some (.cells #[.slice A0 n0 c0, .slice A2 n2 c2] 22 (0, 0)) := by rw [hW2]; exact Go.Deep.blk_alloc_new W1 _
  have hbw2 := hb1.trans (hb2.mono hb1.size)
  have hC := Lib.hid (rChunks_any A1 n1 c1 older (some ⟨W1.heap.size, 0, none⟩) 2 2 [(A0, n0, c0), (A2, n2, c2)] [mine, yours] W2 (Nat.le_refl _) (by decide) hsm (h1.up hbw2) (pair_rows (r1 := (A0, n0, c0)) (r2 := (A2, n2, c2)) hbw2 k2 h0 h2))
  have eg : W1.heap.size = w.heap.size + 1 := by rw [hW1]; simp
  rw [eg] at hC
  have hKx := hK
  rw [hW1] at hKx
  obtain ⟨z, hz⟩ : ∃ z, wrongN older [mine, yours] = z := ⟨_, rfl⟩
  have hzh := Lib.hid hz
  have hlt : w.heap.size < W1.heap.size := (Array.getElem?_eq_some_iff.1 k1).1
  have x0 : W2.cell? ⟨w.heap.size, 1, none⟩ = some (.slice A1 n1 c1) := by rw [cells_of ((hb2.block _ hlt).trans k1)]; rfl
  have hbw2h := Lib.hid hbw2
  by_cases hz0 : z = 0
  rotate_left
  · have hzb : (z != 0) = true := by simpa using hz0
    have e1 := Lib.hid (show errS c mine older yours = z by unfold errS; rw [if_neg (by rw [hkn]; decide), if_pos (by rw [hz]; exact hz0), hz])
    have hz1 := Lib.hid hz0
    clear hkn h0 h1 h2 hsm he hz hz0 hb1 hb2 k1 k2 hbw2
    go_enter Tryz.func12, Tryz.ntmps12
    go_upto_region 4 with (go_at_call 23; refine hKx.out.mono ?_; rintro e w2 ⟨rfl, hww⟩; have hws := hww.symm; clear hww; subst hws)
    rw [← hW1, ← hW2]
    clear hW1 hW2
    go_wp2_with (first
      | (go_at_call 24; refine hC.out.mono ?_; rintro e w3 ⟨er, A5, n5, c5, cs, rfl, q1, q2, q3, q4, q5⟩; have her : er = z := (q4.1.trans hzh.out); subst her; have hB3 := Lib.hid q5; clear q1 q2 q3 q4 q5))
    go_ret2
    exact hfin.out er _ e1.out hz1.out (hbw2h.out.trans (hB3.out.mono hbw2h.out.size))
  · subst hz0
    obtain ⟨p, hp⟩ : ∃ p, (openB mine || openB older || openB yours) = p := ⟨_, rfl⟩
    have hpt : p = true := by
      cases p
      · exfalso
        apply he
        unfold errS
        rw [if_neg (by rw [hkn]; decide), if_neg (by rw [hz]; simp), if_neg (by rw [hp]; decide)]
      · rfl
    subst hpt
    have e1 := Lib.hid (show errS c mine older yours = 5 by unfold errS; rw [if_neg (by rw [hkn]; decide), if_neg (by rw [hz]; simp), if_pos hp])
    have hO := Lib.hid (fun (r : Slc) (d : Txs) (W : World) (hr : TxR w w.heap.size r d) (hd : d ∈ older :: [mine, yours]) (hb : Below w.heap.size w W) => rOpen_any r.1 r.2.1 r.2.2 W.heap.size d W (Nat.le_trans hr.1 hr.2.1) (fun s hs => Nat.le_trans ((hsm.2 d hd).2 s hs) (by decide)) (hr.up hb).2.2)
    have hOm := Lib.hid (fun W hb => hO.out (A0, n0, c0) mine W h0 (by simp) hb)
    have hOo := Lib.hid (fun W hb => hO.out (A1, n1, c1) older W h1 (by simp) hb)
    have hOy := Lib.hid (fun W hb => hO.out (A2, n2, c2) yours W h2 (by simp) hb)
    obtain ⟨om, hom⟩ : ∃ p, openB mine = p := ⟨_, rfl⟩
    obtain ⟨oo, hoo⟩ : ∃ p, openB older = p := ⟨_, rfl⟩
    obtain ⟨oy, hoy⟩ : ∃ p, openB yours = p := ⟨_, rfl⟩
    rw [hom] at hOm
    rw [hoo] at hOo
    rw [hoy] at hOy
    rw [hom, hoo, hoy] at hp
    have hC3 : Hid (∀ x1, Below W2.heap.size W2 x1 → Below w.heap.size w x1 ∧ x1.cell? ⟨w.heap.size, 0, none⟩ = some (.slice A0 n0 c0) ∧ x1.cell? ⟨w.heap.size, 1, none⟩ = some (.slice A1 n1 c1) ∧ x1.cell? ⟨w.heap.size, 2, none⟩ = some (.slice A2 n2 c2)) := Lib.hid (fun x1 hb => by
      have hbb := hb2.trans (hb.mono hb2.size)
      have e1 := (hbb.block _ hlt).trans k1
      exact ⟨hbw2.trans (hb.mono hbw2.size), by rw [cells_of e1]; rfl, by rw [cells_of e1]; rfl, by rw [cells_of e1]; rfl⟩)
    clear hkn h0 h1 h2 hsm he hz hb1 hb2 k1 k2 hbw2 hO hom hoo hoy
    rcases (by revert hp; cases om <;> cases oo <;> cases oy <;> simp : (om = true ∨ (om = false ∧ oo = true) ∨ (om = false ∧ oo = false ∧ oy = true))) with rfl | ⟨rfl, rfl⟩ | ⟨rfl, rfl, rfl⟩
    all_goals
      clear hp
      go_enter Tryz.func12, Tryz.ntmps12
      go_upto_region 4 with (go_at_call 23; refine hKx.out.mono ?_; rintro e w2 ⟨rfl, hww⟩; have hws := hww.symm; clear hww; subst hws)
      rw [← hW1, ← hW2]
      clear hW1 hW2
      go_wp2_with (first
        | (go_at_call 24; refine hC.out.mono ?_; rintro e w3 ⟨er, A5, n5, c5, cs, rfl, q1, q2, q3, q4, q5⟩; have her : er = 0 := (q4.1.trans hzh.out); subst her; obtain ⟨hbx, y0, y1, y2⟩ := hC3.out w3 q5; have hB3 := Lib.hid hbx; clear q1 q2 q3 q4 q5 hbx)
        | (go_at_call 15; refine (hOm.out _ hB3.out).mono ?_; rintro e w4 ⟨rfl, hww⟩; subst hww; clear hOm)
        | (go_at_call 15; refine (hOo.out _ hB3.out).mono ?_; rintro e w4 ⟨rfl, hww⟩; subst hww; clear hOo)
        | (go_at_call 15; refine (hOy.out _ hB3.out).mono ?_; rintro e w4 ⟨rfl, hww⟩; subst hww; clear hOy))
      go_ret2
      exact hfin.out 5 _ e1.out (by decide) hB3.out
end Go.Proofs.YtoopdgohdeddoaaGreatDoor
