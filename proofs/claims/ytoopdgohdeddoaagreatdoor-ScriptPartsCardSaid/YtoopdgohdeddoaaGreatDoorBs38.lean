/- Proved here: texts joined: Nums, All, AlignCon, AlignFns. -/
import Derived.Test.YtoopdgohdeddoaaGreatDoorBs12
import Derived.Test.YtoopdgohdeddoaaGreatDoorBs22
import Derived.Test.YtoopdgohdeddoaaGreatDoorBs37
import Derived.Deep.OwnRows
import Derived.Test.YtoopdgohdeddoaaGreatDoorChecked
import Derived.WalkKit
import Derived.BigQuiet
import Derived.BigRegion
import Derived.WalkMore
import Derived.Deep.DeepCutAuto
/- Proved here: contracts of package intern: numbers. -/
namespace Go.Proofs.YtoopdgohdeddoaaGreatDoor
open Go.RowKit Go.Maps Go.WideMaps
set_option linter.unusedVariables false

/-- How far numbers has come: block b holds the numbers of k texts. -/
def NumsIn (w wr : World) (T b n : Nat) (F : Nat → Prop) (ts file fin : List (List UInt8)) (k : Nat) : Prop :=
  ∃ Fr, Tab wr T Fr (withAll ts (file.take k)) ∧ But (fun j => F j ∨ j = b) w wr ∧ (∀ j, Fr j → F j ∨ w.heap.size ≤ j) ∧ wr.rowIs b 3 n (fun j => .int .i64 (if j < k then (numOf fin (file.getD j []) : Int) else 0))

section
variable {w wr w' : World} {T b n k : Nat} {F Fr : Nat → Prop} {ts file fin : List (List UInt8)} {s : List UInt8}
theorem nums_step (hk : file[k]? = some s) (hb : b < w.heap.size) (hbF : ¬ F b) (hT : Tab wr T Fr (withAll ts (file.take k))) (hbut : But (fun j => F j ∨ j = b) w wr) (hFr : ∀ j, Fr j → F j ∨ w.heap.size ≤ j)
    (hrow : wr.rowIs b 3 n (fun j => .int .i64 (if j < k then (numOf fin (file.getD j []) : Int) else 0))) (haf : After wr w' T Fr (withText (withAll ts (file.take k)) s)) (hfin : withAll ts file <+: fin) :
    w'.rowIs b 3 n (fun j => .int .i64 (if j < k then (numOf fin (file.getD j []) : Int) else 0)) ∧ NumsIn w (w'.setCell ⟨b, k, none⟩ (.int .i64 (numOf (withAll ts (file.take k)) s))) T b n F ts file fin (k + 1) := by
  obtain ⟨F', hT', hb', hF'⟩ := haf
  have hbr : b < wr.heap.size := hrow.lt
  have hbFr : ¬ Fr b := fun h => (hFr b h).elim hbF (fun h => by omega)
  have hbF' : ¬ F' b := fun h => (hF' b h).elim hbFr (fun h => by omega)
  have hrow' : w'.rowIs b 3 n (fun j => .int .i64 (if j < k then (numOf fin (file.getD j []) : Int) else 0)) := hrow.of_block (hb'.block b hbr hbFr)
  have hta : withAll ts (file.take (k + 1)) = withText (withAll ts (file.take k)) s := by
    rw [take_at hk, withAll_app]; rfl
  have hnum : numOf (withAll ts (file.take k)) s = numOf fin s := by
    refine numOf_pre (List.IsPrefix.trans ?_ hfin)
    rw [← hta]
    conv => rhs; rw [← List.take_append_drop (k + 1) file, withAll_app]
    exact withAll_pre _ _
  refine ⟨hrow', F', ?_, ?_, ?_, ?_⟩
  · rw [hta]
    exact hT'.but (.setCell w' (F := fun j => j = b) (p := ⟨b, k, none⟩) rfl _) (fun j hj e => hbF' (e ▸ hj))
  · exact (hbut.trans hb' (fun j hj => (hFr j hj).elim (fun h => .inl (.inl h)) .inr)).trans (.setCell w' (F := fun j => j = b) (p := ⟨b, k, none⟩) rfl _) (fun j hj => .inl (.inr hj))
  · intro j hj
    rcases hF' j hj with h | h
    · exact hFr j h
    · exact .inr (by have := hbut.size; omega)
  · refine (hrow'.set k _).congr fun j hj => ?_
    rcases Nat.lt_trichotomy j k with h | rfl | h
    · rw [if_neg (by omega), if_pos h, if_pos (by omega)]
    · rw [if_pos rfl, if_pos (by omega), hnum]
      simp [List.getD, hk]
    · rw [if_neg (by omega), if_neg (by omega), if_neg (by omega)]
end

/-- Numbers were given: the slice that came back reads as them. -/
def NumsOut (w w' : World) (e : Ending) (T : Nat) (F : Nat → Prop) (ts file fin : List (List UInt8)) : Prop :=
  ∃ b, e = .returned (.slice (some ⟨b, 0, none⟩) file.length file.length) ∧ w.heap.size ≤ b ∧ w'.rowIs b 3 file.length (fun j => .int .i64 (numOf fin (file.getD j []))) ∧
    ∃ F', Tab w' T F' (withAll ts file) ∧ ¬ F' b ∧ But F w w' ∧ ∀ j, F' j → F j ∨ w.heap.size ≤ j

theorem nums_out {w wr : World} {T n : Nat} {F : Nat → Prop} {ts file fin : List (List UInt8)} (o : Obj) (hlen : file.length = n) (hb : ¬ F w.heap.size) (h : NumsIn (w.alloc o) wr T w.heap.size n F ts file fin n) :
    NumsOut w wr (.returned (.slice (some ⟨w.heap.size, 0, none⟩) n n)) T F ts file fin := by
  subst hlen
  obtain ⟨Fr, hT, hbut, hFr, hrow⟩ := h
  rw [List.take_length] at hT
  have hs : (w.alloc o).heap.size = w.heap.size + 1 := by simp
  refine ⟨w.heap.size, rfl, Nat.le_refl _, hrow.congr fun j hj => by rw [if_pos hj], Fr, hT, fun h => (hFr _ h).elim hb (fun h => by omega), ?_, fun j hj => (hFr j hj).elim .inl (fun h => .inr (by omega))⟩
  exact ⟨hbut.os, hbut.tape, hbut.output, by have := hbut.size; omega, fun k hk hn => (hbut.block k (by omega) (fun h => h.elim hn (fun h => by omega))).trans (Below.heap_alloc _ _ _ hk)⟩

set_option maxHeartbeats 400000 in
theorem numbers_any (F : Nat → Prop) (T B : Nat) (ts file fin : List (List UInt8)) (A : Option Addr) (n c : Nat) (w : World) (h : Tab w T F ts) (hB : B ≤ T) (hA : Strs w B A n file)
    (hl : ∀ s ∈ file, s.length ≤ maxLen) (hn : ts.length + n < 1000000) (hfin : withAll ts file <+: fin) :
    Calls Tryz.prog 61 #[.pointer (some ⟨T, 0, none⟩), .slice A n c] w fun e w' => NumsOut w w' e T F ts file fin := by
  have hlen := hA.len
  have hbF : ¬ F w.heap.size := fun hf => by have := (h.lies _ hf).2; omega
  have hmk := run_make_row' (P := Tryz.prog) 75 3 (.int .i64 0) 8 Tryz.underlying75 info3 rfl .i64 .i64 n (by omega) (by omega)
  have hsw : (w.alloc (.cells (madeCells #[.int .i64 0] n) 3)).heap.size = w.heap.size + 1 := by simp
  have h0 : NumsIn (w.alloc (.cells (madeCells #[.int .i64 0] n) 3)) (w.alloc (.cells (madeCells #[.int .i64 0] n) 3)) T w.heap.size n F ts file fin 0 :=
    ⟨F, (h.but (F := F) (G := fun _ => False) (.alloc w _) (fun _ _ h => h)), .refl _ _, fun j hj => .inl hj, (World.rowIs_made w (.int .i64 0) n _).congr fun j _ => by rw [if_neg (by omega)]⟩
  have hswh := Lib.hid hsw
  have hTF := h.lies T h.head
  have hlies := h.lies
  clear hsw
  go_enter Tryz.func61, Tryz.ntmps61
  go_wp2
  go_loopw [13] (fun i wr => ∃ k : Nat, k ≤ n ∧ i = .int .i64 k ∧ NumsIn (w.alloc (.cells (madeCells #[.int .i64 0] n) 3)) wr T w.heap.size n F ts file fin k) (fun i _ => n - (intOf i).toNat)
  case atStart => exact ⟨0, Nat.zero_le _, rfl, h0⟩
  case round =>
    obtain ⟨k, hk, rfl, hN⟩ := hrel
    obtain ⟨wo, rfl⟩ : ∃ wo : World, wo = wr := ⟨_, rfl⟩
    by_cases hlt : k < n
    · obtain ⟨Fr, hT, hbut, hFr, hrow⟩ := hN
      obtain ⟨b, o, t, rfl, hb, ht, hc0⟩ := hA.at_ (k := k) hlt
      have htl : t.length ≤ maxLen := hl t (List.mem_of_getElem? ht)
      have hc : wo.cell? ⟨b, o + k, none⟩ = some (.string (str t)) := by
        rw [World.cell?_of_block (w := w.alloc (.cells (madeCells #[.int .i64 0] n) 3)) (hbut.block b (by rw [hswh.out]; omega) (fun h => h.elim (fun h => by have := (hlies _ h).1; omega) (fun h => by omega))), World.cell?_alloc_lt _ _ _ (by show b < _; omega)]
        exact hc0
      have hfew : (withAll ts (file.take k)).length < 1000000 := by
        have := withAll_len (file.take k) ts
        have := List.length_take_le k file
        omega
      clear hc0
      go_wp2_with (go_at_call 95; refine (Id_tab Fr T _ t _ hT htl hfew).mono ?_; rintro e w' ⟨rfl, haf⟩; have hst := nums_step ht (by rw [hswh.out]; omega) hbF hT hbut hFr hrow haf hfin; have hck : w'.cell? ⟨w.heap.size, k, none⟩ = some (.int .i64 0) := (by rw [hst.1.cell (i := k) hlt]; simp); have hfk := hst.1.frozen k; have hN' := Lib.hid hst.2; clear hst)
      go_roundw
      case rel => exact ⟨k + 1, by omega, by go_num, hN'.out⟩
      case measure => simp [intOf]; omega
    · obtain rfl : k = n := by omega
      go_wp2
      go_ret
      exact nums_out _ hlen hbF hN
end Go.Proofs.YtoopdgohdeddoaaGreatDoor
/- Proved here: contracts of package intern: All. -/
namespace Go.Proofs.YtoopdgohdeddoaaGreatDoor
open Go.RowKit Go.Maps Go.WideMaps
set_option linter.unusedVariables false

/-- How far All has come. -/
def AllIn (w wr : World) (T g n : Nat) (F : Nat → Prop) (files : List (List (List UInt8))) (fin : List (List UInt8)) (k : Nat) : Prop :=
  ∃ (Fr : Nat → Prop) (bs : Nat → Nat), Tab wr T Fr (withAll [] (files.take k).flatten) ∧ But (fun j => F j ∨ j = g) w wr ∧ (∀ j, Fr j → F j ∨ w.heap.size ≤ j) ∧
    wr.rowIs g 75 n (fun i => if i < k then .slice (some ⟨bs i, 0, none⟩) (files.getD i []).length (files.getD i []).length else .slice none 0 0) ∧
    ∀ i, i < k → ¬ Fr (bs i) ∧ bs i ≠ g ∧ wr.rowIs (bs i) 3 (files.getD i []).length (fun j => .int .i64 (numOf fin ((files.getD i []).getD j [])))

section
variable {w wr w' : World} {T b g n k : Nat} {F Fr : Nat → Prop} {files : List (List (List UInt8))} {file fin : List (List UInt8)} {bs : Nat → Nat}
theorem all_step (hk : files[k]? = some file) (hg : g < w.heap.size) (hgF : ¬ F g) (hT : Tab wr T Fr (withAll [] (files.take k).flatten)) (hbut : But (fun j => F j ∨ j = g) w wr) (hFr : ∀ j, Fr j → F j ∨ w.heap.size ≤ j)
    (hrow : wr.rowIs g 75 n (fun i => if i < k then .slice (some ⟨bs i, 0, none⟩) (files.getD i []).length (files.getD i []).length else .slice none 0 0))
    (hrows : ∀ i, i < k → ¬ Fr (bs i) ∧ bs i ≠ g ∧ wr.rowIs (bs i) 3 (files.getD i []).length (fun j => .int .i64 (numOf fin ((files.getD i []).getD j []))))
    (hbw : wr.heap.size ≤ b) (hrb : w'.rowIs b 3 file.length (fun j => .int .i64 (numOf fin (file.getD j []))))
    (hF' : ∃ F', Tab w' T F' (withAll (withAll [] (files.take k).flatten) file) ∧ ¬ F' b ∧ But Fr wr w' ∧ ∀ j, F' j → Fr j ∨ wr.heap.size ≤ j) :
    w'.rowIs g 75 n (fun i => if i < k then .slice (some ⟨bs i, 0, none⟩) (files.getD i []).length (files.getD i []).length else .slice none 0 0) ∧
      AllIn w (w'.setCell ⟨g, k, none⟩ (.slice (some ⟨b, 0, none⟩) file.length file.length)) T g n F files fin (k + 1) := by
  obtain ⟨F', hT', hb', hb'w, hF'⟩ := hF'
  have hgr : g < wr.heap.size := hrow.lt
  have hgFr : ¬ Fr g := fun h => (hFr g h).elim hgF (fun h => by omega)
  have hgF' : ¬ F' g := fun h => (hF' g h).elim hgFr (fun h => by omega)
  have hrow' := hrow.of_block (hb'w.block g hgr hgFr)
  have hta : withAll [] (files.take (k + 1)).flatten = withAll (withAll [] (files.take k).flatten) file := by
    rw [take_at hk, List.flatten_append, withAll_app]; simp
  have hfk : files.getD k [] = file := by simp [List.getD, hk]
  refine ⟨hrow', F', fun i => if i = k then b else bs i, ?_, ?_, ?_, ?_, ?_⟩
  · rw [hta]
    exact hT'.but (.setCell w' (F := fun j => j = g) (p := ⟨g, k, none⟩) rfl _) (fun j hj e => hgF' (e ▸ hj))
  · exact (hbut.trans hb'w (fun j hj => (hFr j hj).elim (fun h => .inl (.inl h)) .inr)).trans (.setCell w' (F := fun j => j = g) (p := ⟨g, k, none⟩) rfl _) (fun j hj => .inl (.inr hj))
  · intro j hj
    rcases hF' j hj with h | h
    · exact hFr j h
    · exact .inr (by have := hbut.size; omega)
  · refine (hrow'.set k _).congr fun j hj => ?_
    rcases Nat.lt_trichotomy j k with h | rfl | h
    · rw [if_neg (by omega), if_pos h, if_pos (by omega)]; dsimp only; rw [if_neg (by omega)]
    · rw [if_pos rfl, if_pos (by omega)]; dsimp only; rw [if_pos rfl, hfk]
    · rw [if_neg (by omega), if_neg (by omega), if_neg (by omega)]
  · intro i hi
    by_cases e : i = k
    · subst e
      dsimp only
      rw [if_pos rfl, hfk]
      exact ⟨hb', by omega, hrb.setOther (by show b ≠ g; omega) _⟩
    · dsimp only
      rw [if_neg e]
      obtain ⟨h1, h2, h3⟩ := hrows i (by omega)
      refine ⟨fun h => (hF' _ h).elim h1 (fun h => by have := h3.lt; omega), h2, ?_⟩
      exact (h3.of_block (hb'w.block _ h3.lt h1)).setOther h2 _
end

theorem all_out {w wn wr : World} {g n : Nat} {F : Nat → Prop} {files : List (List (List UInt8))} {fin : List (List UInt8)} (hn : files.length = n) (hm : n ≤ maxLen) (hw : Below w.heap.size w wn) (hg : w.heap.size ≤ g) (hF : ∀ j, F j → w.heap.size ≤ j)
    (h : AllIn wn wr w.heap.size g n F files fin n) : AllOut w wr (.returned (.slice (some ⟨g, 0, none⟩) n n)) (numsL fin files) := by
  obtain ⟨Fr, bs, hT, hbut, hFr, hrow, hrows⟩ := h
  refine ⟨_, n, n, (List.range n).map fun i => (some ⟨bs i, 0, none⟩, (files.getD i []).length, (files.getD i []).length), rfl, Nat.le_refl _, hm, ⟨?_, ?_, ?_⟩, ?_⟩
  · refine reads_of_row hrow _ (by simp) fun i u hu => ?_
    have hi : i < n := by have := (List.getElem?_eq_some_iff.1 hu).1; simpa using this
    rw [if_pos hi, ← Option.some_inj, ← hu]
    simp [hi]
  · simp [numsL, hn]
  · intro k r xs hr hx
    have hk : k < n := by have := (List.getElem?_eq_some_iff.1 hr).1; simpa using this
    simp [hk] at hr
    subst hr
    have hfk : files[k]? = some (files.getD k []) := by simp [List.getD, List.getElem?_eq_getElem (show k < files.length by omega)]
    unfold numsL at hx
    rw [List.getElem?_map, hfk] at hx
    simp only [Option.map_some, Option.some.injEq] at hx
    subst hx
    refine reads_of_row (hrows k hk).2.2 _ (by simp) fun i u hu => ?_
    rw [List.getElem?_map, List.getElem?_map] at hu
    cases hs : (files.getD k [])[i]? with
    | none => rw [hs] at hu; simp at hu
    | some s =>
      rw [hs] at hu
      simp only [Option.map_some, Option.some.injEq] at hu
      subst hu
      simp only [List.getD] at hs ⊢
      rw [hs]; rfl
  · exact hw.trans (hbut.below hw.size (fun j hj => hj.elim (hF j) (fun h => by omega)))

set_option maxHeartbeats 400000 in
theorem All_any (A : Option Addr) (n c : Nat) (rows : List (Option Addr × Nat × Nat)) (files : List (List (List UInt8))) (w : World) (hA : Rows2 w w.heap.size A n rows files)
    (hl : ∀ f ∈ files, ∀ s ∈ f, s.length ≤ maxLen) (hn : n ≤ 1000) (hn2 : ∀ f ∈ files, f.length ≤ 900) :
    Calls Tryz.prog 37 #[.slice A n c] w fun e w' => AllOut w w' e (numsL (withAll [] files.flatten) files) := by
  have hlen : files.length = n := by have := hA.1.1; have := hA.2.1; simp at *; omega
  obtain ⟨fin, hfin⟩ : ∃ fin, fin = withAll [] files.flatten := ⟨_, rfl⟩
  rw [← hfin]
  have hfh := Lib.hid hfin
  clear hfin
  have hmk := run_make_row' (P := Tryz.prog) 73 75 (.slice none 0 0) 24 Tryz.underlying73 info39 rfl .i64 .i64 n (by omega) (by omega)
  have hm : n ≤ maxLen := by unfold maxLen; omega
  go_enter Tryz.func37, Tryz.ntmps37
  go_wp2_with (go_at_call 60; refine (New_any _).mono ?_; rintro e w0 ⟨rfl, hT0, hB0, hs0⟩; have hs0' := Lib.hid hs0; clear hs0)
  have hsz : Hid ((w0.alloc (.cells (madeCells #[.slice none 0 0] n) 75)).heap.size = w0.heap.size + 1) := Lib.hid (by simp)
  have hsw : w.heap.size ≤ w0.heap.size := hB0.size
  have hgne : ¬ (w0.heap.size = w.heap.size) := by have := hs0'.out; omega
  have hB1 : Below w.heap.size w (w0.alloc (.cells (madeCells #[.slice none 0 0] n) 75)) := hB0.alloc hsw _
  have h0 : AllIn (w0.alloc (.cells (madeCells #[.slice none 0 0] n) 75)) (w0.alloc (.cells (madeCells #[.slice none 0 0] n) 75)) w.heap.size w0.heap.size n (· = w.heap.size) files fin 0 :=
    ⟨(· = w.heap.size), fun _ => 0, (hT0.but (F := (· = w.heap.size)) (G := fun _ => False) (.alloc w0 _) (fun _ _ h => h)), .refl _ _, fun j hj => .inl hj, (World.rowIs_made w0 (.slice none 0 0) n _).congr fun j _ => by rw [if_neg (by omega)], fun i hi => by omega⟩
  go_loopw [13] (fun i wr => ∃ k : Nat, k ≤ n ∧ i = .int .i64 k ∧ AllIn (w0.alloc (.cells (madeCells #[.slice none 0 0] n) 75)) wr w.heap.size w0.heap.size n (· = w.heap.size) files fin k) (fun i _ => n - (intOf i).toNat)
  case atStart => exact ⟨0, Nat.zero_le _, rfl, h0⟩
  case round =>
    obtain ⟨k, hk, rfl, hN⟩ := hrel
    obtain ⟨wo, rfl⟩ : ∃ wo : World, wo = wr := ⟨_, rfl⟩
    by_cases hlt : k < n
    · obtain ⟨Fr, bs, hT, hbut, hFr, hrow, hrows⟩ := hN
      have hbel : Below w.heap.size w wo := hB1.trans (hbut.below hB1.size (fun j hj => hj.elim (fun h => by omega) (fun h => by omega)))
      obtain ⟨b, o, A', n', c', ff, rfl, hb, ht, hc, hst⟩ := (hA.below hbel).at_ (k := k) hlt
      have hmem := List.mem_of_getElem? ht
      have hfl := hl ff hmem
      have hf9 := hn2 ff hmem
      have hffl := hst.len
      have hcount : (withAll [] (files.take k).flatten).length + n' < 1000000 := by
        have h1 := withAll_len (files.take k).flatten []
        have h2 : (files.take k).flatten.length ≤ k * 900 := by
          rw [List.length_flatten]
          clear h1 hn
          refine Nat.le_trans (sum_le (files.take k) 900 (fun f hf => hn2 f (List.mem_of_mem_take hf))) ?_
          exact Nat.mul_le_mul_right _ (List.length_take_le _ _)
        rw [List.length_nil, Nat.zero_add] at h1
        omega
      have hpre : withAll (withAll [] (files.take k).flatten) ff <+: fin := by
        rw [hfh.out, ← withAll_app]
        have : files.flatten = ((files.take k).flatten ++ ff) ++ (files.drop (k + 1)).flatten := by
          conv => lhs; rw [← List.take_append_drop k files, drop_at ht]
          simp
        conv => rhs; rw [this, withAll_app]
        exact withAll_pre _ _
      have hcount' := Lib.hid hcount
      have hpre' := Lib.hid hpre
      have hffl' := Lib.hid hffl
      have hfl' := Lib.hid hfl
      clear hcount hpre hmem hffl hfl hl hn2 h0
      go_wp2_with fail
      refine (numbers_any Fr w.heap.size w.heap.size _ ff fin A' n' c' _ hT (Nat.le_refl _) hst hfl'.out hcount'.out hpre'.out).mono ?_
      rintro e w' ⟨bn, rfl, hbn, hrb, hF'⟩
      have hst2 := all_step (F := (· = w.heap.size)) ht (by rw [hsz.out]; omega) hgne hT hbut hFr hrow hrows hbn hrb hF'
      have hck : w'.cell? ⟨w0.heap.size, k, none⟩ = some (.slice none 0 0) := (by rw [hst2.1.cell (i := k) hlt]; simp)
      have hfk := hst2.1.frozen k
      have hN' := Lib.hid hst2.2
      clear hst2 hrows hF'
      go_wp2
      go_roundw
      case rel => exact ⟨k + 1, by omega, by go_num, hN'.out⟩
      case measure => simp [intOf]; omega
    · obtain rfl : k = n := by omega
      go_wp2
      go_ret
      exact all_out hlen hm hB1 hsw (fun j hj => by omega) hN
end Go.Proofs.YtoopdgohdeddoaaGreatDoor
/- What the statements ask of package align: the contract of Align. -/
namespace Go.Proofs.YtoopdgohdeddoaaGreatDoor
open Go.RowKit
set_option linter.unusedVariables false

/-- The contracts of package align. -/
structure AlignOk : Prop where
  align_ok : ∀ (A : Option Addr) (n c : Nat) (sizes : List Int) (A' : Option Addr) (n' c' : Nat) (rows : List (Option Addr × Nat × Nat)) (ms : List (List Int)) (m : Nat) (w : World), 1 ≤ n → n ≤ 16 → n ≤ c → c ≤ maxLen → n' ≤ c' → c' ≤ maxLen → ms.length = n → m ≤ 2000 →
    (∀ z ∈ sizes, 0 ≤ z ∧ z ≤ 2000) → (∀ (k : Nat) (l : List Int) (z : Int), ms[k]? = some l → sizes[k]? = some z → IsMatch m l z) → Nums w w.heap.size A n sizes → RowsN w w.heap.size A' n' rows ms →
    Calls Tryz.prog 39 #[.int .i64 m, .slice A n c, .slice A' n' c'] w fun e w' => AlignOut w w' e m sizes ms
  align_nil : ∀ (m : Nat) (w : World), m ≤ 2000 →
    Calls Tryz.prog 39 #[.int .i64 m, .slice none 0 0, .slice none 0 0] w fun e w' => CkOut w w' e 1 []
end Go.Proofs.YtoopdgohdeddoaaGreatDoor
/- Proved here: the contracts of package align's functions that only read: isMatch, isStable, nextStable, runEnd, areMatches. -/
namespace Go.Proofs.YtoopdgohdeddoaaGreatDoor
open Go.RowKit
set_option linter.unusedVariables false

theorem pl_nat {l : List Int} {k : Nat} {v : Int} (h : l[k]? = some v) : pl l (k : Int) = v := by
  unfold pl
  rw [Int.toNat_natCast, h]
  rfl
theorem isMatch_neg {m : Nat} {l : List Int} {z : Int} (h : IsMatch m l z) {k : Nat} {v : Int} (hv : l[k]? = some v) : v = -1 ∨ 0 ≤ v ∧ v < z := by
  by_cases e : v = -1
  · exact .inl e
  · exact .inr (h.2.1 v (List.mem_of_getElem? hv) e)

set_option maxHeartbeats 1000000 in
theorem aMatch_any (A : Option Addr) (n c B : Nat) (l : List Int) (z : Int) (w : World) (hn : n ≤ 2000) (hz0 : 0 ≤ z) (hz : z ≤ 2000) (hM : IsMatch n l z) (hA : Nums w B A n l) :
    Calls Tryz.prog 100 #[.slice A n c, .int .i64 z] w fun e w' => e = .returned (.bool true) ∧ w' = w := by
  have hMh := Lib.hid hM
  clear hM
  go_enter Tryz.func100, Tryz.ntmps100
  go_wp2
  go_loop [5, 7, 10] (fun s5 s7 s10 => ∃ (k : Nat) (b : Int), k ≤ n ∧ s10 = .int .i64 k ∧ s5 = .int .i64 b ∧ -1 ≤ b ∧ b ≤ 2000 ∧ Hid (∀ j v, k ≤ j → l[j]? = some v → v ≠ -1 → b < v)) (fun _ _ s10 => n - (intOf s10).toNat)
  case atStart => exact ⟨0, -1, Nat.zero_le _, rfl, rfl, Int.le_refl _, by omega, Lib.hid fun j v _ hv hne => by have := isMatch_neg hMh.out hv; omega⟩
  case round =>
    obtain ⟨k, b, hk, rfl, rfl, hb1, hb2, hx⟩ := hrel
    by_cases hlt : k < n
    · obtain ⟨g, o, v, rfl, hg, hv, hc⟩ := hA.at_ hlt
      by_cases hj : v = -1
      · subst hj
        go_wp2
        go_round
        case rel => exact ⟨k + 1, b, by omega, by go_num, rfl, hb1, hb2, Lib.hid fun j v hj hv hne => hx.out j v (by omega) hv hne⟩
        case measure => simp [intOf]; omega
      · have hj' : (v == -1) = false := by simpa using hj
        have hbv := hx.out k v (Nat.le_refl _) hv hj
        have hvr := hMh.out.2.1 v (List.mem_of_getElem? hv) hj
        have h1' : decide (v ≤ b) = false := by simpa using hbv
        have h2' : decide (z ≤ v) = false := by simpa using hvr.2
        have hnext : Hid (∀ j u, k + 1 ≤ j → l[j]? = some u → u ≠ -1 → v < u) := Lib.hid fun j u hkj hu hne => by
          obtain ⟨q1, q2⟩ := List.getElem?_eq_some_iff.1 hv
          obtain ⟨q3, q4⟩ := List.getElem?_eq_some_iff.1 hu
          have := (List.pairwise_iff_getElem.1 hMh.out.2.2) k j q1 q3 (by omega)
          rw [q2, q4] at this
          exact this hj hne
        go_wp2
        go_round
        case rel => exact ⟨k + 1, v, by omega, by go_num, rfl, by omega, by omega, hnext⟩
        case measure => simp [intOf]; omega
    · obtain rfl : k = n := by omega
      have hz' : decide ((0 : Int) ≤ z) = true := by simpa using hz0
      go_wp2
      go_ret
      exact ⟨rfl, rfl⟩

/-- Matches, each of m places, that may be, as a slice of slices. -/
def Mats (w : World) (B : Nat) (A : Option Addr) (n : Nat) (rows : List (Option Addr × Nat × Nat)) (ms : List (List Int)) (m : Nat) : Prop := RowsN w B A n rows ms ∧ ∀ l ∈ ms, l.length = m ∧ ∀ v ∈ l, -1 ≤ v ∧ v < 2000
theorem Mats.at_ {w : World} {B n m k : Nat} {A : Option Addr} {rows : List (Option Addr × Nat × Nat)} {ms : List (List Int)} (h : Mats w B A n rows ms m) (hk : k < n) :
    ∃ b o A' n' c' xs, A = some ⟨b, o, none⟩ ∧ b < B ∧ ms[k]? = some xs ∧ w.cell? ⟨b, o + k, none⟩ = some (.slice A' n' c') ∧ Nums w B A' n' xs ∧ n' = m := by
  obtain ⟨b, o, A', n', c', xs, h1, h2, h3, h4, h5⟩ := h.1.at_ hk
  exact ⟨b, o, A', n', c', xs, h1, h2, h3, h4, h5, by rw [← h5.len]; exact (h.2 xs (List.mem_of_getElem? h3)).1⟩

set_option maxHeartbeats 1000000 in
theorem isStable_any (A : Option Addr) (n c B : Nat) (rows : List (Option Addr × Nat × Nat)) (ms : List (List Int)) (m k : Nat) (w : World) (hn : n ≤ 16) (hm : m ≤ 2000) (hk : k < m) (hA : Mats w B A n rows ms m) :
    Calls Tryz.prog 101 #[.slice A n c, .int .i64 k] w fun e w' => e = .returned (.bool (allP ms k)) ∧ w' = w := by
  have hl := hA.1.len
  obtain ⟨r, hr⟩ : ∃ r, allP ms k = r := ⟨_, rfl⟩
  rw [hr]
  have hr' := Lib.hid hr
  clear hr
  go_enter Tryz.func101, Tryz.ntmps101
  go_wp2
  go_loop [6, 9] (fun _ s9 => ∃ (j : Nat), j ≤ n ∧ s9 = .int .i64 j ∧ Hid (∀ i l, i < j → ms[i]? = some l → 0 ≤ pl l k)) (fun _ s9 => n - (intOf s9).toNat)
  case atStart => exact ⟨0, Nat.zero_le _, rfl, Lib.hid fun i l h => absurd h (by omega)⟩
  case round =>
    obtain ⟨j, hj, rfl, hx⟩ := hrel
    by_cases hlt : j < n
    · obtain ⟨b, o, A1, n1, c1, xs, rfl, hb, hxs, hc, hN, rfl⟩ := hA.at_ hlt
      obtain ⟨b1, o1, v, rfl, hb1, hv, hc1⟩ := hN.at_ hk
      have hvr := (hA.2 xs (List.mem_of_getElem? hxs)).2 v (List.mem_of_getElem? hv)
      have hpl := pl_nat hv
      by_cases hj : v = -1
      · subst hj
        have hf : allP ms k = false := by
          cases h : allP ms k with
          | false => rfl
          | true =>
            have := allP_mem h (List.mem_of_getElem? hxs)
            omega
        have hfr : r = false := by rw [← hr'.out, hf]
        subst hfr
        clear hf hpl
        go_wp2
        go_ret
        exact ⟨rfl, rfl⟩
      · have hj' : (v == -1) = false := by simpa using hj
        have hplh := Lib.hid hpl
        have hxsh := Lib.hid hxs
        clear hpl hxs
        go_wp2
        go_round
        case rel =>
          refine ⟨j + 1, by omega, by go_num, Lib.hid fun i l hi hl => ?_⟩
          rcases Nat.lt_or_ge i j with h | h
          · exact hx.out i l h hl
          · obtain rfl : i = j := by omega
            rw [hxsh.out] at hl
            injection hl with hl
            subst hl
            have := hplh.out
            omega
        case measure => simp [intOf]; omega
    · obtain rfl : j = n := by omega
      have ht : allP ms k = true := allP_of fun l hl' => by
        obtain ⟨i, hi⟩ := List.mem_iff_getElem?.1 hl'
        exact hx.out i l (by have := (List.getElem?_eq_some_iff.1 hi).1; omega) hi
      have htr : r = true := by rw [← hr'.out, ht]
      subst htr
      clear ht
      go_wp2
      go_ret
      exact ⟨rfl, rfl⟩

/-- The first stable place from place i on. -/
def Next (ms : List (List Int)) (m i r : Nat) : Prop := i ≤ r ∧ r ≤ m ∧ (∀ k : Int, i ≤ k → k < r → allP ms k = false) ∧ (r < m → allP ms r = true)

set_option maxHeartbeats 1000000 in
theorem nextStable_any (A : Option Addr) (n c B : Nat) (rows : List (Option Addr × Nat × Nat)) (ms : List (List Int)) (m i : Nat) (w : World) (hn : n ≤ 16) (hm : m ≤ 2000) (hi : i ≤ m) (hA : Mats w B A n rows ms m) :
    Calls Tryz.prog 69 #[.slice A n c, .int .i64 i, .int .i64 m] w fun e w' => (∃ r : Nat, Next ms m i r ∧ e = .returned (.int .i64 r)) ∧ w' = w := by
  have hS := Lib.hid (fun (k : Nat) (hk : k < m) => isStable_any A n c B rows ms m k w hn hm hk hA)
  clear hA
  go_enter Tryz.func69, Tryz.ntmps69
  go_wp2
  go_loop [1] (fun s1 => ∃ (j : Nat), i ≤ j ∧ j ≤ m ∧ s1 = .int .i64 j ∧ Hid (∀ k : Int, i ≤ k → k < j → allP ms k = false)) (fun s1 => m - (intOf s1).toNat)
  case atStart => exact ⟨i, Nat.le_refl _, hi, rfl, Lib.hid fun k h1 h2 => absurd h2 (by omega)⟩
  case round =>
    obtain ⟨j, hij, hj, rfl, hx⟩ := hrel
    by_cases hlt : j < m
    · have hc := hS.out j hlt
      cases hp : allP ms j
      · rw [hp] at hc
        have hch := Lib.hid hc
        have hph := Lib.hid hp
        clear hc hp
        go_wp2_with (go_at_call 101; refine hch.out.mono ?_; rintro e w' ⟨rfl, rfl⟩)
        go_round
        case rel =>
          refine ⟨j + 1, by omega, by omega, by go_num, Lib.hid fun k h1 h2 => ?_⟩
          by_cases e : k = j
          · rw [e]; exact hph.out
          · exact hx.out k h1 (by omega)
        case measure => simp [intOf]; omega
      · rw [hp] at hc
        have hch := Lib.hid hc
        have hph := Lib.hid hp
        clear hc hp
        go_wp2_with (go_at_call 101; refine hch.out.mono ?_; rintro e w' ⟨rfl, rfl⟩)
        go_ret
        exact ⟨⟨j, ⟨hij, hj, hx.out, fun _ => hph.out⟩, rfl⟩, rfl⟩
    · obtain rfl : j = m := by omega
      go_wp2
      go_ret
      exact ⟨⟨j, ⟨hij, hj, hx.out, fun h => absurd h (by omega)⟩, rfl⟩, rfl⟩

/-- Where a run ends that begins with place i. -/
def RunTo (ms : List (List Int)) (m i r : Nat) : Prop := i < r ∧ r ≤ m ∧ (∀ k : Int, i < k → k < r → ∀ l ∈ ms, pl l k = pl l (k - 1) + 1) ∧ (r < m → ∃ l ∈ ms, pl l (r : Int) ≠ pl l ((r : Int) - 1) + 1)
theorem pl_two {l : List Int} {k r : Nat} {v u : Int} (hkr : k = r + 1) (hv : l[k]? = some v) (hu : l[r]? = some u) : pl l (k : Int) = v ∧ pl l ((k : Int) - 1) = u := by
  subst hkr
  refine ⟨pl_nat hv, ?_⟩
  rw [show ((r + 1 : Nat) : Int) - 1 = (r : Int) by push_cast; omega]
  exact pl_nat hu

set_option maxHeartbeats 1000000 in
theorem runEnd_any (A : Option Addr) (n c B : Nat) (rows : List (Option Addr × Nat × Nat)) (ms : List (List Int)) (m i : Nat) (w : World) (hn : n ≤ 16) (hm : m ≤ 2000) (hi : i < m) (hA : Mats w B A n rows ms m) :
    Calls Tryz.prog 70 #[.slice A n c, .int .i64 i, .int .i64 m] w fun e w' => (∃ r : Nat, RunTo ms m i r ∧ e = .returned (.int .i64 r)) ∧ ∃ q, w' = w.drewN q := by
  have hl := hA.1.len
  have hAh := Lib.hid hA
  clear hA
  go_enter Tryz.func70, Tryz.ntmps70
  go_wp2
  go_step3
  go_wp2
  go_step3
  go_wp2
  go_loopw [7, 9, 17, 18, 19] (fun s7 _ _ _ _ wr => ∃ (t : Nat), i < t ∧ t ≤ m ∧ s7 = .int .i64 t ∧ Hid (∀ k : Int, i < k → k < t → ∀ l ∈ ms, pl l k = pl l (k - 1) + 1) ∧ ∃ q, wr = w.drewN q) (fun s7 _ _ _ _ _ => m - (intOf s7).toNat)
  case atStart => exact ⟨i + 1, by omega, by omega, by go_num, Lib.hid fun k h1 h2 => absurd h2 (by omega), 0, rfl⟩
  case round =>
    obtain ⟨t, hit, ht, rfl, hx, q, rfl⟩ := hrel
    obtain ⟨wo, hwo⟩ : ∃ wo : World, wo = w.drewN q := ⟨_, rfl⟩
    rw [← hwo]
    have hwoh := Lib.hid hwo
    clear hwo
    by_cases hlt : t < m
    · obtain ⟨r, hr⟩ : ∃ r, t = r + 1 := ⟨t - 1, by omega⟩
      have hrh := Lib.hid hr
      have e1 : (t : Int) - 1 = (r : Int) := by omega
      have e2 : IntKind.i64.wrap ((t : Int) - 1) = (r : Int) := by rw [e1]; exact IntWalk.i64_in _ (by omega)
      have e3 : IntKind.i64.wrap (r : Int) = (r : Int) := IntWalk.i64_in _ (by omega)
      have hrm : r < m := by omega
      clear hr
      go_wp2
      go_loopw [9, 19] (fun _ s19 wr => ∃ (j : Nat), j ≤ n ∧ s19 = .int .i64 j ∧ Hid (∀ i l, i < j → ms[i]? = some l → pl l (t : Int) = pl l ((t : Int) - 1) + 1) ∧ ∃ q, wr = wo.drewN q) (fun _ s19 _ => n - (intOf s19).toNat)
      case atStart => exact ⟨0, Nat.zero_le _, rfl, Lib.hid fun i l h => absurd h (by omega), 0, rfl⟩
      case round =>
        obtain ⟨j, hj, rfl, hy, q2, rfl⟩ := hrel
        obtain ⟨wp, hwp⟩ : ∃ wp : World, wp = wo.drewN q2 := ⟨_, rfl⟩
        have hAp : Mats wp B A n rows ms m := by rw [hwp, hwoh.out, World.drewN_drewN]; exact ⟨hAh.out.1.drewN _, hAh.out.2⟩
        rw [← hwp]
        have hwph := Lib.hid hwp
        clear hwp
        by_cases hlt2 : j < n
        · obtain ⟨b, o, A1, n1, c1, xs, rfl, hb, hxs, hc, hN, rfl⟩ := hAp.at_ hlt2
          obtain ⟨b1, o1, v, rfl, hb1, hv, hc1⟩ := hN.at_ hlt
          obtain ⟨b2, o2, u, he2, hb2, hu, hc2⟩ := hN.at_ hrm
          injection he2 with he2
          injection he2 with he2 he3
          subst he2
          subst he3
          have hur := (hAp.2 xs (List.mem_of_getElem? hxs)).2 u (List.mem_of_getElem? hu)
          have hvr := (hAp.2 xs (List.mem_of_getElem? hxs)).2 v (List.mem_of_getElem? hv)
          have hpl := Lib.hid (pl_two hrh.out hv hu)
          have hxsh := Lib.hid hxs
          have i1 : (0 : Int) ≤ (t : Int) := by omega
          have i2 : (t : Int) < (n1 : Int) := by omega
          have i3 : (0 : Int) ≤ (r : Int) := by omega
          have i4 : (r : Int) < (n1 : Int) := by omega
          have e4 : IntKind.i64.wrap (u + 1) = u + 1 := IntWalk.i64_in _ (by omega)
          obtain ⟨bb, hbb⟩ : ∃ bb, (v != u + 1) = bb := ⟨_, rfl⟩
          have hbbh := Lib.hid hbb
          clear hxs hv hu hAp
          go_wp2
          go_quiet (fail)
          obtain ⟨z1, rfl⟩ : ∃ z1, z1 = nq := ⟨_, rfl⟩
          cases bb
          · go_wp2
            go_roundw
            case rel =>
              refine ⟨j + 1, by omega, by go_num, Lib.hid fun i l hi hl => ?_, q2 + z1, by rw [hwph.out, World.drewN_drewN]⟩
              rcases Nat.lt_or_ge i j with h | h
              · exact hy.out i l h hl
              · obtain rfl : i = j := by omega
                rw [hxsh.out] at hl
                injection hl with hl
                subst hl
                rw [hpl.out.1, hpl.out.2]
                simpa using hbbh.out
            case measure => simp [intOf]; omega
          · go_wp2
            rw [Exit.noGoto_ret]
            go_ret
            exact ⟨⟨t, ⟨hit, ht, hx.out, fun _ => ⟨xs, List.mem_of_getElem? hxsh.out, by rw [hpl.out.1, hpl.out.2]; simpa using hbbh.out⟩⟩, rfl⟩, q + (q2 + z1), by rw [hwph.out, hwoh.out, World.drewN_drewN, World.drewN_drewN]⟩
        · obtain rfl : j = n := by omega
          go_wp2
          go_roundw
          case rel =>
            refine ⟨t + 1, by omega, by omega, by go_num, Lib.hid fun k h1 h2 l hl' => ?_, q + q2, by rw [hwph.out, hwoh.out, World.drewN_drewN]⟩
            by_cases e : k = t
            · subst e
              obtain ⟨i', hi'⟩ := List.mem_iff_getElem?.1 hl'
              exact hy.out i' l (by have := (List.getElem?_eq_some_iff.1 hi').1; omega) hi'
            · exact hx.out k h1 (by omega) l hl'
          case measure => simp [intOf]; omega
    · obtain rfl : t = m := by omega
      go_wp2
      try rw [Exit.noGoto_ret]
      go_ret
      exact ⟨⟨t, ⟨hit, ht, hx.out, fun h => absurd h (by omega)⟩, rfl⟩, q, hwoh.out⟩

set_option maxHeartbeats 1000000 in
theorem areMatches_any (A : Option Addr) (n c B : Nat) (sizes : List Int) (A' : Option Addr) (n' c' B' : Nat) (rows : List (Option Addr × Nat × Nat)) (ms : List (List Int)) (m : Nat) (w : World) (hn1 : 1 ≤ n) (hn : n ≤ 16) (hm : m ≤ 2000) (hml : ms.length = n) (hz : ∀ z ∈ sizes, 0 ≤ z ∧ z ≤ 2000)
    (hM : ∀ (k : Nat) (l : List Int) (z : Int), ms[k]? = some l → sizes[k]? = some z → IsMatch m l z) (hA : Nums w B A n sizes) (hA' : RowsN w B' A' n' rows ms) :
    Calls Tryz.prog 65 #[.int .i64 m, .slice A n c, .slice A' n' c'] w fun e w' => e = .returned (.bool true) ∧ w' = w := by
  have hl := hA.len
  obtain rfl : n' = n := by have := hA'.len; omega
  have hS := Lib.hid (fun (A1 : Option Addr) (c1 : Nat) (l : List Int) (z : Int) (h1 : 0 ≤ z) (h2 : z ≤ 2000) (h3 : IsMatch m l z) (h4 : Nums w B' A1 m l) => aMatch_any A1 m c1 B' l z w hm h1 h2 h3 h4)
  have hMh := Lib.hid hM
  have hzh := Lib.hid hz
  have g1 : ((n' : Int) == 0) = false := by simp; omega
  have g2 : decide ((16 : Int) < (n' : Int)) = false := by simp; omega
  have g3 : ((n' : Int) != (n' : Int)) = false := by simp
  clear hM hz
  go_enter Tryz.func65, Tryz.ntmps65
  go_wp2
  go_loop [7, 8, 26] (fun _ _ s26 => ∃ (j : Nat), j ≤ n' ∧ s26 = .int .i64 j) (fun _ _ s26 => n' - (intOf s26).toNat)
  case atStart => exact ⟨0, Nat.zero_le _, rfl⟩
  case round =>
    obtain ⟨j, hj, rfl⟩ := hrel
    by_cases hlt : j < n'
    · obtain ⟨b, o, A1, n1, c1, xs, rfl, hb, hxs, hc, hN⟩ := hA'.at_ hlt
      obtain ⟨b2, o2, z, rfl, hb2, hz2, hc2⟩ := hA.at_ hlt
      have hmm := hMh.out j xs z hxs hz2
      have hzz := hzh.out z (List.mem_of_getElem? hz2)
      have hn1m : n1 = m := by rw [← hN.len]; exact hmm.1
      subst hn1m
      have hcall := Lib.hid (hS.out A1 c1 xs z hzz.1 hzz.2 hmm hN)
      have g4 : ((n1 : Int) != (n1 : Int)) = false := by simp
      clear hxs hz2 hmm hN
      go_wp2_with (go_at_call 100; refine hcall.out.mono ?_; rintro e w' ⟨rfl, rfl⟩)
      go_round
      case rel => exact ⟨j + 1, by omega, by go_num⟩
      case measure => simp [intOf]; omega
    · obtain rfl : j = n' := by omega
      go_wp2
      go_ret
      exact ⟨rfl, rfl⟩

/-- No matches may not be. -/
theorem areMatches_nil (m : Nat) (w : World) : Calls Tryz.prog 65 #[.int .i64 m, .slice none 0 0, .slice none 0 0] w fun e w' => e = .returned (.bool false) ∧ w' = w := by
  go_enter Tryz.func65, Tryz.ntmps65
  go_wp2
  go_ret
  exact ⟨rfl, rfl⟩
end Go.Proofs.YtoopdgohdeddoaaGreatDoor
